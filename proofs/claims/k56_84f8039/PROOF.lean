import PyProof.Rows.All
import Wide.All
import OpenK.AllK
import Wide.FinOn
import Lean
import PyProof.EqAt
import PyProof.EqKinds
import PyProof.TupleCall
import PyProof.DictCompW
import PyProof.AutoListH
import PyProof.EnumMake
import PyProof.ZipIter
import PyProof.AttrMissSeq
import KE.KDictOf
import PyProof.ReprLen
import PyProof.StrLawsRepr
import KE.KUnpackStar
import PyProof.DictWalks
import PyProof.Rows.DictUnroll
import PyProof.Rows.Range3
import PyProof.Rows.ChunkEnd
import PyProof.Rows.ChunkLeaf
import PyProof.StrCalls2
import PyProof.StrLawsTight
import PyProof.StrLawsChain
import PyProof.Rows.StrSplitJoin
import PyProof.Conv_int_bool
import PyProof.Rows.TupMore
import KE.KItemsList
import PyProof.NeKinds
import PyProof.Rows.SetFrom
import PyProof.SetRoads
import KE.KRevIter
import PyProof.CollectIter
import PyProof.TupleOfGen
import PyProof.StrLawsIn
import PyProof.Rows.StrCut
import PyProof.StrCalls
import PyProof.CallFns
import PyProof.FString5
import PyProof.NsCount
import PyProof.DictItems
import KE.KPairComp
import PyProof.DictValues
import PyProof.SumWalk
import PyProof.ConsumeWalk
import PyProof.SumAny
import PyProof.FactsAll.range_2
import PyProof.WalksMore
import PyProof.MinMaxWalk
import PyProof.SeqI3
import KE.KDictList
import KE.KDictLaws
import KE.KSortTup
import PySem.Challenge.RW_coilkind_k56_things_of_kinds
set_option Elab.async false
set_option linter.all false
set_option maxRecDepth 100000
namespace L2
open PySem PySem.Spec PyProof.Rows
abbrev Key := Sum Int Str
def keyIs : Key → Value → Bool
  | .inl k, v => Value.isInt k v
  | .inr x, v => Value.isStrOf x v
def keyH (w : World) : Key → Int
  | .inl k => hashInt k
  | .inr x => hashStr w x
theorem keyIs_shape : ∀ {k : Key} {v : Value}, keyIs k v = true → (∃ i t, k = Sum.inl i ∧ v = Value.int i t) ∨ (∃ x t, k = Sum.inr x ∧ v = Value.str x t)
  | .inl i, v, h => by
    obtain ⟨t, e⟩ := Value.isInt_shape (k := i) (v := v) h
    exact .inl ⟨i, t, rfl, e⟩
  | .inr x, v, h => by
    obtain ⟨t, e⟩ := Value.isStrOf_shape (x := x) (v := v) h
    exact .inr ⟨x, t, rfl, e⟩
theorem keyIs_int (i : Int) (t : Tok) : keyIs (.inl i) (.int i t) = true := by simp [keyIs, Value.isInt]
theorem keyIs_str (x : Str) (t : Tok) : keyIs (.inr x) (.str x t) = true := by simp [keyIs, Value.isStrOf]
theorem key_ll (a b : Int) : decide ((Sum.inl a : Key) = Sum.inl b) = (a == b) := by
  by_cases e : a = b
  · subst e; simp
  · have h : ¬ (Sum.inl a : Key) = Sum.inl b := fun q => e (Sum.inl.inj q)
    rw [decide_eq_false h]
    exact (beq_eq_false_iff_ne.mpr e).symm
theorem key_rr (a b : Str) : decide ((Sum.inr a : Key) = Sum.inr b) = decide (a = b) := by
  by_cases e : a = b
  · subst e; simp
  · have h : ¬ (Sum.inr a : Key) = Sum.inr b := fun q => e (Sum.inr.inj q)
    rw [decide_eq_false h, decide_eq_false e]
theorem key_lr (a : Int) (b : Str) : decide ((Sum.inl a : Key) = Sum.inr b) = false := decide_eq_false (fun q => nomatch q)
theorem key_rl (a : Str) (b : Int) : decide ((Sum.inr a : Key) = Sum.inl b) = false := decide_eq_false (fun q => nomatch q)
def mixKind (prog : Program) (w : World) : PySem.KeyKind prog w Key where
  is := keyIs
  hash := keyH w
  inj := fun v a b ha hb => by
    rcases keyIs_shape ha with ⟨i, t, rfl, rfl⟩ | ⟨x, t, rfl, rfl⟩
    · rcases keyIs_shape hb with ⟨j, u, rfl, e⟩ | ⟨y, u, rfl, e⟩
      · injection e with e1 _; rw [e1]
      · exact nomatch e
    · rcases keyIs_shape hb with ⟨j, u, rfl, e⟩ | ⟨y, u, rfl, e⟩
      · exact nomatch e
      · injection e with e1 _; rw [e1]
  byValue := fun k v h => by
    rcases keyIs_shape h with ⟨i, t, rfl, rfl⟩ | ⟨x, t, rfl, rfl⟩ <;> rfl
  pyHash := fun hv h => by
    rcases keyIs_shape hv with ⟨i, t, rfl, rfl⟩ | ⟨x, t, rfl, rfl⟩
    · exact wpAny_pyHash_int h
    · exact wpAny_pyHash_str h
  eqBool := fun hu hv h => by
    rcases keyIs_shape hu with ⟨i, t, rfl, rfl⟩ | ⟨x, t, rfl, rfl⟩
    · rcases keyIs_shape hv with ⟨j, u, rfl, rfl⟩ | ⟨y, u, rfl, rfl⟩
      · rw [key_ll] at h; exact wpAny_eqBool_int h
      · rw [key_lr] at h; exact SeqAt.EqAt.int_str i t y u _ _ _ _ h
    · rcases keyIs_shape hv with ⟨j, u, rfl, rfl⟩ | ⟨y, u, rfl, rfl⟩
      · rw [key_rl] at h; exact SeqAt.EqAt.str_int x t j u _ _ _ _ h
      · rw [key_rr] at h; exact wpAny_eqBool_str h
  «strs» := fun k x t v h => by
    rcases keyIs_shape h with ⟨i, u, rfl, e⟩ | ⟨y, u, rfl, e⟩
    · exact nomatch e
    · injection e with e1 _
      subst e1
      cases v <;> rfl
theorem mixKind_int (prog : Program) (w : World) (i : Int) (t : Tok) : (mixKind prog w).is (.inl i) (.int i t) = true := keyIs_int i t
theorem mixKind_str (prog : Program) (w : World) (x : Str) (t : Tok) : (mixKind prog w).is (.inr x) (.str x t) = true := keyIs_str x t
end L2
namespace L2
open PySem PySem.Spec PyProof.Rows
inductive V where
  | non | bl (b : Bool) | int (i : Int) | str (x : Str) | byt (b : Array UInt8) | flt (b : UInt64) | ref (a : Addr) | ty (n : String)
  deriving DecidableEq
def RelV : V → Value → Prop
  | .non, u => u = Value.none
  | .bl b, u => u = Value.bool b
  | .int i, u => ∃ t, u = Value.int i t
  | .str x, u => ∃ t, u = Value.str x t
  | .byt b, u => ∃ t, u = Value.bytes b t
  | .flt b, u => ∃ t, u = Value.float b t
  | .ref a, u => u = Value.ref a
  | .ty n, u => u = Value.type n
abbrev Vals : List V → List Value → Prop := Paired RelV
theorem Vals.length {xs : List V} {us : List Value} (r : Vals xs us) : xs.length = us.length := Paired.length r
theorem Vals.get : ∀ {xs : List V} {us : List Value} {i : Nat} {x : V}, Vals xs us → xs[i]? = some x → ∃ u, us[i]? = some u ∧ RelV x u
  | _, _, _, _, .nil, e => by simp at e
  | _, _, 0, _, .cons r _, e => by simp at e; subst e; exact ⟨_, rfl, r⟩
  | _, _, i + 1, x, .cons _ t, e => by
    obtain ⟨u, h1, h2⟩ := Vals.get (i := i) (x := x) t (by simpa using e)
    exact ⟨u, by simpa using h1, h2⟩
theorem Vals.set {x : V} {u : Value} (r : RelV x u) : ∀ {xs : List V} {us : List Value} (i : Nat), Vals xs us → Vals (xs.set i x) (us.set i u)
  | _, _, _, .nil => .nil
  | _, _, 0, .cons _ t => .cons r t
  | _, _, i + 1, .cons q t => .cons q (Vals.set r i t)
theorem Vals.append : ∀ {xs ys : List V} {us ws : List Value}, Vals xs us → Vals ys ws → Vals (xs ++ ys) (us ++ ws)
  | _, _, _, _, .nil, s => s
  | _, _, _, _, .cons r t, s => .cons r (Vals.append t s)
theorem Vals.take : ∀ {xs : List V} {us : List Value} (n : Nat), Vals xs us → Vals (xs.take n) (us.take n)
  | _, _, 0, _ => .nil
  | _, _, _ + 1, .nil => .nil
  | _, _, n + 1, .cons r t => .cons r (Vals.take n t)
theorem Vals.drop : ∀ {xs : List V} {us : List Value} (n : Nat), Vals xs us → Vals (xs.drop n) (us.drop n)
  | _, _, 0, r => r
  | _, _, _ + 1, .nil => .nil
  | _, _, n + 1, .cons _ t => Vals.drop n t
def RelO : Option V → Option Value → Prop
  | some v, some u => RelV v u
  | none, none => True
  | _, _ => False
def KV {κ : Type} : List (κ × V) → List (κ × Value) → Prop := Paired fun (p : κ × V) (q : κ × Value) => p.1 = q.1 ∧ RelV p.2 q.2
def kV : Key → V
  | .inl i => .int i
  | .inr x => .str x
inductive HO where
    | lst (xs : List V)
    | tup (xs : List V)
    | dK (kvs : List (Key × V)) | dT (kvs : List (List Key × V))
    | set (S : Int → Bool) (n : Nat)
    | ins (C dx : Addr) (fs : List (Str × V))
    | own (x : Addr)
    | xd (fs : List (Str × V))
    | met (f x : Addr)
    | rng (lo hi : Int)
    | frz (o : Obj) (u : HO)
    | tbl (ps : Array Value)
    | ext (φ : Heap → Prop)
abbrev Hp := Addr → Option HO
def upd (H : Hp) (a : Addr) (o : HO) : Hp := fun b => if b = a then some o else H b
theorem upd_same {H : Hp} {a : Addr} {o : HO} : upd H a o a = some o := by unfold upd; rw [if_pos rfl]
theorem upd_ne {H : Hp} {a b : Addr} {o : HO} (h : b ≠ a) : upd H a o b = H b := by unfold upd; rw [if_neg h]
theorem upd_upd {H : Hp} {a : Addr} {o u : HO} : upd (upd H a o) a u = upd H a u := by
  funext b; unfold upd; split <;> rfl
theorem ne_of {H : Hp} {a b : Addr} {o u : HO} (h : H a = some o) (h' : H b = some u) (d : o ≠ u) : a ≠ b := by
  intro e; subst e; rw [h] at h'; exact d (Option.some.inj h')
theorem ne_of_none {H : Hp} {a b : Addr} {o : HO} (h : H a = some o) (h' : H b = none) : a ≠ b := by
  intro e; subst e; rw [h] at h'; cases h'
def NoDct (h : Heap) (a : Addr) : Prop := ∀ o, h.get? a = some o → o.dict = none
theorem NoDct.new {h : Heap} {ob : Obj} (h0 : ob.isFreed = false) (hd : ob.dict = none) : NoDct (h.push ob) h.objs.size := fun o q => by rw [Heap.get?_push_size _ h0] at q; cases q; exact hd
def RdT (H : Hp) (b : Addr) (ys : List V) : Prop := H b = some (.tup ys) ∨ ∃ o, H b = some (.frz o (.tup ys))
theorem RdT.upd {H : Hp} {b a : Addr} {ys : List V} {o : HO} (r : RdT H b ys) (ne : ∀ u, H b = some u → b ≠ a) : RdT (L2.upd H a o) b ys := by
  rcases r with r | ⟨ob, r⟩
  · exact .inl (by rw [upd_ne (ne _ r)]; exact r)
  · exact .inr ⟨ob, by rw [upd_ne (ne _ r)]; exact r⟩
section
variable (P : Program) (w : World)
def ObjOk (H : Hp) (h : Heap) (a : Addr) : HO → Prop
  | .lst xs => xs.length ≤ sizeLine ∧ ∃ (its : List Value) (n : Nat), Vals xs its ∧ h.get? a = some { cls := .type "list", data := .seq its.toArray n }
  | .tup xs => (xs.length ≤ sizeLine ∧ NoDct h a) ∧ ∃ its : List Value, Vals xs its ∧ IsTup h a its.toArray
  | .dK kvs => kvs.length ≤ sizeLine ∧ (a == sysModules) = false ∧ ∃ vs, KV kvs vs ∧ h.DictOf (mixKind P w) a vs
  | .dT kvs => kvs.length ≤ sizeLine ∧ (a == sysModules) = false ∧ ∃ xs : List (List Key × Addr × Value),
      Paired (fun (p : List Key × V) (q : List Key × Addr × Value) => p.1 = q.1 ∧ RdT H q.2.1 (p.1.map kV) ∧ RelV p.2 q.2.2) kvs xs ∧
      ∃ o es ep, h.get? a = some o ∧ o.ExactDict ∧ o.data = .dict es ep ∧ es.toList = xs.map (entryOfKey (tupleKind (mixKind P w))) ∧ (xs.map (·.1)).Nodup
  | .set S n => h.SetOf (intKind P w) a S n
  | .ins C dx fs => H dx = some (.own a) ∧ fs.length ≤ 1000 ∧ dx ≠ a ∧ h.get? a = some (PySem.W.instObj C dx) ∧
      ∃ mA, h.Ns1 dx mA ∧ (∀ f, RelO (fs.lookup f) (mA f)) ∧ PySem.Within mA (fs.map (·.1))
  | .own _ => ∃ o, h.get? a = some o
  | .xd fs => ∃ mA, h.Ns1 a mA ∧ ∀ f, RelO (fs.lookup f) (mA f)
  | .rng lo hi => ∃ t u v, h.get? a = some { cls := .type "range", data := .fields #[.int lo t, .int hi u, .int 1 v] }
  | .frz o u => h.get? a = some o ∧ ObjOk H h a u
  | .tbl ps => h.get? a = some { cls := .none, data := .fields ps }
  | .met f x => h.get? a = some (PySem.W.methodObj (.ref f) (.ref x))
  | .ext φ => φ h ∧ (∃ o, h.get? a = some o) ∧ ∀ h1 h2 : Heap, φ h1 → (∀ o, h1.get? a = some o → h2.get? a = some o) → φ h2
def HOk (H : Hp) (h : Heap) : Prop := ∀ a o, H a = some o → ObjOk P w H h a o
end
section
variable {P : Program} {w : World} {H H' : Hp} {h h' : Heap} {a : Addr} {o : HO}
theorem ObjOk.lt (x : ObjOk P w H h a o) : a < h.objs.size := by
  cases o with
  | lst xs => obtain ⟨_, _, _, _, e⟩ := x; exact Heap.lt_size e
  | tup xs => obtain ⟨_, _, _, p⟩ := x; exact p.lt
  | dK kvs => obtain ⟨_, _, _, _, o, _, _, e, _⟩ := x; exact Heap.lt_size e
  | dT kvs => obtain ⟨_, _, _, _, o, _, _, e, _⟩ := x; exact Heap.lt_size e
  | set S n => obtain ⟨o, _, _, _, e, _⟩ := x; exact Heap.lt_size e
  | ins C dx fs => obtain ⟨_, _, _, e, _⟩ := x; exact Heap.lt_size e
  | own y => obtain ⟨_, e⟩ := x; exact Heap.lt_size e
  | xd fs => obtain ⟨_, ⟨_, _, _, e, _⟩, _⟩ := x; exact Heap.lt_size e
  | rng lo hi => obtain ⟨_, _, _, e⟩ := x; exact Heap.lt_size e
  | frz ob u => obtain ⟨e, _⟩ := x; exact Heap.lt_size e
  | tbl ps => exact Heap.lt_size (show h.get? a = some _ from x)
  | met f y => exact Heap.lt_size (show h.get? a = some _ from x)
  | ext φ => obtain ⟨_, ⟨_, e⟩, _⟩ := x; exact Heap.lt_size e
theorem Paired.mapP {α β : Type} {F G : α → β → Prop} : ∀ {l₁ : List α} {l₂ : List β}, Paired F l₁ l₂ → (∀ a b, F a b → G a b) → Paired G l₁ l₂
  | _, _, .nil, _ => .nil
  | _, _, .cons r t, f => .cons (f _ _ r) (Paired.mapP t f)
theorem ObjOk.stay (x : ObjOk P w H h a o) (k : ∀ b u, (b = a ∨ H b = some (.own a)) → h.get? b = some u → h'.get? b = some u)
    (ho : ∀ b, H b = some (.own a) → H' b = some (.own a)) (ht : ∀ b xs, RdT H b xs → RdT H' b xs) : ObjOk P w H' h' a o := by
  induction o with
  | lst xs => obtain ⟨z, its, n, r, e⟩ := x; exact ⟨z, its, n, r, k _ _ (.inl rfl) e⟩
  | tup xs => obtain ⟨⟨z, nd⟩, its, r, ob, e, c⟩ := x; exact ⟨⟨z, fun o q => by rw [k _ _ (.inl rfl) e] at q; cases q; exact nd _ e⟩, its, r, ob, k _ _ (.inl rfl) e, c⟩
  | dK kvs => obtain ⟨z, y, vs, r, ob, es, ep, e, c⟩ := x; exact ⟨z, y, vs, r, ob, es, ep, k _ _ (.inl rfl) e, c⟩
  | dT kvs =>
    obtain ⟨z, y, xs, r, ob, es, ep, e, c⟩ := x
    exact ⟨z, y, xs, Paired.mapP r fun p q z => ⟨z.1, ht _ _ z.2.1, z.2.2⟩, ob, es, ep, k _ _ (.inl rfl) e, c⟩
  | set S n => obtain ⟨ob, es, ep, t, e, c⟩ := x; exact ⟨ob, es, ep, t, k _ _ (.inl rfl) e, c⟩
  | ins C dx fs =>
    obtain ⟨d, z, ne, e, mA, ⟨od, es, ep, e2, c⟩, r⟩ := x
    exact ⟨ho _ d, z, ne, k _ _ (.inl rfl) e, mA, ⟨od, es, ep, k _ _ (.inr d) e2, c⟩, r⟩
  | own y => obtain ⟨ob, e⟩ := x; exact ⟨ob, k _ _ (.inl rfl) e⟩
  | xd fs => obtain ⟨mA, ⟨od, es, ep, e, c⟩, r⟩ := x; exact ⟨mA, ⟨od, es, ep, k _ _ (.inl rfl) e, c⟩, r⟩
  | rng lo hi => obtain ⟨t, u, v, e⟩ := x; exact ⟨t, u, v, k _ _ (.inl rfl) e⟩
  | frz ob u ih => obtain ⟨e, q⟩ := x; exact ⟨k _ _ (.inl rfl) e, ih q⟩
  | tbl ps =>
    have e : h.get? a = some { cls := .none, data := .fields ps } := x
    show h'.get? a = some { cls := .none, data := .fields ps }
    exact k a _ (.inl rfl) e
  | met f y =>
    have e : h.get? a = some (PySem.W.methodObj (.ref f) (.ref y)) := x
    show h'.get? a = some (PySem.W.methodObj (.ref f) (.ref y))
    exact k a _ (.inl rfl) e
  | ext φ => obtain ⟨p, ⟨o, e⟩, st⟩ := x; exact ⟨st _ _ p fun o q => k _ _ (.inl rfl) q, ⟨o, k _ _ (.inl rfl) e⟩, st⟩
theorem HOk.lt (x : HOk P w H h) (e : H a = some o) : a < h.objs.size := (x a o e).lt
theorem HOk.fresh (x : HOk P w H h) (e : h.objs.size ≤ a) : H a = none := by
  cases q : H a with
  | none => rfl
  | some u => exact absurd (Nat.lt_of_lt_of_le (x.lt q) e) (Nat.lt_irrefl _)
theorem HOk.kept (x : HOk P w H h) (k : ∀ b u, h.get? b = some u → h'.get? b = some u) : HOk P w H h' := fun a o e =>
  (x a o e).stay (fun b u _ q => k b u q) (fun _ q => q) fun _ _ q => q
theorem HOk.laid (x : HOk P w H h) (k : ∀ b u, h.get? b = some u → h'.get? b = some u) (hp : h.objs.size ≤ a) (new : ObjOk P w (upd H a o) h' a o) : HOk P w (upd H a o) h' := fun b u e => by
  have hn := x.fresh hp
  by_cases hb : b = a
  · subst hb; rw [upd_same] at e; cases e; exact new
  · rw [upd_ne hb] at e
    exact (x b u e).stay (fun c v _ q => k c v q) (fun c q => by rw [upd_ne (ne_of_none q hn)]; exact q) fun c xs q => q.upd fun u hu => ne_of_none hu hn
end
def Rd (H : Hp) (a : Addr) (u : HO) : Prop := H a = some u ∨ ∃ o, H a = some (.frz o u)
theorem Rd.ok {P : Program} {w : World} {H : Hp} {h : Heap} {a : Addr} {u : HO} (r : Rd H a u) (x : HOk P w H h) : ObjOk P w H h a u := by
  rcases r with r | ⟨o, r⟩
  · exact x a u r
  · obtain ⟨_, q⟩ := x a _ r
    exact q
def Mut : Option HO → Prop
  | some (.lst _) => True
  | some (.dK _) => True
  | some (.dT _) => True
  | some (.set _ _) => True
  | some (.ins _ _ _) => True
  | some (.ext _) => True
  | _ => False
section
variable {P : Program} {w : World} {H : Hp} {h h' : Heap} {x e : Addr} {o' : HO}
theorem HOk.write (ok : HOk P w H h) (mu : Mut (H x)) (he : e = x ∨ H e = some (.own x)) (k : ∀ b u, b ≠ e → h.get? b = some u → h'.get? b = some u) (heo : ∃ u, h'.get? e = some u)
    (new : ObjOk P w (upd H x o') h' x o') : HOk P w (upd H x o') h' := fun b u q => by
  have nown : ∀ c y, H c = some (.own y) → c ≠ x := fun c y r z => by subst z; rw [r] at mu; exact mu
  have ntup : ∀ c xs, H c = some (.tup xs) → c ≠ x := fun c xs r z => by subst z; rw [r] at mu; exact mu
  by_cases hb : b = x
  · subst hb; rw [upd_same] at q; cases q; exact new
  · rw [upd_ne hb] at q
    by_cases hbe : b = e
    · have q' : H b = some (.own x) := by
        rcases he with z | z
        · exact absurd (hbe.trans z) hb
        · rw [hbe]; exact z
      rw [q] at q'; cases q'
      obtain ⟨v, hv⟩ := heo
      exact ⟨v, by rw [hbe]; exact hv⟩
    · refine (ok b u q).stay (fun c v hc r => k c v ?_ r) (fun c r => by rw [upd_ne (nown c b r)]; exact r) fun c xs r => r.upd fun _ _ z => by
        subst z
        rcases r with r | ⟨_, r⟩ <;> (rw [r] at mu; exact mu)
      rcases hc with rfl | hc
      · exact hbe
      · rintro rfl
        rcases he with z | z
        · exact nown c b hc z
        · rw [hc] at z; cases z; exact hb rfl
end
structure Un (fs ex : List Addr) (H H' : Hp) (h h' : Heap) : Prop where
  keep : ∀ b o, h.get? b = some o → H b = none → b ∉ fs → b ∉ ex → h'.get? b = some o
  slot : ∀ b o, h.get? b = some o → H b = none → b ∈ fs → b ∉ ex → ∃ sl, h'.get? b = some { o with slots := sl }
  free : ∀ b o, h.get? b = some o → H b = none → b ∉ ex → H' b = none
  there : ∀ b o, h.get? b = some o → b ∉ ex → ∃ o', h'.get? b = some o'
  tups : ∀ b xs, H b = some (.tup xs) → H' b = some (.tup xs)
  frzs : ∀ b o u, H b = some (.frz o u) → H' b = some (.frz o u)
  tbls : ∀ b ps, H b = some (.tbl ps) → ∃ more, H' b = some (.tbl (ps ++ more))
section
variable {fs fs' ex ex' : List Addr} {H H1 H2 : Hp} {h h1 h2 h' : Heap} {a x e : Addr} {o : HO}
theorem Un.any (u : Un fs ex H H1 h h1) {b : Addr} {ob : Obj} (q : h.get? b = some ob) (n : H b = none) (hx : b ∉ ex) : ∃ sl, h1.get? b = some { ob with slots := sl } := by
  by_cases hb : b ∈ fs
  · exact u.slot b ob q n hb hx
  · exact ⟨ob.slots, u.keep b ob q n hb hx⟩
theorem Un.trans (a : Un fs ex H H1 h h1) (b : Un fs ex H1 H2 h1 h2) : Un fs ex H H2 h h2 where
  keep := fun c ob q n hc hx => b.keep c ob (a.keep c ob q n hc hx) (a.free c ob q n hx) hc hx
  slot := fun c ob q n hc hx => by
    obtain ⟨sl, e1⟩ := a.slot c ob q n hc hx
    obtain ⟨sl', e2⟩ := b.slot c _ e1 (a.free c ob q n hx) hc hx
    exact ⟨sl', e2⟩
  free := fun c ob q n hx => by
    obtain ⟨o', e1⟩ := a.there c ob q hx
    exact b.free c o' e1 (a.free c ob q n hx) hx
  there := fun c ob q hx => by
    obtain ⟨o', e1⟩ := a.there c ob q hx
    exact b.there c o' e1 hx
  tups := fun c xs q => b.tups c xs (a.tups c xs q)
  frzs := fun c ob xs q => b.frzs c ob xs (a.frzs c ob xs q)
  tbls := fun c ps q => by
    obtain ⟨m1, e1⟩ := a.tbls c ps q
    obtain ⟨m2, e2⟩ := b.tbls c _ e1
    exact ⟨m1 ++ m2, by rw [e2, Array.append_assoc]⟩
theorem Un.kept (k : ∀ b u, h.get? b = some u → h'.get? b = some u) : Un fs ex H H h h' :=
  ⟨fun b ob q _ _ _ => k b ob q, fun b ob q _ _ _ => ⟨ob.slots, k b ob q⟩, fun _ _ _ n _ => n, fun b ob q _ => ⟨ob, k b ob q⟩, fun _ _ q => q, fun _ _ _ q => q, fun _ ps q => ⟨#[], by rw [q]; simp⟩⟩
theorem Un.refl : Un fs ex H H h h := Un.kept fun _ _ q => q
theorem Un.laid (k : ∀ b u, h.get? b = some u → h'.get? b = some u) (hp : h.objs.size ≤ a) (hn : H a = none) : Un fs ex H (upd H a o) h h' where
  keep := fun b u q _ _ _ => k b u q
  slot := fun b u q _ _ _ => ⟨u.slots, k b u q⟩
  free := fun b u q n _ => by rw [upd_ne (Nat.ne_of_lt (Nat.lt_of_lt_of_le (Heap.lt_size q) hp))]; exact n
  there := fun b u q _ => ⟨u, k b u q⟩
  tups := fun b xs q => by rw [upd_ne (ne_of_none q hn)]; exact q
  frzs := fun b u xs q => by rw [upd_ne (ne_of_none q hn)]; exact q
  tbls := fun b ps q => ⟨#[], by rw [upd_ne (ne_of_none q hn), q]; simp⟩
theorem Un.write (mu : Mut (H x)) (he : e = x ∨ H e = some (.own x)) (k : ∀ b u, b ≠ e → h.get? b = some u → h'.get? b = some u) (heo : ∃ u, h'.get? e = some u) : Un fs ex H (upd H x o) h h' := by
  have hx : ∀ b, H b = none → b ≠ x := fun b n z => by subst z; rw [n] at mu; exact mu
  have hb : ∀ b, H b = none → b ≠ e := fun b n z => by
    subst z
    rcases he with r | r
    · exact hx b n r
    · rw [n] at r; cases r
  have hm : ∀ b u, H b = some u → ¬ Mut (some u) → b ≠ x := fun b u q nm z => by subst z; rw [q] at mu; exact nm mu
  refine ⟨fun b u q n _ _ => k b u (hb b n) q, fun b u q n _ _ => ⟨u.slots, k b u (hb b n) q⟩, fun b u q n _ => by rw [upd_ne (hx b n)]; exact n, fun b u q _ => ?_,
    fun b xs q => by rw [upd_ne (hm b _ q fun z => z)]; exact q, fun b u xs q => by rw [upd_ne (hm b _ q fun z => z)]; exact q, fun b ps q => ⟨#[], by rw [upd_ne (hm b _ q fun z => z), q]; simp⟩⟩
  by_cases hbe : b = e
  · subst hbe; exact heo
  · exact ⟨u, k b u hbe q⟩
end
def trk (h : Heap) (H : Hp) : List Addr := (List.range h.objs.size).filter fun a => (H a).isSome
def hidT (h : Heap) (H : Hp) : Heap := PySem.W.hideAll h (trk h H)
theorem hidT_size (h : Heap) (H : Hp) : (hidT h H).objs.size = h.objs.size := PySem.W.hideAll_size _ _
theorem hidT_get {h : Heap} {H : Hp} {b : Addr} {o : Obj} (e : h.get? b = some o) (n : H b = none) : (hidT h H).get? b = some o :=
  PySem.W.hideAll_get _ e fun hm => by
    have q : (H b).isSome = true := (List.mem_filter.mp hm).2
    rw [n] at q; simp at q
theorem of_hidT {h : Heap} {H : Hp} {b : Addr} {o : Obj} (e : (hidT h H).get? b = some o) : h.get? b = some o ∧ H b = none := by
  have e' : h.get? b = some o := PySem.W.of_hideAll (trk h H) e
  refine ⟨e', ?_⟩
  cases q : H b with
  | none => rfl
  | some x =>
    have hm : b ∈ trk h H := List.mem_filter.mpr ⟨List.mem_range.mpr (Heap.lt_size e'), by simp [q]⟩
    have z : (hidT h H).get? b = none := PySem.W.hideAll_none (trk h H) hm
    rw [z] at e; cases e
end L2
namespace L2
open PySem PySem.Spec PyProof.Rows
structure Mod (K : PySem.W.Frag) (mg : Str → Option Value) (base : Heap) : Prop where
  kin : K.In base
  glob : base.Ns mainGlobals mg
  blt : ∃ mb, base.Ns builtinsNs mb ∧ ∀ x : Str, x ≠ "__name__" → mb x = bootBuiltins x
  nolimit : base.NoLimit
structure Cx where
  prog : Program
  w : World
  K : PySem.W.Frag
  mg : Str → Option Value
  base : Heap
  A : Around
  N : List Str
  s₀ : Shared
  H₀ : Hp
  env : Env
  outer : List Env
  stack : List Env
  ex : List Addr
  fn : Str → Bool
  calm : Bool
  pn : List (Addr × Obj)
  xe : Value → Shared → Prop
def frs (l : List Env) : List Addr := l.filterMap (·.frame)
abbrev Cx.fs (X : Cx) : List Addr := frs X.outer
def Vis (sc : Scope) (x : Str) : Prop := sc.names.lookup x = some .local ∨ sc.names.lookup x = some .cell ∨ sc.names.lookup x = some .free
def Loc (sc : Scope) (x : Str) : Prop := sc.names.lookup x = some .local ∨ sc.names.lookup x = some .cell
def Look (env : Env) (h : Heap) (m : Str → Option Value) (x : Str) (u : Value) : Prop :=
  (env.kindOf x = some .local ∧ m x = some u) ∨ ((env.kindOf x = some .cell ∨ env.kindOf x = some .free) ∧ ∃ c, env.cells.lookup x = some c ∧ h.IsCell c (some u))
structure Cx.Ok (X : Cx) : Prop where
  mod : Mod X.K X.mg X.base
  kind : X.env.scope.kind = .function
  glob : X.env.globals = mainGlobals
  blt : X.env.builtins = builtinsNs
  above : X.s₀.heap.objs.size ≤ X.env.locals
  inj : ∀ x y c, X.env.cells.lookup x = some c → X.env.cells.lookup y = some c → x = y
  has : ∀ x, (X.env.kindOf x = some .cell ∨ X.env.kindOf x = some .free) → ∃ c, X.env.cells.lookup x = some c
  cab : ∀ x c, X.fn x = true → X.env.cells.lookup x = some c → X.s₀.heap.objs.size ≤ c
  hd : X.calm = true → X.A.handled = none
  frames : X.A.frames = some X.stack
  stk : X.stack = X.outer ∨ (X.stack = X.env :: X.outer ∧ X.env.frame = some X.env.locals)
  exf : ∀ b ∈ X.ex, b ≠ X.env.locals ∧ ∀ x c, X.env.cells.lookup x = some c → c ≠ b
  bs : ∀ b o, X.base.get? b = some o → X.s₀.heap.get? b = some o ∧ X.H₀ b = none
  bsz : X.base.objs.size ≤ X.s₀.heap.objs.size
  noex : ∀ b o, X.base.get? b = some o → b ∉ X.ex
  exfs : ∀ b ∈ X.ex, b ∉ X.fs
  funs : X.s₀.heap.FunFrames X.base X.outer
  frf : ∀ b ∈ X.fs, X.H₀ b = none
structure Inv (X : Cx) (pins : List (Addr × Obj)) (σ : List (Option V)) (H : Hp) (s : Shared) : Prop where
  ok : X.Ok
  os : s.os = X.s₀.os
  bare : AllBare s.gens
  base : Un X.fs X.ex X.H₀ H X.s₀.heap s.heap
  loc : ∃ m, s.heap.Ns X.env.locals m ∧ ∀ (i : Nat) (x : Str) (v : V), X.N[i]? = some x → σ[i]? = some (some v) → Vis X.env.scope x → ∃ u, RelV v u ∧ Look X.env s.heap m x u
  cell : ∀ x c, X.env.cells.lookup x = some c → ∃ v, s.heap.IsCell c v
  free : H X.env.locals = none
  freeC : ∀ x c, X.env.cells.lookup x = some c → H c = none
  pin : ∀ p ∈ X.pn ++ pins, s.heap.get? p.1 = some p.2 ∧ H p.1 = none ∧ p.1 ≠ X.env.locals ∧ p.1 ∉ X.fs ∧ ∀ v, p.2.data ≠ .cell v
  hok : HOk X.prog X.w H s.heap
  len : σ.length = X.N.length
section
variable {X : Cx} {pins : List (Addr × Obj)} {σ : List (Option V)} {H H' : Hp} {s : Shared} {h' : Heap}
theorem Cx.Ok.nofr (ok : X.Ok) {b : Addr} {o : Obj} (e : X.base.get? b = some o) : b ∉ X.fs := fun hb => by
  have := (ok.funs.mem hb).1
  rw [e] at this; cases this
theorem Inv.bs (I : Inv X pins σ H s) : ∀ b o, X.base.get? b = some o → s.heap.get? b = some o ∧ H b = none := fun b o e =>
  ⟨I.base.keep b o (I.ok.bs b o e).1 (I.ok.bs b o e).2 (I.ok.nofr e) (I.ok.noex b o e), I.base.free b o (I.ok.bs b o e).1 (I.ok.bs b o e).2 (I.ok.noex b o e)⟩
theorem Inv.bk (I : Inv X pins σ H s) : ∀ b o, X.base.get? b = some o → s.heap.get? b = some o := fun b o e => (I.bs b o e).1
theorem Inv.mod (I : Inv X pins σ H s) : Mod X.K X.mg X.base := I.ok.mod
theorem Inv.kIn (I : Inv X pins σ H s) : X.K.In s.heap := I.ok.mod.kin.keeps I.bk
theorem Inv.lt (I : Inv X pins σ H s) : X.env.locals < s.heap.objs.size := let ⟨_, hn, _⟩ := I.loc; hn.lt
theorem Inv.sz (I : Inv X pins σ H s) : X.s₀.heap.objs.size ≤ s.heap.objs.size := Nat.le_trans I.ok.above (Nat.le_of_lt I.lt)
theorem Inv.nofs (I : Inv X pins σ H s) {a : Addr} (h : s.heap.objs.size ≤ a) : a ∉ X.fs := fun hb => by
  obtain ⟨_, o, ho, _⟩ := I.ok.funs.mem hb
  exact absurd (Nat.lt_of_lt_of_le (Heap.lt_size ho) (Nat.le_trans I.sz h)) (Nat.lt_irrefl _)
theorem Inv.cne (I : Inv X pins σ H s) : ∀ x c, X.env.cells.lookup x = some c → c ≠ X.env.locals := fun x c e z => by
  obtain ⟨v, o, ho, hd⟩ := I.cell x c e
  obtain ⟨m, ⟨o', es, ep, ho', hd', _⟩, _⟩ := I.loc
  rw [z, ho'] at ho; cases ho; rw [hd'] at hd; cases hd
theorem Inv.funs (I : Inv X pins σ H s) : s.heap.FunFrames X.base X.outer := by
  have all : ∀ (l : List Env), (∀ b ∈ frs l, b ∈ X.fs) → X.s₀.heap.FunFrames X.base l → s.heap.FunFrames X.base l := by
    intro l
    induction l with
    | nil => intro _ _; trivial
    | cons env r ih =>
      intro hs hl
      obtain ⟨hk, ⟨L, o, hf, hn, ho, hd⟩, hr⟩ := hl
      have hL : L ∈ X.fs := hs L (by unfold frs; rw [List.filterMap_cons, hf]; exact List.mem_cons_self)
      obtain ⟨sl, e⟩ := I.base.slot L o ho (I.ok.frf L hL) hL fun z => I.ok.exfs L z hL
      exact ⟨hk, ⟨L, _, hf, hn, e, hd⟩, ih (fun b hb => hs b (by unfold frs; rw [List.filterMap_cons, hf]; exact List.mem_cons_of_mem _ hb)) hr⟩
  exact all X.outer (fun _ hb => hb) I.ok.funs
theorem Inv.stack (I : Inv X pins σ H s) : s.heap.FunFrames X.base X.stack := by
  rcases I.ok.stk with e | ⟨e, hf⟩
  · rw [e]; exact I.funs
  · rw [e]
    obtain ⟨m, hn, _⟩ := I.loc
    refine .cons (by rw [I.ok.kind]; decide) hf hn ?_ I.funs
    exact Heap.get?_none_of_le (Nat.le_trans I.ok.bsz I.ok.above)
theorem Inv.stkSub (I : Inv X pins σ H s) : ∀ b ∈ frs X.stack, b ∈ X.env.locals :: X.fs := fun b hb => by
  rcases I.ok.stk with e | ⟨e, hf⟩
  · rw [e] at hb; exact List.mem_cons_of_mem _ hb
  · rw [e] at hb
    unfold frs at hb
    rw [List.filterMap_cons, hf] at hb
    exact hb
theorem Inv.stkFree (I : Inv X pins σ H s) : ∀ b ∈ frs X.stack, H b = none := fun b hb => by
  rcases List.mem_cons.mp (I.stkSub b hb) with e | hb
  · rw [e]; exact I.free
  · obtain ⟨_, o, ho, _⟩ := I.ok.funs.mem hb
    exact I.base.free b o ho (I.ok.frf b hb) fun z => I.ok.exfs b z hb
theorem Inv.step {g' : Array GenState} {t' : Nat} {d' : Drawn} {ch : List Addr} (I : Inv X pins σ H s)
    (hch : ∀ b ∈ ch, (b ∈ X.ex ∨ X.s₀.heap.objs.size ≤ b) ∧ b ≠ X.env.locals ∧ (∀ x c, X.env.cells.lookup x = some c → c ≠ b) ∧ ∀ p ∈ X.pn ++ pins, p.1 ≠ b)
    (keep : ∀ b o, b ≠ X.env.locals → b ∉ X.fs → b ∉ ch → s.heap.get? b = some o → H b = none → h'.get? b = some o)
    (slot : ∀ b o, b ≠ X.env.locals → b ∈ X.fs → b ∉ ch → s.heap.get? b = some o → H b = none → ∃ sl, h'.get? b = some { o with slots := sl }) (free : ∀ b o, b ∉ ch → s.heap.get? b = some o → H b = none → H' b = none)
    (there : ∀ b o, b ∉ ch → s.heap.get? b = some o → ∃ o', h'.get? b = some o')
    (tups : ∀ b xs, H b = some (.tup xs) → H' b = some (.tup xs)) (frzs : ∀ b o u, H b = some (.frz o u) → H' b = some (.frz o u)) (tbls : ∀ b ps, H b = some (.tbl ps) → ∃ more, H' b = some (.tbl (ps ++ more)))
    (ns : ∀ m, s.heap.Ns X.env.locals m → h'.Ns X.env.locals m) (hok : HOk X.prog X.w H' h') (hg : AllBare g') :
    Inv X pins σ H' { s with heap := h', gens := g', drawn := d', toks := t' } := by
  have neL : ∀ b o, X.s₀.heap.get? b = some o → b ≠ X.env.locals := fun b o e => Nat.ne_of_lt (Nat.lt_of_lt_of_le (Heap.lt_size e) I.ok.above)
  have neC : ∀ b o, X.s₀.heap.get? b = some o → b ∉ X.ex → b ∉ ch := fun b o e hx hb => by
    rcases (hch b hb).1 with z | z
    · exact hx z
    · exact absurd (Nat.lt_of_lt_of_le (Heap.lt_size e) z) (Nat.lt_irrefl _)
  have cellK : ∀ x c, X.env.cells.lookup x = some c → ∀ v, s.heap.IsCell c v → h'.IsCell c v := fun x c e v ⟨o, ho, hd⟩ => by
    have nch : c ∉ ch := fun z => (hch c z).2.2.1 x c e rfl
    by_cases hc : c ∈ X.fs
    · obtain ⟨sl, q⟩ := slot c o (I.cne x c e) hc nch ho (I.freeC x c e)
      exact ⟨_, q, hd⟩
    · exact ⟨o, keep c o (I.cne x c e) hc nch ho (I.freeC x c e), hd⟩
  refine ⟨I.ok, I.os, hg, ⟨fun b o e n hb hx => ?_, fun b o e n hb hx => ?_, fun b o e n hx => ?_, fun b o e hx => ?_, fun b xs e => tups b xs (I.base.tups b xs e), fun b o xs e => frzs b o xs (I.base.frzs b o xs e), fun b ps e => ?_⟩, ?_, fun x c e => ?_, ?_, fun x c e => ?_, fun p hp => ?_, hok, I.len⟩
  · exact keep b o (neL b o e) hb (neC b o e hx) (I.base.keep b o e n hb hx) (I.base.free b o e n hx)
  · obtain ⟨sl, e1⟩ := I.base.slot b o e n hb hx
    obtain ⟨sl', e2⟩ := slot b _ (neL b o e) hb (neC b o e hx) e1 (I.base.free b o e n hx)
    exact ⟨sl', e2⟩
  · obtain ⟨o', e1⟩ := I.base.there b o e hx
    exact free b o' (neC b o e hx) e1 (I.base.free b o e n hx)
  · obtain ⟨o', e1⟩ := I.base.there b o e hx
    exact there b o' (neC b o e hx) e1
  · obtain ⟨m1, e1⟩ := I.base.tbls b ps e
    obtain ⟨m2, e2⟩ := tbls b _ e1
    exact ⟨m1 ++ m2, by rw [e2, Array.append_assoc]⟩
  · obtain ⟨m, hn, hl⟩ := I.loc
    refine ⟨m, ns m hn, fun i x v e1 e2 e3 => ?_⟩
    obtain ⟨u, r, l⟩ := hl i x v e1 e2 e3
    refine ⟨u, r, ?_⟩
    rcases l with l | ⟨k, c, e, z⟩
    · exact .inl l
    · exact .inr ⟨k, c, e, cellK x c e _ z⟩
  · obtain ⟨v, z⟩ := I.cell x c e
    exact ⟨v, cellK x c e v z⟩
  · obtain ⟨m, ⟨o, _, _, ho, _⟩, _⟩ := I.loc
    exact free _ o (fun z => (hch _ z).2.1 rfl) ho I.free
  · obtain ⟨v, o, ho, hd⟩ := I.cell x c e
    exact free c o (fun z => (hch c z).2.2.1 x c e rfl) ho (I.freeC x c e)
  · obtain ⟨e, n, ne, nf, d⟩ := I.pin p hp
    have nch : p.1 ∉ ch := fun z => (hch p.1 z).2.2.2 p hp rfl
    exact ⟨keep p.1 p.2 ne nf nch e n, free p.1 p.2 nch e n, ne, nf, d⟩
theorem Inv.un {t' : Nat} (I : Inv X pins σ H s) (u : Un X.fs [] H H' s.heap h') (hok : HOk X.prog X.w H' h') : Inv X pins σ H' { s with heap := h', toks := t' } := by
  obtain ⟨m, ⟨o, es, ep, ho, r⟩, _⟩ := id I.loc
  obtain ⟨sl, hL⟩ := u.any ho I.free (by simp)
  exact I.step (g' := s.gens) (d' := s.drawn) (ch := []) (fun _ z => nomatch z) (fun b o _ hb _ e n => u.keep b o e n hb (by simp)) (fun b o _ hb _ e n => u.slot b o e n hb (by simp)) (fun b o _ e n => u.free b o e n (by simp)) (fun b o _ e => u.there b o e (by simp)) u.tups u.frzs u.tbls (fun m' hm => by
    obtain ⟨o', es', ep', ho', r'⟩ := hm
    rw [ho] at ho'; cases ho'
    exact ⟨_, es', ep', hL, r'⟩) hok I.bare
theorem Inv.call {g' : Array GenState} {t' : Nat} {d' : Drawn} {ch : List Addr} (I : Inv X pins σ H s) (u : Un (frs X.stack) ch H H' s.heap h') (hok : HOk X.prog X.w H' h') (hg : AllBare g')
    (hch : ∀ b ∈ ch, (b ∈ X.ex ∨ X.s₀.heap.objs.size ≤ b) ∧ b ≠ X.env.locals ∧ (∀ x c, X.env.cells.lookup x = some c → c ≠ b) ∧ ∀ p ∈ X.pn ++ pins, p.1 ≠ b) :
    Inv X pins σ H' { s with heap := h', gens := g', drawn := d', toks := t' } := by
  obtain ⟨m, ⟨o, es, ep, ho, r⟩, _⟩ := id I.loc
  obtain ⟨sl, hL⟩ := u.any ho I.free fun z => (hch _ z).2.1 rfl
  exact I.step (ch := ch) hch (fun b o hL hb hc e n => u.keep b o e n (fun z => (List.mem_cons.mp (I.stkSub b z)).elim hL hb) hc) (fun b o _ _ hc e n => u.any e n hc) (fun b o hc e n => u.free b o e n hc) (fun b o hc e => u.there b o e hc) u.tups u.frzs u.tbls (fun m' hm => by
    obtain ⟨o', es', ep', ho', r'⟩ := hm
    rw [ho] at ho'; cases ho'
    exact ⟨_, es', ep', hL, r'⟩) hok hg
theorem Inv.turned {t' : Nat} {it : Addr} (I : Inv X pins σ H s) (k : ∀ b o, b ≠ it → s.heap.get? b = some o → h'.get? b = some o) (hn : H it = none) (hL : it ≠ X.env.locals)
    (h1 : it ∈ X.ex ∨ X.s₀.heap.objs.size ≤ it) (h2 : ∀ x c, X.env.cells.lookup x = some c → c ≠ it) (h3 : ∀ p ∈ X.pn ++ pins, p.1 ≠ it) : Inv X pins σ H { s with heap := h', toks := t' } := by
  have nit : ∀ b u, H b = some u → b ≠ it := fun b u e z => by rw [z, hn] at e; cases e
  refine I.step (g' := s.gens) (d' := s.drawn) (ch := [it]) (fun b hb => ?_) (fun b o _ _ hc e _ => k b o (fun z => hc (by simp [z])) e) (fun b o _ _ hc e _ => ⟨o.slots, k b o (fun z => hc (by simp [z])) e⟩) (fun _ _ _ _ n => n)
    (fun b o hc e => ⟨o, k b o (fun z => hc (by simp [z])) e⟩) (fun _ _ e => e) (fun _ _ _ e => e) (fun b ps e => ⟨#[], by rw [e]; simp⟩) (fun m hm => ?_) (fun b u e => ?_) I.bare
  · have e : b = it := by simpa using hb
    subst e
    exact ⟨h1, hL, h2, h3⟩
  · obtain ⟨o, es, ep, ho, r⟩ := hm
    exact ⟨o, es, ep, k _ o (Ne.symm hL) ho, r⟩
  · refine (I.hok b u e).stay (fun c v hc q => k c v ?_ q) (fun _ q => q) fun _ _ q => q
    rcases hc with z | z
    · rw [z]; exact nit b u e
    · exact nit c _ z
theorem Inv.tok (I : Inv X pins σ H s) (t : Nat) : Inv X pins σ H { s with toks := t } := I.un (h' := s.heap) (t' := t) Un.refl I.hok
theorem Inv.kept {t' : Nat} (I : Inv X pins σ H s) (k : ∀ b u, s.heap.get? b = some u → h'.get? b = some u) : Inv X pins σ H { s with heap := h', toks := t' } := I.un (Un.kept k) (I.hok.kept k)
theorem Inv.laid {a : Addr} {o : HO} {t' : Nat} (I : Inv X pins σ H s) (k : ∀ b u, s.heap.get? b = some u → h'.get? b = some u) (hp : s.heap.objs.size ≤ a) (new : ObjOk X.prog X.w (upd H a o) h' a o) :
    Inv X pins σ (upd H a o) { s with heap := h', toks := t' } := I.un (Un.laid k hp (I.hok.fresh hp)) (I.hok.laid k hp new)
theorem Inv.write {x e : Addr} {o : HO} {t' : Nat} (I : Inv X pins σ H s) (mu : Mut (H x)) (he : e = x ∨ H e = some (.own x)) (k : ∀ b u, b ≠ e → s.heap.get? b = some u → h'.get? b = some u) (heo : ∃ u, h'.get? e = some u)
    (new : ObjOk X.prog X.w (upd H x o) h' x o) : Inv X pins σ (upd H x o) { s with heap := h', toks := t' } := I.un (Un.write mu he k heo) (I.hok.write mu he k heo new)
theorem Inv.pins_of {pins' : List (Addr × Obj)} (I : Inv X pins σ H s) (h : ∀ p ∈ pins', s.heap.get? p.1 = some p.2 ∧ H p.1 = none ∧ p.1 ≠ X.env.locals ∧ p.1 ∉ X.fs ∧ ∀ v, p.2.data ≠ .cell v) : Inv X pins' σ H s :=
  ⟨I.ok, I.os, I.bare, I.base, I.loc, I.cell, I.free, I.freeC, fun p hp => (List.mem_append.mp hp).elim (fun z => I.pin p (List.mem_append_left _ z)) (h p), I.hok, I.len⟩
theorem nodup_ix {N : List Str} (hN : N.Nodup) {i j : Nat} {x : Str} (a : N[i]? = some x) (b : N[j]? = some x) : i = j := by
  obtain ⟨h1, e1⟩ := List.getElem?_eq_some_iff.mp a
  obtain ⟨h2, e2⟩ := List.getElem?_eq_some_iff.mp b
  exact (List.getElem_inj hN).mp (e1.trans e2.symm)
theorem store_ok2 {M : Model} {A : Around} {E : Value → Shared → Prop} {i : Nat} {x : Str} {v : V} {u : Value} {Q : Unit → Shared → Prop} (I : Inv X pins σ H s) (hN : X.N.Nodup) (hi : X.N[i]? = some x) (hx : Loc X.env.scope x) (r : RelV v u)
    (h : ∀ s', Inv X pins (σ.set i (some v)) H s' → (∃ a, Heap.SameBut a s.heap s'.heap ∧ (a = X.env.locals ∨ X.env.cells.lookup x = some a)) → Q () s') (hf : X.fn x = true ∨ X.env.scope.names.lookup x = some .local := by first | exact .inl rfl | exact .inr rfl | assumption) : wpAny M A (storeName X.env x u) Q E s := by
  obtain ⟨m, hn, hl⟩ := id I.loc
  have hcls : (X.env.scope.kind == .class || (X.env.scope.kind == .module && X.env.locals != X.env.globals)) = false := by rw [I.ok.kind]; rfl
  have hiσ : i < σ.length := by rw [I.len]; exact (List.getElem?_eq_some_iff.mp hi).1
  have cne := I.cne
  have tracked : ∀ {a : Addr} {h' : Heap}, (∃ o, s.heap.get? a = some o ∧ H a = none) → Heap.SameBut a s.heap h' → HOk X.prog X.w H h' := fun {a h'} ha hs b ob e => by
    obtain ⟨_, _, hfree⟩ := ha
    refine (I.hok b ob e).stay (fun c w' hc q => (hs.2 c ?_).trans q) (fun _ q => q) fun _ _ q => q
    rintro rfl
    rcases hc with rfl | hc
    · rw [hfree] at e; cases e
    · rw [hfree] at hc; cases hc
  rcases hx with hk | hk
  · refine wpAny_storeName_local hk hn (fun h' hn' hs => ?_) hcls
    obtain ⟨oL, _, _, hoL, _⟩ := id hn
    refine h _ ⟨I.ok, I.os, I.bare, ⟨fun b o e n hb hx => ?_, fun b o e n hb hx => ?_, I.base.free, fun b o e hx => ?_, I.base.tups, I.base.frzs, I.base.tbls⟩, ⟨_, hn', fun j y v' e1 e2 e3 => ?_⟩, fun y c e => ?_, I.free, I.freeC, fun p hp => ?_, tracked ⟨oL, hoL, I.free⟩ hs, by simpa using I.len⟩ ⟨_, hs, .inl rfl⟩
    · exact (hs.2 b (Nat.ne_of_lt (Nat.lt_of_lt_of_le (Heap.lt_size e) I.ok.above))).trans (I.base.keep b o e n hb hx)
    · obtain ⟨sl, e1⟩ := I.base.slot b o e n hb hx
      exact ⟨sl, (hs.2 b (Nat.ne_of_lt (Nat.lt_of_lt_of_le (Heap.lt_size e) I.ok.above))).trans e1⟩
    · obtain ⟨o', e1⟩ := I.base.there b o e hx
      exact ⟨o', (hs.2 b (Nat.ne_of_lt (Nat.lt_of_lt_of_le (Heap.lt_size e) I.ok.above))).trans e1⟩
    · by_cases hj : j = i
      · subst hj
        rw [hi] at e1; cases e1
        rw [List.getElem?_set_self hiσ] at e2
        cases e2
        exact ⟨u, r, .inl ⟨hk, by simp⟩⟩
      · rw [List.getElem?_set_ne (Ne.symm hj)] at e2
        obtain ⟨u', r', q⟩ := hl j y v' e1 e2 e3
        refine ⟨u', r', ?_⟩
        rcases q with ⟨k, e⟩ | ⟨k, c, e, z⟩
        · refine .inl ⟨k, ?_⟩
          have : y ≠ x := fun e => hj (nodup_ix hN e1 (e ▸ hi))
          simp [this, e]
        · exact .inr ⟨k, c, e, z.sameBut hs (cne y c e)⟩
    · obtain ⟨w', z⟩ := I.cell y c e
      exact ⟨w', z.sameBut hs (cne y c e)⟩
    · obtain ⟨e, n, ne, nf, d⟩ := I.pin p hp
      exact ⟨(hs.2 p.1 ne).trans e, n, ne, nf, d⟩
  · have hfn : X.fn x = true := by
      rcases hf with z | z
      · exact z
      · rw [z] at hk; cases hk
    obtain ⟨c, hc⟩ := I.ok.has x (.inl hk)
    obtain ⟨w', z⟩ := I.cell x c hc
    refine wpAny_storeName_cell I.ok.kind hk hc z (fun h' hc' hs => ?_)
    obtain ⟨oc, hoc, hocd⟩ := id z
    refine h { s with heap := h' } ⟨I.ok, I.os, I.bare, ⟨fun b o e n hb hx => ?_, fun b o e n hb hx => ?_, I.base.free, fun b o e hx => ?_, I.base.tups, I.base.frzs, I.base.tbls⟩, ⟨m, hn.sameBut hs (Ne.symm (cne x c hc)), fun j y v' e1 e2 e3 => ?_⟩, fun y c' e => ?_, I.free, I.freeC, fun p hp => ?_, tracked ⟨oc, hoc, I.freeC x c hc⟩ hs, by simpa using I.len⟩ ⟨c, hs, .inr hc⟩
    · exact (hs.2 b (Nat.ne_of_lt (Nat.lt_of_lt_of_le (Heap.lt_size e) (I.ok.cab x c hfn hc)))).trans (I.base.keep b o e n hb hx)
    · obtain ⟨sl, e1⟩ := I.base.slot b o e n hb hx
      exact ⟨sl, (hs.2 b (Nat.ne_of_lt (Nat.lt_of_lt_of_le (Heap.lt_size e) (I.ok.cab x c hfn hc)))).trans e1⟩
    · obtain ⟨o', e1⟩ := I.base.there b o e hx
      exact ⟨o', (hs.2 b (Nat.ne_of_lt (Nat.lt_of_lt_of_le (Heap.lt_size e) (I.ok.cab x c hfn hc)))).trans e1⟩
    · by_cases hj : j = i
      · subst hj
        rw [hi] at e1; cases e1
        rw [List.getElem?_set_self hiσ] at e2
        cases e2
        exact ⟨u, r, .inr ⟨.inl hk, c, hc, hc'⟩⟩
      · rw [List.getElem?_set_ne (Ne.symm hj)] at e2
        obtain ⟨u', r', q⟩ := hl j y v' e1 e2 e3
        refine ⟨u', r', ?_⟩
        rcases q with q | ⟨k, c', e, z'⟩
        · exact .inl q
        · refine .inr ⟨k, c', e, z'.sameBut hs ?_⟩
          rintro rfl
          exact hj (nodup_ix hN e1 (I.ok.inj _ _ _ e hc ▸ hi))
    · by_cases hcc : c' = c
      · subst hcc; exact ⟨_, hc'⟩
      · obtain ⟨w2, z2⟩ := I.cell y c' e
        exact ⟨w2, z2.sameBut hs hcc⟩
    · obtain ⟨e, n, ne, nf, d⟩ := I.pin p hp
      refine ⟨(hs.2 p.1 ?_).trans e, n, ne, nf, d⟩
      intro q
      rw [q, hoc] at e
      have q' : oc = p.2 := Option.some.inj e
      exact d w' (by rw [← q']; exact hocd)
theorem store_ok {M : Model} {A : Around} {E : Value → Shared → Prop} {i : Nat} {x : Str} {v : V} {u : Value} {Q : Unit → Shared → Prop} (I : Inv X pins σ H s) (hN : X.N.Nodup) (hi : X.N[i]? = some x) (hx : Loc X.env.scope x) (r : RelV v u)
    (h : ∀ s', Inv X pins (σ.set i (some v)) H s' → Q () s') (hf : X.fn x = true ∨ X.env.scope.names.lookup x = some .local := by first | exact .inl rfl | exact .inr rfl | assumption) : wpAny M A (storeName X.env x u) Q E s :=
  store_ok2 I hN hi hx r (fun s' I' _ => h s' I') hf
theorem Inv.call' {s' : Shared} {ch : List Addr} (I : Inv X pins σ H s) (ho : s'.os = s.os) (u : Un (frs X.stack) ch H H' s.heap s'.heap) (hok : HOk X.prog X.w H' s'.heap) (hg : AllBare s'.gens)
    (hch : ∀ b ∈ ch, (b ∈ X.ex ∨ X.s₀.heap.objs.size ≤ b) ∧ b ≠ X.env.locals ∧ (∀ x c, X.env.cells.lookup x = some c → c ≠ b) ∧ ∀ p ∈ X.pn ++ pins, p.1 ≠ b) : Inv X pins σ H' s' := by
  obtain ⟨h', g', d', t', o'⟩ := s'
  have e : o' = s.os := ho
  subst e
  exact I.call (g' := g') (t' := t') (d' := d') u hok hg hch
end
abbrev XK := Value → Option Addr → Hp → Prop
abbrev St := List (Option V)
abbrev VK := V → Hp → Prop
abbrev TE := St → Hp → VK → Prop
abbrev TT := St → Hp → (Bool → Hp → Prop) → Prop
abbrev TA := St → Hp → (List V → Hp → Prop) → Prop
structure Ends where
  nx : St → Hp → Prop
  rt : VK
  bk : St → Hp → Prop := fun _ _ => False
  ct : St → Hp → Prop := fun _ _ => False
abbrev TS := Ends → St → Hp → Prop
def EP (X : Cx) (pins : List (Addr × Obj)) (σ : St) (Q : VK) (u : Value) (s' : Shared) : Prop := ∃ v H', Inv X pins σ H' s' ∧ RelV v u ∧ Q v H'
def TP (X : Cx) (pins : List (Addr × Obj)) (σ : St) (Q : Bool → Hp → Prop) (b : Bool) (s' : Shared) : Prop := ∃ H', Inv X pins σ H' s' ∧ Q b H'
def AP (X : Cx) (pins : List (Addr × Obj)) (σ : St) (Q : List V → Hp → Prop) (us : List Value) (s' : Shared) : Prop := ∃ vs H', Inv X pins σ H' s' ∧ Vals vs us ∧ Q vs H'
def SP (X : Cx) (pins : List (Addr × Obj)) (D : Ends) (f : Flow) (s' : Shared) : Prop :=
  match f with
  | .next => ∃ σ' H', Inv X pins σ' H' s' ∧ D.nx σ' H'
  | .brk => ∃ σ' H', Inv X pins σ' H' s' ∧ D.bk σ' H'
  | .cont => ∃ σ' H', Inv X pins σ' H' s' ∧ D.ct σ' H'
  | .ret u => ∃ v σ' H', Inv X pins σ' H' s' ∧ RelV v u ∧ D.rt v H'
def PE (X : Cx) (e : Expr) (t : TE) : Prop :=
  ∀ (pins : List (Addr × Obj)) (s : Shared) (σ : St) (H : Hp) (Q : VK), Inv X pins σ H s → t σ H Q → wpAny (model X.prog X.w) X.A (eval e X.env) (EP X pins σ Q) X.xe s
def PT (X : Cx) (e : Expr) (t : TT) : Prop :=
  ∀ (pins : List (Addr × Obj)) (s : Shared) (σ : St) (H : Hp) (Q : Bool → Hp → Prop), Inv X pins σ H s → t σ H Q → wpAny (model X.prog X.w) X.A (isTrue e X.env (eval e X.env)) (TP X pins σ Q) X.xe s
def PW (X : Cx) (e : Expr) (t : TT) : Prop :=
  ∀ (whole : Sem Value) (pins : List (Addr × Obj)) (s : Shared) (σ : St) (H : Hp) (Q : Bool → Hp → Prop), Inv X pins σ H s → t σ H Q → wpAny (model X.prog X.w) X.A (isTrue e X.env whole) (TP X pins σ Q) X.xe s
theorem PW.pt {X : Cx} {e : Expr} {t : TT} (h : PW X e t) : PT X e t := h _
def PA (X : Cx) (es : List Expr) (t : TA) : Prop :=
  ∀ (pos : Pos) (pins : List (Addr × Obj)) (s : Shared) (σ : St) (H : Hp) (Q : List V → Hp → Prop), Inv X pins σ H s → t σ H Q → wpAny (model X.prog X.w) X.A (spliced (backTo pos (starEach es X.env))) (AP X pins σ Q) X.xe s
def PS (X : Cx) (st : Stmt) (t : TS) : Prop :=
  ∀ (pins : List (Addr × Obj)) (s : Shared) (σ : St) (H : Hp) (D : Ends), Inv X pins σ H s → t D σ H → wpAny (model X.prog X.w) X.A (exec st X.env) (SP X pins D) X.xe s
def PSs (X : Cx) (st : List Stmt) (t : TS) : Prop :=
  ∀ (pins : List (Addr × Obj)) (s : Shared) (σ : St) (H : Hp) (D : Ends), Inv X pins σ H s → t D σ H → wpAny (model X.prog X.w) X.A (execs st X.env) (SP X pins D) X.xe s
theorem thn {α : Type} {t : Sem α} {Q Q' : α → Shared → Prop} {M : Model} {A : Around} {E : Value → Shared → Prop} {s : Shared} (h : wpAny M A t Q E s) (hQ : ∀ a s, Q a s → Q' a s) : wpAny M A t Q' E s := wpAny_mono h hQ fun _ _ x => x
end L2
namespace L2
open PySem PySem.Spec PyProof.Rows
section
variable {X : Cx}
def tVar (i : Nat) : TE := fun σ H Q => ∃ v, σ[i]? = some (some v) ∧ Q v H
def tC (v : V) : TE := fun _ H Q => Q v H
theorem pe_var {i : Nat} {x : Str} {pos : Pos} (hN : X.N[i]? = some x) (hv : Vis X.env.scope x) (hd : (x == ("__debug__" : Str)) = false := by decide) (hcd : (x == ("__classdict__" : Str)) = false := by decide) : PE X (.Name x pos) (tVar i) := by
  intro pins s σ H Q I h
  obtain ⟨v, e, h⟩ := h
  obtain ⟨m, hn, hl⟩ := I.loc
  obtain ⟨u, r, l⟩ := hl i x v hN e hv
  have fin : EP X pins σ Q u s := ⟨v, H, I, r, h⟩
  rcases l with ⟨hk, hm⟩ | ⟨hk, c, hc, hcell⟩
  · exact wpAny_Name (wpAny_loadName_local I.ok.kind hk hn hm fin) hd
  · rcases hk with hk | hk
    · exact wpAny_Name (wpAny_loadName_cell I.ok.kind hk hc hcell fin) hd
    · exact wpAny_Name (wpAny_loadName_free I.ok.kind hk hc hcell fin hcd) hd
theorem pe_int {i j pos} : PE X (.Constant (.int i) j pos) (tC (.int i)) := fun _ _ _ H _ I h => wpAny_Constant_int ⟨.int i, H, I.tok _, ⟨_, rfl⟩, h⟩
theorem pe_bl {b j pos} : PE X (.Constant (.bool b) j pos) (tC (.bl b)) := fun _ _ _ H _ I h => Constant_bool ⟨.bl b, H, I, rfl, h⟩
theorem pe_non {j pos} : PE X (.Constant .none j pos) (tC .non) := fun _ _ _ H _ I h => Constant_none ⟨.non, H, I, rfl, h⟩
theorem pe_str {x j pos} : PE X (.Constant (.str x) j pos) (tC (.str x)) := fun _ _ _ H _ I h => Calls.Constant_str ⟨.str x, H, I.tok _, ⟨_, rfl⟩, h⟩
def Gl (X : Cx) (x : Str) : Prop := X.env.kindOf x = some .globalImplicit
theorem ld_glob {E : Value → Shared → Prop} {pins : List (Addr × Obj)} {s : Shared} {σ : St} {H : Hp} {x : Str} {u : Value} {pos : Pos} {Q : Value → Shared → Prop} (I : Inv X pins σ H s) (hg : Gl X x) (hm : X.mg x = some u) (h : Q u s)
    (hd : (x == ("__debug__" : Str)) = false := by decide) : wpAny (model X.prog X.w) X.A (eval (.Name x pos) X.env) Q E s :=
  Calls.Name_function_global I.ok.kind hg (Calls.loadGlobal_global (by rw [I.ok.glob]; exact I.mod.glob.keeps I.bk) hm h) hd
theorem ld_blt {E : Value → Shared → Prop} {pins : List (Addr × Obj)} {s : Shared} {σ : St} {H : Hp} {x : Str} {u : Value} {pos : Pos} {Q : Value → Shared → Prop} (I : Inv X pins σ H s) (hg : Gl X x) (hm : X.mg x = none) (hv : bootBuiltins x = some u) (h : Q u s)
    (hn : x ≠ "__name__" := by decide) (hd : (x == ("__debug__" : Str)) = false := by decide) : wpAny (model X.prog X.w) X.A (eval (.Name x pos) X.env) Q E s := by
  obtain ⟨mb, h1, h2⟩ := I.mod.blt
  exact Calls.Name_function_global I.ok.kind hg (Calls.loadGlobal_builtin (by rw [I.ok.glob]; exact I.mod.glob.keeps I.bk) hm (by rw [I.ok.blt]; exact h1.keeps I.bk) ((h2 x hn).trans hv) h) hd
theorem pe_glob {x : Str} {v : V} {u : Value} {pos : Pos} (hg : Gl X x) (hm : X.mg x = some u) (r : RelV v u) (hd : (x == ("__debug__" : Str)) = false := by decide) : PE X (.Name x pos) (tC v) :=
  fun _ _ _ H _ I h => ld_glob I hg hm ⟨v, H, I, r, h⟩ hd
theorem pe_bltn {x : Str} {v : V} {u : Value} {pos : Pos} (hg : Gl X x) (hm : X.mg x = none) (hv : bootBuiltins x = some u) (r : RelV v u) (hn : x ≠ "__name__" := by decide) (hd : (x == ("__debug__" : Str)) = false := by decide) : PE X (.Name x pos) (tC v) :=
  fun _ _ _ H _ I h => ld_blt I hg hm hv ⟨v, H, I, r, h⟩ hn hd
variable {a b : Expr} {ta tb : TE} {pos : Pos}
def PC (X : Cx) (op : CmpOp) (a b : Expr) (t : TE) : Prop :=
  ∀ (pins : List (Addr × Obj)) (s : Shared) (σ : St) (H : Hp) (Q : VK), Inv X pins σ H s → t σ H Q →
    wpAny (model X.prog X.w) X.A (eval a X.env) (fun v s₁ => wpAny (model X.prog X.w) X.A (eval b X.env) (fun u s₂ => wpAny (model X.prog X.w) X.A (compareOp op v u) (EP X pins σ Q) X.xe s₂) X.xe s₁) X.xe s
def tB (t : TE) : TT := fun σ H Q => t σ H fun x H1 => ∃ c, x = .bl c ∧ Q c H1
theorem pt_cmp {op : CmpOp} {t : TE} (h : PC X op a b t) (h1 : behindInMarks op b = false := by first | exact nobehind _ (by decide) (by decide) | rfl) : PT X (.Compare a [op] [b] pos) (tB t) := by
  intro pins s σ H Q I hw
  refine wpAny_isTrue_Compare1 (thn (h pins s σ H _ I hw) fun v s1 h1 => thn h1 fun u s2 h2 => thn h2 fun c s3 ⟨x, H1, I1, r1, q1⟩ => ?_) h1
  obtain ⟨d, rfl, q⟩ := q1
  cases r1
  exact wpAny_truthy_bool ⟨H1, I1, q⟩
theorem pt_val {e : Expr} {t : TE} (h : PE X e t) (he : ∀ whole, isTrue e X.env whole = (do let v ← whole; standAt e.pos; holding [v] (truthy v)) := by intro _; rfl) : PT X e (tB t) := by
  intro pins s σ H Q I hw
  refine isTrue_plain (thn (h pins s σ H _ I hw) fun v s1 ⟨x, H1, I1, r1, q1⟩ => ?_) (he _)
  obtain ⟨d, rfl, q⟩ := q1
  cases r1
  exact wpAny_truthy_bool ⟨H1, I1, q⟩
variable {tA tB' : TT} {rest : List Expr}
def tAnd (t u : TT) : TT := fun σ H Q => t σ H fun c H1 => if c = true then u σ H1 Q else Q false H1
def tOr (t u : TT) : TT := fun σ H Q => t σ H fun c H1 => if c = true then Q true H1 else u σ H1 Q
def tNot (t : TT) : TT := fun σ H Q => t σ H fun c H1 => Q (!c) H1
theorem pw_and1 (ha : PT X a tA) : PW X (.BoolOp .And [a] pos) tA := by
  intro wh pins s σ H Q I h
  refine isTrue_and (thn (ha pins s σ H Q I h) fun c s1 e => ?_)
  cases c with
  | true => exact isTrue_and_nil e
  | false => exact e
theorem pw_or1 (ha : PT X a tA) : PW X (.BoolOp .Or [a] pos) tA := by
  intro wh pins s σ H Q I h
  refine isTrue_or (thn (ha pins s σ H Q I h) fun c s1 e => ?_)
  cases c with
  | false => exact isTrue_or_nil e
  | true => exact e
theorem pw_and (ha : PT X a tA) (hb : PW X (.BoolOp .And (b :: rest) pos) tB') : PW X (.BoolOp .And (a :: b :: rest) pos) (tAnd tA tB') := by
  intro wh pins s σ H Q I h
  refine isTrue_and (thn (ha pins s σ H _ I h) ?_)
  rintro c s1 ⟨H1, I1, q1⟩
  cases c with
  | true => exact hb wh pins s1 σ H1 Q I1 q1
  | false => exact ⟨H1, I1, q1⟩
theorem pw_or (ha : PT X a tA) (hb : PW X (.BoolOp .Or (b :: rest) pos) tB') : PW X (.BoolOp .Or (a :: b :: rest) pos) (tOr tA tB') := by
  intro wh pins s σ H Q I h
  refine isTrue_or (thn (ha pins s σ H _ I h) ?_)
  rintro c s1 ⟨H1, I1, q1⟩
  cases c with
  | true => exact ⟨H1, I1, q1⟩
  | false => exact hb wh pins s1 σ H1 Q I1 q1
theorem pt_not (ha : PT X a tA) : PT X (.UnaryOp .Not a pos) (tNot tA) := by
  intro pins s σ H Q I h
  exact isTrue_not (ha pins s σ H (fun c H1 => Q (!c) H1) I h)
def tAndV (ta tb : TE) : TE := fun σ H Q => ta σ H fun x H1 => ∃ c, x = .bl c ∧ if c = true then tb σ H1 Q else Q (.bl false) H1
theorem pe_one {op} {t : TE} (h : PE X a t) : PE X (.BoolOp op [a] pos) t := fun pins s σ H Q I hw => BoolOp_one (h pins s σ H Q I hw)
theorem pe_and (ha : PE X a ta) (hb : PE X (.BoolOp .And (b :: rest) pos) tb) : PE X (.BoolOp .And (a :: b :: rest) pos) (tAndV ta tb) := by
  intro pins s σ H Q I h
  refine BoolOp_and (thn (ha pins s σ H _ I h) ?_)
  rintro v s1 ⟨x, H1, I1, r1, q1⟩
  obtain ⟨c, rfl, q1⟩ := q1
  cases r1
  refine wpAny_truthy_bool ?_
  cases c with
  | true => exact hb pins s1 σ H1 Q I1 q1
  | false => exact ⟨.bl false, H1, I1, rfl, q1⟩
def tIf (t : TT) (ta tb : TE) : TE := fun σ H Q => t σ H fun c H1 => if c = true then ta σ H1 Q else tb σ H1 Q
theorem pe_ifExp {c : Expr} (hc : PT X c tA) (ha : PE X a ta) (hb : PE X b tb) : PE X (.IfExp c a b pos) (tIf tA ta tb) := by
  intro pins s σ H Q I h
  refine wpAny_IfExp (thn (hc pins s σ H _ I h) ?_)
  rintro d s1 ⟨H1, I1, q1⟩
  cases d with
  | true => exact ha pins s1 σ H1 Q I1 q1
  | false => exact hb pins s1 σ H1 Q I1 q1
end
end L2
namespace L2
open PySem PySem.Spec PyProof.Rows
def SqL (K : PySem.W.Frag) (H : Hp) (a : Addr) (xs : List V) : Prop :=
  Rd H a (.lst xs) ∨
    ∃ (o : Obj) (its : Array Value) (n : Nat), K.lookup a = some o ∧ o.cls = .type "list" ∧ o.dict = none ∧ o.data = .seq its n ∧ its.size ≤ sizeLine ∧ Vals xs its.toList
def SqT (K : PySem.W.Frag) (H : Hp) (a : Addr) (xs : List V) : Prop :=
  Rd H a (.tup xs) ∨
    ∃ (o : Obj) (its : Array Value) (n : Nat), K.lookup a = some o ∧ o.cls = .type "tuple" ∧ o.data = .seq its n ∧ its.size ≤ sizeLine ∧ Vals xs its.toList
def absV : Value → Option V
  | .none => some .non
  | .bool b => some (.bl b)
  | .int i _ => some (.int i)
  | .str x _ => some (.str x)
  | .bytes b _ => some (.byt b)
  | .float b _ => some (.flt b)
  | .ref a => some (.ref a)
  | .type n => some (.ty n)
  | _ => none
theorem RelV.abs {x : V} {u : Value} (r : RelV x u) : absV u = some x := by
  cases x with
  | non => cases r; rfl
  | bl _ => cases r; rfl
  | int _ => obtain ⟨t, rfl⟩ := r; rfl
  | str _ => obtain ⟨t, rfl⟩ := r; rfl
  | byt _ => obtain ⟨t, rfl⟩ := r; rfl
  | flt _ => obtain ⟨t, rfl⟩ := r; rfl
  | ref _ => cases r; rfl
  | ty _ => cases r; rfl
theorem RelV.inj {x y : V} {u : Value} (r : RelV x u) (q : RelV y u) : x = y := Option.some.inj (r.abs.symm.trans q.abs)
theorem Vals.inj : ∀ {xs ys : List V} {us : List Value}, Vals xs us → Vals ys us → xs = ys
  | _, _, _, .nil, .nil => rfl
  | _, _, _, .cons r t, .cons r' t' => by rw [r.inj r', Vals.inj t t']
section
variable {X : Cx} {pins : List (Addr × Obj)} {σ : St} {H : Hp} {s : Shared} {a : Addr} {xs ys : List V}
theorem SqL.of {K : PySem.W.Frag} (h : H a = some (.lst xs)) : SqL K H a xs := .inl (.inl h)
theorem SqT.of {K : PySem.W.Frag} (h : H a = some (.tup xs)) : SqT K H a xs := .inl (.inl h)
theorem Inv.list (I : Inv X pins σ H s) (h : SqL X.K H a xs) : ∃ its : List Value, Vals xs its ∧ PlainL s.heap a its.toArray ∧ xs.length ≤ sizeLine := by
  rcases h with h | ⟨o, its, n, hk, hc, hd, hs, hz, r⟩
  · obtain ⟨z, its, n, r, e⟩ := h.ok I.hok
    exact ⟨its, r, ⟨_, n, e, rfl, rfl, rfl⟩, z⟩
  · refine ⟨its.toList, r, ⟨o, n, I.kIn a o hk, hc, hd, by simpa using hs⟩, ?_⟩
    have e := r.length
    simp only [Array.length_toList] at e
    omega
theorem Inv.tuple (I : Inv X pins σ H s) (h : SqT X.K H a xs) : ∃ its : List Value, Vals xs its ∧ IsTup s.heap a its.toArray ∧ xs.length ≤ sizeLine := by
  rcases h with h | ⟨o, its, n, hk, hc, hs, hz, r⟩
  · obtain ⟨⟨z, _⟩, its, r, p⟩ := h.ok I.hok
    exact ⟨its, r, p, z⟩
  · refine ⟨its.toList, r, ⟨o, I.kIn a o hk, hc, n, by simpa using hs⟩, ?_⟩
    have e := r.length
    simp only [Array.length_toList] at e
    omega
theorem Inv.list_inj (I : Inv X pins σ H s) (h : SqL X.K H a xs) (h' : SqL X.K H a ys) : xs = ys := by
  obtain ⟨its, r, ⟨o, n, e, _, _, d⟩, _⟩ := I.list h
  obtain ⟨its', r', ⟨o', n', e', _, _, d'⟩, _⟩ := I.list h'
  rw [e] at e'; cases e'
  rw [d] at d'
  injection d' with d1 _
  have : its = its' := by simpa using congrArg Array.toList d1
  subst this
  exact r.inj r'
theorem Inv.tuple_inj (I : Inv X pins σ H s) (h : SqT X.K H a xs) (h' : SqT X.K H a ys) : xs = ys := by
  obtain ⟨its, r, ⟨o, e, _, n, d⟩, _⟩ := I.tuple h
  obtain ⟨its', r', ⟨o', e', _, n', d'⟩, _⟩ := I.tuple h'
  rw [e] at e'; cases e'
  rw [d] at d'
  injection d' with d1 _
  have : its = its' := by simpa using congrArg Array.toList d1
  subst this
  exact r.inj r'
end
abbrev Cx.wish (X : Cx) (E : Value → Shared → Prop) : Cx := { X with xe := E }
abbrev Cx.nox (X : Cx) : Cx := X.wish fun _ _ => False
theorem Cx.Ok.wish {X : Cx} (ok : X.Ok) (E : Value → Shared → Prop) : (X.wish E).Ok :=
  ⟨ok.mod, ok.kind, ok.glob, ok.blt, ok.above, ok.inj, ok.has, ok.cab, ok.hd, ok.frames, ok.stk, ok.exf, ok.bs, ok.bsz, ok.noex, ok.exfs, ok.funs, ok.frf⟩
theorem Cx.Ok.unwish {X : Cx} {E : Value → Shared → Prop} (ok : (X.wish E).Ok) : X.Ok :=
  ⟨ok.mod, ok.kind, ok.glob, ok.blt, ok.above, ok.inj, ok.has, ok.cab, ok.hd, ok.frames, ok.stk, ok.exf, ok.bs, ok.bsz, ok.noex, ok.exfs, ok.funs, ok.frf⟩
section
variable {X : Cx} {pins : List (Addr × Obj)} {σ : St} {H : Hp} {s : Shared} {E : Value → Shared → Prop}
theorem Inv.wish (I : Inv X pins σ H s) (E : Value → Shared → Prop) : Inv (X.wish E) pins σ H s := ⟨I.ok.wish E, I.os, I.bare, I.base, I.loc, I.cell, I.free, I.freeC, I.pin, I.hok, I.len⟩
theorem Inv.unwish (I : Inv (X.wish E) pins σ H s) : Inv X pins σ H s := ⟨I.ok.unwish, I.os, I.bare, I.base, I.loc, I.cell, I.free, I.freeC, I.pin, I.hok, I.len⟩
theorem SP.unwish {D : Ends} {f : Flow} {s' : Shared} (h : SP (X.wish E) pins D f s') : SP X pins D f s' := by
  cases f with
  | next => obtain ⟨σ', H', I, q⟩ := h; exact ⟨σ', H', I.unwish, q⟩
  | brk => obtain ⟨σ', H', I, q⟩ := h; exact ⟨σ', H', I.unwish, q⟩
  | cont => obtain ⟨σ', H', I, q⟩ := h; exact ⟨σ', H', I.unwish, q⟩
  | ret u => obtain ⟨v, σ', H', I, r, q⟩ := h; exact ⟨v, σ', H', I.unwish, r, q⟩
theorem PSs.nox {st : List Stmt} {t : TS} (h : PSs X.nox st t) : PSs X st t := fun pins s σ H D I hw =>
  wpAny_mono (h pins s σ H D (I.wish _) hw) (fun _ _ q => q.unwish) fun _ _ z => False.elim z
end
section
variable {X : Cx} {st : Stmt} {rest : List Stmt} {t u : TS} {e : Expr} {te : TE} {pos : Pos}
def tNext : TS := fun D σ H => D.nx σ H
def tSeq (t u : TS) : TS := fun D σ H => t { D with nx := u D } σ H
theorem pss_nil : PSs X [] tNext := fun _ _ σ H _ I h => wpAny_execs_nil ⟨σ, H, I, h⟩
theorem pss_cons (h1 : PS X st t) (h2 : PSs X rest u) : PSs X (st :: rest) (tSeq t u) := by
  intro pins s σ H D I h
  refine wpAny_execs_cons (thn (h1 pins s σ H { D with nx := u D } I h) fun f s1 q => ?_)
  cases f with
  | next =>
    obtain ⟨σ', H', I', q⟩ := q
    exact h2 pins s1 σ' H' D I' q
  | ret v => exact q
  | brk => exact q
  | cont => exact q
theorem pss_one (h1 : PS X st t) : PSs X [st] t := by
  intro pins s σ H D I h
  refine wpAny_execs_cons (thn (h1 pins s σ H D I h) fun f s1 q => ?_)
  cases f with
  | next => exact wpAny_execs_nil q
  | ret v => exact q
  | brk => exact q
  | cont => exact q
theorem Inv.quiet {pins : List (Addr × Obj)} {σ : St} {H : Hp} {s : Shared} (I : Inv X pins σ H s) : interactive X.env = false := by simp [interactive, I.ok.kind]
def tDrop (te : TE) : TS := fun D σ H => te σ H fun _ H1 => D.nx σ H1
theorem ps_expr (he : PE X e te) (hs : swapsWith e none pos.line X.env = pure false := by rfl) : PS X (.Expr e pos) (tDrop te) := by
  intro pins s σ H D I h
  exact wpAny_Expr_any (thn (he pins s σ H _ I h) fun v s1 ⟨x, H1, I1, r1, q1⟩ => ⟨σ, H1, I1, q1⟩) I.quiet hs
def tRet (te : TE) : TS := fun D σ H => te σ H D.rt
theorem ps_ret (he : PE X e te) : PS X (.Return (some e) pos) (tRet te) := by
  intro pins s σ H D I h
  exact wpAny_Return_some (thn (he pins s σ H _ I h) fun v s1 ⟨x, H1, I1, r1, q1⟩ => ⟨x, σ, H1, I1, r1, q1⟩)
def tIfS (c : TT) (t u : TS) : TS := fun D σ H => c σ H fun b H1 => if b = true then t D σ H1 else u D σ H1
theorem ps_if {c : Expr} {a b : List Stmt} {tc : TT} (hc : PT X c tc) (ha : PSs X a t) (hb : PSs X b u) : PS X (.If c a b pos) (tIfS tc t u) := by
  intro pins s σ H D I h
  refine wpAny_If (thn (hc pins s σ H _ I h) ?_)
  rintro d s1 ⟨H1, I1, q1⟩
  cases d with
  | true => exact ha pins s1 σ H1 D I1 q1
  | false => exact hb pins s1 σ H1 D I1 q1
end
abbrev TG := V → St → Hp → (St → Hp → Prop) → Prop
abbrev TGs := List V → St → Hp → (St → Hp → Prop) → Prop
def PG (X : Cx) (target : Expr) (t : TG) : Prop :=
  ∀ (pins : List (Addr × Obj)) (s : Shared) (σ : St) (H : Hp) (v : V) (u : Value) (Q : St → Hp → Prop), Inv X pins σ H s → RelV v u → t v σ H Q →
    wpAny (model X.prog X.w) X.A (assign target X.env u) (fun _ s' => ∃ σ' H', Inv X pins σ' H' s' ∧ Q σ' H') X.xe s
def PGs (X : Cx) (ts : List Expr) (t : TGs) : Prop :=
  ∀ (pins : List (Addr × Obj)) (s : Shared) (σ : St) (H : Hp) (vs : List V) (us : List Value) (Q : St → Hp → Prop), Inv X pins σ H s → Vals vs us → t vs σ H Q →
    wpAny (model X.prog X.w) X.A (assignInOrder ((assignEach ts X.env).map (·.2)) us) (fun _ s' => ∃ σ' H', Inv X pins σ' H' s' ∧ Q σ' H') X.xe s
abbrev TSet := V → V → V → Hp → (Hp → Prop) → Prop
def PSet (X : Cx) (t : TSet) : Prop :=
  ∀ (pins : List (Addr × Obj)) (s : Shared) (σ : St) (H : Hp) (o i v : V) (ov iv u : Value) (Q : Hp → Prop), Inv X pins σ H s → RelV o ov → RelV i iv → RelV v u → t o i v H Q →
    wpAny (model X.prog X.w) X.A (setItem ov iv u) (fun _ s' => ∃ H', Inv X pins σ H' s' ∧ Q H') X.xe s
section
variable {X : Cx} {pos : Pos}
def gName (i : Nat) : TG := fun v σ H Q => Q (σ.set i (some v)) H
theorem pg_name {i : Nat} {x : Str} (hN : X.N.Nodup) (hi : X.N[i]? = some x) (hx : Loc X.env.scope x) (hf : X.fn x = true ∨ X.env.scope.names.lookup x = some .local := by first | exact .inl rfl | exact .inr rfl | assumption) : PG X (.Name x pos) (gName i) := by
  intro pins s σ H v u Q I r h
  exact wpAny_assign_Name (store_ok I hN hi hx r (fun s' I' => ⟨_, H, I', h⟩) hf)
def gNil : TGs := fun vs σ H Q => vs = [] ∧ Q σ H
def gCons (t : TG) (u : TGs) : TGs := fun vs σ H Q => ∃ v r, vs = v :: r ∧ t v σ H fun σ' H' => u r σ' H' Q
theorem pgs_nil : PGs X [] gNil := by
  intro pins s σ H vs us Q I r h
  obtain ⟨e, h⟩ := h
  subst e
  cases r
  exact assignInOrder_nil ⟨σ, H, I, h⟩
theorem pgs_cons {e : Expr} {es : List Expr} {t : TG} {u : TGs} (h1 : PG X e t) (h2 : PGs X es u)
    (hs : (assignEach (e :: es) X.env).map (·.2) = assign e X.env :: (assignEach es X.env).map (·.2) := by rfl) : PGs X (e :: es) (gCons t u) := by
  intro pins s σ H vs us Q I r h
  obtain ⟨v, vr, e1, h⟩ := h
  subst e1
  cases r with
  | cons r rr =>
    rw [hs]
    refine assignInOrder_cons (thn (h1 pins s σ H _ _ _ I r h) ?_)
    rintro _ s1 ⟨σ1, H1, I1, q1⟩
    exact h2 pins s1 σ1 H1 _ _ Q I1 rr q1
def gTup (K : PySem.W.Frag) (n : Nat) (t : TGs) : TG := fun v σ H Q => ∃ a xs, v = .ref a ∧ SqT K H a xs ∧ xs.length = n ∧ t xs σ H Q
theorem pg_tup {es : List Expr} {k : Nat} {t : TGs} {n : Nat} (hc : X.calm = true) (h : PGs X es t)
    (hn : (assignEach es X.env).length = n := by rfl) (hst : (assignEach es X.env).findIdx? (·.1) = none := by rfl) : PG X (.Tuple es k pos) (gTup X.K n t) := by
  intro pins s σ H v u Q I r hw
  obtain ⟨a, xs, e1, hq, hl, hw⟩ := hw
  subst e1
  cases r
  obtain ⟨its, rv, ht, hz⟩ := I.tuple hq
  refine assign_Tuple_tuple (I.ok.hd hc) ht (by simp [hn, ← hl, rv.length]) hst fun h' hx => ?_
  have I1 : Inv X pins σ H { s with heap := h' } := I.kept (t' := s.toks) fun b o e => hx b o (Nat.ne_of_lt (Heap.lt_size e)) e
  exact h pins _ σ H xs _ Q I1 (by simpa using rv) hw
def gSub (to ti : TE) (t : TSet) : TG := fun v σ H Q => to σ H fun o H1 => ti σ H1 fun i H2 => t o i v H2 fun H3 => Q σ H3
theorem pg_sub {o i : Expr} {to ti : TE} {t : TSet} (ho : PE X o to) (hi : PE X i ti) (hs : PSet X t)
    (ha : ∀ v, assign (.Subscript o i pos) X.env v = (do
      let ov ← holding [v] (eval o X.env)
      let iv ← holding [v, ov] (eval i X.env)
      standAt pos
      holding [v, ov, iv] (setItem ov iv v)
      release [v, ov, iv] []) := by intro _; rfl) : PG X (.Subscript o i pos) (gSub to ti t) := by
  intro pins s σ H v u Q I r h
  rw [ha]
  refine wpAny_bind (wpAny_holding (thn (ho pins s σ H _ I h) ?_))
  rintro ov s1 ⟨x, H1, I1, r1, q1⟩
  refine wpAny_bind (wpAny_holding (thn (hi pins s1 σ H1 _ I1 q1) ?_))
  rintro iv s2 ⟨y, H2, I2, r2, q2⟩
  refine wpAny_bind (wpAny_standAt (wpAny_bind (wpAny_holding (thn (hs pins s2 σ H2 x y v ov iv u _ I2 r1 r2 r q2) ?_))))
  rintro _ s3 ⟨H3, I3, q3⟩
  exact wpAny_release ⟨σ, H3, I3, q3⟩
def tAsg (te : TE) (g : TG) : TS := fun D σ H => te σ H fun x H1 => g x σ H1 D.nx
theorem ps_asg {tg e : Expr} {te : TE} {g : TG} (he : PE X e te) (hg : PG X tg g) (hs : swapsWithSole [tg] e pos.line X.env = pure false := by rfl) (hw : swappedStores [tg] e X.env = pure none := by rfl)
    (h1 : (assignEach [tg] X.env).map (·.2) = [assign tg X.env] := by rfl) : PS X (.Assign [tg] e pos) (tAsg te g) := by
  intro pins s σ H D I h
  refine wpAny_Assign_stores (thn (he pins s σ H _ I h) fun v s1 ⟨x, H1, I1, r1, q1⟩ => ?_) hs hw
  rw [h1]
  exact thn (hg pins s1 σ H1 x v _ I1 r1 q1) fun _ s2 q => q
theorem ps_set {i : Nat} {x : Str} {e : Expr} {te : TE} {pos' : Pos} (hN : X.N.Nodup) (hi : X.N[i]? = some x) (hx : Loc X.env.scope x) (he : PE X e te) (hs : swapsWith e (some (.Name x pos')) pos.line X.env = pure false := by rfl) (hf : X.fn x = true ∨ X.env.scope.names.lookup x = some .local := by first | exact .inl rfl | exact .inr rfl | assumption) :
    PS X (.Assign [.Name x pos'] e pos) (tAsg te (gName i)) := by
  intro pins s σ H D I h
  refine wpAny_Assign_Name (thn (he pins s σ H _ I h) fun v s1 ⟨y, H1, I1, r1, q1⟩ => ?_) hs
  exact store_ok I1 hN hi hx r1 (fun s2 I2 => ⟨_, H1, I2, q1⟩) hf
end
section
variable {X : Cx} {pos : Pos}
def tWhile (c : TT) (tb : TS) : TS := fun D σ H => ∃ W : Nat → St → Hp → Prop, (∃ m, W m σ H) ∧ ∀ m σ H, W m σ H →
  c σ H fun b H1 => if b = true then ∃ N : St → Hp → Prop, (∀ σ' H', N σ' H' → ∃ m', m' < m ∧ W m' σ' H') ∧ tb { D with nx := N, ct := N, bk := D.nx } σ H1 else D.nx σ H1
theorem ps_while {c : Expr} {body : List Stmt} {tc : TT} {tb : TS} (hp : PassesOwn (model X.prog X.w) X.A X.env X.xe) (hc : PT X c tc) (hb : PSs X body tb) : PS X (.While c body [] pos) (tWhile tc tb) := by
  intro pins s σ H D I h
  obtain ⟨W, ⟨m0, w0⟩, turn⟩ := h
  refine wpAny_While (codeAny_whileLoop (fun n s' => ∃ σ' H', Inv X pins σ' H' s' ∧ W n σ' H') ?_ m0 ⟨σ, H, I, w0⟩)
  rintro n s1 ⟨σ1, H1, I1, w1⟩
  refine wpAny_passesOwn hp (thn (hc pins s1 σ1 H1 _ I1 (turn n σ1 H1 w1)) ?_)
  rintro b s2 ⟨H2, I2, q2⟩
  cases b with
  | true =>
    obtain ⟨N, hN, q2⟩ := q2
    rw [if_pos rfl]
    refine wpAny_passesOwn hp (thn (hb pins s2 σ1 H2 _ I2 q2) fun f s3 q3 => ?_)
    cases f with
    | next =>
      obtain ⟨σ3, H3, I3, n3⟩ := q3
      obtain ⟨m', hm, w3⟩ := hN σ3 H3 n3
      exact ⟨m', hm, σ3, H3, I3, w3⟩
    | cont =>
      obtain ⟨σ3, H3, I3, n3⟩ := q3
      obtain ⟨m', hm, w3⟩ := hN σ3 H3 n3
      exact ⟨m', hm, σ3, H3, I3, w3⟩
    | brk => exact q3
    | ret v => exact q3
  | false =>
    rw [if_neg Bool.false_ne_true]
    exact wpAny_execs_nil ⟨σ1, H2, I2, q2⟩
end
structure It where
  go : Nat → Hp → Prop
  yld : Nat → Hp → V → Hp → Prop
  stop : Nat → Hp → Prop
def FpOk (X : Cx) (pins : List (Addr × Obj)) (H : Hp) (b : Addr) : Prop :=
  H b = none ∧ b ≠ X.env.locals ∧ b ∉ X.fs ∧ (b ∈ X.ex ∨ X.s₀.heap.objs.size ≤ b) ∧ (∀ x c, X.env.cells.lookup x = some c → c ≠ b) ∧ ∀ p ∈ X.pn ++ pins, p.1 ≠ b
theorem Inv.fpOk {X : Cx} {pins : List (Addr × Obj)} {σ : St} {H H' : Hp} {s : Shared} {b : Addr} (I : Inv X pins σ H s) (hb : s.heap.objs.size ≤ b) (hn : H' b = none) : FpOk X pins H' b := by
  refine ⟨hn, Nat.ne_of_gt (Nat.lt_of_lt_of_le I.lt hb), I.nofs hb, .inr (Nat.le_trans I.sz hb), fun x c e z => ?_, fun p hp z => ?_⟩
  · obtain ⟨v, q⟩ := I.cell x c e
    exact absurd (Nat.lt_of_lt_of_le q.lt (by rw [z]; exact hb)) (Nat.lt_irrefl _)
  · exact absurd (Nat.lt_of_lt_of_le (Heap.lt_size (I.pin p hp).1) (by rw [z]; exact hb)) (Nat.lt_irrefl _)
structure Turn (P : Program) (w : World) (K : PySem.W.Frag) (tg : Expr) (J : It) (fp : List Addr) (it : Addr) (tn : Nat → Heap → Prop) : Prop where
  mem : it ∈ fp
  obj : ∀ i h, tn i h → ∀ b ∈ fp, ∃ o, h.get? b = some o ∧ ∀ v, o.data ≠ .cell v
  keep : ∀ i h h', tn i h → (∀ b ∈ fp, ∀ o, h.get? b = some o → h'.get? b = some o) → tn i h'
  item : ∀ (X : Cx), X.prog = P → X.w = w → X.K = K → X.calm = true → ∀ (i : Nat) (pins : List (Addr × Obj)) (s : Shared) (σ : St) (H : Hp) (E : Value → Shared → Prop), Inv X pins σ H s → (∀ b ∈ fp, FpOk X pins H b) → tn i s.heap → J.go i H →
    wpAny (model P w) X.A (pyNext (.ref it)) (fun r s1 => ∃ u, r = some u ∧
      wpAny (model P w) X.A (letOwnedTupleGo tg (.ref it) u) (fun _ s2 => ∃ x H', Inv X pins σ H' s2 ∧ RelV x u ∧ J.yld i H x H' ∧ tn (i + 1) s2.heap ∧ ∀ b ∈ fp, H' b = none) E s1) E s
  done : ∀ (X : Cx), X.prog = P → X.w = w → X.K = K → X.calm = true → ∀ (i : Nat) (pins : List (Addr × Obj)) (s : Shared) (σ : St) (H : Hp) (E : Value → Shared → Prop), Inv X pins σ H s → (∀ b ∈ fp, FpOk X pins H b) → tn i s.heap → J.stop i H →
    wpAny (model P w) X.A (pyNext (.ref it)) (fun r s1 => r = none ∧ Inv X pins σ H s1) E s
  self : ∀ (A : Around) (i : Nat) (s : Shared) (Q : Value → Shared → Prop) (E : Value → Shared → Prop), tn i s.heap → Q (.ref it) s → wpAny (model P w) A (pyIter (.ref it)) Q E s
abbrev TI := St → Hp → (It → Hp → Prop) → Prop
def PIE (X : Cx) (pins : List (Addr × Obj)) (σ : St) (tg : Expr) (R : It → Hp → Prop) (itv : Value) (s2 : Shared) : Prop :=
  ∃ (it : Addr) (fp : List Addr) (tn : Nat → Heap → Prop) (J : It) (H' : Hp), itv = .ref it ∧ Inv X pins σ H' s2 ∧ Turn X.prog X.w X.K tg J fp it tn ∧ tn 0 s2.heap ∧ (∀ b ∈ fp, FpOk X pins H' b) ∧ R J H'
def PI (X : Cx) (tg iter : Expr) (wi : TI) : Prop :=
  ∀ (pins : List (Addr × Obj)) (s : Shared) (σ : St) (H : Hp) (R : It → Hp → Prop), Inv X pins σ H s → wi σ H R →
    wpAny (model X.prog X.w) X.A (eval iter X.env) (fun v s1 => wpAny (model X.prog X.w) X.A (pyIter v) (PIE X pins σ tg R) X.xe s1) X.xe s
theorem go_of {M : Model} {A : Around} {E : Value → Shared → Prop} {s : Shared} {tg : Expr} {it : Addr} {u : Value} {o : Obj} {n : String} {vs : Array Value} {Q : Unit → Shared → Prop} (ho : s.heap.get? it = some o) (hc : o.cls = .type n) (hd : o.data = .fields vs)
    (hn : ["enumerate", "zip", "dict_itemiterator", "dict_reverseitemiterator", "odict_iterator", "itertools.zip_longest", "itertools.pairwise"].contains n = false) (hQ : Q () s) : wpAny M A (letOwnedTupleGo tg (.ref it) u) Q E s := by
  unfold letOwnedTupleGo
  cases tg <;> first
    | exact wpAny_pure hQ
    | (cases u <;> first
        | exact wpAny_pure hQ
        | (refine wpAny_bind (wpAny_load ho ?_)
           rw [hc, hd]
           show wpAny M A (if (["enumerate", "zip", "dict_itemiterator", "dict_reverseitemiterator", "odict_iterator", "itertools.zip_longest", "itertools.pairwise"].contains n && vs[0]? == some (rawInt _)) = true then _ else _) Q E s
           rw [if_neg (by intro h; rw [hn, Bool.false_and] at h; cases h)]
           exact wpAny_pure hQ))
def Itl (K : PySem.W.Frag) (a : Addr) : It :=
  ⟨fun i H => ∃ xs x, SqL K H a xs ∧ xs[i]? = some x, fun i H x H' => H' = H ∧ ∀ xs, SqL K H a xs → xs[i]? = some x, fun i H => ∃ xs, SqL K H a xs ∧ xs.length ≤ i⟩
def Itt (K : PySem.W.Frag) (a : Addr) : It :=
  ⟨fun i H => ∃ xs x, SqT K H a xs ∧ xs[i]? = some x, fun i H x H' => H' = H ∧ ∀ xs, SqT K H a xs → xs[i]? = some x, fun i H => ∃ xs, SqT K H a xs ∧ xs.length ≤ i⟩
def Itr (lo : Int) (n : Nat) : It := ⟨fun i _ => i < n, fun i H x H' => H' = H ∧ x = .int (lo + i), fun i _ => n ≤ i⟩
theorem turn_list {P : Program} {w : World} {K : PySem.W.Frag} {tg : Expr} (a it : Addr) : Turn P w K tg (Itl K a) [it] it (fun i h => h.IsListIter it a i) where
  mem := by simp
  obj := fun i h st b hb => by
    have e : b = it := by simpa using hb
    subst e
    obtain ⟨o, e, c, d⟩ := st
    exact ⟨o, e, fun v z => by rw [d] at z; cases z⟩
  keep := fun i h h' st k => st.at fun o e => k it (by simp) o e
  item := by
    intro X hP hw hK hc i pins s σ H E I hf st hg
    subst hP hw hK
    obtain ⟨xs, x, hq, hx⟩ := hg
    obtain ⟨its, rv, p, hz⟩ := I.list hq
    obtain ⟨u, hu, ru⟩ := rv.get hx
    obtain ⟨f0, f1, f2, f3, f4, f5⟩ := hf it (by simp)
    refine wpAny_pyNext_list_item st p.isList (x := u) (by simpa using hu) fun h' st' sb => ?_
    have I1 : Inv X pins σ H { s with heap := h' } := I.turned (t' := s.toks) (fun b o hb e => (sb.2 b hb).trans e) f0 f1 f3 f4 f5
    obtain ⟨o, e, c, d⟩ := id st'
    exact ⟨u, rfl, go_of (s := { s with heap := h' }) e c d (by decide) ⟨x, H, I1, ru, ⟨rfl, fun ys hy => by rw [I.list_inj hy hq]; exact hx⟩, st', fun b hb => (hf b hb).1⟩⟩
  done := by
    intro X hP hw hK hc i pins s σ H E I hf st hg
    subst hP hw hK
    obtain ⟨xs, hq, hx⟩ := hg
    obtain ⟨its, rv, p, hz⟩ := I.list hq
    obtain ⟨f0, f1, f2, f3, f4, f5⟩ := hf it (by simp)
    have hl := rv.length
    exact wpAny_pyNext_list_end (I.ok.hd hc) st p.isList (by simp; omega) fun h' eb => ⟨rfl, I.turned (t' := s.toks) (fun b o hb e => eb b o hb e) f0 f1 f3 f4 f5⟩
  self := fun _ _ _ _ _ st h => wpAny_pyIter_listiter st h
theorem turn_tuple {P : Program} {w : World} {K : PySem.W.Frag} {tg : Expr} (a it : Addr) : Turn P w K tg (Itt K a) [it] it (fun i h => h.IsTupleIter it a i) where
  mem := by simp
  obj := fun i h st b hb => by
    have e : b = it := by simpa using hb
    subst e
    obtain ⟨o, e, c, d⟩ := st
    exact ⟨o, e, fun v z => by rw [d] at z; cases z⟩
  keep := fun i h h' st k => st.at fun o e => k it (by simp) o e
  item := by
    intro X hP hw hK hc i pins s σ H E I hf st hg
    subst hP hw hK
    obtain ⟨xs, x, hq, hx⟩ := hg
    obtain ⟨its, rv, p, hz⟩ := I.tuple hq
    obtain ⟨u, hu, ru⟩ := rv.get hx
    obtain ⟨f0, f1, f2, f3, f4, f5⟩ := hf it (by simp)
    refine wpAny_pyNext_tuple_item st (show s.heap.IsTuple a its.toArray from p) (x := u) (by simpa using hu) fun h' st' sb => ?_
    have I1 : Inv X pins σ H { s with heap := h' } := I.turned (t' := s.toks) (fun b o hb e => (sb.2 b hb).trans e) f0 f1 f3 f4 f5
    obtain ⟨o, e, c, d⟩ := id st'
    exact ⟨u, rfl, go_of (s := { s with heap := h' }) e c d (by decide) ⟨x, H, I1, ru, ⟨rfl, fun ys hy => by rw [I.tuple_inj hy hq]; exact hx⟩, st', fun b hb => (hf b hb).1⟩⟩
  done := by
    intro X hP hw hK hc i pins s σ H E I hf st hg
    subst hP hw hK
    obtain ⟨xs, hq, hx⟩ := hg
    obtain ⟨its, rv, p, hz⟩ := I.tuple hq
    obtain ⟨f0, f1, f2, f3, f4, f5⟩ := hf it (by simp)
    have hl := rv.length
    exact wpAny_pyNext_tuple_end (I.ok.hd hc) st (show s.heap.IsTuple a its.toArray from p) (by simp; omega) fun h' eb => ⟨rfl, I.turned (t' := s.toks) (fun b o hb e => eb b o hb e) f0 f1 f3 f4 f5⟩
  self := fun _ _ _ _ _ st h => wpAny_pyIter_tupleiter st h
theorem turn_range {P : Program} {w : World} {K : PySem.W.Frag} {tg : Expr} (it : Addr) (lo : Int) (n : Nat) : Turn P w K tg (Itr lo n) [it] it (fun i h => IsRangeIter h it (lo + (i : Nat) * 1) ((n : Int) - (i : Nat)) 1) where
  mem := by simp
  obj := fun i h st b hb => by
    have e : b = it := by simpa using hb
    subst e
    exact ⟨_, st, fun v z => by
      have z' : Data.fields _ = Data.cell v := z
      cases z'⟩
  keep := fun i h h' st k => k it (by simp) _ st
  item := by
    intro X hP hw hK hc i pins s σ H E I hf st hg
    subst hP hw hK
    obtain ⟨f0, f1, f2, f3, f4, f5⟩ := hf it (by simp)
    have W := Walks.range (prog := X.prog) (w := X.w) (I.ok.hd hc) it lo 1 n
    refine W.item i s _ _ hg st fun v h' tk hv st' kk => ?_
    obtain ⟨t, rfl⟩ := hv
    have I1 : Inv X pins σ H { s with heap := h', toks := tk } := I.turned (fun b o hb e => kk b o (by simpa using hb) e) f0 f1 f3 f4 f5
    refine ⟨_, rfl, go_of (s := { s with heap := h', toks := tk }) (n := "range_iterator") st' rfl rfl (by decide) ⟨.int (lo + i), H, I1, ⟨t, ?_⟩, ⟨rfl, rfl⟩, st', fun b hb => (hf b hb).1⟩⟩
    rw [Int.mul_one]
  done := by
    intro X hP hw hK hc i pins s σ H E I hf st hg
    subst hP hw hK
    obtain ⟨f0, f1, f2, f3, f4, f5⟩ := hf it (by simp)
    exact wpAny_pyNext_range_end (I.ok.hd hc) st (by have : n ≤ i := hg; omega) fun h' eb => ⟨rfl, I.turned (t' := s.toks) (fun b o hb e => eb b o hb e) f0 f1 f3 f4 f5⟩
  self := fun _ _ _ _ _ st h => wpAny_pyIter_rangeiter st h
end L2
namespace L2
open PySem PySem.Spec PyProof.Rows
section
variable {X : Cx} {tg : Expr}
theorem range_it {pins : List (Addr × Obj)} {σ : St} {H : Hp} {s : Shared} {R : It → Hp → Prop} {E : Value → Shared → Prop} {lo hi : Int} {t u v : Tok} {tk : Nat} (I : Inv X pins σ H s) (h1 : -(2 ^ 62) ≤ lo) (h2 : lo < 2 ^ 62) (h3 : -(2 ^ 62) ≤ hi) (h4 : hi < 2 ^ 62)
    (q : R (Itr lo (hi - lo).toNat) H) : wpAny (model X.prog X.w) X.A (pyIter (.ref s.heap.objs.size)) (PIE X pins σ tg R) E { s with heap := s.heap.push { cls := .type "range", data := .fields #[.int lo t, .int hi u, .int 1 v] }, toks := tk } := by
  refine wpAny_pyIter_range (IsRange.new ..) (small_one h1 h2 h3 h4) ?_
  have I1 : Inv X pins σ H { s with heap := s.heap.push { cls := .type "range", data := .fields #[.int lo t, .int hi u, .int 1 v] }, toks := tk } := I.kept fun b o e => Heap.get?_push_of_some _ e
  refine ⟨(s.heap.push { cls := .type "range", data := .fields #[.int lo t, .int hi u, .int 1 v] }).objs.size, [(s.heap.push { cls := .type "range", data := .fields #[.int lo t, .int hi u, .int 1 v] }).objs.size], _, _, H, rfl,
    I1.kept (t' := tk) fun b o e => Heap.get?_push_of_some _ e, turn_range _ lo (hi - lo).toNat, ?_, fun b hb => ?_, q⟩
  · have e1 : lo + ((0 : Nat) : Int) * 1 = lo := by simp
    have e2 : (((hi - lo).toNat : Nat) : Int) - ((0 : Nat) : Int) = Builtin.Range.rangeSize lo hi 1 := by rw [rangeSize_one]; split <;> omega
    show IsRangeIter _ _ (lo + ((0 : Nat) : Int) * 1) ((((hi - lo).toNat : Nat) : Int) - ((0 : Nat) : Int)) 1
    rw [e1, e2]
    exact Heap.get?_push_size _ rfl
  · have e : b = (s.heap.push { cls := .type "range", data := .fields #[.int lo t, .int hi u, .int 1 v] }).objs.size := by simpa using hb
    subst e
    exact I1.fpOk (Nat.le_refl _) (I1.hok.fresh (Nat.le_refl _))
def iRng1 (ta : TA) : TI := fun σ H R => ta σ H fun vs H1 => ∃ j : Int, vs = [.int j] ∧ -(2 ^ 62) ≤ j ∧ j < 2 ^ 62 ∧ R (Itr 0 j.toNat) H1
theorem pi_range1 {a : Expr} {ta : TA} {p pos : Pos} (hg : Gl X "range") (hm : X.mg "range" = none) (ha : PA X [a] ta) (hs : starEach [a] X.env = [(false, eval a X.env)] := by rfl) : PI X tg (.Call (.Name "range" p) [a] [] pos) (iRng1 ta) := by
  intro pins s σ H R I h
  refine Call_ (ld_blt I hg hm boot_range (PyProof.Rows.callWith_type1 (thn (ha pos pins s σ H _ I h) fun us s1 ⟨vs, H1, I1, r1, q1⟩ => ?_) hs rfl))
  obtain ⟨j, e, q1, q2, q⟩ := q1
  subst e
  cases r1 with
  | cons r rr =>
    cases rr
    obtain ⟨t, rfl⟩ := r
    exact call_range_1 (range_it I1 (by omega) (by omega) q1 q2 (by simpa using q))
def tFor (wi : TI) (g : TG) (tb : TS) : TS := fun D σ H => wi σ H fun J H1 => ∃ W : Nat → Nat → St → Hp → Prop, (∃ m, W 0 m σ H1) ∧ ∀ i m σ H, W i m σ H →
  (J.stop i H ∧ D.nx σ H) ∨ (J.go i H ∧ ∃ N : St → Hp → Prop, (∀ σ' H', N σ' H' → ∃ m', m' < m ∧ W (i + 1) m' σ' H') ∧ ∀ x H', J.yld i H x H' → g x σ H' fun σ2 H2 => tb { D with nx := N, ct := N, bk := D.nx } σ2 H2)
def pinsAt (fp : List Addr) (h : Heap) : List (Addr × Obj) := fp.filterMap fun b => (h.get? b).map fun o => (b, o)
theorem mem_pinsAt {fp : List Addr} {h : Heap} {b : Addr} {o : Obj} (hb : b ∈ fp) (e : h.get? b = some o) : (b, o) ∈ pinsAt fp h := List.mem_filterMap.mpr ⟨b, hb, by rw [e]; rfl⟩
theorem of_pinsAt {fp : List Addr} {h : Heap} {p : Addr × Obj} (hp : p ∈ pinsAt fp h) : p.1 ∈ fp ∧ h.get? p.1 = some p.2 := by
  obtain ⟨b, hb, e⟩ := List.mem_filterMap.mp hp
  cases q : h.get? b with
  | none => rw [q] at e; cases e
  | some o =>
    rw [q] at e
    have e' : (b, o) = p := Option.some.inj e
    subst e'
    exact ⟨hb, q⟩
theorem Inv.pinned {pins : List (Addr × Obj)} {σ : St} {H : Hp} {s : Shared} {fp : List Addr} (I : Inv X pins σ H s) (hf : ∀ b ∈ fp, FpOk X pins H b) (ho : ∀ b ∈ fp, ∃ o, s.heap.get? b = some o ∧ ∀ v, o.data ≠ .cell v) : Inv X (pins ++ pinsAt fp s.heap) σ H s :=
  I.pins_of fun p hp => (List.mem_append.mp hp).elim (fun z => I.pin p (List.mem_append_right _ z)) fun z => by
    obtain ⟨hb, e⟩ := of_pinsAt z
    obtain ⟨f0, f1, f2, _⟩ := hf p.1 hb
    obtain ⟨o, e', d⟩ := ho p.1 hb
    rw [e] at e'; cases e'
    exact ⟨e, f0, f1, f2, d⟩
theorem Inv.unpinned {pins pl : List (Addr × Obj)} {σ : St} {H : Hp} {s : Shared} (I : Inv X (pins ++ pl) σ H s) : Inv X pins σ H s := I.pins_of fun p hp => I.pin p (List.mem_append_right _ (List.mem_append_left _ hp))
theorem ps_for {iter : Expr} {body : List Stmt} {wi : TI} {g : TG} {tb : TS} {pos : Pos} (hp : PassesOwn (model X.prog X.w) X.A X.env X.xe) (hc : X.calm = true) (hi : PI X tg iter wi) (hg : PG X tg g) (hb : PSs X body tb)
    (hs : ∀ x, foldedSetIterable iter X.env x = pure x := by intro _; rfl) : PS X (.For tg iter body [] pos) (tFor wi g tb) := by
  intro pins s σ H D I h
  refine wpAny_For (thn (hi pins s σ H _ I h) fun v s1 h1 => thn h1 fun itv s2 h2 => ?_) hs
  obtain ⟨it, fp, tn, J, H2, e, I2, T, st2, f2, W, ⟨m0, w0⟩, turn⟩ := h2
  subst e
  -- what stays true of the iterator's objects through the loop
  have stat : ∀ {H' : Hp}, (∀ b ∈ fp, H' b = none) → ∀ b ∈ fp, FpOk X pins H' b := fun hn b hb => ⟨hn b hb, (f2 b hb).2⟩
  refine codeAny_forLoop_any (fun n s' => ∃ i σ' H', Inv X pins σ' H' s' ∧ tn i s'.heap ∧ (∀ b ∈ fp, H' b = none) ∧ W i n σ' H') ?_ m0 ⟨0, σ, H2, I2, st2, fun b hb => (f2 b hb).1, w0⟩
  rintro n s3 ⟨i, σ3, H3, I3, st3, fr3, w3⟩
  rcases turn i n σ3 H3 w3 with ⟨stop, qn⟩ | ⟨go, N, hN, step⟩
  · refine wpAny_passesOwn hp (thn (T.done X rfl rfl rfl hc i pins s3 σ3 H3 X.xe I3 (stat fr3) st3 stop) ?_)
    rintro r s4 ⟨hr, I4⟩
    subst hr
    exact wpAny_execs_nil ⟨σ3, H3, I4, qn⟩
  · refine wpAny_passesOwn hp (thn (T.item X rfl rfl rfl hc i pins s3 σ3 H3 X.xe I3 (stat fr3) st3 go) ?_)
    rintro r s4 ⟨u, hr, h4⟩
    subst hr
    refine wpAny_passesOwn hp (thn h4 ?_)
    rintro _ s5 ⟨x, H5, I5, r5, y5, st5, fr5⟩
    have I5' := I5.pinned (stat fr5) (T.obj _ _ st5)
    refine wpAny_passesOwn hp (thn (hg _ s5 σ3 H5 x u _ I5' r5 (step x H5 y5)) ?_)
    rintro _ s6 ⟨σ6, H6, I6, q6⟩
    refine wpAny_passesOwn hp (thn (hb _ s6 σ6 H6 _ I6 q6) fun f s7 q7 => ?_)
    have again : ∀ {σ7 : St} {H7 : Hp}, Inv X (pins ++ pinsAt fp s5.heap) σ7 H7 s7 → N σ7 H7 → ∃ m, m < n ∧ ∃ i σ' H', Inv X pins σ' H' s7 ∧ tn i s7.heap ∧ (∀ b ∈ fp, H' b = none) ∧ W i m σ' H' := fun {σ7 H7} I7 n7 => by
      obtain ⟨m', hm, w7⟩ := hN σ7 H7 n7
      refine ⟨m', hm, i + 1, σ7, H7, I7.unpinned, T.keep _ _ _ st5 fun b hb o e => (I7.pin (b, o) (List.mem_append_right _ (List.mem_append_right _ (mem_pinsAt hb e)))).1, fun b hb => ?_, w7⟩
      obtain ⟨o, e, d⟩ := T.obj _ _ st5 b hb
      exact (I7.pin (b, o) (List.mem_append_right _ (List.mem_append_right _ (mem_pinsAt hb e)))).2.1
    cases f with
    | next => obtain ⟨σ7, H7, I7, n7⟩ := q7; exact again I7 n7
    | cont => obtain ⟨σ7, H7, I7, n7⟩ := q7; exact again I7 n7
    | brk => obtain ⟨σ7, H7, I7, q7⟩ := q7; exact ⟨σ7, H7, I7.unpinned, q7⟩
    | ret v => obtain ⟨x7, σ7, H7, I7, r7, q7⟩ := q7; exact ⟨x7, σ7, H7, I7.unpinned, r7, q7⟩
end
end L2
namespace L2
open PySem PySem.Spec PyProof.Rows
abbrev R2 := V → V → Hp → VK → Prop
def OpR (X : Cx) (f : Value → Value → Sem Value) (r : R2) : Prop :=
  ∀ (pins : List (Addr × Obj)) (s : Shared) (σ : St) (H : Hp) (x y : V) (v u : Value) (Q : VK), Inv X pins σ H s → RelV x v → RelV y u → r x y H Q →
    wpAny (model X.prog X.w) X.A (f v u) (EP X pins σ Q) X.xe s
def UnR (X : Cx) (f : Value → Sem Value) (r : V → Hp → VK → Prop) : Prop :=
  ∀ (pins : List (Addr × Obj)) (s : Shared) (σ : St) (H : Hp) (x : V) (v : Value) (Q : VK), Inv X pins σ H s → RelV x v → r x H Q →
    wpAny (model X.prog X.w) X.A (f v) (EP X pins σ Q) X.xe s
def CallR (X : Cx) (f : Value) (r : List V → Hp → VK → Prop) : Prop :=
  ∀ (pins : List (Addr × Obj)) (s : Shared) (σ : St) (H : Hp) (xs : List V) (us : List Value) (Q : VK), Inv X pins σ H s → Vals xs us → r xs H Q →
    wpAny (model X.prog X.w) X.A (call f us) (EP X pins σ Q) X.xe s
def TruR (X : Cx) (r : V → Hp → (Bool → Hp → Prop) → Prop) : Prop :=
  ∀ (pins : List (Addr × Obj)) (s : Shared) (σ : St) (H : Hp) (x : V) (v : Value) (Q : Bool → Hp → Prop), Inv X pins σ H s → RelV x v → r x H Q →
    wpAny (model X.prog X.w) X.A (truthy v) (TP X pins σ Q) X.xe s
def tOp (r : R2) (ta tb : TE) : TE := fun σ H Q => ta σ H fun x H1 => tb σ H1 fun y H2 => r x y H2 Q
def tUn (r : V → Hp → VK → Prop) (ta : TE) : TE := fun σ H Q => ta σ H fun x H1 => r x H1 Q
def rI (C : Int → Int → Prop) (g : Int → Int → V) : R2 := fun x y H Q => ∃ i j, x = .int i ∧ y = .int j ∧ C i j ∧ Q (g i j) H
def rI0 (g : Int → Int → V) : R2 := fun x y H Q => ∃ i j, x = .int i ∧ y = .int j ∧ Q (g i j) H
def rU (g : Int → V) : V → Hp → VK → Prop := fun x H Q => ∃ i, x = .int i ∧ Q (g i) H
section
variable {X : Cx} {a b c : Expr} {ta tb tc : TE} {pos : Pos}
theorem binT (ha : PE X a ta) (hb : PE X b tb) {pins : List (Addr × Obj)} {s : Shared} {σ : St} {H : Hp} {R : V → V → Hp → Prop} (I : Inv X pins σ H s)
    (h : ta σ H fun x H1 => tb σ H1 fun y H2 => R x y H2) {Q : Value → Shared → Prop} {f : Value → Value → Sem Value}
    (hf : ∀ v u s2 x y H2, Inv X pins σ H2 s2 → RelV x v → RelV y u → R x y H2 → wpAny (model X.prog X.w) X.A (f v u) Q X.xe s2) :
    wpAny (model X.prog X.w) X.A (eval a X.env) (fun v s₁ => wpAny (model X.prog X.w) X.A (eval b X.env) (fun u s₂ => wpAny (model X.prog X.w) X.A (f v u) Q X.xe s₂) X.xe s₁) X.xe s := by
  refine thn (ha pins s σ H _ I h) ?_
  rintro v s1 ⟨x, H1, I1, r1, q1⟩
  refine thn (hb pins s1 σ H1 _ I1 q1) ?_
  rintro u s2 ⟨y, H2, I2, r2, q2⟩
  exact hf v u s2 x y H2 I2 r1 r2 q2
theorem pe_op {op : Operator} {r : R2} (ho : OpR X (binaryOp op) r) (ha : PE X a ta) (hb : PE X b tb) : PE X (.BinOp a op b pos) (tOp r ta tb) := by
  intro pins s σ H Q I h
  exact wpAny_BinOp (binT ha hb I h fun v u s2 x y H2 I2 rx ry q => ho pins s2 σ H2 x y v u Q I2 rx ry q)
theorem pe_un {op : UnaryOp} {r : V → Hp → VK → Prop} (ho : UnR X (unaryOp op) r) (ha : PE X a ta) : PE X (.UnaryOp op a pos) (tUn r ta) := by
  intro pins s σ H Q I h
  exact UnaryOp_ (thn (ha pins s σ H _ I h) fun v s1 ⟨x, H1, I1, r1, q1⟩ => ho pins s1 σ H1 x v Q I1 r1 q1)
theorem opI {f : Value → Value → Sem Value} {C : Int → Int → Prop} {g : Int → Int → Int}
    (rule : ∀ (i j : Int) (t u : Tok) (s : Shared) (Q : Value → Shared → Prop) (E : Value → Shared → Prop), C i j → Q (.int (g i j) s.toks) { s with toks := s.toks + 1 } → wpAny (model X.prog X.w) X.A (f (.int i t) (.int j u)) Q E s) :
    OpR X f (rI C fun i j => .int (g i j)) := by
  intro pins s σ H x y v u Q I rx ry h
  obtain ⟨i, j, rfl, rfl, hc, q⟩ := h
  obtain ⟨t, rfl⟩ := rx
  obtain ⟨t', rfl⟩ := ry
  exact rule i j t t' s _ _ hc ⟨.int (g i j), H, I.tok _, ⟨_, rfl⟩, q⟩
theorem opI0 {f : Value → Value → Sem Value} {g : Int → Int → Int}
    (rule : ∀ (i j : Int) (t u : Tok) (s : Shared) (Q : Value → Shared → Prop) (E : Value → Shared → Prop), Q (.int (g i j) s.toks) { s with toks := s.toks + 1 } → wpAny (model X.prog X.w) X.A (f (.int i t) (.int j u)) Q E s) :
    OpR X f (rI0 fun i j => .int (g i j)) := by
  intro pins s σ H x y v u Q I rx ry h
  obtain ⟨i, j, rfl, rfl, q⟩ := h
  obtain ⟨t, rfl⟩ := rx
  obtain ⟨t', rfl⟩ := ry
  exact rule i j t t' s _ _ ⟨.int (g i j), H, I.tok _, ⟨_, rfl⟩, q⟩
theorem opB0 {f : Value → Value → Sem Value} {g : Int → Int → Bool}
    (rule : ∀ (i j : Int) (t u : Tok) (s : Shared) (Q : Value → Shared → Prop) (E : Value → Shared → Prop), Q (.bool (g i j)) s → wpAny (model X.prog X.w) X.A (f (.int i t) (.int j u)) Q E s) :
    OpR X f (rI0 fun i j => .bl (g i j)) := by
  intro pins s σ H x y v u Q I rx ry h
  obtain ⟨i, j, rfl, rfl, q⟩ := h
  obtain ⟨t, rfl⟩ := rx
  obtain ⟨t', rfl⟩ := ry
  exact rule i j t t' s _ _ ⟨.bl (g i j), H, I, rfl, q⟩
def CDiv (i j : Int) : Prop := 0 < j ∧ j < 1073741824
def CPow (i j : Int) : Prop := 0 ≤ j ∧ j ≤ 1000000 ∧ i.natAbs < 2 ^ 64
def CMul (i j : Int) : Prop := (-(2 ^ 64) < i ∧ i < 2 ^ 64) ∨ (-(2 ^ 64) < j ∧ j < 2 ^ 64)
theorem CMul.ok {i j : Int} (h : CMul i j) : IntMulOk i j := by
  rcases h with ⟨h1, h2⟩ | ⟨h1, h2⟩
  · exact .of_left (intBits_le_64 h1 h2)
  · exact .of_right (intBits_le_64 h1 h2)
theorem op_add : OpR X (binaryOp .Add) (rI0 fun i j => .int (i + j)) := opI0 fun _ _ _ _ _ _ _ q => add_int q
theorem op_sub : OpR X (binaryOp .Sub) (rI0 fun i j => .int (i - j)) := opI0 fun _ _ _ _ _ _ _ q => sub_int q
theorem op_mul : OpR X (binaryOp .Mult) (rI CMul fun i j => .int (i * j)) := opI fun _ _ _ _ _ _ _ hc q => mul_int q hc.ok
theorem op_fdiv : OpR X (binaryOp .FloorDiv) (rI CDiv fun i j => .int (i / j)) := opI fun i j _ _ _ _ _ hc q => by
  have h1 : (0 : Int) < j := hc.1
  have h2 : j < 1073741824 := hc.2
  exact floordiv_int (by omega) (by rw [Int.fdiv_eq_ediv_of_nonneg i (by omega)]; exact q) (.inl (PyProof.noPylong_small (by omega)))
theorem op_mod : OpR X (binaryOp .Mod) (rI (fun _ j => 0 < j) fun i j => .int (i % j)) := opI fun i j _ _ _ _ _ hc q => by
  have h1 : (0 : Int) < j := hc
  exact mod_int' (by omega) (by rw [Int.fmod_eq_emod_of_nonneg i (by omega)]; exact q)
theorem op_pow : OpR X (binaryOp .Pow) (rI CPow fun i j => .int (i ^ j.toNat)) := opI fun _ _ _ _ _ _ _ hc q => pow_int_small hc.1 hc.2.1 hc.2.2 q
theorem unI {f : Value → Sem Value} {g : Int → Int}
    (rule : ∀ (i : Int) (t : Tok) (s : Shared) (Q : Value → Shared → Prop) (E : Value → Shared → Prop), Q (.int (g i) s.toks) { s with toks := s.toks + 1 } → wpAny (model X.prog X.w) X.A (f (.int i t)) Q E s) :
    UnR X f (rU fun i => .int (g i)) := by
  intro pins s σ H x v Q I rx h
  obtain ⟨i, rfl, q⟩ := h
  obtain ⟨t, rfl⟩ := rx
  exact rule i t s _ _ ⟨.int (g i), H, I.tok _, ⟨_, rfl⟩, q⟩
theorem un_neg : UnR X (unaryOp .USub) (rU fun i => .int (-i)) := unI fun _ _ _ _ _ q => neg_int q
end
def scal : V → V → Bool
  | .non, .non => true | .non, .int _ => true | .int _, .non => true | .non, .bl _ => true | .bl _, .non => true | .non, .str _ => true | .str _, .non => true
  | .int _, .int _ => true | .bl _, .bl _ => true | .str _, .str _ => true | .byt _, .byt _ => true
  | .int _, .str _ => true | .str _, .int _ => true | .bl _, .str _ => true | .str _, .bl _ => true
  | _, _ => false
def rEq : R2 := fun x y H Q => scal x y = true ∧ Q (.bl (decide (x = y))) H
def rNe : R2 := fun x y H Q => scal x y = true ∧ Q (.bl (!decide (x = y))) H
theorem dec_int {i j : Int} : decide (V.int i = V.int j) = (i == j) := by
  rw [Bool.eq_iff_iff]
  simp
theorem dec_bl {i j : Bool} : decide (V.bl i = V.bl j) = (i == j) := by
  rw [Bool.eq_iff_iff]
  simp
theorem dec_str {i j : Str} : decide (V.str i = V.str j) = (i == j) := by
  rw [Bool.eq_iff_iff]
  simp
theorem dec_byt {i j : Array UInt8} : decide (V.byt i = V.byt j) = (i.toList == j.toList) := by
  rw [Bool.eq_iff_iff]
  cases i
  cases j
  simp
section
variable {X : Cx} {a b c : Expr} {ta tb tc : TE} {pos : Pos}
theorem fin_bl {pins : List (Addr × Obj)} {σ : St} {H : Hp} {s : Shared} {Q : VK} {k k' : Bool} (I : Inv X pins σ H s) (q : Q (.bl k) H) (e : k = k') : EP X pins σ Q (.bool k') s := by
  subst e
  exact ⟨.bl k, H, I, rfl, q⟩
theorem op_eq : OpR X (compareOp .Eq) rEq := by
  intro pins s σ H x y v u Q I rx ry h
  obtain ⟨hs, q⟩ := h
  cases x with
  | non =>
    cases rx
    cases y with
    | non => cases ry; exact PySem.EqNone.eq_none_none (fin_bl I q (by simp))
    | bl j => cases ry; exact PySem.EqNone.eq_none_bool (fin_bl I q (by simp))
    | int j => obtain ⟨t', rfl⟩ := ry; exact PySem.EqNone.eq_none_int (fin_bl I q (by simp))
    | str j => obtain ⟨t', rfl⟩ := ry; exact PySem.EqNone.eq_none_str (fin_bl I q (by simp))
    | _ => exact absurd (show false = true from hs) Bool.false_ne_true
  | bl i =>
    cases rx
    cases y with
    | non => cases ry; exact PySem.EqNone.eq_bool_none (fin_bl I q (by simp))
    | bl j => cases ry; exact eq_bool (fin_bl I q dec_bl)
    | str j => obtain ⟨t', rfl⟩ := ry; exact PySem.EqMixed.eq_bool_str (fin_bl I q (by simp))
    | _ => exact absurd (show false = true from hs) Bool.false_ne_true
  | int i =>
    obtain ⟨t, rfl⟩ := rx
    cases y with
    | non => cases ry; exact PySem.EqNone.eq_int_none (fin_bl I q (by simp))
    | int j => obtain ⟨t', rfl⟩ := ry; exact eq_int (fin_bl I q dec_int)
    | str j => obtain ⟨t', rfl⟩ := ry; exact PySem.EqMixed.eq_int_str (fin_bl I q (by simp))
    | _ => exact absurd (show false = true from hs) Bool.false_ne_true
  | str i =>
    obtain ⟨t, rfl⟩ := rx
    cases y with
    | non => cases ry; exact PySem.EqNone.eq_str_none (fin_bl I q (by simp))
    | bl j => cases ry; exact PySem.EqMixed.eq_str_bool (fin_bl I q (by simp))
    | int j => obtain ⟨t', rfl⟩ := ry; exact PySem.EqMixed.eq_str_int (fin_bl I q (by simp))
    | str j => obtain ⟨t', rfl⟩ := ry; exact eq_str (fin_bl I q dec_str)
    | _ => exact absurd (show false = true from hs) Bool.false_ne_true
  | byt i =>
    obtain ⟨t, rfl⟩ := rx
    cases y with
    | byt j => obtain ⟨t', rfl⟩ := ry; exact PySem.W.eq_bytes (fin_bl I q dec_byt)
    | _ => exact absurd (show false = true from hs) Bool.false_ne_true
  | _ => cases y <;> exact absurd (show false = true from hs) Bool.false_ne_true
theorem op_ne : OpR X (compareOp .NotEq) rNe := by
  intro pins s σ H x y v u Q I rx ry h
  obtain ⟨hs, q⟩ := h
  cases x with
  | non =>
    cases rx
    cases y with
    | non => cases ry; exact PySem.EqNone.ne_none_none (fin_bl I q (by simp))
    | bl j => cases ry; exact PySem.EqNone.ne_none_bool (fin_bl I q (by simp))
    | int j => obtain ⟨t', rfl⟩ := ry; exact PySem.EqNone.ne_none_int (fin_bl I q (by simp))
    | str j => obtain ⟨t', rfl⟩ := ry; exact PySem.EqNone.ne_none_str (fin_bl I q (by simp))
    | _ => exact absurd (show false = true from hs) Bool.false_ne_true
  | bl i =>
    cases rx
    cases y with
    | non => cases ry; exact PySem.EqNone.ne_bool_none (fin_bl I q (by simp))
    | bl j => cases ry; exact ne_bool (fin_bl I q (congrArg not dec_bl))
    | str j => obtain ⟨t', rfl⟩ := ry; exact PySem.EqMixed.ne_bool_str (fin_bl I q (by simp))
    | _ => exact absurd (show false = true from hs) Bool.false_ne_true
  | int i =>
    obtain ⟨t, rfl⟩ := rx
    cases y with
    | non => cases ry; exact PySem.EqNone.ne_int_none (fin_bl I q (by simp))
    | int j => obtain ⟨t', rfl⟩ := ry; exact ne_int (fin_bl I q (congrArg not dec_int))
    | str j => obtain ⟨t', rfl⟩ := ry; exact PySem.EqMixed.ne_int_str (fin_bl I q (by simp))
    | _ => exact absurd (show false = true from hs) Bool.false_ne_true
  | str i =>
    obtain ⟨t, rfl⟩ := rx
    cases y with
    | non => cases ry; exact PySem.EqNone.ne_str_none (fin_bl I q (by simp))
    | bl j => cases ry; exact PySem.EqMixed.ne_str_bool (fin_bl I q (by simp))
    | int j => obtain ⟨t', rfl⟩ := ry; exact PySem.EqMixed.ne_str_int (fin_bl I q (by simp))
    | str j => obtain ⟨t', rfl⟩ := ry; exact ne_str (fin_bl I q (congrArg not dec_str))
    | _ => exact absurd (show false = true from hs) Bool.false_ne_true
  | byt i =>
    obtain ⟨t, rfl⟩ := rx
    cases y with
    | byt j => obtain ⟨t', rfl⟩ := ry; exact PySem.W.ne_bytes (fin_bl I q (congrArg not dec_byt))
    | _ => exact absurd (show false = true from hs) Bool.false_ne_true
  | _ => cases y <;> exact absurd (show false = true from hs) Bool.false_ne_true
theorem op_lt : OpR X (compareOp .Lt) (rI0 fun i j => .bl (decide (i < j))) := opB0 fun _ _ _ _ _ _ _ q => lt_int q
theorem op_gt : OpR X (compareOp .Gt) (rI0 fun i j => .bl (decide (j < i))) := opB0 fun _ _ _ _ _ _ _ q => gt_int q
theorem op_ge : OpR X (compareOp .GtE) (rI0 fun i j => .bl (decide (j ≤ i))) := opB0 fun _ _ _ _ _ _ _ q => ge_int q
theorem op_lt_str : OpR X (compareOp .Lt) (fun x y H Q => ∃ i j, x = .str i ∧ y = .str j ∧ Q (.bl (decide (i.cps.toList < j.cps.toList))) H) := by
  intro pins s σ H x y v u Q I rx ry h
  obtain ⟨i, j, rfl, rfl, q⟩ := h
  obtain ⟨t, rfl⟩ := rx
  obtain ⟨t', rfl⟩ := ry
  exact lt_str (fin_bl I q rfl)
theorem op_in_str : OpR X (compareOp .In) (fun x y H Q => ∃ i j, x = .str i ∧ y = .str j ∧ Q (.bl (!(Builtin.Str.occurrences j i 0 j.length 1).isEmpty)) H) := by
  intro pins s σ H x y v u Q I rx ry h
  obtain ⟨i, j, rfl, rfl, q⟩ := h
  obtain ⟨t, rfl⟩ := rx
  obtain ⟨t', rfl⟩ := ry
  exact in_str (fin_bl I q rfl)
theorem op_isN : OpR X (compareOp .Is) (fun x y H Q => y = .non ∧ Q (.bl (decide (x = .non))) H) := by
  intro pins s σ H x y v u Q I rx ry h
  obtain ⟨rfl, q⟩ := h
  cases ry
  refine is_none_gen (fin_bl I q ?_)
  cases x <;> first
    | (cases rx; rfl)
    | (obtain ⟨t, rfl⟩ := rx; rfl)
theorem op_notin_str : OpR X (compareOp .NotIn) (fun x y H Q => ∃ i j, x = .str i ∧ y = .str j ∧ Q (.bl (!(!(Builtin.Str.occurrences j i 0 j.length 1).isEmpty))) H) := by
  intro pins s σ H x y v u Q I rx ry h
  obtain ⟨i, j, rfl, rfl, q⟩ := h
  obtain ⟨t, rfl⟩ := rx
  obtain ⟨t', rfl⟩ := ry
  exact notIn_str (fin_bl I q rfl)
theorem nomark (b : Expr) {op : CmpOp} (h : op ≠ .In := by decide) (h2 : op ≠ .NotIn := by decide) : behindInMarks op b = false := by
  have e1 : (op == CmpOp.In) = false := by cases op <;> first | rfl | exact absurd rfl h
  have e2 : (op == CmpOp.NotIn) = false := by cases op <;> first | rfl | exact absurd rfl h2
  cases b <;> simp [behindInMarks, e1, e2]
theorem pe_cmpR {op : CmpOp} {r : R2} (ho : OpR X (compareOp op) r) (ha : PE X a ta) (hb : PE X b tb) (hm : behindInMarks op b = false) : PE X (.Compare a [op] [b] pos) (tOp r ta tb) := by
  intro pins s σ H Q I h
  exact wpAny_Compare1 (binT ha hb I h fun v u s2 x y H2 I2 rx ry q => ho pins s2 σ H2 x y v u Q I2 rx ry q) hm
def tTest (t : TE) : TT := fun σ H Q => t σ H fun x H' => ∃ k, x = .bl k ∧ Q k H'
theorem pt_cmpR {op : CmpOp} {r : R2} (ho : OpR X (compareOp op) r) (ha : PE X a ta) (hb : PE X b tb) (hm : behindInMarks op b = false) : PT X (.Compare a [op] [b] pos) (tTest (tOp r ta tb)) := by
  intro pins s σ H Q I h
  refine wpAny_isTrue_Compare1 (thn (ha pins s σ H _ I h) fun v s1 ⟨x, H1, I1, r1, q1⟩ => thn (hb pins s1 σ H1 _ I1 q1) fun u s2 ⟨y, H2, I2, r2, q2⟩ =>
    thn (ho pins s2 σ H2 x y v u _ I2 r1 r2 q2) fun c s3 ⟨z, H3, I3, r3, k, e, q3⟩ => ?_) hm
  subst e
  cases r3
  exact wpAny_truthy_bool ⟨H3, I3, q3⟩
def TruV (K : PySem.W.Frag) (x : V) (H : Hp) (k : Bool) : Prop :=
  match x with
  | .non => k = false
  | .bl b => k = b
  | .int i => k = (i != 0)
  | .str y => y.length ≤ sizeLine ∧ k = ((y.length : Int) != 0)
  | .byt y => y.size ≤ sizeLine ∧ k = ((y.size : Int) != 0)
  | .ref p => (∃ xs, SqL K H p xs ∧ k = !xs.isEmpty) ∨ (∃ xs, SqT K H p xs ∧ k = !xs.isEmpty) ∨ ∃ kvs, H p = some (.dK kvs) ∧ k = !kvs.isEmpty
  | _ => False
theorem isEmpty_kv {κ : Type} {kvs : List (κ × V)} {vs : List (κ × Value)} (r : KV kvs vs) : (!vs.isEmpty) = !kvs.isEmpty := by
  cases r <;> rfl
theorem isEmpty_of {xs : List V} {its : List Value} (r : Vals xs its) : (!its.toArray.isEmpty) = !xs.isEmpty := by
  cases r <;> simp
theorem line63 : (sizeLine : Nat) < 2 ^ 63 := by rw [sizeLine_eq]; decide
theorem tru_ok : TruR X (fun x H Q => ∃ k, TruV X.K x H k ∧ Q k H) := by
  intro pins s σ H x v Q I rx h
  obtain ⟨k, e, q⟩ := h
  have hl := line63
  have hs : sizeLine = 16777216 := sizeLine_eq
  cases x with
  | non =>
    cases rx
    have e' : k = false := e
    subst e'
    exact truthy_none ⟨H, I, q⟩
  | bl b =>
    cases rx
    have e' : k = b := e
    subst e'
    exact wpAny_truthy_bool ⟨H, I, q⟩
  | int i =>
    obtain ⟨t, rfl⟩ := rx
    have e' : k = (i != 0) := e
    subst e'
    exact PySem.P.truthy_int ⟨H, I, q⟩
  | str y =>
    obtain ⟨t, rfl⟩ := rx
    obtain ⟨hy, e'⟩ : y.length ≤ sizeLine ∧ k = ((y.length : Int) != 0) := e
    subst e'
    exact PySem.P.truthy_str (by omega) ⟨H, I.tok _, q⟩
  | byt y =>
    obtain ⟨t, rfl⟩ := rx
    obtain ⟨hy, e'⟩ : y.size ≤ sizeLine ∧ k = ((y.size : Int) != 0) := e
    subst e'
    exact PySem.W.truthy_bytes (by omega) ⟨H, I.tok _, q⟩
  | ref p =>
    cases rx
    have e' : (∃ xs, SqL X.K H p xs ∧ k = !xs.isEmpty) ∨ (∃ xs, SqT X.K H p xs ∧ k = !xs.isEmpty) ∨ ∃ kvs, H p = some (.dK kvs) ∧ k = !kvs.isEmpty := e
    rcases e' with ⟨xs, hx, e'⟩ | ⟨xs, hx, e'⟩ | ⟨kvs, hx, e'⟩
    · subst e'
      obtain ⟨its, r, pl, hz⟩ := I.list hx
      have hlen := r.length
      exact wpAny_truthy_list pl.isList (by simp only [List.size_toArray]; omega) ⟨H, I.tok _, by rw [isEmpty_of r]; exact q⟩
    · subst e'
      obtain ⟨its, r, pl, hz⟩ := I.tuple hx
      have hlen := r.length
      exact truthy_tuple pl (by simp only [List.size_toArray]; omega) ⟨H, I.tok _, by rw [isEmpty_of r]; exact q⟩
    · subst e'
      obtain ⟨hz, hS, vs, r, m⟩ : kvs.length ≤ sizeLine ∧ (p == sysModules) = false ∧ ∃ vs, KV kvs vs ∧ s.heap.DictOf (mixKind X.prog X.w) p vs := I.hok p _ hx
      have hlen : kvs.length = vs.length := Paired.length r
      exact wpAny_truthy_dict hS m (by omega) ⟨H, I.tok _, by rw [isEmpty_kv r]; exact q⟩
  | _ => exact (show False from e).elim
theorem pt_truth (ha : PE X a ta) (he : ∀ whole, isTrue a X.env whole = (do let v ← whole; standAt a.pos; holding [v] (truthy v))) :
    PT X a (fun σ H Q => ta σ H fun x H' => ∃ k, TruV X.K x H' k ∧ Q k H') := by
  intro pins s σ H Q I h
  exact isTrue_plain (thn (ha pins s σ H _ I h) fun v s1 ⟨x, H1, I1, r1, q1⟩ => tru_ok pins s1 σ H1 x v Q I1 r1 q1) (he _)
theorem op_add_str : OpR X (binaryOp .Add) (fun x y H Q => ∃ i j, x = .str i ∧ y = .str j ∧ i.length + j.length ≤ sizeLine ∧ Q (.str (i ++ j)) H) := by
  intro pins s σ H x y v u Q I rx ry h
  obtain ⟨i, j, rfl, rfl, hz, q⟩ := h
  obtain ⟨t, rfl⟩ := rx
  obtain ⟨t', rfl⟩ := ry
  exact add_str (fun t' tk => ⟨.str (i ++ j), H, I.tok _, ⟨_, rfl⟩, q⟩) hz
theorem vals1 {x : V} {us : List Value} (r : Vals [x] us) : ∃ u, us = [u] ∧ RelV x u := by
  cases r with
  | cons r1 r2 => cases r2; exact ⟨_, rfl, r1⟩
theorem vals2 {x y : V} {us : List Value} (r : Vals [x, y] us) : ∃ u w', us = [u, w'] ∧ RelV x u ∧ RelV y w' := by
  cases r with
  | cons r1 r2 =>
    cases r2 with
    | cons r3 r4 => cases r4; exact ⟨_, _, rfl, r1, r3⟩
theorem call_min2 (hc : X.calm = true) : CallR X (.builtin "min") (fun xs H Q => ∃ i j, xs = [.int i, .int j] ∧ Q (.int (if j < i then j else i)) H) := by
  intro pins s σ H xs us Q I r h
  obtain ⟨i, j, rfl, q⟩ := h
  obtain ⟨u, w', rfl, ⟨t, rfl⟩, ⟨t', rfl⟩⟩ := vals2 r
  refine min_two_ints (I.ok.hd hc) fun h' tk k => ⟨_, H, I.kept k, ?_, q⟩
  by_cases hj : j < i
  · rw [if_pos hj, if_pos hj]; exact ⟨_, rfl⟩
  · rw [if_neg hj, if_neg hj]; exact ⟨_, rfl⟩
def LenV (K : PySem.W.Frag) (x : V) (H : Hp) (n : Nat) : Prop :=
  match x with
  | .str y => y.length ≤ sizeLine ∧ n = y.length
  | .byt y => y.size ≤ sizeLine ∧ n = y.size
  | .ref p => (∃ xs, SqL K H p xs ∧ n = xs.length) ∨ ∃ xs, SqT K H p xs ∧ n = xs.length
  | _ => False
theorem call_len : CallR X (.builtin "len") (fun xs H Q => ∃ x n, xs = [x] ∧ LenV X.K x H n ∧ Q (.int n) H) := by
  intro pins s σ H xs us Q I r h
  obtain ⟨x, n, rfl, e, q⟩ := h
  obtain ⟨u, rfl, rx⟩ := vals1 r
  have hl := line63
  have hs : sizeLine = 16777216 := sizeLine_eq
  cases x with
  | str y =>
    obtain ⟨t, rfl⟩ := rx
    obtain ⟨hy, e'⟩ : y.length ≤ sizeLine ∧ n = y.length := e
    subst e'
    exact len_str (by omega) ⟨.int _, H, I.tok _, ⟨_, rfl⟩, q⟩
  | byt y =>
    obtain ⟨t, rfl⟩ := rx
    obtain ⟨hy, e'⟩ : y.size ≤ sizeLine ∧ n = y.size := e
    subst e'
    exact PySem.W.len_bytes (by omega) ⟨.int _, H, I.tok _, ⟨_, rfl⟩, q⟩
  | ref p =>
    cases rx
    have e' : (∃ xs, SqL X.K H p xs ∧ n = xs.length) ∨ ∃ xs, SqT X.K H p xs ∧ n = xs.length := e
    rcases e' with ⟨xs, hx, e'⟩ | ⟨xs, hx, e'⟩
    · subst e'
      obtain ⟨its, r', pl, hz⟩ := I.list hx
      have hlen := r'.length
      exact Calls.call_len_list pl.isList (by simp only [List.size_toArray]; omega) ⟨.int xs.length, H, I.tok _, ⟨_, by simp only [List.size_toArray]; rw [hlen]⟩, q⟩
    · subst e'
      obtain ⟨its, r', pl, hz⟩ := I.tuple hx
      have hlen := r'.length
      exact len_tuple pl (by simp only [List.size_toArray]; omega) ⟨.int xs.length, H, I.tok _, ⟨_, by simp only [List.size_toArray]; rw [hlen]⟩, q⟩
  | _ => exact (show False from e).elim
end
end L2
namespace L2
open PySem PySem.Spec PyProof.Rows
structure ObjM (h : Heap) (x dx C : Addr) (mA : Str → Option Value) : Prop where
  obj : h.get? x = some (PySem.W.instObj C dx)
  ns : h.Ns1 dx mA
  ne : dx ≠ x
theorem lookIn_ns {h : Heap} {dx : Addr} {mA : Str → Option Value} (n : h.Ns1 dx mA) : ∃ od, h.get? dx = some od ∧ ∀ name, PySem.W.lookIn name od = some (mA name) := by
  obtain ⟨o, es, ep, ho, hd, hk, _, hm⟩ := n
  refine ⟨o, ho, fun name => ?_⟩
  have e := hm name
  unfold nsFind findBy at e
  rw [← Array.find?_toList] at e
  unfold PySem.W.lookIn
  rw [hd]
  dsimp only
  split
  · rename_i y q
    rw [q] at e
    exact congrArg some e
  · rename_i q
    rw [q] at e
    have a : es.toList.any (·.refKey) = false := by
      rw [List.any_eq_false]
      intro y hy
      obtain ⟨z, t, hkey⟩ := hk y (Array.mem_toList_iff.mp hy)
      simp [DictEntry.refKey, hkey]
    have a' : ¬ es.toList.any (·.refKey) = true := by rw [a]; exact Bool.false_ne_true
    rw [if_neg a']
    exact congrArg some e
theorem ObjM.look {h : Heap} {x dx C : Addr} {mA : Str → Option Value} (I : ObjM h x dx C mA) : ∃ od, PySem.W.InstAt h x (PySem.W.instObj C dx) C (some od) ∧ ∀ name, PySem.W.lookIn name od = some (mA name) :=
  let ⟨od, ho, hl⟩ := lookIn_ns I.ns
  ⟨od, ⟨I.obj, rfl, rfl, ho⟩, hl⟩
section
variable {prog : Program} {w : World} {A : Around} {E : Value → Shared → Prop} {s : Shared} {K : PySem.W.Frag} {x dx C f : Addr} {mA : Str → Option Value} {name : Str} {v : Value}
theorem get_map {expr : Bool} {Q : Value → Shared → Prop} (X : K.In s.heap) (I : ObjM s.heap x dx C mA) (hg : PySem.W.plainGet K C name = true) (hh : PySem.W.hasDictIn K C = true)
    (ha : PySem.W.findIn K (.ref C) name = some none) (hv : mA name = some v) (hv' : PySem.W.handedIn v = true) (h : Q v { s with toks := s.toks + 1 }) :
    wpAny (model prog w) A (getAttr (.ref x) name expr) Q E s := by
  obtain ⟨od, J, hl⟩ := I.look
  exact PySem.W.get_value X J (PySem.W.plainGet_of hg).1 (PySem.W.findObj_own hh ha rfl (by rw [hl, hv])) hv' h
theorem set_map {ns : List Str} {Q : Unit → Shared → Prop} (X : K.In s.heap) (I : ObjM s.heap x dx C mA)
    (hs : PySem.W.findIn K (.ref C) "__setattr__" = some (some (.builtin "object.__setattr__"))) (hp : PySem.W.plainOver K C = true) (ht : PySem.W.takerIn K C name = some none) (hh : PySem.W.hasDictIn K C = true)
    (hw : PySem.Within mA ns) (hsz : ns.length ≤ sizeLine)
    (h : ∀ h', ObjM h' x dx C (fun y => if y = name then some v else mA y) → Heap.SameBut dx s.heap h' → Q () { s with heap := h', toks := s.toks + 2 }) :
    wpAny (model prog w) A (setAttr (.ref x) name v) Q E s := by
  obtain ⟨od, J, hl⟩ := I.look
  refine PySem.W.set_plain X J hs (PySem.W.osa_open (s := { s with toks := s.toks + 1 }) (r := none) X J hp ht fun b => ?_)
  obtain ⟨cd, hc, hd'⟩ := PySem.W.any_some hh
  have hx : s.heap.get? x = some ⟨.ref C, some dx, .plain, #[]⟩ := I.obj
  refine wpAny_bind (wpAny_pure (wpAny_bind (wpAny_bind (wpAny_loadPart hx (wpAny_bind (PySem.W.Looks.here (s := { s with toks := s.toks + 1 }) (PySem.W.looks_clsIn X hc) ?_))))))
  rw [hd']
  refine wpAny_pure (a := some dx) (wpAny_bind (wpAny_pure (wpAny_bind ?_)))
  refine wpAny_nsSet1 (s := { s with toks := s.toks + 1 }) I.ns fun h' hn2 hs2 => ?_
  obtain ⟨oD, esD, epD, hoD, hdD, hcD⟩ := hn2.count (PySem.Within.cons name v hw)
  refine wpAny_bind (wpAny_lookBehind hoD (by rw [hdD]; exact pastItsLine_dict (Nat.le_trans hcD (by rw [List.length_cons]; omega))) ?_)
  exact wpAny_pure (h _ ⟨(hs2.2 _ (Ne.symm I.ne)).trans I.obj, hn2, I.ne⟩ hs2)
theorem make_map {R : Result → Shared → Prop} {vs : List Value} {kw : List (Str × Value)} (X : K.In s.heap) (hm : PySem.W.makesIn K C = true)
    (hi : PySem.W.findIn K (.ref C) "__init__" = some (some (.ref f))) (hf : PySem.W.typeIn K (.ref f) = some (.type "function"))
    (h : codeAny (model prog w) (A.under (.builtin "type.__call__" ⟨.ref C :: vs, kw⟩)) (.call (.ref f) ⟨.ref (s.heap.objs.size + 1) :: vs, kw⟩) (PySem.W.InitBack (s.heap.objs.size + 1) R)
      { s with heap := (s.heap.push PySem.W.emptyDict).push (PySem.W.instObj C s.heap.objs.size) }) :
    codeAny (model prog w) A (.call (.ref C) ⟨vs, kw⟩) R s := by
  obtain ⟨hh, g, d, t, os⟩ := s
  exact PySem.W.make_core (PySem.W.makes_of X hm) (PySem.W.looks_findIn X hi) (fun self => PySem.W.bind_fn X self hf) (.inl rfl) h
end
def putF (f : Str) (v : V) : List (Str × V) → List (Str × V)
  | [] => [(f, v)]
  | (g, x) :: r => if g = f then (g, v) :: r else (g, x) :: putF f v r
theorem lookup_putF (f g : Str) (v : V) : ∀ fs : List (Str × V), (putF f v fs).lookup g = if g = f then some v else fs.lookup g
  | [] => by
    show List.lookup g [(f, v)] = _
    by_cases h : g = f
    · have hb : (g == f) = true := beq_iff_eq.mpr h
      simp only [List.lookup, hb, if_pos h]
    · have hb : (g == f) = false := beq_eq_false_iff_ne.mpr h
      simp only [List.lookup, hb, if_neg h]
  | (k, x) :: r => by
    have ih := lookup_putF f g v r
    rw [show putF f v ((k, x) :: r) = (if k = f then (k, v) :: r else (k, x) :: putF f v r) from rfl]
    by_cases hk : k = f
    · rw [if_pos hk]
      by_cases h : g = k
      · have hb : (g == k) = true := beq_iff_eq.mpr h
        simp only [List.lookup, hb, if_pos (h.trans hk)]
      · have hb : (g == k) = false := beq_eq_false_iff_ne.mpr h
        simp only [List.lookup, hb, if_neg (fun e : g = f => h (e.trans hk.symm))]
    · rw [if_neg hk]
      by_cases h : g = k
      · have hb : (g == k) = true := beq_iff_eq.mpr h
        simp only [List.lookup, hb, if_neg (fun e : g = f => hk (h.symm.trans e))]
      · have hb : (g == k) = false := beq_eq_false_iff_ne.mpr h
        simp only [List.lookup, hb]
        exact ih
theorem keys_putF (f : Str) (v : V) : ∀ fs : List (Str × V), f ∈ (putF f v fs).map (·.1) ∧ ∀ g, g ∈ fs.map (·.1) → g ∈ (putF f v fs).map (·.1)
  | [] => ⟨by simp [putF], fun g h => by simp at h⟩
  | (k, x) :: r => by
    obtain ⟨i1, i2⟩ := keys_putF f v r
    rw [show putF f v ((k, x) :: r) = (if k = f then (k, v) :: r else (k, x) :: putF f v r) from rfl]
    by_cases hk : k = f
    · rw [if_pos hk]
      subst hk
      exact ⟨by simp, fun g h => by simpa using h⟩
    · rw [if_neg hk]
      refine ⟨?_, fun g h => ?_⟩
      · rw [List.map_cons]
        exact List.mem_cons_of_mem _ i1
      · rw [List.map_cons] at h ⊢
        rcases List.mem_cons.mp h with e | e
        · exact List.mem_cons.mpr (.inl e)
        · exact List.mem_cons_of_mem _ (i2 g e)
theorem length_putF (f : Str) (v : V) : ∀ fs : List (Str × V), (putF f v fs).length ≤ fs.length + 1
  | [] => by simp [putF]
  | (k, x) :: r => by
    have ih := length_putF f v r
    rw [show putF f v ((k, x) :: r) = (if k = f then (k, v) :: r else (k, x) :: putF f v r) from rfl]
    by_cases hk : k = f
    · rw [if_pos hk, List.length_cons, List.length_cons]; omega
    · rw [if_neg hk, List.length_cons, List.length_cons]; omega
theorem RelO.some_of {v : V} {o : Option Value} (r : RelO (some v) o) : ∃ u, o = some u ∧ RelV v u := by
  cases o with
  | none => exact (show False from r).elim
  | some u => exact ⟨u, rfl, r⟩
theorem handed_of {v : V} {u : Value} (r : RelV v u) : PySem.W.handedIn u = true := by
  cases v with
  | non => cases (show u = Value.none from r); rfl
  | bl b => cases (show u = Value.bool b from r); rfl
  | int i => obtain ⟨t, e⟩ := (show ∃ t, u = Value.int i t from r); cases e; rfl
  | str x => obtain ⟨t, e⟩ := (show ∃ t, u = Value.str x t from r); cases e; rfl
  | byt b => obtain ⟨t, e⟩ := (show ∃ t, u = Value.bytes b t from r); cases e; rfl
  | flt b => obtain ⟨t, e⟩ := (show ∃ t, u = Value.float b t from r); cases e; rfl
  | ref a => cases (show u = Value.ref a from r); rfl
  | ty n => cases (show u = Value.type n from r); rfl
section
variable {P : Program} {w : World} {H H' : Hp} {h h' : Heap} {a C dx : Addr} {fs fs' : List (Str × V)}
theorem ins_get (hok : HOk P w H h) (e : H a = some (.ins C dx fs)) : ∃ mA, ObjM h a dx C mA ∧ (∀ f, RelO (fs.lookup f) (mA f)) ∧ PySem.Within mA (fs.map (·.1)) ∧ fs.length ≤ 1000 ∧ H dx = some (.own a) := by
  obtain ⟨d, z, ne, ob, mA, n, r, q⟩ := (show ObjOk P w H h a (.ins C dx fs) from hok a _ e)
  exact ⟨mA, ⟨ob, n, ne⟩, r, q, z, d⟩
end
structure Cls (K : PySem.W.Frag) (C : Addr) : Prop where
  pg : PySem.W.plainGet K C Str.empty = true
  hd : PySem.W.hasDictIn K C = true
  po : PySem.W.plainOver K C = true
  sa : PySem.W.findIn K (.ref C) "__setattr__" = some (some (.builtin "object.__setattr__"))
theorem Cls.get {K : PySem.W.Frag} {C : Addr} (c : Cls K C) (f : Str) : PySem.W.plainGet K C f = true := c.pg
def NoAttr (K : PySem.W.Frag) (C : Addr) (f : Str) : Prop := PySem.W.findIn K (.ref C) f = some none
theorem NoAttr.taker {K : PySem.W.Frag} {C : Addr} {f : Str} (n : NoAttr K C f) : PySem.W.takerIn K C f = some none := by
  unfold PySem.W.takerIn
  rw [show PySem.W.findIn K (.ref C) f = some none from n]
  rfl
section
variable {X : Cx} {pins : List (Addr × Obj)} {σ : St} {H : Hp} {s : Shared} {a C dx : Addr} {fs : List (Str × V)} {f : Str} {v : V} {A : Around} {E : Value → Shared → Prop}
theorem getattr_ok {b : Bool} {Q : Value → Shared → Prop} (I : Inv X pins σ H s) (e : H a = some (.ins C dx fs)) (c : Cls X.K C) (n : NoAttr X.K C f) (l : fs.lookup f = some v)
    (h : ∀ u s', Inv X pins σ H s' → RelV v u → Q u s') : wpAny (model X.prog X.w) A (getAttr (.ref a) f b) Q E s := by
  obtain ⟨mA, O, r, _, _, _⟩ := ins_get I.hok e
  obtain ⟨u, hu, ru⟩ := RelO.some_of (v := v) (o := mA f) (by rw [← l]; exact r f)
  exact get_map I.kIn O (c.get f) c.hd n hu (handed_of ru) (h u _ (I.tok _) ru)
theorem setattr_ok {y : V} {u : Value} {Q : Unit → Shared → Prop} (I : Inv X pins σ H s) (e : H a = some (.ins C dx fs)) (c : Cls X.K C) (n : NoAttr X.K C f) (hl : fs.length < 1000) (ry : RelV y u)
    (h : ∀ s', Inv X pins σ (upd H a (.ins C dx (putF f y fs))) s' → Q () s') : wpAny (model X.prog X.w) A (setAttr (.ref a) f u) Q E s := by
  obtain ⟨mA, O, r, wi, _, ho⟩ := ins_get I.hok e
  have hz : (fs.map (·.1)).length ≤ sizeLine := by rw [List.length_map, sizeLine_eq]; omega
  refine set_map I.kIn O c.sa c.po n.taker c.hd wi hz fun h' O' sb => h _ ?_
  have hd : ∃ o, h'.get? dx = some o := let ⟨o, _, _, e', _⟩ := O'.ns; ⟨o, e'⟩
  refine I.write (x := a) (e := dx) (by rw [e]; exact True.intro) (.inr ho) (fun b q hb z => (sb.2 b hb).trans z) hd ?_
  refine ⟨by rw [upd_ne O.ne]; exact ho, ?_, O.ne, O'.obj, _, O'.ns, fun g => ?_, fun g hg => ?_⟩
  · have := length_putF f y fs; omega
  · show RelO ((putF f y fs).lookup g) (if g = f then some u else mA g)
    rw [lookup_putF]
    by_cases q : g = f
    · rw [if_pos q, if_pos q]; exact ry
    · rw [if_neg q, if_neg q]; exact r g
  · by_cases q : g = f
    · rw [q]; exact (keys_putF f y fs).1
    · refine (keys_putF f y fs).2 g (wi g fun z => hg ?_)
      show (if g = f then some u else mA g) = none
      rw [if_neg q]; exact z
theorem Inv.made (I : Inv X pins σ H s) : Inv X pins σ (upd (upd H s.heap.objs.size (.own (s.heap.objs.size + 1))) (s.heap.objs.size + 1) (.ins C s.heap.objs.size []))
    { s with heap := (s.heap.push PySem.W.emptyDict).push (PySem.W.instObj C s.heap.objs.size) } := by
  have e1 : (s.heap.push PySem.W.emptyDict).get? s.heap.objs.size = some PySem.W.emptyDict := Heap.get?_push_size s.heap rfl
  have e2 : ((s.heap.push PySem.W.emptyDict).push (PySem.W.instObj C s.heap.objs.size)).get? (s.heap.objs.size + 1) = some (PySem.W.instObj C s.heap.objs.size) := by
    have := Heap.get?_push_size (s.heap.push PySem.W.emptyDict) (o := PySem.W.instObj C s.heap.objs.size) rfl
    rwa [Heap.size_push] at this
  have e3 : (s.heap.push PySem.W.emptyDict).Ns s.heap.objs.size (fun _ => none) := ⟨PySem.W.emptyDict, #[], _, e1, rfl, (fun e he => absurd he (by simp)), fun _ => rfl⟩
  have I1 := I.laid (a := s.heap.objs.size) (o := .own (s.heap.objs.size + 1)) (h' := s.heap.push PySem.W.emptyDict) (t' := s.toks) (fun b u q => Heap.get?_push_of_some _ q) (Nat.le_refl _) ⟨_, e1⟩
  refine I1.laid (a := s.heap.objs.size + 1) (o := .ins C s.heap.objs.size []) (t' := s.toks) (fun b u q => Heap.get?_push_of_some _ q) (Nat.le_of_eq (Heap.size_push _ _)) ?_
  have ne : s.heap.objs.size ≠ s.heap.objs.size + 1 := Nat.ne_of_lt (Nat.lt_succ_self _)
  refine ⟨by rw [upd_ne ne, upd_same], Nat.zero_le _, ne, e2, fun _ => none, (Heap.Ns1.of_empty e3).at fun o q => Heap.get?_push_of_some _ q, fun _ => True.intro, fun y hy => absurd rfl hy⟩
theorem attr_of {prog : Program} {w : World} {env : Env} {e : Expr} {f : Str} {pos : Pos} {s : Shared} {Q : Value → Shared → Prop} (hb : attributeBase e f env (eval e env) = eval e env)
    (h : wpAny (model prog w) A (eval e env) (fun o s₁ => wpAny (model prog w) A (getAttr o f true) Q E s₁) E s) : wpAny (model prog w) A (eval (.Attribute e f pos) env) Q E s :=
  Attribute_any_ h (by rw [arm_eval_Attribute, hb])
end
def tFld (K : PySem.W.Frag) (ta : TE) (f : Str) : TE := fun σ H Q => ta σ H fun x H1 => ∃ a C dx fs v, x = .ref a ∧ H1 a = some (.ins C dx fs) ∧ Cls K C ∧ NoAttr K C f ∧ fs.lookup f = some v ∧ Q v H1
def sFld (K : PySem.W.Frag) (ta tv : TE) (f : Str) : TS := fun D σ H => tv σ H fun y H1 => ta σ H1 fun x H2 => ∃ a C dx fs, x = .ref a ∧ H2 a = some (.ins C dx fs) ∧ Cls K C ∧ NoAttr K C f ∧ fs.length < 1000 ∧
  D.nx σ (upd H2 a (.ins C dx (putF f y fs)))
section
variable {X : Cx} {o e value : Expr} {f : Str} {pos pos' tpos : Pos} {ta tv : TE}
theorem pe_fld (he : PE X e ta) (hb : attributeBase e f X.env (eval e X.env) = eval e X.env) : PE X (.Attribute e f pos) (tFld X.K ta f) := by
  intro pins s σ H Q I h
  refine attr_of hb (thn (he pins s σ H _ I h) ?_)
  rintro u s1 ⟨x, H1, I1, rx, a, C, dx, fs, v, ex, ea, c, n, l, q⟩
  subst ex
  obtain rfl : u = Value.ref a := rx
  exact getattr_ok I1 ea c n l fun u' s2 I2 ru => ⟨v, H1, I2, ru, q⟩
theorem ps_fld (ha : PE X o ta) (hv : PE X value tv) (hs : swapsWith value (some (.Attribute o f pos')) pos.line X.env = pure false) : PS X (.Assign [.Attribute o f pos'] value pos) (sFld X.K ta tv f) := by
  intro pins s σ H D I h
  refine plainObj_wpAny_Assign_Attribute (thn (hv pins s σ H _ I h) fun u s1 ⟨y, H1, I1, ry, q⟩ => thn (ha pins s1 σ H1 _ I1 q) fun ov s2 ⟨x, H2, I2, rx, a, C, dx, fs, ex, ea, c, n, l, q2⟩ => ?_) hs
  subst ex
  obtain rfl : ov = Value.ref a := rx
  exact setattr_ok I2 ea c n l ry fun s3 I3 => ⟨σ, _, I3, q2⟩
end
section
variable {X : Cx} {pins : List (Addr × Obj)} {σ : St} {H : Hp} {s : Shared} {A : Around} {E : Value → Shared → Prop} {Q : Value → Shared → Prop} {c : Value} {b : Bool}
inductive TyOf (K : PySem.W.Frag) (H : Hp) : V → Value → Prop where
  | non : TyOf K H .non (.type "NoneType")
  | bl (x : Bool) : TyOf K H (.bl x) (.type "bool")
  | int (i : Int) : TyOf K H (.int i) (.type "int")
  | str (x : Str) : TyOf K H (.str x) (.type "str")
  | flt (x : UInt64) : TyOf K H (.flt x) (.type "float")
  | lst {a : Addr} {xs : List V} (e : H a = some (.lst xs)) : TyOf K H (.ref a) (.type "list")
  | frz {a : Addr} {o : Obj} {xs : List V} (e : H a = some (.frz o (.lst xs))) : TyOf K H (.ref a) (.type "list")
  | tup {a : Addr} {xs : List V} (e : H a = some (.tup xs)) : TyOf K H (.ref a) (.type "tuple")
  | dK {a : Addr} {kvs : List (Key × V)} (e : H a = some (.dK kvs)) : TyOf K H (.ref a) (.type "dict")
  | dT {a : Addr} {kvs : List (List Key × V)} (e : H a = some (.dT kvs)) : TyOf K H (.ref a) (.type "dict")
  | ins {a C dx : Addr} {fs : List (Str × V)} (e : H a = some (.ins C dx fs)) (cl : Cls K C) (ha : PySem.W.findIn K (.ref C) "__class__" = some (some (.builtin "object.__class__")))
      (hn : PySem.W.specialIn K (.builtin "object.__class__") "__get__" = some (some (.builtin "getset_descriptor.__get__"))) (htk : PySem.W.takesIn K (.builtin "object.__class__") = some true)
      (hm : PySem.W.mroIn K C (.type "object") = some true) : TyOf K H (.ref a) (.ref C)
theorem isinst_ok {x : V} {u t : Value} (I : Inv X pins σ H s) (rx : RelV x u) (ty : TyOf X.K H x t) (e : PySem.W.kitOne X.K t c = some b) (h : ∀ tk, Q (.bool b) { s with toks := tk }) :
    wpAny (model X.prog X.w) A (call (.builtin "isinstance") [u, c]) Q E s := by
  cases ty with
  | non => cases (show u = Value.none from rx); exact PySem.W.kia_one PySem.W.kitx_none I.kIn True.intro e (fun z => nomatch z) h
  | bl y => cases (show u = Value.bool y from rx); exact PySem.W.kia_one PySem.W.kitx_bool I.kIn True.intro e (fun z => nomatch z) h
  | int i => obtain ⟨t, q⟩ := (show ∃ t, u = Value.int i t from rx); cases q; exact PySem.W.kia_one PySem.W.kitx_int I.kIn True.intro e (fun z => nomatch z) h
  | str y => obtain ⟨t, q⟩ := (show ∃ t, u = Value.str y t from rx); cases q; exact PySem.W.kia_one PySem.W.kitx_str I.kIn True.intro e (fun z => nomatch z) h
  | flt y => obtain ⟨t, q⟩ := (show ∃ t, u = Value.float y t from rx); cases q; exact PySem.W.kia_one PySem.W.kitx_float I.kIn True.intro e (fun z => nomatch z) h
  | @lst a xs ea =>
    cases (show u = Value.ref a from rx)
    obtain ⟨_, _, n, _, h1⟩ := (show ObjOk X.prog X.w H s.heap a (.lst xs) from I.hok a _ ea)
    exact PySem.W.kia_one PySem.W.kitx_list I.kIn ⟨_, h1, rfl⟩ e (fun z => nomatch z) h
  | @frz a ob xs ea =>
    cases (show u = Value.ref a from rx)
    obtain ⟨_, _, _, n, _, h1⟩ := (show ObjOk X.prog X.w H s.heap a (.frz ob (.lst xs)) from I.hok a _ ea)
    exact PySem.W.kia_one PySem.W.kitx_list I.kIn ⟨_, h1, rfl⟩ e (fun z => nomatch z) h
  | @tup a xs ea =>
    cases (show u = Value.ref a from rx)
    obtain ⟨_, _, _, p⟩ := (show ObjOk X.prog X.w H s.heap a (.tup xs) from I.hok a _ ea)
    obtain ⟨o, h1, h2, _⟩ := p
    exact PySem.W.kia_one PySem.W.kitx_tuple I.kIn ⟨o, h1, h2⟩ e (fun z => nomatch z) h
  | @dK a kvs ea =>
    cases (show u = Value.ref a from rx)
    obtain ⟨_, _, vs, _, p⟩ := (show ObjOk X.prog X.w H s.heap a (.dK kvs) from I.hok a _ ea)
    obtain ⟨o, es, ep, h1, h2, _⟩ := p
    exact PySem.W.kia_one PySem.W.kitx_dict I.kIn ⟨o, h1, h2.1⟩ e (fun z => nomatch z) h
  | @dT a kvs ea =>
    cases (show u = Value.ref a from rx)
    obtain ⟨_, _, xs, _, o, es, ep, h1, h2, _⟩ := (show ObjOk X.prog X.w H s.heap a (.dT kvs) from I.hok a _ ea)
    exact PySem.W.kia_one PySem.W.kitx_dict I.kIn ⟨o, h1, h2.1⟩ e (fun z => nomatch z) h
  | @ins a C dx fs ea cl ha hn htk hm =>
    cases (show u = Value.ref a from rx)
    obtain ⟨mA, O, _⟩ := ins_get I.hok ea
    obtain ⟨od, J, _⟩ := O.look
    exact PySem.W.kia_one (PySem.W.kitx_own (cl.get _) cl.hd ha hn htk hm) I.kIn J e (fun z => nomatch z) h
end
end L2
namespace L2
open PySem PySem.Spec PyProof.Rows
structure Room (k : Nat) (A : Around) : Prop where
  hd : A.handled = none
  dp : A.depth + 3 * k + 5 < recursionLimit
  un : A.units + 16 * k + 200 < cLine
  gd : A.guards = some []
theorem Room.mono {j k : Nat} {A : Around} (r : Room k A) (h : j ≤ k) : Room j A := ⟨r.hd, by have := r.dp; omega, by have := r.un; omega, r.gd⟩
theorem Room.deeper {k : Nat} {A : Around} (r : Room (k + 1) A) (env : Env) : Room k (A.deeper env) :=
  ⟨r.hd, by have := r.dp; show A.depth + 1 + 3 * k + 5 < _; omega, by have := r.un; show A.units + 3 + 16 * k + 200 < _; omega, r.gd⟩
theorem make_depth {A : Around} {C : Addr} {us : List Value} {kw : List (Str × Value)} : (A.under (.builtin "type.__call__" ⟨.ref C :: us, kw⟩)).depth = A.depth + 1 := by
  first | rfl | simp [Around.under, Code.weight, Code.isCreation, Code.isGuard, Code.isCaller, Code.frames, Code.isFrame, guardIds]
theorem make_units {A : Around} {C : Addr} {us : List Value} {kw : List (Str × Value)} : (A.under (.builtin "type.__call__" ⟨.ref C :: us, kw⟩)).units = A.units + 1 := by
  first | rfl | simp [Around.under, Code.cUnits, Code.frames, Code.isFrame]
theorem make_guards {A : Around} {C : Addr} {us : List Value} {kw : List (Str × Value)} (h : A.guards = some []) : (A.under (.builtin "type.__call__" ⟨.ref C :: us, kw⟩)).guards = some [] := by
  first | exact h | (simp [Around.under, pushGuards, Code.guards, Code.isGuard, guardIds, h])
theorem Room.make {k : Nat} {A : Around} (r : Room (k + 1) A) (C : Addr) (us : List Value) (kw : List (Str × Value)) : Room k (A.under (.builtin "type.__call__" ⟨.ref C :: us, kw⟩)) :=
  ⟨r.hd, by have := r.dp; rw [make_depth]; omega, by have := r.un; rw [make_units]; omega, make_guards r.gd⟩
theorem Room.depth {k : Nat} {A : Around} (r : Room k A) : A.depth < recursionLimit := by have := r.dp; omega
theorem Room.units {k : Nat} {A : Around} (r : Room k A) : A.units + 64 < cLine := by have := r.un; omega
def tNil : TA := fun _ H Q => Q [] H
def tCons (ta : TE) (tr : TA) : TA := fun σ H Q => ta σ H fun x H1 => tr σ H1 fun xs H2 => Q (x :: xs) H2
section
variable {X : Cx} {e : Expr} {es : List Expr} {te : TE} {t : TA} {pos : Pos}
theorem pa_nil : PA X [] tNil := fun _ _ _ _ H Q I h => Calls.spliced_nil ⟨[], H, I, .nil, h⟩
theorem pa_cons (ha : PE X e te) (hr : PA X es t) (hs : starEach (e :: es) X.env = (false, eval e X.env) :: starEach es X.env := by rfl) : PA X (e :: es) (tCons te t) := by
  intro pos pins s σ H Q I h
  rw [hs]
  show wpAny _ _ (spliced ((false, eval e X.env) :: backTo pos (starEach es X.env))) _ _ s
  refine Calls.spliced_cons (thn (ha pins s σ H _ I h) ?_)
  rintro u s1 ⟨x, H1, I1, r1, q1⟩
  exact thn (hr pos pins s1 σ H1 _ I1 q1) fun us s2 ⟨xs, H2, I2, r2, q2⟩ => ⟨x :: xs, H2, I2, .cons r1 r2, q2⟩
def tTup (t : TA) : TE := fun σ H Q => t σ H fun xs H1 => xs.length ≤ sizeLine ∧ ∀ p, H1 p = none → Q (.ref p) (upd H1 p (.tup xs))
def tLst (t : TA) : TE := fun σ H Q => t σ H fun xs H1 => xs.length ≤ sizeLine ∧ ∀ p, H1 p = none → Q (.ref p) (upd H1 p (.lst xs))
theorem pe_tup {x1} (h : PA X es t) : PE X (.Tuple es x1 pos) (tTup t) := by
  intro pins s σ H Q I hq
  refine wpAny_Tuple_spliced (thn (h pos pins s σ H _ I hq) fun us s1 ⟨xs, H1, I1, r, z, q⟩ => ⟨by rw [← r.length]; exact z, ?_⟩)
  have hf : H1 s1.heap.objs.size = none := I1.hok.fresh (Nat.le_refl _)
  refine ⟨.ref s1.heap.objs.size, upd H1 s1.heap.objs.size (.tup xs), I1.laid (t' := s1.toks) (fun b u e => Heap.get?_push_of_some _ e) (Nat.le_refl _) ?_, rfl, q _ hf⟩
  exact ⟨⟨z, NoDct.new rfl rfl⟩, us, r, ⟨_, Heap.get?_push_size _ rfl, rfl, _, rfl⟩⟩
theorem pe_lst (h : PA X es t) : PE X (.List es pos) (tLst t) := by
  intro pins s σ H Q I hq
  refine wpAny_List_spliced (thn (h pos pins s σ H _ I hq) fun us s1 ⟨xs, H1, I1, r, z, q⟩ => ⟨by rw [← r.length]; exact z, ?_⟩)
  have hf : H1 s1.heap.objs.size = none := I1.hok.fresh (Nat.le_refl _)
  refine ⟨.ref s1.heap.objs.size, upd H1 s1.heap.objs.size (.lst xs), I1.laid (t' := s1.toks) (fun b u e => Heap.get?_push_of_some _ e) (Nat.le_refl _) ?_, rfl, q _ hf⟩
  exact ⟨z, us, 0, r, Heap.get?_push_size _ rfl⟩
end
abbrev Sp := List V → Hp → VK → XK → Prop
abbrev CXT := List Env → Hp → Shared → XK → Value → Shared → Prop
structure Env0 (P : Program) (w : World) (K : PySem.W.Frag) (mg : Str → Option Value) (base : Heap) (A : Around) (outer : List Env) (s : Shared) (H : Hp) : Prop where
  frames : A.frames = some outer
  mod : Mod K mg base
  bs : ∀ b o, base.get? b = some o → s.heap.get? b = some o ∧ H b = none
  bsz : base.objs.size ≤ s.heap.objs.size
  funs : s.heap.FunFrames base outer
  frf : ∀ b ∈ frs outer, H b = none
  hok : HOk P w H s.heap
  bare : AllBare s.gens
def CE (outer : List Env) (P : Program) (w : World) (H : Hp) (s : Shared) (Q : VK) (u : Value) (s' : Shared) : Prop :=
  ∃ v H', s'.os = s.os ∧ AllBare s'.gens ∧ Un (frs outer) [] H H' s.heap s'.heap ∧ HOk P w H' s'.heap ∧ RelV v u ∧ Q v H'
def CR (CX : CXT) (outer : List Env) (P : Program) (w : World) (H : Hp) (s : Shared) (Q : VK) (E : XK) (r : Result) (s' : Shared) : Prop :=
  match r with
  | .ok (.ret u) => CE outer P w H s Q u s'
  | .ok _ => False
  | .error e => CX outer H s E e s'
structure FnOk (P : Program) (w : World) (K : PySem.W.Frag) (mg : Str → Option Value) (base : Heap) (CX : CXT) (k : Nat) (f : Addr) (fd : FuncData) (ps : List Str) (sp : Sp) : Prop where
  len : ∀ vs H Q E, sp vs H Q E → vs.length = ps.length
  run : ∀ (A : Around) (outer : List Env) (s : Shared) (H : Hp) (args : Args) (us : List Value) (vs : List V) (Q : VK) (E : XK), Room k A → Env0 P w K mg base A outer s H → BindsTo s fd args (ps.zip us) → Vals vs us → sp vs H Q E →
    codeAny (model P w) A (.call (.ref f) args) (CR CX outer P w H s Q E) s
theorem Env0.make {P : Program} {w : World} {K : PySem.W.Frag} {mg : Str → Option Value} {base : Heap} {A : Around} {outer : List Env} {s : Shared} {H : Hp} (e : Env0 P w K mg base A outer s H) (C : Addr) (us : List Value) (kw : List (Str × Value)) :
    Env0 P w K mg base (A.under (.builtin "type.__call__" ⟨.ref C :: us, kw⟩)) outer s H := ⟨by first | exact e.frames | (simpa [Around.under, Code.envs, Code.isFrame, pushEnvs] using e.frames), e.mod, e.bs, e.bsz, e.funs, e.frf, e.hok, e.bare⟩
section
variable {X : Cx} {pins : List (Addr × Obj)} {σ : St} {H : Hp} {s s' : Shared}
theorem Inv.env0 (I : Inv X pins σ H s) : Env0 X.prog X.w X.K X.mg X.base X.A X.stack s H :=
  ⟨I.ok.frames, I.ok.mod, I.bs, Nat.le_trans I.ok.bsz I.sz, I.stack, I.stkFree, I.hok, I.bare⟩
theorem Inv.after {Q : VK} {u : Value} (I : Inv X pins σ H s) (h : CE X.stack X.prog X.w H s Q u s') : EP X pins σ Q u s' := by
  obtain ⟨v, H', os, bare, un, hok, r, q⟩ := h
  obtain ⟨hh, g, d, t, os'⟩ := s'
  obtain rfl : os' = s.os := os
  exact ⟨v, H', I.call (h' := hh) (g' := g) (d' := d) (t' := t) (ch := []) un hok bare (fun b z => absurd z (by simp)), r, q⟩
end
def tCall (sp : Sp) (dvs : List V) (E : XK) (t : TA) : TE := fun σ H Q => t σ H fun vs H1 => sp (vs ++ dvs) H1 Q E
def tMake (C : Addr) (sp : Sp) (dvs : List V) (E : XK) (t : TA) : TE := fun σ H Q => t σ H fun vs H1 => ∀ x dx, H1 x = none → H1 dx = none → dx ≠ x →
  sp (.ref x :: (vs ++ dvs)) (upd (upd H1 dx (.own x)) x (.ins C dx [])) (fun v H2 => v = .non ∧ Q (.ref x) H2) E
def Binds (K : PySem.W.Frag) (fd : FuncData) (ps : List Str) (ds : List Value) : Prop :=
  ∀ (s : Shared) (us : List Value), K.In s.heap → (us ++ ds).length = ps.length → BindsTo s fd ⟨us, []⟩ (ps.zip (us ++ ds))
theorem Binds.all {K : PySem.W.Frag} {fd : FuncData} {ps : List Str} (h : ∀ us : List Value, us.length = ps.length → bindArgs fd ⟨us, []⟩ = pure (ps.zip us)) : Binds K fd ps [] := fun s us _ hl => by
  rw [List.append_nil] at hl ⊢
  exact .of_eq (h us hl)
def Passes (CX : CXT) (X : Cx) (E : XK) : Prop := ∀ (pins : List (Addr × Obj)) (σ : St) (H : Hp) (s : Shared) (e : Value) (s' : Shared), Inv X pins σ H s → CX X.stack H s E e s' → X.xe e s'
section
variable {X : Cx} {CX : CXT} {k : Nat} {f C : Addr} {fd : FuncData} {ps : List Str} {sp : Sp} {dvs : List V} {ds : List Value} {E : XK} {x m : Str} {p pos apos : Pos} {e o : Expr} {es : List Expr} {ta : TE} {t : TA}
theorem run_fn {pins : List (Addr × Obj)} {σ : St} {H : Hp} {s : Shared} {Q : VK} {us : List Value} {vs : List V} (F : FnOk X.prog X.w X.K X.mg X.base CX k f fd ps sp) (hr : Room k X.A) (hb : Binds X.K fd ps ds) (hd : Vals dvs ds) (hx : Passes CX X E)
    (I : Inv X pins σ H s) (r : Vals vs us) (h : sp (vs ++ dvs) H Q E) : wpAny (model X.prog X.w) X.A (call (.ref f) us) (EP X pins σ Q) X.xe s := by
  have r2 : Vals (vs ++ dvs) (us ++ ds) := r.append hd
  have hl : (us ++ ds).length = ps.length := by rw [← r2.length]; exact F.len _ _ _ _ h
  refine wpAny_call (codeAny_mono (F.run X.A X.stack s H ⟨us, []⟩ (us ++ ds) (vs ++ dvs) Q E hr I.env0 (hb s us I.kIn hl) r2 h) fun r s' hq => ?_)
  cases r with
  | error e => exact hx pins σ H s e s' I hq
  | ok fl =>
    cases fl with
    | ret u => exact I.after hq
    | next => exact False.elim hq
    | brk => exact False.elim hq
    | cont => exact False.elim hq
theorem pe_call (F : FnOk X.prog X.w X.K X.mg X.base CX k f fd ps sp) (hr : Room k X.A) (hg : Gl X x) (hm : X.mg x = some (.ref f)) (hk : PySem.W.keepIn X.K (.ref f) = true) (hb : Binds X.K fd ps ds) (hd : Vals dvs ds) (hx : Passes CX X E)
    (ha : PA X (e :: es) t) (hdb : (x == ("__debug__" : Str)) = false := by decide) (he : starEach (e :: es) X.env = (false, eval e X.env) :: starEach es X.env := by rfl) (hpl : (backTo pos (starEach es X.env)).any (·.1) = false := by rfl) :
    PE X (.Call (.Name x p) (e :: es) [] pos) (tCall sp dvs E t) := by
  intro pins s σ H Q I h
  refine wpAny_Call_Name_kw (ld_glob I hg hm ?_ hdb)
  refine PySem.W.callWith_K (h₀ := X.base) I.ok.mod.kin hk (thn (ha pos pins s σ H _ I h) fun us s1 ⟨vs, H1, I1, r, q⟩ => ⟨I1.kIn, ?_⟩) he hpl
  exact run_fn F hr hb hd hx I1 r q
structure Mk (K : PySem.W.Frag) (C f : Addr) : Prop where
  makes : PySem.W.makesIn K C = true
  init : PySem.W.findIn K (.ref C) "__init__" = some (some (.ref f))
  fn : PySem.W.isFn K (.ref f) = true
  kp : PySem.W.keepIn K (.ref C) = true
theorem run_make {pins : List (Addr × Obj)} {σ : St} {H : Hp} {s : Shared} {Q : VK} {us : List Value} {vs : List V} (M : Mk X.K C f) (F : FnOk X.prog X.w X.K X.mg X.base CX k f fd ps sp) (hr : Room (k + 1) X.A) (hb : Binds X.K fd ps ds) (hd : Vals dvs ds)
    (hx : Passes CX X E) (I : Inv X pins σ H s) (r : Vals vs us)
    (h : ∀ x dx, H x = none → H dx = none → dx ≠ x → sp (.ref x :: (vs ++ dvs)) (upd (upd H dx (.own x)) x (.ins C dx [])) (fun v H2 => v = .non ∧ Q (.ref x) H2) E) :
    wpAny (model X.prog X.w) X.A (call (.ref C) us) (EP X pins σ Q) X.xe s := by
  have hq := h (s.heap.objs.size + 1) s.heap.objs.size (I.hok.fresh (Nat.le_succ _)) (I.hok.fresh (Nat.le_refl _)) (Nat.ne_of_lt (Nat.lt_succ_self _))
  have I2 := Inv.made (C := C) I
  have r2 : Vals (V.ref (s.heap.objs.size + 1) :: (vs ++ dvs)) (Value.ref (s.heap.objs.size + 1) :: (us ++ ds)) := .cons rfl (r.append hd)
  have hl : (Value.ref (s.heap.objs.size + 1) :: us ++ ds).length = ps.length := by
    have e := r2.length
    rw [F.len _ _ _ _ hq] at e
    exact e.symm
  refine wpAny_call (make_map (f := f) I.kIn M.makes M.init (beq_iff_eq.mp M.fn) (codeAny_mono (F.run _ X.stack _ _ ⟨Value.ref (s.heap.objs.size + 1) :: us, []⟩ (Value.ref (s.heap.objs.size + 1) :: (us ++ ds)) _ _ E (hr.make C us [])
    (I2.env0.make C us []) (hb _ (Value.ref (s.heap.objs.size + 1) :: us) I2.kIn hl) r2 hq) fun r s' hq' => ?_))
  cases r with
  | error e => exact hx pins σ _ _ e s' I2 hq'
  | ok fl =>
    cases fl with
    | ret u =>
      obtain ⟨v, H', I3, rv, ev, q3⟩ := I2.after hq'
      subst ev
      exact ⟨rv, ⟨V.ref (s.heap.objs.size + 1), H', I3, rfl, q3⟩⟩
    | next => exact False.elim hq'
    | brk => exact False.elim hq'
    | cont => exact False.elim hq'
theorem pe_make (M : Mk X.K C f) (F : FnOk X.prog X.w X.K X.mg X.base CX k f fd ps sp) (hr : Room (k + 1) X.A) (hg : Gl X x) (hm : X.mg x = some (.ref C)) (hb : Binds X.K fd ps ds) (hd : Vals dvs ds) (hx : Passes CX X E)
    (ha : PA X (e :: es) t) (hdb : (x == ("__debug__" : Str)) = false := by decide) (he : starEach (e :: es) X.env = (false, eval e X.env) :: starEach es X.env := by rfl) (hpl : (backTo pos (starEach es X.env)).any (·.1) = false := by rfl) :
    PE X (.Call (.Name x p) (e :: es) [] pos) (tMake C sp dvs E t) := by
  intro pins s σ H Q I h
  refine wpAny_Call_Name_kw (ld_glob I hg hm ?_ hdb)
  refine PySem.W.callWith_K (h₀ := X.base) I.ok.mod.kin M.kp (thn (ha pos pins s σ H _ I h) fun us s1 ⟨vs, H1, I1, r, q⟩ => ⟨I1.kIn, ?_⟩) he hpl
  exact run_make M F hr hb hd hx I1 r q
end
section
variable {X : Cx} {CX : CXT} {k : Nat} {f C : Addr} {fd : FuncData} {ps ks : List Str} {sp : Sp} {E : XK} {x m : Str} {p pos apos kpos : Pos} {e o : Expr} {es : List Expr} {kws : List Keyword} {te ta : TE} {t tk : TA} {nm : Option Str}
variable {g : List Value → List Value → List Value} {gV : List V → List V → List V}
end
structure FnScope (N P : List Str) (sc : Scope) : Prop where
  kind : sc.kind = .function
  co : sc.isCoroutine = false
  gen : sc.isGenerator = false
  nd : N.Nodup
  pre : N.take P.length = P
  par : ∀ x ∈ P, sc.names.lookup x = some .local ∨ sc.names.lookup x = some .cell
  nofree : ∀ y ∈ sc.names, y.2 ≠ .free
theorem bindL_out {kindOf : Str → Option NameKind} {x : Str} : ∀ {binds : List (Str × Value)} {m : Str → Option Value}, (∀ v, (x, v) ∉ binds) → bindL kindOf binds m x = m x
  | [], _, _ => rfl
  | (n, v) :: r, m, h => by
    unfold bindL
    rw [bindL_out fun w hw => h w (List.mem_cons_of_mem _ hw)]
    split
    · have : x ≠ n := by rintro rfl; exact h v List.mem_cons_self
      simp [this]
    · rfl
theorem bindC_out {kindOf : Str → Option NameKind} {x : Str} : ∀ {binds : List (Str × Value)} {m : Str → Option Value}, (∀ v, (x, v) ∉ binds) → bindC kindOf binds m x = m x
  | [], _, _ => rfl
  | (n, v) :: r, m, h => by
    unfold bindC
    rw [bindC_out fun w hw => h w (List.mem_cons_of_mem _ hw)]
    split
    · rfl
    · have : x ≠ n := by rintro rfl; exact h v List.mem_cons_self
      simp [this]
theorem bindL_get {kindOf : Str → Option NameKind} {x : Str} {v : Value} : ∀ {P : List Str} {vs : List Value} {i : Nat} {m : Str → Option Value}, P.Nodup → P[i]? = some x → vs[i]? = some v → kindOf x = some .local →
    bindL kindOf (P.zip vs) m x = some v
  | [], _, _, _, _, h, _, _ => by simp at h
  | _ :: _, [], _, _, _, _, h, _ => by simp at h
  | p :: P, w :: vs, 0, m, nd, h1, h2, hk => by
    simp at h1 h2; subst h1; subst h2
    show bindL kindOf ((p, w) :: P.zip vs) m p = _
    unfold bindL
    rw [bindL_out fun v hv => (List.nodup_cons.mp nd).1 (List.of_mem_zip hv).1, if_pos hk]
    simp
  | p :: P, w :: vs, i + 1, m, nd, h1, h2, hk => by
    show bindL kindOf ((p, w) :: P.zip vs) m x = _
    unfold bindL
    exact bindL_get (i := i) (List.nodup_cons.mp nd).2 (by simpa using h1) (by simpa using h2) hk
theorem bindC_get {kindOf : Str → Option NameKind} {x : Str} {v : Value} : ∀ {P : List Str} {vs : List Value} {i : Nat} {m : Str → Option Value}, P.Nodup → P[i]? = some x → vs[i]? = some v → kindOf x ≠ some .local →
    bindC kindOf (P.zip vs) m x = some v
  | [], _, _, _, _, h, _, _ => by simp at h
  | _ :: _, [], _, _, _, _, h, _ => by simp at h
  | p :: P, w :: vs, 0, m, nd, h1, h2, hk => by
    simp at h1 h2; subst h1; subst h2
    show bindC kindOf ((p, w) :: P.zip vs) m p = _
    unfold bindC
    rw [bindC_out fun v hv => (List.nodup_cons.mp nd).1 (List.of_mem_zip hv).1, if_neg hk]
    simp
  | p :: P, w :: vs, i + 1, m, nd, h1, h2, hk => by
    show bindC kindOf ((p, w) :: P.zip vs) m x = _
    unfold bindC
    exact bindC_get (i := i) (List.nodup_cons.mp nd).2 (by simpa using h1) (by simpa using h2) hk
def start (N : List Str) (vs : List V) : St := vs.map some ++ List.replicate (N.length - vs.length) none
def cxOf (CX : CXT) (P : Program) (w : World) (K : PySem.W.Frag) (mg : Str → Option Value) (base : Heap) (N : List Str) (qual : Str) (scope : Scope) (f : Addr) (cd : Value) (A : Around) (outer : List Env) (s : Shared) (H : Hp) (E : XK) : Cx where
  prog := P
  w := w
  K := K
  mg := mg
  base := base
  A := A.deeper (envOfC qual scope s.heap.objs.size f cd)
  N := N
  s₀ := s
  H₀ := H
  env := envOfC qual scope s.heap.objs.size f cd
  outer := outer
  stack := envOfC qual scope s.heap.objs.size f cd :: outer
  ex := []
  calm := true
  fn := fun _ => true
  pn := []
  xe := fun e s' => wpAny (model P w) (A.deeper (envOfC qual scope s.heap.objs.size f cd)) (leaving (envOfC qual scope s.heap.objs.size f cd) e) (fun _ s'' => CX outer H s E e s'') (fun e' s'' => CX outer H s E e' s'') s'
theorem cell_has {sc : Scope} {n : Nat} {x : Str} (h : sc.names.lookup x = some .cell) : ∃ c, (cellsFrom n sc.names []).lookup x = some c := by
  have q := PySem.W.cellsFrom_some sc.names n [] (.inl h)
  exact Option.isSome_iff_exists.mp q
theorem inv_start {CX : CXT} {P : Program} {w : World} {K : PySem.W.Frag} {mg : Str → Option Value} {base : Heap} {N ps : List Str} {qual : Str} {scope : Scope} {f : Addr} {cd : Value} {A : Around} {outer : List Env} {s s1 : Shared} {H : Hp} {E : XK} {us : List Value} {vs : List V}
    (S : FnScope N ps scope) (hd : A.handled = none) (e0 : Env0 P w K mg base A outer s H) (hl : vs.length = ps.length) (r : Vals vs us)
    (x : InCallC s s.heap.objs.size (bindL (envOfC qual scope s.heap.objs.size f cd).kindOf (ps.zip us) fun _ => none) (cellsFrom (s.heap.objs.size + 1) scope.names []) (bindC (envOfC qual scope s.heap.objs.size f cd).kindOf (ps.zip us) fun _ => none) s1) :
    Inv (cxOf CX P w K mg base N qual scope f cd A outer s H E) [] (start N vs) H s1 := by
  have hpl : ps.length ≤ N.length := by have := congrArg List.length S.pre; rw [List.length_take] at this; omega
  obtain ⟨h1, tk, rfl, hk⟩ := x.done
  have noA : ∀ b : Addr, b ∉ (cxOf CX P w K mg base N qual scope f cd A outer s H E).ex := fun b z => absurd (show b ∈ ([] : List Addr) from z) (by simp)
  refine ⟨⟨e0.mod, S.kind, rfl, rfl, Nat.le_refl _, fun y z c h1 h2 => ?_, fun y hy => ?_, fun y c _ h => ?_, fun _ => hd, Around.frames_deeper e0.frames, .inr ⟨rfl, rfl⟩, fun b z => absurd z (noA b), e0.bs, e0.bsz, fun b _ _ => noA b, fun b z => absurd z (noA b), e0.funs, e0.frf⟩,
    rfl, e0.bare, Un.kept hk, ⟨_, x.toInCall.ns, fun i y v h1 h2 h3 => ?_⟩, fun y c h => ⟨_, x.cell y c h⟩, e0.hok.fresh (Nat.le_refl _), fun y c h => ?_, fun p hp => absurd (show p ∈ ([] : List (Addr × Obj)) from hp) (by simp), e0.hok.kept hk, ?_⟩
  · exact name_of_addr x.apart (PySem.mem_of_lookup h1) (PySem.mem_of_lookup h2)
  · have hy : scope.names.lookup y = some .cell ∨ scope.names.lookup y = some .free := hy
    rcases hy with hy | hy
    · exact cell_has hy
    · exact absurd rfl (S.nofree _ (PySem.mem_of_lookup hy))
  · exact Nat.le_of_lt (x.above y c (PySem.mem_of_lookup h))
  · have hi : i < vs.length := by
      unfold start at h2
      by_cases hi : i < vs.length
      · exact hi
      · rw [List.getElem?_append_right (by simpa using hi)] at h2
        rw [List.getElem?_replicate] at h2
        split at h2 <;> cases h2
    have ha : vs[i]? = some v := by
      unfold start at h2
      rw [List.getElem?_append_left (by simpa using hi), List.getElem?_map] at h2
      cases e : vs[i]? with
      | none => rw [e] at h2; cases h2
      | some a => rw [e] at h2; cases h2; rfl
    obtain ⟨u, hu, rv⟩ := r.get ha
    have hp : ps[i]? = some y := by
      rw [← S.pre, List.getElem?_take_of_lt (by omega)]; exact h1
    have ndP : ps.Nodup := by rw [← S.pre]; exact S.nd.sublist (List.take_sublist _ _)
    refine ⟨u, rv, ?_⟩
    rcases S.par y (List.mem_of_getElem? hp) with k | k
    · exact .inl ⟨k, bindL_get ndP hp hu k⟩
    · obtain ⟨c, e⟩ := cell_has (n := s.heap.objs.size + 1) k
      refine .inr ⟨.inl k, c, e, ?_⟩
      have q := x.cell y c e
      rw [bindC_get ndP hp hu (by show scope.names.lookup y ≠ _; rw [k]; decide)] at q
      exact q
  · exact e0.hok.fresh (Nat.le_of_lt (x.above y c (PySem.mem_of_lookup h)))
  · unfold start
    show _ = N.length
    rw [List.length_append, List.length_map, List.length_replicate]
    omega
theorem fn_of {CX : CXT} {P : Program} {w : World} {K : PySem.W.Frag} {mg : Str → Option Value} {base : Heap} {k : Nat} {f : Addr} {name qual : Str} {params : Arguments} {body : List Stmt} {scope : Scope} {dV kV doc pm cdv ct oc : Value} {an od : Option Addr}
    {osl : Array (Option Value)} {N ps : List Str} {sp : Sp} (lk : K.lookup f = some ⟨oc, od, .func (PySem.W.fnOf name qual params body scope dV kV doc pm an cdv ct), osl⟩) (hcd : PySem.W.codeIn K cdv qual = true) (S : FnScope N ps scope)
    (len : ∀ vs H Q E, sp vs H Q E → vs.length = ps.length)
    (hbody : ∀ (A : Around) (outer : List Env) (s : Shared) (H : Hp) (vs : List V) (Q : VK) (E : XK), Room k (A.deeper (envOfC qual scope s.heap.objs.size f cdv)) → sp vs H Q E →
      ∃ t, PSs (cxOf CX P w K mg base N qual scope f cdv A outer s H E) body t ∧ t { nx := fun _ H' => Q .non H', rt := Q } (start N vs) H) :
    FnOk P w K mg base CX (k + 1) f (PySem.W.fnOf name qual params body scope dV kV doc pm an cdv ct) ps sp := by
  refine ⟨len, fun A outer s H args us vs Q E hr e0 hb r hsp => ?_⟩
  have hl := len _ _ _ _ hsp
  have KX : K.In s.heap := e0.mod.kin.keeps fun b o e => (e0.bs b o e).1
  have lim : s.heap.NoLimit := e0.mod.nolimit.keeps fun b o e => (e0.bs b o e).1
  have hkind : ∀ y ∈ ps.zip us, scope.names.lookup y.1 = some .local ∨ (scope.names.lookup y.1 = some .cell ∧ ((cellsFrom (s.heap.objs.size + 1) scope.names []).lookup y.1).isSome = true) := fun ⟨n, v⟩ hy => by
    rcases S.par n (List.of_mem_zip hy).1 with q | q
    · exact .inl q
    · exact .inr ⟨q, PySem.W.cellsFrom_some _ _ _ (.inl q)⟩
  refine codeAny_call_function hr.depth (KX _ _ lk) rfl S.co S.gen rfl (PySem.W.codeRec_of KX hcd) (hb _ _ _ _ ?_)
  refine wpAny_newFunctionEnv_cells S.kind hkind fun env he s1 x => ?_
  subst he
  refine ⟨lim.keeps x.toInCall.keep, codeAny_func ?_⟩
  obtain ⟨t, ht, hq⟩ := hbody A outer s H vs Q E (hr.deeper _) hsp
  have I : Inv (cxOf CX P w K mg base N qual scope f cdv A outer s H E) [] (start N vs) H s1 := inv_start S hr.hd e0 hl r x
  refine wpAny_mono (ht [] s1 (start N vs) H _ I hq) (fun fl s' hs => ?_) fun e s' hs => hs
  have fin : ∀ {σ' : St} {H' : Hp} {v : V} {u : Value}, Inv (cxOf CX P w K mg base N qual scope f cdv A outer s H E) [] σ' H' s' → RelV v u → Q v H' → CE outer P w H s Q u s' :=
    fun {σ' H' v u} J rv q => ⟨v, H', J.os, J.bare, J.base, J.hok, rv, q⟩
  cases fl with
  | ret u =>
    obtain ⟨v, σ', H', J, rv, q⟩ := hs
    exact fin J rv q
  | next =>
    obtain ⟨σ', H', J, q⟩ := hs
    exact fin (v := V.non) (u := Value.none) J rfl q
  | brk =>
    obtain ⟨_, _, _, q⟩ := hs
    exact False.elim q
  | cont =>
    obtain ⟨_, _, _, q⟩ := hs
    exact False.elim q
end L2
namespace L2
open PySem PySem.Spec PyProof.Rows
section
variable {X : Cx} {x : Str} {p pos : Pos} {e : Expr} {es : List Expr} {t : TA} {id T : String} {r : List V → Hp → VK → Prop}
def tCB (r : List V → Hp → VK → Prop) (t : TA) : TE := fun σ H Q => t σ H fun vs H1 => r vs H1 Q
theorem pe_callB (hc : CallR X (.builtin id) r) (hg : Gl X x) (hm : X.mg x = none) (hv : bootBuiltins x = some (.builtin id)) (ha : PA X (e :: es) t) (hn : x ≠ "__name__" := by decide) (hdb : (x == ("__debug__" : Str)) = false := by decide)
    (he : starEach (e :: es) X.env = (false, eval e X.env) :: starEach es X.env := by rfl) (hpl : (backTo pos (starEach es X.env)).any (·.1) = false := by rfl) : PE X (.Call (.Name x p) (e :: es) [] pos) (tCB r t) := by
  intro pins s σ H Q I h
  refine wpAny_Call_Name_kw (ld_blt I hg hm hv ?_ hn hdb)
  exact PyProof.Rows.callWith_builtin1 (thn (ha pos pins s σ H _ I h) fun us s1 ⟨vs, H1, I1, r1, q1⟩ => hc pins s1 σ H1 vs us Q I1 r1 q1) he hpl
theorem pe_callTy (hc : CallR X (.type T) r) (hg : Gl X x) (hm : X.mg x = none) (hv : bootBuiltins x = some (.type T)) (ha : PA X (e :: es) t) (hn : x ≠ "__name__" := by decide) (hdb : (x == ("__debug__" : Str)) = false := by decide)
    (he : starEach (e :: es) X.env = (false, eval e X.env) :: starEach es X.env := by rfl) (hpl : (backTo pos (starEach es X.env)).any (·.1) = false := by rfl) : PE X (.Call (.Name x p) (e :: es) [] pos) (tCB r t) := by
  intro pins s σ H Q I h
  refine wpAny_Call_Name_kw (ld_blt I hg hm hv ?_ hn hdb)
  exact PyProof.Rows.callWith_type1 (thn (ha pos pins s σ H _ I h) fun us s1 ⟨vs, H1, I1, r1, q1⟩ => hc pins s1 σ H1 vs us Q I1 r1 q1) he hpl
end
end L2
namespace HT
open PySem PyProof.Rows
section
open PySem.SeqAt
open PySem.AutoSeq1 (wpAny_loadPart')
open PySem.MeetsSeq PySem.MeetsSeq2 PySem.MeetsSeq3
end
section
variable {prog : Program} {w : World} {A : Around} {E : Value → Shared → Prop} {s : Shared}
theorem cat_tup {t b : Addr} {vs ws : List Value} {Q : Value → Shared → Prop} (ht : IsTup s.heap t vs.toArray) (hb : IsTup s.heap b ws.toArray) (hv : vs ≠ [])
    (h1 : ws = [] → Q (.ref t) s) (h2 : ws ≠ [] → Q (.ref s.heap.objs.size) { s with heap := s.heap.push { cls := .type "tuple", data := .seq (vs ++ ws).toArray } })
    (hsz : vs.length + ws.length ≤ sizeLine) : wpAny (model prog w) A (binaryOp .Add (.ref t) (.ref b)) Q E s := by
  obtain ⟨⟨cls, dd, data, sl⟩, ho, hc, n, hd⟩ := id ht
  obtain ⟨⟨cls2, dd2, data2, sl2⟩, ho2, hc2, n2, hd2⟩ := id hb
  simp only at hc hd hc2 hd2
  subst hc hd hc2 hd2
  have e : vs.toArray ++ ws.toArray = (vs ++ ws).toArray := by simp
  by_cases hw : ws = []
  · exact concat_meets ⟨_, ho, rfl⟩ ⟨_, ho2, rfl⟩ noFill_tuple_add seq_tuple_add PySem.F.slot_tuple_add PySem.F.entry_tuple_add (PySem.F.args_tuple_add_2 _ _)
      (tuple_addW1 t b vs.toArray ws.toArray n n2 dd dd2 sl sl2 (by simpa using hv) (by simp [hw])) ⟨ho, ho2, h1 hw⟩
  · refine concat_meets ⟨_, ho, rfl⟩ ⟨_, ho2, rfl⟩ noFill_tuple_add seq_tuple_add PySem.F.slot_tuple_add PySem.F.entry_tuple_add (PySem.F.args_tuple_add_2 _ _)
      (tuple_addW2 t b vs.toArray ws.toArray n n2 dd dd2 sl sl2 (by simpa using hv) (by simpa using hw) (by rw [List.size_toArray, List.size_toArray]; exact hsz)) ⟨ho, ho2, ?_⟩
    rw [e]
    exact h2 hw
def sIx (n d : Nat) : Option Int → Nat
  | none => d
  | some v => if v < 0 then (v + (n : Int)).toNat else min v.toNat n
theorem sIx_none (n d : Nat) : sIx n d none = d := rfl
theorem sIx_nat (n d k : Nat) : sIx n d (some (k : Int)) = min k n := by
  show (if (k : Int) < 0 then ((k : Int) + (n : Int)).toNat else min (k : Int).toNat n) = min k n
  rw [if_neg (by omega), Int.toNat_natCast]
theorem sIx_le (n d : Nat) (hd : d ≤ n) (o : Option Int) : sIx n d o ≤ n := by
  cases o with
  | none => exact hd
  | some v =>
    show (if v < 0 then (v + (n : Int)).toNat else min v.toNat n) ≤ n
    by_cases hv : v < 0
    · rw [if_pos hv]; omega
    · rw [if_neg hv]; exact Nat.min_le_right _ _
theorem clip_eq (v : Int) (n d : Nat) : (if v < 0 then max (v + (n : Int)) 0 else min v (n : Int)) = ((sIx n d (some v) : Nat) : Int) := by
  show (if v < 0 then max (v + (n : Int)) 0 else min v (n : Int)) = (((if v < 0 then (v + (n : Int)).toNat else min v.toNat n) : Nat) : Int)
  by_cases hv : v < 0
  · simp only [if_pos hv]; omega
  · simp only [if_neg hv]; omega
theorem adjust_gen (lo hi : Option Int) (n : Nat) : Builtin.Slice.sliceAdjust lo hi 1 (n : Int) = (((sIx n 0 lo : Nat) : Int), ((sIx n n hi : Nat) : Int)) := by
  have h1 : ¬ ((1 : Int) < 0) := by omega
  unfold Builtin.Slice.sliceAdjust
  simp only [h1, if_false]
  refine Prod.ext ?_ ?_
  · cases lo with
    | none => rfl
    | some v => exact clip_eq v n 0
  · cases hi with
    | none => rfl
    | some v => exact clip_eq v n n
theorem places_gen (i j : Nat) : Builtin.Slice.slicePlaces (i : Int) (j : Int) 1 = j - i := by
  unfold Builtin.Slice.slicePlaces
  have h1 : (1 : Int) > 0 := by omega
  simp only [h1, if_true, Int.ediv_one]
  split <;> omega
theorem slicePart_ {v : Value} {o : Option Int} {Q : Option Int → Shared → Prop} (p : IsPart v o) (h : Q o s) : wpAny (model prog w) A (Builtin.Slice.slicePartIndex v) Q E s := by
  cases p with
  | none => exact slicePart_none h
  | int i t => exact slicePart_int h
theorem sliceApplied_gen {sl : Addr} {vl vu : Value} {lo hi : Option Int} {n : Nat} {Q : Int × Int × Nat → Shared → Prop} (hs : s.heap.IsSliceOf sl vl vu .none) (pl : IsPart vl lo) (pu : IsPart vu hi)
    (h : Q (((sIx n 0 lo : Nat) : Int), 1, sIx n n hi - sIx n 0 lo) s) : wpAny (model prog w) A (Builtin.Slice.sliceApplied (.ref sl) (pure (n : Int))) Q E s := by
  obtain ⟨os, hos, hcs, hds⟩ := id hs
  unfold Builtin.Slice.sliceApplied Builtin.Slice.sliceFields
  refine wpAny_bind (wpAny_bind (wpAny_field hos hds (x := vl) rfl (wpAny_bind (wpAny_field hos hds (x := vu) rfl (wpAny_bind (wpAny_field hos hds (x := .none) rfl (wpAny_pure ?_)))))))
  refine wpAny_bind (slicePart_none ?_)
  show wpAny _ _ (if ((1 : Int) == 0) = true then _ else _) _ _ s
  rw [if_neg (by decide)]
  refine wpAny_bind (slicePart_ pl (wpAny_bind (slicePart_ pu (wpAny_bind (wpAny_pure ?_)))))
  show wpAny _ _ (match Builtin.Slice.sliceAdjust lo hi 1 (n : Int) with | (lo, hi) => pure (lo, (1 : Int), Builtin.Slice.slicePlaces lo hi 1)) _ _ s
  rw [adjust_gen lo hi n]
  show wpAny _ _ (pure (((sIx n 0 lo : Nat) : Int), (1 : Int), Builtin.Slice.slicePlaces ((sIx n 0 lo : Nat) : Int) ((sIx n n hi : Nat) : Int) 1)) _ _ s
  rw [places_gen]
  exact wpAny_pure h
theorem pick_gen (xs : Array Value) (i k : Nat) : ((List.range k).filterMap fun (m : Nat) => xs[((i : Int) + (m : Int) * 1).toNat]?).toArray = ((xs.toList.drop i).take k).toArray := by
  have e : (fun (m : Nat) => xs[((i : Int) + (m : Int) * 1).toNat]?) = fun m => xs[i + m]? := by
    funext m
    have : ((i : Int) + (m : Int) * 1).toNat = i + m := by omega
    rw [this]
  rw [e]
  have := pick_run xs i k
  rw [List.filterMap_map] at this
  have e2 : ((fun x => xs[x]?) ∘ fun x => i + x) = fun m => xs[i + m]? := rfl
  rw [e2] at this
  rw [this]
theorem getItem_tuple_cut {t sl : Addr} {items : Array Value} {vl vu : Value} {lo hi : Option Int} {Q : Value → Shared → Prop} (ht : IsTup s.heap t items) (hs : s.heap.IsSliceOf sl vl vu .none) (pl : IsPart vl lo) (pu : IsPart vu hi)
    (hw : ¬ (sIx items.size 0 lo = 0 ∧ sIx items.size items.size hi = items.size))
    (h : Q (.ref s.heap.objs.size) { s with heap := s.heap.push { cls := .type "tuple", data := .seq ((items.toList.drop (sIx items.size 0 lo)).take (sIx items.size items.size hi - sIx items.size 0 lo)).toArray } })
    (hsz : items.size ≤ sizeLine) : wpAny (model prog w) A (getItem (.ref t) (.ref sl)) Q E s := by
  have htake : sizeOk (.seq ((items.toList.drop (sIx items.size 0 lo)).take (sIx items.size items.size hi - sIx items.size 0 lo)).toArray) := by
    show ((items.toList.drop (sIx items.size 0 lo)).take (sIx items.size items.size hi - sIx items.size 0 lo)).toArray.size ≤ sizeLine
    rw [List.size_toArray, List.length_take, List.length_drop, Array.length_toList]
    omega
  have hj : sIx items.size items.size hi ≤ items.size := sIx_le _ _ (Nat.le_refl _) hi
  obtain ⟨os, hos, hcs, hds⟩ := id hs
  have hTs : s.TypeIs (.ref sl) "slice" := ⟨os, hos, hcs⟩
  unfold getItem
  try with_reducible refine wpAny_holding ?_
  first | refine wpAny_bind (wpAny_pure ?_) | skip
  refine wpAny_bind (wpAny_sequenceKey ht.typeIs (by decide) ?_)
  refine wpAny_bind (wpAny_callSpecial?_slot (name := Str.ofString "__getitem__") ht.typeIs PyProof.Rows.slot_tuple_getitem
    (wpAny_call_entry PyProof.Rows.slot_tuple_getitem ht.typeIs entry_tuple_getitem ?_ (args_tuple_getitem _ _)))
  show wpAny _ _ (Builtin.Tuple.tupleItemsOf (.ref t) >>= _) _ _ s
  refine wpAny_bind (tupleItemsOf_ ht ?_)
  refine wpAny_bind (wpAny_typeOf hTs ?_)
  rw [if_pos (by decide)]
  refine wpAny_bind (sliceApplied_gen hs pl pu ?_)
  have hno : ¬ ((((sIx items.size 0 lo : Nat) : Int) == 0 && (1 : Int) == 1 && (sIx items.size items.size hi - sIx items.size 0 lo) == items.size) = true) := by
    intro q
    rw [Bool.and_eq_true, Bool.and_eq_true] at q
    have q1 : ((sIx items.size 0 lo : Nat) : Int) = 0 := eq_of_beq q.1.1
    have q2 : sIx items.size items.size hi - sIx items.size 0 lo = items.size := eq_of_beq q.2
    exact hw ⟨by omega, by omega⟩
  show wpAny _ _ (if (((sIx items.size 0 lo : Nat) : Int) == 0 && (1 : Int) == 1 && (sIx items.size items.size hi - sIx items.size 0 lo) == items.size) = true then _ else _) _ _ s
  rw [if_neg hno, pick_gen]
  first
    | exact wpAny_bind (m := Builtin.Tuple.tupleExact _) (wpAny_newObj_type (wpAny_pure ⟨_, rfl, wpAny_pure h⟩) htake)
    | exact wpAny_bind (m := Builtin.Tuple.tupleExact _) (wpAny_newObj_type (wpAny_bind (wpAny_pure (wpAny_pure ⟨_, rfl, wpAny_pure h⟩))) htake)
    | exact wpAny_bind (wpAny_bind (m := Builtin.Tuple.tupleExact _) (wpAny_newObj_type (wpAny_pure (wpAny_pure ⟨_, rfl, wpAny_pure h⟩)) htake))
    | exact wpAny_bind (wpAny_bind (m := Builtin.Tuple.tupleExact _) (wpAny_newObj_type (wpAny_pure ⟨_, rfl, wpAny_pure h⟩) htake))
end
end HT
namespace L2
open PySem PySem.Spec PyProof.Rows
abbrev TO := St → Hp → (Option Int → Hp → Prop) → Prop
def PO (X : Cx) (e : Option Expr) (t : TO) : Prop :=
  ∀ (pins : List (Addr × Obj)) (s : Shared) (σ : St) (H : Hp) (Q : Option Int → Hp → Prop), Inv X pins σ H s → t σ H Q →
    wpAny (model X.prog X.w) X.A (evalPart e X.env) (fun u s' => ∃ o H', Inv X pins σ H' s' ∧ IsPart u o ∧ Q o H') X.xe s
def tNoPart : TO := fun _ H Q => Q none H
def tPart (t : TE) : TO := fun σ H Q => t σ H fun x H1 => ∃ i, x = .int i ∧ Q (some i) H1
section
variable {X : Cx} {e : Expr} {te : TE} {lo hi : Option Expr} {tl th : TO} {pos p2 : Pos}
theorem po_none : PO X none tNoPart := by
  intro pins s σ H Q I h
  rw [evalPart_none]
  exact wpAny_pure ⟨none, H, I, .none, h⟩
theorem po_some (h : PE X e te) : PO X (some e) (tPart te) := by
  intro pins s σ H Q I hw
  rw [evalPart_some]
  refine thn (h pins s σ H _ I hw) ?_
  rintro u s1 ⟨x, H1, I1, r1, q1⟩
  obtain ⟨i, rfl, q⟩ := q1
  obtain ⟨t, rfl⟩ := r1
  exact ⟨some i, H1, I1, .int i t, q⟩
def SlR (X : Cx) (r : V → Option Int → Option Int → Hp → VK → Prop) : Prop :=
  ∀ (pins : List (Addr × Obj)) (s : Shared) (σ : St) (H : Hp) (x : V) (v vl vu : Value) (lo hi : Option Int) (sl : Addr) (Q : VK), Inv X pins σ H s → RelV x v → s.heap.IsSliceOf sl vl vu .none → IsPart vl lo → IsPart vu hi → r x lo hi H Q →
    ∃ T id, typeLookup (.type T) "__getitem__" = pure (some (.builtin id)) ∧ s.TypeIs v T ∧ wpAny (model X.prog X.w) X.A (getItem v (.ref sl)) (EP X pins σ Q) X.xe s
theorem SlR.or {r r' : V → Option Int → Option Int → Hp → VK → Prop} (h : SlR X r) (h' : SlR X r') : SlR X (fun x lo hi H Q => r x lo hi H Q ∨ r' x lo hi H Q) := by
  intro pins s σ H x v vl vu lo hi sl Q I rx hs pl pu q
  rcases q with q | q
  · exact h pins s σ H x v vl vu lo hi sl Q I rx hs pl pu q
  · exact h' pins s σ H x v vl vu lo hi sl Q I rx hs pl pu q
def tSl (r : V → Option Int → Option Int → Hp → VK → Prop) (te : TE) (tl th : TO) : TE := fun σ H Q => te σ H fun x H1 => tl σ H1 fun l H2 => th σ H2 fun u H3 => r x l u H3 Q
theorem pe_slice {r : V → Option Int → Option Int → Hp → VK → Prop} (hr : SlR X r) (he : PE X e te) (hl : PO X lo tl) (hu : PO X hi th) : PE X (.Subscript e (.Slice lo hi none p2) pos) (tSl r te tl th) := by
  intro pins s σ H Q I h
  refine Subscript_ (thn (he pins s σ H _ I h) ?_)
  rintro v s1 ⟨x, H1, I1, r1, q1⟩
  refine wpAny_Slice (thn (hl pins s1 σ H1 _ I1 q1) fun vl s2 ⟨l, H2, I2, pl, q2⟩ => thn (hu pins s2 σ H2 _ I2 q2) fun vu s3 ⟨u, H3, I3, pu, q3⟩ => ?_)
  rw [evalPart_none]
  refine wpAny_pure ?_
  have I4 : Inv X pins σ H3 { s3 with heap := s3.heap.push { cls := .type "slice", data := .fields #[vl, vu, .none] } } := I3.kept (t' := s3.toks) fun b ob q => Heap.get?_push_of_some _ q
  obtain ⟨T, id, hT, ht, hg⟩ := hr pins { s3 with heap := s3.heap.push { cls := .type "slice", data := .fields #[vl, vu, .none] } } σ H3 x v vl vu l u s3.heap.objs.size Q I4 r1 (Heap.IsSliceOf.new ..) pl pu q3
  show wpAny (model X.prog X.w) X.A (subscriptTail e (.Slice lo hi none p2) v (.ref s3.heap.objs.size)) (EP X pins σ Q) X.xe { s3 with heap := s3.heap.push { cls := .type "slice", data := .fields #[vl, vu, .none] } }
  exact tail_any (ops := [.ref s3.heap.objs.size, v]) ht hT hg (by with_unfolding_all rfl)
def cutV (xs : List V) (lo hi : Option Int) : List V := (xs.drop (HT.sIx xs.length 0 lo)).take (HT.sIx xs.length xs.length hi - HT.sIx xs.length 0 lo)
theorem cutV_length (xs : List V) (lo hi : Option Int) : (cutV xs lo hi).length ≤ xs.length := by
  unfold cutV
  rw [List.length_take, List.length_drop]
  omega
def rSlT (K : PySem.W.Frag) : V → Option Int → Option Int → Hp → VK → Prop := fun x lo hi H Q => ∃ a xs, x = .ref a ∧ SqT K H a xs ∧
  ¬ (HT.sIx xs.length 0 lo = 0 ∧ HT.sIx xs.length xs.length hi = xs.length) ∧ ∀ p, H p = none → Q (.ref p) (upd H p (.tup (cutV xs lo hi)))
theorem sl_tup : SlR X (rSlT X.K) := by
  intro pins s σ H x v vl vu lo hi sl Q I rx hs pl pu h
  obtain ⟨a, xs, rfl, hx, hw, q⟩ := h
  cases rx
  obtain ⟨its, r, ht, hz⟩ := I.tuple hx
  have hlen : its.toArray.size = xs.length := by rw [List.size_toArray]; exact r.length.symm
  refine ⟨"tuple", _, PyProof.Rows.slot_tuple_getitem.lookup, ht.typeIs, ?_⟩
  refine HT.getItem_tuple_cut ht hs pl pu (by rw [hlen]; exact hw) ?_ (by rw [hlen]; exact hz)
  rw [hlen]
  refine ⟨.ref s.heap.objs.size, _, I.laid (t' := s.toks) (o := .tup (cutV xs lo hi)) (fun b ob q => Heap.get?_push_of_some _ q) (Nat.le_refl _) ?_, rfl, q _ (I.hok.fresh (Nat.le_refl _))⟩
  exact ⟨⟨Nat.le_trans (cutV_length xs lo hi) hz, NoDct.new rfl rfl⟩, _, (r.drop (HT.sIx xs.length 0 lo)).take (HT.sIx xs.length xs.length hi - HT.sIx xs.length 0 lo), IsTup.new _ _⟩
def rCatT (K : PySem.W.Frag) : R2 := fun x y H Q => ∃ a b xs ys, x = .ref a ∧ y = .ref b ∧ SqT K H a xs ∧ SqT K H b ys ∧ xs ≠ [] ∧ xs.length + ys.length ≤ sizeLine ∧
  (ys = [] → Q (.ref a) H) ∧ (ys ≠ [] → ∀ p, H p = none → Q (.ref p) (upd H p (.tup (xs ++ ys))))
theorem Vals.nil_iff {xs : List V} {us : List Value} (r : Vals xs us) : us = [] ↔ xs = [] := by
  cases r with
  | nil => simp
  | cons _ _ => simp
theorem op_catT : OpR X (binaryOp .Add) (rCatT X.K) := by
  intro pins s σ H x y v u Q I rx ry h
  obtain ⟨a, b, xs, ys, rfl, rfl, ha, hb, hx, hz, q1, q2⟩ := h
  cases rx
  cases ry
  obtain ⟨its, r1, p1, _⟩ := I.tuple ha
  obtain ⟨its2, r2, p2, _⟩ := I.tuple hb
  refine HT.cat_tup p1 p2 (fun z => hx (r1.nil_iff.mp z)) (fun z => ⟨.ref a, H, I, rfl, q1 (r2.nil_iff.mp z)⟩) (fun z => ?_) (by rw [← r1.length, ← r2.length]; exact hz)
  refine ⟨.ref s.heap.objs.size, _, I.laid (t' := s.toks) (o := .tup (xs ++ ys)) (fun b ob q => Heap.get?_push_of_some _ q) (Nat.le_refl _) ?_, rfl, q2 (fun w => z (r2.nil_iff.mpr w)) _ (I.hok.fresh (Nat.le_refl _))⟩
  exact ⟨⟨by rw [List.length_append]; exact hz, NoDct.new rfl rfl⟩, _, r1.append r2, IsTup.new _ _⟩
end
end L2
namespace L2
open PySem PySem.Spec PyProof.Rows
def ixN (n : Nat) (i : Int) : Option Nat := if 0 ≤ i then (if i < n then some i.toNat else none) else if -(n : Int) ≤ i then some (i + n).toNat else none
def atI {α : Type} (xs : List α) (i : Int) : Option α := (ixN xs.length i).bind fun j => xs[j]?
theorem ixN_seq {n : Nat} {i : Int} {j : Nat} (h : ixN n i = some j) : seqIndex? i n = some j ∧ j < n ∧ -(n : Int) ≤ i ∧ i < n := by
  unfold ixN at h
  by_cases h0 : 0 ≤ i
  · rw [if_pos h0] at h
    by_cases h1 : i < n
    · rw [if_pos h1] at h
      have e : i.toNat = j := Option.some.inj h
      exact ⟨by rw [seqIndex_of h0 h1, e], by omega, by omega, h1⟩
    · rw [if_neg h1] at h; cases h
  · rw [if_neg h0] at h
    by_cases h1 : -(n : Int) ≤ i
    · rw [if_pos h1] at h
      have e : (i + n).toNat = j := Option.some.inj h
      exact ⟨by rw [seqIndex_neg (by omega) h1, e], by omega, h1, by omega⟩
    · rw [if_neg h1] at h; cases h
theorem atI_get {α : Type} {xs : List α} {i : Int} {v : α} (h : atI xs i = some v) : ∃ j, seqIndex? i xs.length = some j ∧ xs[j]? = some v ∧ j < xs.length ∧ -(xs.length : Int) ≤ i ∧ i < xs.length := by
  unfold atI at h
  cases e : ixN xs.length i with
  | none => rw [e] at h; cases h
  | some j =>
    rw [e] at h
    obtain ⟨h1, h2, h3, h4⟩ := ixN_seq e
    exact ⟨j, h1, h, h2, h3, h4⟩
theorem atI_nat {α : Type} {xs : List α} {j : Nat} {v : α} (h : xs[j]? = some v) : atI xs (j : Int) = some v := by
  have hj : j < xs.length := (List.getElem?_eq_some_iff.mp h).1
  have e : ixN xs.length (j : Int) = some j := by
    unfold ixN
    rw [if_pos (by omega), if_pos (by omega)]; simp
  unfold atI; rw [e]; exact h
def PlainIx (b : Expr) : Prop := ∀ o i, subscripted b false o i = operate [o, i] (getItem o i)
def IxR (X : Cx) (r : R2) : Prop :=
  ∀ (value slice : Expr) (pins : List (Addr × Obj)) (s : Shared) (σ : St) (H : Hp) (x y : V) (v u : Value) (Q : VK), Inv X pins σ H s → RelV x v → RelV y u → r x y H Q →
    subscripted slice false v u = operate [v, u] (getItem v u) → wpAny (model X.prog X.w) X.A (subscriptTail value slice v u) (EP X pins σ Q) X.xe s
def MtR (X : Cx) (id : String) (r : V → List V → Hp → VK → Prop) : Prop :=
  ∀ (pins : List (Addr × Obj)) (s : Shared) (σ : St) (H : Hp) (x : V) (xs : List V) (v : Value) (us : List Value) (Q : VK), Inv X pins σ H s → RelV x v → Vals xs us → r x xs H Q →
    wpAny (model X.prog X.w) X.A (call (.builtin id) (v :: us)) (EP X pins σ Q) X.xe s
section
variable {X : Cx} {a b : Expr} {ta tb : TE} {pos : Pos}
theorem pe_ix {r : R2} (hr : IxR X r) (ha : PE X a ta) (hb : PE X b tb) (hs : PlainIx b) : PE X (.Subscript a b pos) (tOp r ta tb) := by
  intro pins s σ H Q I h
  exact Subscript_ (binT ha hb I h fun v u s2 x y H2 I2 rx ry q => hr a b pins s2 σ H2 x y v u Q I2 rx ry q (hs _ _))
def rIxL (K : PySem.W.Frag) : R2 := fun x y H Q => ∃ p xs i v, x = .ref p ∧ y = .int i ∧ SqL K H p xs ∧ atI xs i = some v ∧ Q v H
def rIxT (K : PySem.W.Frag) : R2 := fun x y H Q => ∃ p xs i v, x = .ref p ∧ y = .int i ∧ SqT K H p xs ∧ atI xs i = some v ∧ Q v H
def rIxS : R2 := fun x y H Q => ∃ z i c, x = .str z ∧ y = .int i ∧ z.length ≤ sizeLine ∧ atI z.cps.toList i = some c ∧ Q (.str ⟨#[c]⟩) H
theorem ix_list : IxR X (rIxL X.K) := by
  intro value slice pins s σ H x y v u Q I rx ry h hs
  obtain ⟨p, xs, i, z, rfl, rfl, hq, he, q⟩ := h
  cases rx
  obtain ⟨t, rfl⟩ := ry
  obtain ⟨its, r, pl, hz⟩ := I.list hq
  obtain ⟨j, h1, h2, h3, h4, h5⟩ := atI_get he
  obtain ⟨w, ew, rw'⟩ := r.get h2
  have hl := r.length
  have hn := line63
  have fin : EP X pins σ Q w s := ⟨z, H, I, rw', q⟩
  by_cases h0 : 0 ≤ i
  · have hj : i.toNat = j := by
      rw [seqIndex_of h0 h5] at h1
      exact Option.some.inj h1
    exact item_listR pl.isList h0 (by omega) (by rw [hj]; simpa using ew) fin hs
  · have hj : (i + (its.toArray.size : Int)).toNat = j := by
      rw [seqIndex_neg (by omega) h4] at h1
      rw [List.size_toArray, ← hl]
      exact Option.some.inj h1
    exact subscriptTail_builtinR (x := w) pl.isList.typeIs slot_list_getitem.lookup
      (wpAny_getItem_list_neg (Q := fun r s' => r = w ∧ EP X pins σ Q r s') pl.isList (by omega) (by rw [List.size_toArray] <;> omega) (by omega) (by rw [hj]; simpa using ew) ⟨rfl, fin⟩) hs
theorem ix_tup : IxR X (rIxT X.K) := by
  intro value slice pins s σ H x y v u Q I rx ry h hs
  obtain ⟨p, xs, i, z, rfl, rfl, hq, he, q⟩ := h
  cases rx
  obtain ⟨t, rfl⟩ := ry
  obtain ⟨its, r, pl, hz⟩ := I.tuple hq
  obtain ⟨j, h1, h2, h3, h4, h5⟩ := atI_get he
  obtain ⟨w, ew, rw'⟩ := r.get h2
  have hl := r.length
  have hn := line63
  have fin : EP X pins σ Q w s := ⟨z, H, I, rw', q⟩
  exact subscriptTail_builtinR (x := w) pl.typeIs slot_tuple_getitem.lookup
    (getItem_tuple (j := j) (Q := fun r s' => r = w ∧ EP X pins σ Q r s') pl (by omega) (by omega) (by rw [List.size_toArray, ← hl]; exact h1) (by simpa using ew) ⟨rfl, fin⟩) hs
theorem ix_str : IxR X rIxS := by
  intro value slice pins s σ H x y v u Q I rx ry h hs
  obtain ⟨z, i, c, rfl, rfl, hz, he, q⟩ := h
  obtain ⟨t, rfl⟩ := rx
  obtain ⟨t', rfl⟩ := ry
  obtain ⟨j, h1, h2, h3, h4, h5⟩ := atI_get he
  have hl : z.cps.toList.length = z.length := by simp [Str.length]
  rw [hl] at h1 h4 h5
  have hn := line63
  exact tail_any (typeIs_str s z t) slot_str_getitem.lookup (getItem_str (c := c) (by
    have e1 : decide (i < -(2 ^ 63 : Int)) = false := decide_eq_false (by omega)
    have e2 : decide (i ≥ 2 ^ 63) = false := decide_eq_false (by omega)
    rw [e1, e2, Bool.or_false]) (by rw [h1]; simpa using h2) ⟨.str ⟨#[c]⟩, H, I.tok _, ⟨_, rfl⟩, q⟩) hs
theorem mapSeq_set (its : List Value) (n j : Nat) (u : Value) : Obj.mapSeq (·.setIfInBounds j u) { cls := .type "list", data := .seq its.toArray n } = { cls := .type "list", data := .seq (its.set j u).toArray n } := by
  simp [Obj.mapSeq]
theorem Inv.lst {pins : List (Addr × Obj)} {σ : St} {H : Hp} {s : Shared} {p : Addr} {xs : List V} (I : Inv X pins σ H s) (h : H p = some (.lst xs)) :
    ∃ (its : List Value) (n : Nat), Vals xs its ∧ s.heap.get? p = some { cls := .type "list", data := .seq its.toArray n } ∧ xs.length ≤ sizeLine := by
  obtain ⟨z, its, n, r, e⟩ := I.hok p _ h
  exact ⟨its, n, r, e, z⟩
theorem Inv.lstUpd {pins : List (Addr × Obj)} {σ : St} {H : Hp} {s : Shared} {p : Addr} {xs ys : List V} {its its' : List Value} {n n' : Nat} {f : Obj → Obj} (I : Inv X pins σ H s) (h : H p = some (.lst xs))
    (ho : s.heap.get? p = some { cls := .type "list", data := .seq its.toArray n }) (hf : f { cls := .type "list", data := .seq its.toArray n } = { cls := .type "list", data := .seq its'.toArray n' }) (r : Vals ys its') (hz : ys.length ≤ sizeLine) (t : Nat) :
    Inv X pins σ (upd H p (.lst ys)) { s with heap := s.heap.update p f, toks := t } := by
  have e : (s.heap.update p f).get? p = some { cls := .type "list", data := .seq its'.toArray n' } := by
    rw [Heap.get?_update_self f ho (by rw [hf] <;> rfl), hf]
  refine I.write (x := p) (e := p) (by rw [h]; trivial) (.inl rfl) (fun b u hb q => (Heap.get?_update_other _ _ (Ne.symm hb)).trans q) ⟨_, e⟩ ?_
  exact ⟨hz, its', n', r, e⟩
def rSetL : V → V → V → Hp → (Hp → Prop) → Prop := fun o i v H Q => ∃ p xs k j, o = .ref p ∧ i = .int k ∧ H p = some (.lst xs) ∧ ixN xs.length k = some j ∧ Q (upd H p (.lst (xs.set j v)))
theorem set_list : PSet X rSetL := by
  intro pins s σ H o i v ov iv u Q I ro ri rv h
  obtain ⟨p, xs, k, j, rfl, rfl, hp, hj, q⟩ := h
  cases ro
  obtain ⟨t, rfl⟩ := ri
  obtain ⟨its, n, r, ho, hz⟩ := I.lst hp
  obtain ⟨h1, h2, h3, h4⟩ := ixN_seq hj
  have hl := r.length
  have hn := line63
  have I' : Inv X pins σ (upd H p (.lst (xs.set j v))) { s with heap := s.heap.update p (Obj.mapSeq (·.setIfInBounds j u)) } :=
    I.lstUpd hp ho (mapSeq_set its n j u) (r.set rv j) (by rw [List.length_set]; exact hz) s.toks
  by_cases h0 : 0 ≤ k
  · have hk : k.toNat = j := by
      rw [seqIndex_of h0 h4] at h1
      exact Option.some.inj h1
    exact PySem.W.ki_setAt ho h0 (by omega) (by rw [List.size_toArray, ← hl]; exact h4) (by rw [hk]; exact ⟨_, I', q⟩)
  · have hk : (k + (its.toArray.size : Int)).toNat = j := by
      rw [seqIndex_neg (by omega) h3] at h1
      rw [List.size_toArray, ← hl]
      exact Option.some.inj h1
    exact PySem.W.ki_setBack ho (by omega) (by rw [List.size_toArray, ← hl]; exact h3) (by omega) (by rw [hk]; exact ⟨_, I', q⟩)
theorem slice_bounds (lo hi : Option Int) (n : Nat) : (sliceBounds lo hi none n).1 = ((HT.sIx n 0 lo : Nat) : Int) ∧ (sliceBounds lo hi none n).2.1 = ((HT.sIx n n hi : Nat) : Int) ∧ (sliceBounds lo hi none n).2.2 = 1 := by
  refine ⟨?_, ?_, rfl⟩
  · cases lo with
    | none => simp [sliceBounds, HT.sIx]
    | some i =>
      simp only [sliceBounds, HT.sIx, Option.getD_none, show (1 : Int) > 0 by decide, if_true]
      by_cases h : i < 0
      · simp only [h, if_true] <;> omega
      · simp only [h, if_false] <;> omega
  · cases hi with
    | none => simp [sliceBounds, HT.sIx]
    | some i =>
      simp only [sliceBounds, HT.sIx, Option.getD_none, show (1 : Int) > 0 by decide, if_true]
      by_cases h : i < 0
      · simp only [h, if_true] <;> omega
      · simp only [h, if_false] <;> omega
theorem slicePick_cut (its : List Value) (lo hi : Option Int) : slicePick its.toArray lo hi none = ((its.drop (HT.sIx its.length 0 lo)).take (HT.sIx its.length its.length hi - HT.sIx its.length 0 lo)).toArray := by
  obtain ⟨h1, h2, h3⟩ := slice_bounds lo hi its.toArray.size
  unfold slicePick
  rw [h1, h2, h3]
  simp only [sliceRange_one, pick_run, List.size_toArray] <;> rfl
def rSlL (K : PySem.W.Frag) : V → Option Int → Option Int → Hp → VK → Prop := fun x lo hi H Q => ∃ a xs, x = .ref a ∧ SqL K H a xs ∧ ∀ p, H p = none → Q (.ref p) (upd H p (.lst (cutV xs lo hi)))
theorem sl_list : SlR X (rSlL X.K) := by
  intro pins s σ H x v vl vu lo hi sl Q I rx hs pl pu h
  obtain ⟨a, xs, rfl, hx, q⟩ := h
  cases rx
  obtain ⟨its, r, ht, hz⟩ := I.list hx
  have hlen := r.length
  refine ⟨"list", _, slot_list_getitem.lookup, ht.isList.typeIs, ?_⟩
  refine wpAny_getItem_list_slice ht.isList hs pl pu .none (by simp) ?_ (by rw [List.size_toArray] <;> omega)
  rw [slicePick_cut, ← hlen]
  refine ⟨.ref s.heap.objs.size, _, I.laid (t' := s.toks) (o := .lst (cutV xs lo hi)) (fun b ob q => Heap.get?_push_of_some _ q) (Nat.le_refl _) ?_, rfl, q _ (I.hok.fresh (Nat.le_refl _))⟩
  exact ⟨Nat.le_trans (cutV_length xs lo hi) hz, _, 0, (r.drop (HT.sIx xs.length 0 lo)).take (HT.sIx xs.length xs.length hi - HT.sIx xs.length 0 lo), Heap.get?_push_size _ rfl⟩
def flatV : V → Bool
  | .non => true
  | .bl _ => true
  | .int _ => true
  | .str _ => true
  | _ => false
def eqV : V → V → Bool
  | .non, .non => true
  | .bl a, .bl b => a == b
  | .bl a, .int b => (if a then 1 else 0) == b
  | .int a, .bl b => a == (if b then 1 else 0)
  | .int a, .int b => a == b
  | .str a, .str b => a == b
  | _, _ => false
theorem eqAt_V {A : Around} {s : Shared} {y x : V} {u v : Value} (ry : RelV y u) (rx : RelV x v) (fy : flatV y = true) (fx : flatV x = true) : SeqAt.EqAt A s u v (eqV y x) := by
  cases y with
  | non =>
    cases ry
    cases x with
    | non => cases rx; exact SeqAt.EqAt.same _
    | bl b => cases rx; exact SeqAt.EqAt.none_bool b
    | int b => obtain ⟨t, rfl⟩ := rx; exact SeqAt.EqAt.none_int b t
    | str b => obtain ⟨t, rfl⟩ := rx; exact SeqAt.EqAt.none_str b t
    | _ => exact absurd (show false = true from fx) Bool.false_ne_true
  | bl a =>
    cases ry
    cases x with
    | non => cases rx; exact SeqAt.EqAt.bool_none a
    | bl b => cases rx; exact SeqAt.EqAt.bool_bool a b
    | int b => obtain ⟨t, rfl⟩ := rx; exact SeqAt.EqAt.bool_int a b t
    | str b => obtain ⟨t, rfl⟩ := rx; exact SeqAt.EqAt.bool_str a b t
    | _ => exact absurd (show false = true from fx) Bool.false_ne_true
  | int a =>
    obtain ⟨t', rfl⟩ := ry
    cases x with
    | non => cases rx; exact SeqAt.EqAt.int_none a t'
    | bl b => cases rx; exact SeqAt.EqAt.int_bool a t' b
    | int b => obtain ⟨t, rfl⟩ := rx; exact SeqAt.EqAt.int_int a t' b t
    | str b => obtain ⟨t, rfl⟩ := rx; exact SeqAt.EqAt.int_str a t' b t
    | _ => exact absurd (show false = true from fx) Bool.false_ne_true
  | str a =>
    obtain ⟨t', rfl⟩ := ry
    cases x with
    | non => cases rx; exact SeqAt.EqAt.str_none a t'
    | bl b => cases rx; exact SeqAt.EqAt.str_bool a t' b
    | int b => obtain ⟨t, rfl⟩ := rx; exact SeqAt.EqAt.str_int a t' b t
    | str b => obtain ⟨t, rfl⟩ := rx; exact SeqAt.EqAt.str_str a t' b t
    | _ => exact absurd (show false = true from fx) Bool.false_ne_true
  | _ => exact absurd (show false = true from fy) Bool.false_ne_true
def eqU (x : V) (u : Value) : Bool := match u with
  | .none => eqV .non x
  | .bool b => eqV (.bl b) x
  | .int i _ => eqV (.int i) x
  | .str z _ => eqV (.str z) x
  | _ => false
theorem eqU_of {x y : V} {u : Value} (r : RelV y u) (f : flatV y = true) : eqU x u = eqV y x := by
  cases y with
  | non => cases r; rfl
  | bl b => cases r; rfl
  | int i => obtain ⟨t, rfl⟩ := r; rfl
  | str z => obtain ⟨t, rfl⟩ := r; rfl
  | _ => exact absurd (show false = true from f) Bool.false_ne_true
theorem any_eqU {x : V} : ∀ {xs : List V} {us : List Value}, Vals xs us → xs.all flatV = true → us.any (eqU x) = xs.any fun y => eqV y x
  | _, _, .nil, _ => rfl
  | y :: xs, u :: us, .cons r t, f => by
    rw [List.all_cons, Bool.and_eq_true] at f
    rw [List.any_cons, List.any_cons, eqU_of r f.1, any_eqU t f.2]
theorem mem_eqAt {A : Around} {s : Shared} {x : V} {v : Value} (rx : RelV x v) (fx : flatV x = true) : ∀ {xs : List V} {us : List Value}, Vals xs us → xs.all flatV = true → ∀ u ∈ us, SeqAt.EqAt A s u v (eqU x u)
  | _, _, .nil, _ => fun u hu => by cases hu
  | y :: xs, u :: us, .cons r t, f => fun u' hu => by
    rw [List.all_cons, Bool.and_eq_true] at f
    rcases List.mem_cons.mp hu with rfl | hu
    · rw [eqU_of r f.1]; exact eqAt_V r rx f.1 fx
    · exact mem_eqAt rx fx t f.2 u' hu
def inV (x : V) (xs : List V) : Bool := xs.any fun y => eqV y x
def rIn (K : PySem.W.Frag) (neg : Bool) : R2 := fun x y H Q => ∃ p xs, y = .ref p ∧ (SqL K H p xs ∨ SqT K H p xs) ∧ flatV x = true ∧ xs.all flatV = true ∧ Q (.bl (if neg then !inV x xs else inV x xs)) H
theorem op_in_seq : OpR X (compareOp .In) (rIn X.K false) := by
  intro pins s σ H x y v u Q I rx ry h
  obtain ⟨p, xs, rfl, hq, fx, fs, q⟩ := h
  cases ry
  rcases hq with hq | hq
  · obtain ⟨its, r, pl, hz⟩ := I.list hq
    refine SeqAt.in_listAt (eqU x) pl.isList (fun w hw => mem_eqAt rx fx r fs w (by simpa using hw)) ⟨.bl _, H, I, rfl, ?_⟩
    rw [show its.toArray.any (eqU x) = its.any (eqU x) by simp, any_eqU r fs]
    exact q
  · obtain ⟨its, r, pl, hz⟩ := I.tuple hq
    refine SeqAt.in_tupleAt (eqU x) pl (fun w hw => mem_eqAt rx fx r fs w (by simpa using hw)) ⟨.bl _, H, I, rfl, ?_⟩
    rw [show its.toArray.any (eqU x) = its.any (eqU x) by simp, any_eqU r fs]
    exact q
theorem op_notIn_seq : OpR X (compareOp .NotIn) (rIn X.K true) := by
  intro pins s σ H x y v u Q I rx ry h
  obtain ⟨p, xs, rfl, hq, fx, fs, q⟩ := h
  cases ry
  rcases hq with hq | hq
  · obtain ⟨its, r, pl, hz⟩ := I.list hq
    refine SeqAt.notIn_listAt (eqU x) pl.isList (fun w hw => mem_eqAt rx fx r fs w (by simpa using hw)) ⟨.bl _, H, I, rfl, ?_⟩
    rw [show its.toArray.any (eqU x) = its.any (eqU x) by simp, any_eqU r fs]
    exact q
  · obtain ⟨its, r, pl, hz⟩ := I.tuple hq
    refine SeqAt.notIn_tupleAt (eqU x) pl (fun w hw => mem_eqAt rx fx r fs w (by simpa using hw)) ⟨.bl _, H, I, rfl, ?_⟩
    rw [show its.toArray.any (eqU x) = its.any (eqU x) by simp, any_eqU r fs]
    exact q
theorem call_list_of : CallR X (.type "list") (fun xs H Q => ∃ p ys, xs = [.ref p] ∧ (SqL X.K H p ys ∨ SqT X.K H p ys) ∧ ∀ l, H l = none → Q (.ref l) (upd H l (.lst ys))) := by
  intro pins s σ H xs us Q I r h
  obtain ⟨p, ys, rfl, hq, q⟩ := h
  obtain ⟨u, rfl, rx⟩ := vals1 r
  cases rx
  have fin : ∀ (its : List Value), Vals ys its → ys.length ≤ sizeLine → ∀ (h' : Heap) (c' : Nat), (∀ b o', s.heap.get? b = some o' → h'.get? b = some o') →
      h'.get? s.heap.objs.size = some { cls := .type "list", dict := none, data := .seq its.toArray c', slots := #[] } → EP X pins σ Q (.ref s.heap.objs.size) { s with heap := h' } := fun its r' hz h' c' kp e =>
    ⟨.ref s.heap.objs.size, _, I.laid (t' := s.toks) kp (Nat.le_refl _) (show ObjOk X.prog X.w _ h' _ (.lst ys) from ⟨hz, its, c', r', e⟩), rfl, q _ (I.hok.fresh (Nat.le_refl _))⟩
  rcases hq with hq | hq
  · obtain ⟨its, r', pl, hz⟩ := I.list hq
    have hlen := r'.length
    obtain ⟨o, ho, hc, n, hd⟩ := pl.isList
    exact call_list_seq p (.inl rfl) ho hc hd (fun h' c' kp e => fin its r' hz h' c' kp e) (by simp only [List.size_toArray] <;> omega)
  · obtain ⟨its, r', pl, hz⟩ := I.tuple hq
    have hlen := r'.length
    obtain ⟨o, ho, hc, n, hd⟩ := pl
    exact call_list_seq p (.inr rfl) ho hc hd (fun h' c' kp e => fin its r' hz h' c' kp e) (by simp only [List.size_toArray] <;> omega)
theorem call_tuple_of : CallR X (.type "tuple") (fun xs H Q => ∃ p ys, xs = [.ref p] ∧ ((SqL X.K H p ys ∧ ∀ l, H l = none → Q (.ref l) (upd H l (.tup ys))) ∨ (SqT X.K H p ys ∧ Q (.ref p) H))) := by
  intro pins s σ H xs us Q I r h
  obtain ⟨p, ys, rfl, h⟩ := h
  obtain ⟨u, rfl, rx⟩ := vals1 r
  cases rx
  rcases h with ⟨hq, q⟩ | ⟨hq, q⟩
  · obtain ⟨its, r', pl, hz⟩ := I.list hq
    have hlen := r'.length
    refine call_tuple_list pl.isList (fun h' kp => ?_) (by simp only [List.size_toArray] <;> omega)
    have I1 : Inv X pins σ H { s with heap := h' } := I.kept (t' := s.toks) kp
    have I2 : Inv X pins σ (upd H h'.objs.size (.tup ys)) { s with heap := h'.push { cls := .type "tuple", data := .seq its.toArray } } :=
      I1.laid (t' := s.toks) (fun b o e => Heap.get?_push_of_some _ e) (Nat.le_refl _) (show ObjOk X.prog X.w _ _ _ (.tup ys) from ⟨⟨hz, NoDct.new rfl rfl⟩, its, r', IsTup.new _ _⟩)
    exact ⟨.ref h'.objs.size, _, I2, rfl, q _ (I1.hok.fresh (Nat.le_refl _))⟩
  · obtain ⟨its, r', pl, hz⟩ := I.tuple hq
    exact call_tuple_same pl ⟨.ref p, H, I, rfl, q⟩
def tyV (K : PySem.W.Frag) (T : String) (x : V) (H : Hp) : Prop := match x with
  | .str _ => T = "str"
  | .int _ => T = "int"
  | .ref p => (T = "list" ∧ ∃ xs, SqL K H p xs) ∨ (T = "tuple" ∧ ∃ o, K.lookup p = some o ∧ o.cls = .type "tuple" ∧ o.dict = none) ∨
      (T = "dict" ∧ ((∃ kvs, H p = some (.dK kvs)) ∨ ∃ kvs, H p = some (.dT kvs))) ∨ (T = "set" ∧ ∃ S n, H p = some (.set S n))
  | _ => False
theorem tyV_is {pins : List (Addr × Obj)} {σ : St} {H : Hp} {s : Shared} {T : String} {x : V} {v : Value} (I : Inv X pins σ H s) (r : RelV x v) (ty : tyV X.K T x H) :
    s.TypeIs v T ∧ ∀ a, v = .ref a → ∃ ob, s.heap.get? a = some ob ∧ ob.dict = none := by
  cases x with
  | str z =>
    obtain ⟨t, rfl⟩ := r
    cases (show T = "str" from ty)
    exact ⟨typeIs_str s z t, fun _ e => nomatch e⟩
  | int i =>
    obtain ⟨t, rfl⟩ := r
    cases (show T = "int" from ty)
    exact ⟨typeIs_int s i t, fun _ e => nomatch e⟩
  | ref p =>
    cases r
    rcases ty with ⟨rfl, xs, hq⟩ | ⟨rfl, o, hk, hc, hd⟩ | ⟨rfl, hk⟩ | ⟨rfl, S, n, hk⟩
    · obtain ⟨its, _, pl, _⟩ := I.list hq
      refine ⟨pl.isList.typeIs, fun a e => ?_⟩
      cases e
      obtain ⟨o, n, e, c, hd, _⟩ := pl
      exact ⟨o, e, hd⟩
    · refine ⟨⟨o, I.kIn p o hk, hc⟩, fun a e => ?_⟩
      cases e
      exact ⟨o, I.kIn _ o hk, hd⟩
    · have z : ∃ o, s.heap.get? p = some o ∧ o.ExactDict := by
        rcases hk with ⟨kvs, hk⟩ | ⟨kvs, hk⟩
        · obtain ⟨_, _, _, _, o, _, _, e, ex, _⟩ := I.hok p _ hk
          exact ⟨o, e, ex⟩
        · obtain ⟨_, _, _, _, o, _, _, e, ex, _⟩ := I.hok p _ hk
          exact ⟨o, e, ex⟩
      obtain ⟨o, e, ex⟩ := z
      refine ⟨⟨o, e, ex.1⟩, fun a e2 => ?_⟩
      cases e2
      exact ⟨o, e, ex.2.1⟩
    · obtain ⟨o, _, _, _, e, ex, _⟩ := I.hok p _ hk
      refine ⟨⟨o, e, ex.1⟩, fun a e2 => ?_⟩
      cases e2
      exact ⟨o, e, ex.2.1⟩
  | _ => exact False.elim ty
def tBM0 (K : PySem.W.Frag) (T : String) (r : V → List V → Hp → VK → Prop) (to : TE) : TE := fun σ H Q => to σ H fun x H1 => tyV K T x H1 ∧ r x [] H1 Q
def tBM (K : PySem.W.Frag) (T : String) (r : V → List V → Hp → VK → Prop) (to : TE) (t : TA) : TE := fun σ H Q => to σ H fun x H1 => tyV K T x H1 ∧ t σ H1 fun xs H2 => r x xs H2 Q
variable {o e : Expr} {es : List Expr} {to : TE} {t : TA} {name : Str} {apos cpos : Pos} {T id : String} {r : V → List V → Hp → VK → Prop}
theorem pe_bm0 (pa : PlainAttrs T) (slot : Slot T name id) (hty : typeOf (.builtin id) = pure (.type "method_descriptor")) (hm : MtR X id r) (ho : PE X o to)
    (hbase : attributeBase o name X.env (eval o X.env) = eval o X.env := by rfl) (hline : (apos.endLine == cpos.line) = true := by rfl) : PE X (.Call (.Attribute o name apos) [] [] cpos) (tBM0 X.K T r to) := by
  intro pins s σ H Q I h
  refine wpAny_Call_method0_late hbase hline (thn (ho pins s σ H _ I h) ?_)
  rintro v s1 ⟨x, H1, I1, r1, ty, q1⟩
  obtain ⟨h1, h2⟩ := tyV_is I1 r1 ty
  exact ⟨T, id, pa, slot, hty, h1, h2, Calls.callWith_builtin rfl (PySem.evalArgs_none (hm pins s1 σ H1 x [] v [] Q I1 r1 .nil q1))⟩
theorem pe_bm (pa : PlainAttrs T) (slot : Slot T name id) (hty : typeOf (.builtin id) = pure (.type "method_descriptor")) (hm : MtR X id r) (ho : PE X o to) (ha : PA X (e :: es) t)
    (hbase : attributeBase o name X.env (eval o X.env) = eval o X.env := by rfl)
    (hfew : ((backTo cpos (starEach (e :: es) X.env)).all (fun x => !x.1) && (backToKw cpos (keywordEach [] X.env)).all (fun x => x.1.isSome)
      && decide ((e :: es).length + ([] : List Keyword).length + (if ([] : List Keyword).isEmpty then 0 else 1) < 30)) = true := by rfl)
    (hline : (apos.endLine == cpos.line) = true := by rfl) (hs : starEach (e :: es) X.env = (false, eval e X.env) :: starEach es X.env := by rfl) (hplain : (backTo cpos (starEach es X.env)).any (·.1) = false := by rfl) :
    PE X (.Call (.Attribute o name apos) (e :: es) [] cpos) (tBM X.K T r to t) := by
  intro pins s σ H Q I h
  refine wpAny_Call_method_late hbase hfew hline rfl (thn (ho pins s σ H _ I h) ?_)
  rintro v s1 ⟨x, H1, I1, r1, ty, q1⟩
  obtain ⟨h1, h2⟩ := tyV_is I1 r1 ty
  refine ⟨T, id, pa, slot, hty, h1, h2, ?_⟩
  have hA := ha cpos pins s1 σ H1 _ I1 q1
  rw [hs] at hA ⊢
  refine Calls.callWith_builtin (by show (false || (backTo cpos (starEach es X.env)).any (·.1)) = false; rw [hplain] <;> rfl) (Calls.evalArgs_plain ?_)
  exact thn hA fun us s2 ⟨vs, H2, I2, r2, q2⟩ => hm pins s2 σ H2 x vs v us Q I2 r1 r2 q2
/- xs.append(e), list.index on a module's tuple .. are MtR facts of 06m -/
end
end L2
namespace L2
open PySem PySem.Spec PyProof.Rows
def MtM (X : Cx) (id : String) (r : V → List V → Hp → VK → Prop) : Prop :=
  ∀ (pins : List (Addr × Obj)) (s : Shared) (σ : St) (H : Hp) (x : V) (xs : List V) (v : Value) (us : List Value) (Q : VK), Inv X pins σ H s → RelV x v → Vals xs us → r x xs H Q →
    wpAny (model X.prog X.w) X.A (call (.builtin id) (v :: us)) (EP X pins σ Q) X.xe s
theorem Vals.one : ∀ {x : V} {us : List Value}, Vals [x] us → ∃ u, us = [u] ∧ RelV x u
  | _, _, .cons r .nil => ⟨_, rfl, r⟩
theorem Vals.two : ∀ {x y : V} {us : List Value}, Vals [x, y] us → ∃ u v, us = [u, v] ∧ RelV x u ∧ RelV y v
  | _, _, _, .cons r (.cons q .nil) => ⟨_, _, rfl, r, q⟩
theorem Vals.zero : ∀ {us : List Value}, Vals [] us → us = []
  | _, .nil => rfl
theorem Vals.dropLast {xs : List V} {us : List Value} (h : Vals xs us) : Vals xs.dropLast us.dropLast := by
  induction h with
  | nil => exact .nil
  | cons r t ih =>
    cases t with
    | nil => exact .nil
    | cons q t' => exact .cons r ih
theorem Vals.eraseIdx : ∀ {xs : List V} {us : List Value} (i : Nat), Vals xs us → Vals (xs.eraseIdx i) (us.eraseIdx i)
  | _, _, _, .nil => .nil
  | _, _, 0, .cons _ t => t
  | _, _, i + 1, .cons r t => .cons r (Vals.eraseIdx i t)
theorem erase_last {α : Type} (l : List α) : l.eraseIdx (l.length - 1) = l.dropLast := by
  induction l with
  | nil => rfl
  | cons a r ih =>
    cases r with
    | nil => rfl
    | cons b r =>
      have e : (a :: b :: r).length - 1 = ((b :: r).length - 1) + 1 := by
        have h1 : (a :: b :: r).length = r.length + 2 := rfl
        have h2 : (b :: r).length = r.length + 1 := rfl
        omega
      rw [e, List.eraseIdx_cons_succ, ih]
      all_goals rfl
theorem len_erase {α : Type} : ∀ (l : List α) (i : Nat), (l.eraseIdx i).length ≤ l.length
  | [], _ => Nat.le_refl _
  | _ :: _, 0 => Nat.le_succ _
  | _ :: r, i + 1 => Nat.succ_le_succ (len_erase r i)
section
variable {X : Cx} {pins : List (Addr × Obj)} {σ : St} {H : Hp} {s : Shared} {l b : Addr} {xs ys zs : List V}
theorem Inv.lset {its its' : List Value} {n : Nat} {f : Array Value → Array Value} {t' : Nat} (I : Inv X pins σ H s) (hH : H l = some (.lst xs))
    (e : s.heap.get? l = some { cls := .type "list", data := .seq its.toArray n }) (hf : f its.toArray = its'.toArray) (hv : Vals ys its') (hz : ys.length ≤ sizeLine) :
    Inv X pins σ (upd H l (.lst ys)) { s with heap := s.heap.update l (Obj.mapSeq f), toks := t' } := by
  have q := PySem.IsL.update e f
  rw [hf] at q
  refine I.write (x := l) (e := l) (by rw [hH]; exact trivial) (.inl rfl) (fun b' u hb hu => (Heap.get?_update_other s.heap (Obj.mapSeq f) (Ne.symm hb)).trans hu) ⟨_, q⟩ ?_
  exact ⟨hz, its', _, hv, q⟩
theorem Inv.lnew {its : List Value} {t' : Nat} (I : Inv X pins σ H s) (hv : Vals ys its) (hz : ys.length ≤ sizeLine) :
    Inv X pins σ (upd H s.heap.objs.size (.lst ys)) { s with heap := s.heap.push { cls := .type "list", data := .seq its.toArray }, toks := t' } :=
  I.laid (fun _ _ q => Heap.get?_push_of_some _ q) (Nat.le_refl _) ⟨hz, its, 0, hv, Heap.get?_push_size _ rfl⟩
theorem Inv.fresh (I : Inv X pins σ H s) : H s.heap.objs.size = none := I.hok.fresh (Nat.le_refl _)
theorem Inv.lstM (I : Inv X pins σ H s) (hH : H l = some (.lst xs)) : xs.length ≤ sizeLine ∧ ∃ (its : List Value) (n : Nat), Vals xs its ∧ xs.length = its.length ∧ s.heap.get? l = some { cls := .type "list", data := .seq its.toArray n } := by
  obtain ⟨z, its, n, r, e⟩ := I.hok l _ hH
  exact ⟨z, its, n, r, r.length, e⟩
theorem notLongL {n : Nat} (h : n ≤ sizeLine) : Builtin.List.listTooLong n = false := by
  unfold Builtin.List.listTooLong
  exact decide_eq_false (by omega)
end
section
variable {X : Cx}
def rAppend : V → List V → Hp → VK → Prop := fun x vs H Q => ∃ l xs y, x = .ref l ∧ vs = [y] ∧ H l = some (.lst xs) ∧ xs.length < sizeLine ∧ Q .non (upd H l (.lst (xs ++ [y])))
theorem mt_append : MtM X "list.append" rAppend := by
  intro pins s σ H x vs v us Q I rx rv h
  obtain ⟨l, xs, y, rfl, rfl, hH, hz, q⟩ := h
  cases rx
  obtain ⟨u, rfl, ru⟩ := rv.one
  obtain ⟨z, its, n, r, hl, e⟩ := I.lstM hH
  refine call_meets F.slot_list_append ⟨_, e, rfl⟩ F.entry_list_append (F.args_list_append_2 _ _) (PySem.list_append l its.toArray n u (by rw [List.size_toArray]; omega)) ⟨e, ?_⟩
  refine ⟨.non, _, I.lset (its' := its ++ [u]) hH e (by simp) (r.append (.cons ru .nil)) ?_, rfl, q⟩
  rw [List.length_append, List.length_singleton]
  omega
def rExtend : V → List V → Hp → VK → Prop := fun x vs H Q => ∃ l b xs zs, x = .ref l ∧ vs = [.ref b] ∧ H l = some (.lst xs) ∧ H b = some (.lst zs) ∧ xs.length + zs.length ≤ sizeLine ∧ Q .non (upd H l (.lst (xs ++ zs)))
theorem mt_extend : MtM X "list.extend" rExtend := by
  intro pins s σ H x vs v us Q I rx rv h
  obtain ⟨l, b, xs, zs, rfl, rfl, hH, hB, hz, q⟩ := h
  cases rx
  obtain ⟨u, rfl, ru⟩ := rv.one
  cases ru
  obtain ⟨z, its, n, r, hl, e⟩ := I.lstM hH
  obtain ⟨z2, its2, n2, r2, hl2, e2⟩ := I.lstM hB
  have hsz : its.toArray.size + its2.toArray.size ≤ sizeLine := by rw [List.size_toArray, List.size_toArray]; omega
  have hlong : ¬ (!its.toArray.isEmpty && Builtin.List.listTooLong (its.toArray.size + its2.toArray.size)) = true := by
    rw [notLongL hsz, Bool.and_false]
    exact Bool.false_ne_true
  refine call_meets F.slot_list_extend ⟨_, e, rfl⟩ F.entry_list_extend (F.args_list_extend_2 _ _)
    (AutoSeq1.list_extend_list_list_0 l its.toArray n b its2.toArray n2 hlong (by rw [List.size_toArray]; omega) (by omega)) ⟨e, e2, ?_⟩
  refine ⟨.non, _, I.lset (its' := its ++ its2) hH e (by simp) (r.append r2) ?_, rfl, q⟩
  rw [List.length_append]
  omega
def rPop : V → List V → Hp → VK → Prop := fun x vs H Q => ∃ l xs y, x = .ref l ∧ vs = [] ∧ H l = some (.lst xs) ∧ xs[xs.length - 1]? = some y ∧ Q y (upd H l (.lst xs.dropLast))
theorem mt_pop : MtM X "list.pop" rPop := by
  intro pins s σ H x vs v us Q I rx rv h
  obtain ⟨l, xs, y, rfl, rfl, hH, hy, q⟩ := h
  cases rx
  have hus := rv.zero
  subst hus
  obtain ⟨z, its, n, r, hl, e⟩ := I.lstM hH
  obtain ⟨u, hu, ru⟩ := r.get hy
  have hy' : its.toArray[its.toArray.size - 1]? = some u := by
    show its.toArray[its.length - 1]? = some u
    rw [← Array.getElem?_toList, ← hl]
    exact hu
  refine call_meets F.slot_list_pop ⟨_, e, rfl⟩ F.entry_list_pop (F.args_list_pop_1 _) (MeetsSeq.list_pop_last l its.toArray n u hy' (by rw [List.size_toArray]; omega)) ⟨e, ?_⟩
  refine ⟨y, _, I.lset (its' := its.dropLast) hH e ?_ r.dropLast ?_, ru, q⟩
  · show its.toArray.eraseIdxIfInBounds (its.toArray.size - 1) = its.dropLast.toArray
    rw [List.size_toArray, List.eraseIdxIfInBounds_toArray, erase_last]
  · rw [List.length_dropLast]
    omega
def rPopAt : V → List V → Hp → VK → Prop := fun x vs H Q => ∃ l xs i k y, x = .ref l ∧ vs = [.int i] ∧ H l = some (.lst xs) ∧ -(2 ^ 63) ≤ i ∧ i < 2 ^ 63 ∧ seqIndex? i xs.length = some k ∧ xs[k]? = some y ∧ Q y (upd H l (.lst (xs.eraseIdx k)))
theorem mt_popAt : MtM X "list.pop" rPopAt := by
  intro pins s σ H x vs v us Q I rx rv h
  obtain ⟨l, xs, i, k, y, rfl, rfl, hH, h1, h2, hk, hy, q⟩ := h
  cases rx
  obtain ⟨u, rfl, ru⟩ := rv.one
  obtain ⟨t, rfl⟩ := ru
  obtain ⟨z, its, n, r, hl, e⟩ := I.lstM hH
  obtain ⟨w, hw, rw'⟩ := r.get hy
  refine call_meets F.slot_list_pop ⟨_, e, rfl⟩ F.entry_list_pop (F.args_list_pop_2 _ _)
    (MeetsSeq.list_pop_at l its.toArray n i t k w (fitsIndex_both h1 h2) (by rw [List.size_toArray, ← hl]; exact hk) (by rw [← Array.getElem?_toList]; exact hw) (by rw [List.size_toArray]; omega)) ⟨e, ?_⟩
  refine ⟨y, _, I.lset (its' := its.eraseIdx k) hH e ?_ (r.eraseIdx k) ?_, rw', q⟩
  · show its.toArray.eraseIdxIfInBounds k = (its.eraseIdx k).toArray
    rw [List.eraseIdxIfInBounds_toArray]
  · have := len_erase xs k
    omega
def rCat : R2 := fun x y H Q => ∃ l b xs zs, x = .ref l ∧ y = .ref b ∧ H l = some (.lst xs) ∧ H b = some (.lst zs) ∧ xs.length + zs.length ≤ sizeLine ∧ ∀ p, H p = none → Q (.ref p) (upd H p (.lst (xs ++ zs)))
theorem op_cat : OpR X (binaryOp .Add) rCat := by
  intro pins s σ H x y v u Q I rx ry h
  obtain ⟨l, b, xs, zs, rfl, rfl, hH, hB, hz, q⟩ := h
  cases rx
  cases ry
  obtain ⟨z, its, n, r, hl, e⟩ := I.lstM hH
  obtain ⟨z2, its2, n2, r2, hl2, e2⟩ := I.lstM hB
  refine PySem.P.add_list e e2 ?_ (by rw [List.size_toArray, List.size_toArray]; omega)
  have ea : its.toArray ++ its2.toArray = (its ++ its2).toArray := by simp
  rw [ea]
  exact ⟨.ref _, _, I.lnew (t' := s.toks) (r.append r2) (by rw [List.length_append]; omega), rfl, q _ I.fresh⟩
end
section
variable {prog : Program} {w : World} {A : Around} {E : Value → Shared → Prop} {s : Shared}
end
section
variable {X : Cx}
end
end L2
namespace L2
open PySem PySem.Spec PyProof.Rows
section
variable {κ : Type} [DecidableEq κ]
def valV (kvs : List (κ × V)) (k : κ) : Option V := (kvs.find? fun kv => decide (kv.1 = k)).map (·.2)
def putK (kvs : List (κ × V)) (k : κ) (v : V) : List (κ × V) :=
  if (kvs.any fun kv => decide (kv.1 = k)) = true then kvs.map (fun kv => if kv.1 = k then (kv.1, v) else kv) else kvs ++ [(k, v)]
theorem valV_pos {p : κ × V} {r : List (κ × V)} {k : κ} (e : p.1 = k) : valV (p :: r) k = some p.2 := by simp [valV, List.find?_cons, e]
theorem valV_neg {p : κ × V} {r : List (κ × V)} {k : κ} (e : ¬ p.1 = k) : valV (p :: r) k = valV r k := by simp [valV, List.find?_cons, e]
theorem valV_any (k : κ) : ∀ kvs : List (κ × V), (kvs.any fun kv => decide (kv.1 = k)) = (valV kvs k).isSome
  | [] => rfl
  | p :: r => by
    rw [List.any_cons]
    by_cases e : p.1 = k
    · simp only [valV_pos e, decide_eq_true e, Bool.true_or, Option.isSome_some]
    · rw [valV_neg e, decide_eq_false e, Bool.false_or]; exact valV_any k r
theorem valV_map (k j : κ) (y : V) : ∀ kvs : List (κ × V), valV (kvs.map fun kv => if kv.1 = k then (kv.1, y) else kv) j = (valV kvs j).map fun x => if j = k then y else x
  | [] => rfl
  | p :: r => by
    have ih := valV_map k j y r
    rw [List.map_cons]
    by_cases h : p.1 = k
    · rw [if_pos h]
      by_cases e : p.1 = j
      · rw [valV_pos (p := (p.1, y)) e, valV_pos e, Option.map_some, if_pos (e.symm.trans h)]
      · rw [valV_neg (p := (p.1, y)) e, valV_neg e, ih]
    · rw [if_neg h]
      by_cases e : p.1 = j
      · rw [valV_pos (p := p) e, valV_pos e, Option.map_some, if_neg (fun z => h (e.trans z))]
      · rw [valV_neg (p := p) e, valV_neg e, ih]
theorem valV_snoc (k j : κ) (y : V) : ∀ kvs : List (κ × V), valV kvs k = none → valV (kvs ++ [(k, y)]) j = if j = k then some y else valV kvs j
  | [], _ => by
    by_cases e : k = j
    · rw [if_pos e.symm]; exact valV_pos (p := (k, y)) e
    · rw [if_neg (fun z => e z.symm)]; exact valV_neg (p := (k, y)) e
  | p :: r, hn => by
    rw [List.cons_append]
    have hk : ¬ p.1 = k := fun z => by rw [valV_pos z] at hn; cases hn
    rw [valV_neg hk] at hn
    have ih := valV_snoc k j y r hn
    by_cases e : p.1 = j
    · rw [valV_pos e, valV_pos e, if_neg (fun z => hk (e.trans z))]
    · rw [valV_neg e, valV_neg e, ih]
theorem valV_put (kvs : List (κ × V)) (k j : κ) (y : V) : valV (putK kvs k y) j = if j = k then some y else valV kvs j := by
  unfold putK
  by_cases a : (kvs.any fun kv => decide (kv.1 = k)) = true
  · rw [if_pos a, valV_map]
    rw [valV_any] at a
    by_cases e : j = k
    · obtain ⟨x, hx⟩ := Option.isSome_iff_exists.mp a
      rw [if_pos e, e, hx, Option.map_some, if_pos rfl]
    · rw [if_neg e]
      cases valV kvs j with
      | none => rfl
      | some x => rw [Option.map_some, if_neg e]
  · rw [if_neg a]
    refine valV_snoc k j y kvs ?_
    rw [valV_any] at a
    cases q : valV kvs k with
    | none => rfl
    | some x => rw [q] at a; exact (a rfl).elim
theorem length_putK (kvs : List (κ × V)) (k : κ) (v : V) : (putK kvs k v).length ≤ kvs.length + 1 := by
  unfold putK
  split
  · rw [List.length_map]; omega
  · rw [List.length_append, List.length_cons, List.length_nil]; omega
theorem putK_new {kvs : List (κ × V)} {k : κ} (v : V) (h : valV kvs k = none) : putK kvs k v = kvs ++ [(k, v)] := by
  unfold putK
  rw [valV_any, h]
  exact if_neg (by decide)
theorem RelO.isSome_eq {o : Option V} {u : Option Value} (r : RelO o u) : o.isSome = u.isSome := by
  cases o with
  | none => cases u with
    | none => rfl
    | some _ => exact (show False from r).elim
  | some _ => cases u with
    | none => exact (show False from r).elim
    | some _ => rfl
theorem RelO.getD {o : Option V} {u : Option Value} {d : V} {d' : Value} (r : RelO o u) (rd : RelV d d') : RelV (o.getD d) (u.getD d') := by
  cases o with
  | none => cases u with
    | none => exact rd
    | some _ => exact (show False from r).elim
  | some _ => cases u with
    | none => exact (show False from r).elim
    | some _ => exact r
theorem KV.val {kvs : List (κ × V)} {vs : List (κ × Value)} (r : KV kvs vs) (k : κ) : RelO (valV kvs k) (valueAt vs k) := by
  unfold KV at r
  induction r with
  | nil => exact True.intro
  | @cons p q ps qs h t ih =>
    obtain ⟨h1, h2⟩ := h
    by_cases e : p.1 = k
    · have e' : q.1 = k := h1.symm.trans e
      have b : valueAt (q :: qs) k = some q.2 := by simp [valueAt, List.find?_cons, e']
      rw [valV_pos e, b]; exact h2
    · have e' : ¬ q.1 = k := fun z => e (h1.trans z)
      have b : valueAt (q :: qs) k = valueAt qs k := by simp [valueAt, List.find?_cons, e']
      rw [valV_neg e, b]; exact ih
theorem KV.any {kvs : List (κ × V)} {vs : List (κ × Value)} (r : KV kvs vs) (k : κ) : (kvs.any fun kv => decide (kv.1 = k)) = vs.any fun kv => decide (kv.1 = k) := by
  unfold KV at r
  induction r with
  | nil => rfl
  | cons h t ih => rw [List.any_cons, List.any_cons, ih, h.1]
theorem KV.repl {kvs : List (κ × V)} {vs : List (κ × Value)} (r : KV kvs vs) (k : κ) {y : V} {u : Value} (ry : RelV y u) :
    KV (kvs.map fun kv => if kv.1 = k then (kv.1, y) else kv) (vs.map fun kv => if kv.1 = k then (kv.1, u) else kv) := by
  unfold KV at r ⊢
  induction r with
  | nil => exact .nil
  | @cons p q ps qs h t ih =>
    rw [List.map_cons, List.map_cons]
    refine .cons ?_ ih
    obtain ⟨h1, h2⟩ := h
    by_cases e : p.1 = k
    · rw [if_pos e, if_pos (h1.symm.trans e)]; exact ⟨h1, ry⟩
    · rw [if_neg e, if_neg (fun z => e (h1.trans z))]; exact ⟨h1, h2⟩
theorem KV.put {kvs : List (κ × V)} {vs : List (κ × Value)} (r : KV kvs vs) (k : κ) {y : V} {u : Value} (ry : RelV y u) : KV (putK kvs k y) (stored vs k u) := by
  unfold putK stored
  rw [r.any k]
  by_cases e : (vs.any fun kv => decide (kv.1 = k)) = true
  · rw [if_pos e, if_pos e]; exact r.repl k ry
  · rw [if_neg e, if_neg e]; exact Paired.snoc r ⟨rfl, ry⟩
theorem KV.length {kvs : List (κ × V)} {vs : List (κ × Value)} (r : KV kvs vs) : kvs.length = vs.length := Paired.length r
end
theorem kV_is {P : Program} {w : World} {k : Key} {u : Value} (r : RelV (kV k) u) : (mixKind P w).is k u = true := by
  cases k with
  | inl i => obtain ⟨t, e⟩ := (show ∃ t, u = Value.int i t from r); subst e; exact mixKind_int P w i t
  | inr x => obtain ⟨t, e⟩ := (show ∃ t, u = Value.str x t from r); subst e; exact mixKind_str P w x t
theorem items_are {P : Program} {w : World} : ∀ {ks : List Key} {us : List Value}, Vals (ks.map kV) us → ItemsAre (mixKind P w) ks us
  | [], _, r => by rw [List.map_nil] at r; cases r; exact .nil
  | k :: ks, _, r => by
    rw [List.map_cons] at r
    cases r with
    | cons h t => exact .cons (kV_is h) (items_are t)
abbrev KT (H : Hp) : List (List Key × V) → List (List Key × Addr × Value) → Prop := Paired fun p q => p.1 = q.1 ∧ RdT H q.2.1 (p.1.map kV) ∧ RelV p.2 q.2.2
theorem KT.val {H : Hp} {kvs : List (List Key × V)} {xs : List (List Key × Addr × Value)} (r : KT H kvs xs) (k : List Key) : RelO (valV kvs k) ((atKey xs k).map (·.2)) := by
  induction r with
  | nil => exact True.intro
  | @cons p q ps qs h t ih =>
    obtain ⟨h1, _, h2⟩ := h
    by_cases e : p.1 = k
    · have e' : q.1 = k := h1.symm.trans e
      have b : atKey (q :: qs) k = some q.2 := by simp [atKey, List.find?_cons, e']
      rw [valV_pos e, b]; exact h2
    · have e' : ¬ q.1 = k := fun z => e (h1.trans z)
      have b : atKey (q :: qs) k = atKey qs k := by simp [atKey, List.find?_cons, e']
      rw [valV_neg e, b]; exact ih
theorem KT.repl {H : Hp} {kvs : List (List Key × V)} {xs : List (List Key × Addr × Value)} (r : KT H kvs xs) (k : List Key) {y : V} {u : Value} (ry : RelV y u) :
    KT H (kvs.map fun kv => if kv.1 = k then (kv.1, y) else kv) (xs.map (putAt k u)) := by
  induction r with
  | nil => exact .nil
  | @cons p q ps qs h t ih =>
    rw [List.map_cons, List.map_cons]
    refine .cons ?_ ih
    obtain ⟨h1, h2, h3⟩ := h
    unfold putAt
    by_cases e : p.1 = k
    · rw [if_pos e, if_pos (h1.symm.trans e)]; exact ⟨h1, h2, ry⟩
    · rw [if_neg e, if_neg (fun z => e (h1.trans z))]; exact ⟨h1, h2, h3⟩
theorem KT.put {H : Hp} {kvs : List (List Key × V)} {xs : List (List Key × Addr × Value)} (r : KT H kvs xs) (k : List Key) {b : Addr} {y : V} {u : Value} (hb : RdT H b (k.map kV)) (ry : RelV y u) :
    KT H (putK kvs k y) (storedH xs k b u) := by
  have e : (kvs.any fun kv => decide (kv.1 = k)) = (atKey xs k).isSome := by
    rw [valV_any, (r.val k).isSome_eq, Option.isSome_map]
  unfold putK storedH
  rw [e]
  by_cases q : (atKey xs k).isSome = true
  · rw [if_pos q, if_pos q]; exact r.repl k ry
  · rw [if_neg q, if_neg q]; exact Paired.snoc r ⟨rfl, hb, ry⟩
theorem KT.keeps {H H' : Hp} {kvs : List (List Key × V)} {xs : List (List Key × Addr × Value)} (r : KT H kvs xs) (ht : ∀ b ys, RdT H b ys → RdT H' b ys) : KT H' kvs xs :=
  Paired.mapP r fun _ _ z => ⟨z.1, ht _ _ z.2.1, z.2.2⟩
section
variable {P : Program} {w : World} {H : Hp} {h : Heap} {a : Addr}
theorem rd_of {u : HO} (ok : HOk P w H h) (e : Rd H a u) : ObjOk P w H h a u := e.ok ok
theorem dk_rd {kvs : List (Key × V)} (ok : HOk P w H h) (e : Rd H a (.dK kvs)) : kvs.length ≤ sizeLine ∧ (a == sysModules) = false ∧ ∃ vs, KV kvs vs ∧ h.DictOf (mixKind P w) a vs :=
  show ObjOk P w H h a (.dK kvs) from rd_of ok e
theorem dk_of {kvs : List (Key × V)} (ok : HOk P w H h) (e : H a = some (.dK kvs)) : kvs.length ≤ sizeLine ∧ (a == sysModules) = false ∧ ∃ vs, KV kvs vs ∧ h.DictOf (mixKind P w) a vs := dk_rd ok (.inl e)
theorem key_of {ks : List Key} (ok : HOk P w H h) (e : RdT H a (ks.map kV)) : (tupleKind (mixKind P w)).is h ks a := by
  have qq : ObjOk P w H h a (.tup (ks.map kV)) := by
    rcases e with e | ⟨_, e⟩
    · exact ok a _ e
    · exact (ok a _ e).2
  obtain ⟨_, its, r, o, h1, h2, n, h3⟩ := qq
  exact ⟨o, its.toArray, n, h1, h2, h3, by simpa using items_are r⟩
theorem dt_rd {kvs : List (List Key × V)} (ok : HOk P w H h) (e : Rd H a (.dT kvs)) : kvs.length ≤ sizeLine ∧ (a == sysModules) = false ∧
    ∃ xs, KT H kvs xs ∧ h.DictOfH (tupleKind (mixKind P w)) a xs := by
  obtain ⟨z, y, xs, r, o, es, ep, h1, h2, h3, h4, h5⟩ := (show ObjOk P w H h a (.dT kvs) from rd_of ok e)
  refine ⟨z, y, xs, r, o, es, ep, h1, h2, h3, h4, fun x hx => ?_, h5⟩
  have all : ∀ {l : List (List Key × V)} {m : List (List Key × Addr × Value)}, KT H l m → ∀ x ∈ m, (tupleKind (mixKind P w)).is h x.1 x.2.1 := by
    intro l m q
    induction q with
    | nil => intro x hx; exact nomatch hx
    | @cons p q ps qs hq t ih =>
      intro x hx
      rcases List.mem_cons.mp hx with e | hx
      · subst e
        exact key_of ok (by rw [← hq.1]; exact hq.2.1)
      · exact ih x hx
  exact all r x hx
theorem dt_of {kvs : List (List Key × V)} (ok : HOk P w H h) (e : H a = some (.dT kvs)) : kvs.length ≤ sizeLine ∧ (a == sysModules) = false ∧
    ∃ xs, KT H kvs xs ∧ h.DictOfH (tupleKind (mixKind P w)) a xs := dt_rd ok (.inl e)
end
def DGet (H : Hp) (a : Addr) (y : V) (r : Option V) : Prop :=
  (∃ kvs k, Rd H a (.dK kvs) ∧ y = kV k ∧ r = valV kvs k) ∨ ∃ kvs k b, Rd H a (.dT kvs) ∧ y = .ref b ∧ RdT H b (k.map kV) ∧ r = valV kvs k
def DPut (H : Hp) (a : Addr) (y v : V) (H' : Hp) : Prop :=
  (∃ kvs k, H a = some (.dK kvs) ∧ y = kV k ∧ kvs.length < sizeLine ∧ H' = upd H a (.dK (putK kvs k v))) ∨
  ∃ kvs k b, H a = some (.dT kvs) ∧ y = .ref b ∧ RdT H b (k.map kV) ∧ kvs.length < sizeLine ∧ H' = upd H a (.dT (putK kvs k v))
theorem DGet.k {H : Hp} {a : Addr} {kvs : List (Key × V)} {k : Key} (e : H a = some (.dK kvs)) : DGet H a (kV k) (valV kvs k) := .inl ⟨kvs, k, .inl e, rfl, rfl⟩
theorem DPut.k {H : Hp} {a : Addr} {kvs : List (Key × V)} {k : Key} {v : V} (e : H a = some (.dK kvs)) (hl : kvs.length < sizeLine) : DPut H a (kV k) v (upd H a (.dK (putK kvs k v))) := .inl ⟨kvs, k, e, rfl, hl, rfl⟩
section
variable {X : Cx} {pins : List (Addr × Obj)} {σ : St} {H : Hp} {s : Shared} {a : Addr} {y v : V} {u r : Value} {o : Option V} {A : Around} {E : Value → Shared → Prop}
theorem Inv.big (I : Inv X pins σ H s) : sysModules < s.heap.objs.size := by
  have h : mainGlobals < s.heap.objs.size := (I.mod.glob.keeps I.bk).lt
  exact Nat.lt_trans (by decide) h
theorem d_getItem {Q : Value → Shared → Prop} (hu : A.units + 1 < cLine) (I : Inv X pins σ H s) (g : DGet H a y (some v)) (ry : RelV y u) (h : ∀ w' s', Inv X pins σ H s' → RelV v w' → Q w' s') :
    wpAny (model X.prog X.w) A (getItem (.ref a) u) Q E s := by
  rcases g with ⟨kvs, k, e, ey, l⟩ | ⟨kvs, k, b, e, ey, eb, l⟩
  · subst ey
    obtain ⟨z, hd, vs, rel, dd⟩ := dk_rd I.hok e
    obtain ⟨w', hw, rw'⟩ := RelO.some_of (v := v) (o := valueAt vs k) (by rw [l]; exact rel.val k)
    exact wpAny_getItem_of (kV_is ry) dd.mapOf hw (h w' _ (I.tok _) rw')
  · subst ey
    cases (show u = Value.ref b from ry)
    obtain ⟨z, hd, xs, rel, dd⟩ := dt_rd I.hok e
    obtain ⟨w', hw, rw'⟩ := RelO.some_of (v := v) (o := (atKey xs k).map (·.2)) (by rw [l]; exact rel.val k)
    obtain ⟨p, hp, hp2⟩ := Option.map_eq_some_iff.mp hw
    refine wpAny_getItem_heap (tupleKind_room_in1 hu) (key_of I.hok eb) dd hp ?_
    rw [hp2]
    exact h w' _ (I.tok _) rw'
theorem d_in {Q : Value → Shared → Prop} (hu : A.units + 1 < cLine) (I : Inv X pins σ H s) (g : DGet H a y o) (ry : RelV y u) (h : ∀ s', Inv X pins σ H s' → Q (.bool o.isSome) s') :
    wpAny (model X.prog X.w) A (compareOp .In u (.ref a)) Q E s := by
  rcases g with ⟨kvs, k, e, ey, l⟩ | ⟨kvs, k, b, e, ey, eb, l⟩
  · subst ey
    obtain ⟨z, hd, vs, rel, dd⟩ := dk_rd I.hok e
    refine wpAny_in_of (kV_is ry) hd dd.mapOf ?_
    rw [← (rel.val k).isSome_eq, ← l]
    exact h _ (I.tok _)
  · subst ey
    cases (show u = Value.ref b from ry)
    obtain ⟨z, hd, xs, rel, dd⟩ := dt_rd I.hok e
    refine wpAny_in_heap (tupleKind_room_in1 hu) (key_of I.hok eb) hd dd ?_
    have q := (rel.val k).isSome_eq
    rw [Option.isSome_map] at q
    rw [← q, ← l]
    exact h _ (I.tok _)
theorem d_notIn {Q : Value → Shared → Prop} (hu : A.units + 1 < cLine) (I : Inv X pins σ H s) (g : DGet H a y o) (ry : RelV y u) (h : ∀ s', Inv X pins σ H s' → Q (.bool (!o.isSome)) s') :
    wpAny (model X.prog X.w) A (compareOp .NotIn u (.ref a)) Q E s := by
  rcases g with ⟨kvs, k, e, ey, l⟩ | ⟨kvs, k, b, e, ey, eb, l⟩
  · subst ey
    obtain ⟨z, hd, vs, rel, dd⟩ := dk_rd I.hok e
    refine wpAny_notIn_of (kV_is ry) hd dd.mapOf ?_
    rw [← (rel.val k).isSome_eq, ← l]
    exact h _ (I.tok _)
  · subst ey
    cases (show u = Value.ref b from ry)
    obtain ⟨z, hd, xs, rel, dd⟩ := dt_rd I.hok e
    refine wpAny_notIn_heap (tupleKind_room_in1 hu) (key_of I.hok eb) hd dd ?_
    have q := (rel.val k).isSome_eq
    rw [Option.isSome_map] at q
    rw [← q, ← l]
    exact h _ (I.tok _)
theorem d_write {h' : Heap} {t' : Nat} {ob : HO} (I : Inv X pins σ H s) (mu : Mut (H a)) (hs : Heap.SameBut a s.heap h') (he : ∃ q, h'.get? a = some q) (new : ObjOk X.prog X.w (upd H a ob) h' a ob) :
    Inv X pins σ (upd H a ob) { s with heap := h', toks := t' } :=
  I.write (x := a) (e := a) mu (.inl rfl) (fun b q hb z => (hs.2 b hb).trans z) he new
theorem dk_new {P : Program} {w : World} {H' : Hp} {h' : Heap} {kvs : List (Key × V)} {vs : List (Key × Value)} (z : kvs.length ≤ sizeLine) (hd : (a == sysModules) = false) (rel : KV kvs vs) (dd : h'.DictOf (mixKind P w) a vs) :
    ObjOk P w H' h' a (.dK kvs) := ⟨z, hd, vs, rel, dd⟩
theorem d_setItem {H' : Hp} {Q : Unit → Shared → Prop} (hu : A.units + 1 < cLine) (I : Inv X pins σ H s) (g : DPut H a y v H') (ry : RelV y u) (rv : RelV v r) (h : ∀ s', Inv X pins σ H' s' → Q () s') :
    wpAny (model X.prog X.w) A (setItem (.ref a) u r) Q E s := by
  rcases g with ⟨kvs, k, e, ey, l, eH⟩ | ⟨kvs, k, b, e, ey, eb, l, eH⟩
  · subst ey eH
    obtain ⟨z, hd, vs, rel, dd⟩ := dk_of I.hok e
    have hz : vs.length ≤ sizeLine := by rw [← rel.length]; exact z
    have hl : (putK kvs k v).length ≤ sizeLine := by have := length_putK kvs k v; omega
    refine wpAny_setItem_pairs (hsz := hz) (kV_is ry) dd fun h' dd' hs => h _ ?_
    have he : ∃ q, h'.get? a = some q := let ⟨q, _, _, hq, _⟩ := dd'; ⟨q, hq⟩
    exact d_write I (by rw [e]; exact True.intro) hs he (dk_new hl hd (rel.put k rv) dd')
  · subst ey eH
    cases (show u = Value.ref b from ry)
    obtain ⟨z, hd, xs, rel, dd⟩ := dt_of I.hok e
    have hz : xs.length ≤ sizeLine := by rw [← Paired.length rel]; exact z
    have hl : (putK kvs k v).length ≤ sizeLine := by have := length_putK kvs k v; omega
    refine wpAny_setItem_heap (hsz := hz) (tupleKind_room_in1 hu) (key_of I.hok eb) dd fun h' dd' hs => h _ ?_
    obtain ⟨q, es, ep, hq, h2, h3, h4, _, h5⟩ := dd'
    refine d_write I (by rw [e]; exact True.intro) hs ⟨q, hq⟩ ⟨hl, hd, _, (rel.put k eb rv).keeps fun c ys ec => ?_, q, es, ep, hq, h2, h3, h4, h5⟩
    refine ec.upd fun u hu z => ?_
    subst z
    rcases ec with ec | ⟨_, ec⟩ <;> (rw [e] at ec; cases ec)
end
section
variable {X : Cx} {pins : List (Addr × Obj)} {σ : St} {H : Hp} {s : Shared} {a : Addr} {kvs : List (Key × V)} {k : Key} {u : Value} {A : Around} {E : Value → Shared → Prop}
theorem d_len {Q : Value → Shared → Prop} (I : Inv X pins σ H s) (e : Rd H a (.dK kvs)) (h : ∀ t s', Inv X pins σ H s' → Q (.int kvs.length t) s') : wpAny (model X.prog X.w) A (call (.builtin "len") [.ref a]) Q E s := by
  obtain ⟨z, hd, vs, rel, dd⟩ := dk_rd I.hok e
  refine call_len_dict hd dd (by rw [← rel.length]; rw [sizeLine_eq] at z; omega) ?_
  rw [← rel.length]
  exact h _ _ (I.tok _)
end
def NoSl (i : Expr) : Prop := ∀ ov iv, subscripted i false ov iv = operate [ov, iv] (getItem ov iv)
theorem subD_of {prog : Program} {w : World} {A : Around} {E : Value → Shared → Prop} {s : Shared} {env : Env} {value slice : Expr} {pos : Pos} {T id : String} {Q : Value → Shared → Prop}
    (hl : typeLookup (.type T) "__getitem__" = pure (some (.builtin id))) (hs : NoSl slice)
    (h : wpAny (model prog w) A (eval value env) (fun o s₁ => wpAny (model prog w) A (eval slice env) (fun i s₂ => s₂.TypeIs o T ∧ wpAny (model prog w) A (getItem o i) Q E s₂) E s₁) E s) :
    wpAny (model prog w) A (eval (.Subscript value slice pos) env) Q E s := by
  refine Subscript_ (wpAny_mono h (fun o s₁ h₁ => wpAny_mono h₁ (fun i s₂ h₂ => ?_) fun _ _ x => x) fun _ _ x => x)
  obtain ⟨hT, h₂⟩ := h₂
  unfold subscriptTail
  refine wpAny_bind ?_
  rw [getitemInPython_of_ne hT.not_modules]
  refine wpAny_bind (wpAny_specialOf hT hl ?_)
  have fin : wpAny (model prog w) A (subscripted slice false o i) (fun r s₃ => wpAny (model prog w) A (letTemporaryGo value o r >>= fun _ => pure r) Q E s₃) E s₂ := by
    rw [hs o i]
    exact wpAny_operating (wpAny_mono h₂ (fun r s₃ h₃ => wpAny_bind (wpAny_letTemporaryGo (wpAny_pure h₃))) fun _ _ x => x)
  first
    | exact wpAny_pure (wpAny_bind fin)
    | exact wpAny_bind (wpAny_pure (wpAny_bind fin))
    | exact wpAny_bind fin
theorem dict_typeIs {X : Cx} {pins : List (Addr × Obj)} {σ : St} {H : Hp} {s : Shared} {a : Addr} {y : V} {o : Option V} (I : Inv X pins σ H s) (g : DGet H a y o) : s.TypeIs (.ref a) "dict" := by
  rcases g with ⟨kvs, k, e, _, _⟩ | ⟨kvs, k, b, e, _, _, _⟩
  · obtain ⟨_, _, vs, _, dd⟩ := dk_rd I.hok e
    exact dd.typeIs
  · obtain ⟨_, _, xs, _, dd⟩ := dt_rd I.hok e
    exact dd.typeIs
def tDGet (td ty : TE) : TE := fun σ H Q => td σ H fun x H1 => ty σ H1 fun y H2 => ∃ a v, x = .ref a ∧ DGet H2 a y (some v) ∧ Q v H2
def sDPut (td ty tv : TE) : TS := fun D σ H => tv σ H fun v H1 => td σ H1 fun x H2 => ty σ H2 fun y H3 => ∃ a H4, x = .ref a ∧ DPut H3 a y v H4 ∧ D.nx σ H4
section
variable {X : Cx} {o i e value : Expr} {pos pos' tpos : Pos} {td ty tv : TE}
theorem pe_dget (hu : X.A.units + 1 < cLine) (ho : PE X o td) (hi : PE X i ty) (hs : NoSl i) : PE X (.Subscript o i pos) (tDGet td ty) := by
  intro pins s σ H Q I h
  refine subD_of PySem.F.slot_dict_getitem.lookup hs (thn (ho pins s σ H _ I h) fun u s1 ⟨x, H1, I1, rx, q1⟩ => thn (hi pins s1 σ H1 _ I1 q1) fun iv s2 ⟨y, H2, I2, ry, a, v, ex, g, q2⟩ => ?_)
  subst ex
  obtain rfl : u = Value.ref a := rx
  exact ⟨dict_typeIs I2 g, d_getItem hu I2 g ry fun w' s3 I3 rw' => ⟨v, H2, I3, rw', q2⟩⟩
theorem ps_dput (hu : X.A.units + 1 < cLine) (ho : PE X o td) (hi : PE X i ty) (hv : PE X value tv) (hs : swapsWith value (some (.Subscript o i pos')) pos.line X.env = pure false) :
    PS X (.Assign [.Subscript o i pos'] value pos) (sDPut td ty tv) := by
  intro pins s σ H D I h
  refine wpAny_Assign_Subscript (thn (hv pins s σ H _ I h) fun r s1 ⟨v, H1, I1, rv, q1⟩ => thn (ho pins s1 σ H1 _ I1 q1) fun u s2 ⟨x, H2, I2, rx, q2⟩ => thn (hi pins s2 σ H2 _ I2 q2) fun iv s3 ⟨y, H3, I3, ry, a, H4, ex, g, q3⟩ => ?_) hs
  subst ex
  obtain rfl : u = Value.ref a := rx
  exact d_setItem hu I3 g ry rv fun s4 I4 => ⟨σ, H4, I4, q3⟩
end
theorem dk_empty {P : Program} {w : World} {H : Hp} (h : Heap) (hb : sysModules < h.objs.size) : ObjOk P w H (h.push { cls := .type "dict", data := .dict #[] }) h.objs.size (.dK []) :=
  ⟨Nat.zero_le _, beq_eq_false_iff_ne.mpr (Ne.symm (Nat.ne_of_lt hb)), [], .nil, Heap.DictOf.new h⟩
theorem dt_empty {P : Program} {w : World} {H : Hp} (h : Heap) (hb : sysModules < h.objs.size) : ObjOk P w H (h.push { cls := .type "dict", data := .dict #[] }) h.objs.size (.dT []) :=
  ⟨Nat.zero_le _, beq_eq_false_iff_ne.mpr (Ne.symm (Nat.ne_of_lt hb)), [], .nil, _, #[], 0, Heap.get?_push_size _ rfl, ⟨rfl, rfl, rfl⟩, rfl, rfl, List.nodup_nil⟩
def tDNewK : TE := fun _ H Q => ∀ p, H p = none → Q (.ref p) (upd H p (.dK []))
section
variable {X : Cx} {pos : Pos}
theorem pe_dnewK : PE X (.Dict [] [] pos) tDNewK := fun pins s σ H Q I h =>
  wpAny_Dict_empty ⟨.ref s.heap.objs.size, _, I.laid (a := s.heap.objs.size) (o := .dK []) (t' := s.toks) (fun _ _ q => Heap.get?_push_of_some _ q) (Nat.le_refl _) (dk_empty s.heap I.big), rfl, h _ (I.hok.fresh (Nat.le_refl _))⟩
end
def tPairs : List (TE × TE) → St → Hp → (List (V × V) → Hp → Prop) → Prop
  | [], _, H, Q => Q [] H
  | (tk, tv) :: r, σ, H, Q => tk σ H fun x H1 => tv σ H1 fun y H2 => tPairs r σ H2 fun ps H3 => Q ((x, y) :: ps) H3
abbrev VV : List (V × V) → List (Value × Value) → Prop := Paired fun p q => RelV p.1 q.1 ∧ RelV p.2 q.2
def PPs (X : Cx) (pos : Pos) (keys : List (Option Expr)) (values : List Expr) (trs : List (TE × TE)) : Prop :=
  ∀ (pins : List (Addr × Obj)) (s : Shared) (σ : St) (H : Hp) (Q : List (V × V) → Hp → Prop), Inv X pins σ H s → tPairs trs σ H Q →
    wpAny (model X.prog X.w) X.A (evalPairs (pairTrees keys values X.env pos)) (fun vs s' => ∃ ps H', Inv X pins σ H' s' ∧ VV ps vs ∧ Q ps H') X.xe s
theorem pps_nil {X : Cx} {pos : Pos} : PPs X pos [] [] [] := fun pins s σ H Q I h => pairTrees_nil_walk ⟨[], H, I, .nil, h⟩
theorem pps_cons {X : Cx} {pos : Pos} {k v : Expr} {ks : List (Option Expr)} {vs : List Expr} {tk tv : TE} {trs : List (TE × TE)} (hk : PE X k tk) (hv : PE X v tv) (hr : PPs X pos ks vs trs) :
    PPs X pos (some k :: ks) (v :: vs) ((tk, tv) :: trs) := fun pins s σ H Q I h =>
  pairTrees_cons_walk (thn (hk pins s σ H _ I h) fun u s1 ⟨x, H1, I1, rx, q1⟩ => thn (hv pins s1 σ H1 _ I1 q1) fun w2 s2 ⟨y, H2, I2, ry, q2⟩ =>
    thn (hr pins s2 σ H2 _ I2 q2) fun ws s3 ⟨ps, H3, I3, rel, q3⟩ => ⟨(x, y) :: ps, H3, I3, .cons ⟨rx, ry⟩ rel, q3⟩)
def mergeK (kvs more : List (Key × V)) : List (Key × V) := more.foldl (fun acc kv => putK acc kv.1 kv.2) kvs
theorem KV.merge : ∀ {more : List (Key × V)} {rs : List (Key × Value)} {kvs : List (Key × V)} {vs : List (Key × Value)}, KV more rs → KV kvs vs → KV (mergeK kvs more) (merged vs rs) := by
  intro more rs kvs vs r
  unfold KV at r
  induction r generalizing kvs vs with
  | nil => intro q; exact q
  | @cons p q ps qs h t ih =>
    intro r0
    have e : KV (putK kvs p.1 p.2) (stored vs q.1 q.2) := by
      have := r0.put p.1 h.2
      rw [← h.1]; exact this
    exact ih e
theorem length_mergeK : ∀ (more kvs : List (Key × V)), (mergeK kvs more).length ≤ kvs.length + more.length
  | [], kvs => by show kvs.length ≤ kvs.length + 0; omega
  | p :: r, kvs => by
    have h1 := length_mergeK r (putK kvs p.1 p.2)
    have h2 := length_putK kvs p.1 p.2
    show (mergeK (putK kvs p.1 p.2) r).length ≤ _
    rw [List.length_cons]; omega
theorem carries_of {P : Program} {w : World} : ∀ {kvs : List (Key × V)} {ws : List (Value × Value)}, VV (kvs.map fun kv => (kV kv.1, kv.2)) ws → ∃ rs, Carries (mixKind P w) ws rs ∧ KV kvs rs
  | [], _, r => by rw [List.map_nil] at r; cases r; exact ⟨[], True.intro, .nil⟩
  | p :: kvs, _, r => by
    rw [List.map_cons] at r
    cases r with
    | @cons a b as bs h t =>
      obtain ⟨rs, c, q⟩ := carries_of (P := P) (w := w) t
      obtain ⟨b1, b2⟩ := b
      exact ⟨(p.1, b2) :: rs, ⟨kV_is h.1, rfl, c⟩, .cons ⟨rfl, h.2⟩ q⟩
def tDisp (trs : List (TE × TE)) : TE := fun σ H Q => ∀ p, H p = none → tPairs trs σ (upd H p (.dK [])) fun ps H2 => H2 p = some (.dK []) ∧ ∃ kvs : List (Key × V), ps = kvs.map (fun kv => (kV kv.1, kv.2)) ∧ kvs.length ≤ 15 ∧ Q (.ref p) (upd H2 p (.dK (mergeK [] kvs)))
theorem pe_disp {X : Cx} {pos : Pos} {keys : List (Option Expr)} {values : List Expr} {trs : List (TE × TE)} (h : PPs X pos keys values trs) (hall : keys.all (·.isSome) = true) (hl : keys.length = values.length) (h0 : keys ≠ [])
    (h15 : keys.length ≤ 15) : PE X (.Dict keys values pos) (tDisp trs) := by
  intro pins s σ H Q I q
  have hn := I.hok.fresh (Nat.le_refl s.heap.objs.size)
  have I1 := I.laid (a := s.heap.objs.size) (o := .dK []) (h' := s.heap.push { cls := .type "dict", data := .dict #[] }) (t' := s.toks) (fun _ _ q => Heap.get?_push_of_some _ q) (Nat.le_refl _) (dk_empty s.heap I.big)
  refine wpAny_Dict_walk (knd := mixKind X.prog X.w) hall hl h0 h15 (thn (h pins _ σ _ _ I1 (q _ hn)) ?_)
  rintro ws s2 ⟨ps, H2, I2, rel, e, kvs, ep, lk, q2⟩
  subst ep
  obtain ⟨rs, c, rk⟩ := carries_of (P := X.prog) (w := X.w) rel
  obtain ⟨z, hd, vs0, r0, dd⟩ := dk_of I2.hok e
  cases r0
  refine ⟨rs, c, dd, fun h' dd' hs => ⟨.ref s.heap.objs.size, _, ?_, rfl, q2⟩⟩
  have hz : (mergeK [] kvs).length ≤ sizeLine := by
    have h1 := length_mergeK kvs []
    rw [List.length_nil] at h1
    rw [sizeLine_eq]; omega
  have he : ∃ q, h'.get? s.heap.objs.size = some q := let ⟨q, _, _, hq, _⟩ := dd'; ⟨q, hq⟩
  exact d_write I2 (by rw [e]; exact True.intro) hs he (dk_new hz hd (rk.merge .nil) dd')
structure M2 (X : Cx) (o : Expr) (m : Str) (apos : Pos) (e f : Expr) (cpos : Pos) : Prop where
  base : attributeBase o m X.env (eval o X.env) = eval o X.env
  few : ((backTo cpos (starEach [e, f] X.env)).all (fun x => !x.1) && (backToKw cpos (keywordEach [] X.env)).all (fun x => x.1.isSome)
    && decide (([e, f] : List Expr).length + ([] : List Keyword).length + (if ([] : List Keyword).isEmpty then 0 else 1) < 30)) = true
  line : (apos.endLine == cpos.line) = true
  trees : backTo cpos (starEach [e, f] X.env) = [(false, eval e X.env), (false, eval f X.env)]
def IsD (H : Hp) (a : Addr) : Prop := (∃ kvs, Rd H a (.dK kvs)) ∨ ∃ kvs, Rd H a (.dT kvs)
theorem isD_at {X : Cx} {pins : List (Addr × Obj)} {σ : St} {H : Hp} {s : Shared} {a : Addr} (I : Inv X pins σ H s) (d : IsD H a) :
    s.TypeIs (.ref a) "dict" ∧ (∀ b, Value.ref a = .ref b → ∃ ob, s.heap.get? b = some ob ∧ ob.dict = none) ∧ (a == sysModules) = false := by
  rcases d with ⟨kvs, e⟩ | ⟨kvs, e⟩
  · obtain ⟨_, hd, vs, _, dd⟩ := dk_rd I.hok e
    refine ⟨dd.typeIs, fun b q => ?_, hd⟩
    cases q
    obtain ⟨ob, _, _, h1, h2, _⟩ := dd
    exact ⟨ob, h1, h2.2.1⟩
  · obtain ⟨_, hd, xs, _, dd⟩ := dt_rd I.hok e
    refine ⟨dd.typeIs, fun b q => ?_, hd⟩
    cases q
    obtain ⟨ob, _, _, h1, h2, _⟩ := dd
    exact ⟨ob, h1, h2.2.1⟩
section
variable {X : Cx} {pins : List (Addr × Obj)} {σ : St} {H : Hp} {s : Shared} {a : Addr} {y d : V} {u r : Value} {o : Option V} {A : Around} {E : Value → Shared → Prop}
theorem d_get2 {Q : Value → Shared → Prop} (hu : A.units + 1 < cLine) (I : Inv X pins σ H s) (g : DGet H a y o) (ry : RelV y u) (rd : RelV d r) (h : ∀ w' s', Inv X pins σ H s' → RelV (o.getD d) w' → Q w' s') :
    wpAny (model X.prog X.w) A (call (.builtin "dict.get") [.ref a, u, r]) Q E s := by
  rcases g with ⟨kvs, k, e, ey, l⟩ | ⟨kvs, k, b, e, ey, eb, l⟩
  · subst ey
    obtain ⟨z, hd, vs, rel, dd⟩ := dk_rd I.hok e
    refine call_meetsIn PySem.F.slot_dict_get dd.typeIs PySem.F.entry_dict_get (PySem.F.args_dict_get_3 _ _ _) (meets_dict_get_default (mixKind X.prog X.w) a (kV_is ry) hd r) ⟨_, dd.mapOf, h _ _ (I.tok _) ?_⟩
    rw [l]
    exact (rel.val k).getD rd
  · subst ey
    cases (show u = Value.ref b from ry)
    obtain ⟨z, hd, xs, rel, dd⟩ := dt_rd I.hok e
    refine call_meetsIn PySem.F.slot_dict_get dd.typeIs PySem.F.entry_dict_get (PySem.F.args_dict_get_3 _ _ _) (meetsH_dict_get_default (tupleKind (mixKind X.prog X.w)) a b hd r) ⟨tupleKind_room_in1 hu, k, xs, key_of I.hok eb, dd, h _ _ (I.tok _) ?_⟩
    rw [l]
    exact (rel.val k).getD rd
end
def tDGet2 (td ty tx : TE) : TE := fun σ H Q => td σ H fun x H1 => ∃ a, x = .ref a ∧ IsD H1 a ∧ ty σ H1 fun y H2 => tx σ H2 fun z H3 => ∃ o, DGet H3 a y o ∧ Q (o.getD z) H3
section
variable {X : Cx} {o e f : Expr} {apos cpos : Pos} {td ty tx : TE}
theorem pe_dget2 (hu : X.A.units + 1 < cLine) (ho : PE X o td) (he : PE X e ty) (hf : PE X f tx) (m : M2 X o "get" apos e f cpos) : PE X (.Call (.Attribute o "get" apos) [e, f] [] cpos) (tDGet2 td ty tx) := by
  intro pins s σ H Q I h
  refine wpAny_Call_method m.base m.few m.line PySem.F.plainAttrs_dict PySem.F.slot_dict_get PySem.F.type_dict_get (thn (ho pins s σ H _ I h) ?_)
  rintro u s1 ⟨x, H1, I1, rx, a, ex, d, q1⟩
  subst ex
  obtain rfl : u = Value.ref a := rx
  obtain ⟨t1, t2, _⟩ := isD_at I1 d
  refine ⟨t1, t2, ?_⟩
  rw [m.trees]
  refine Calls.callWith_builtin rfl (Calls.evalArgs_plain (Calls.spliced_cons (thn (he pins s1 σ H1 _ I1 q1) fun iv s2 ⟨y, H2, I2, ry, q2⟩ =>
    Calls.spliced_cons (thn (hf pins s2 σ H2 _ I2 q2) fun fv s3 ⟨z, H3, I3, rz, ov, g, q3⟩ => Calls.spliced_nil ?_))))
  exact d_get2 hu I3 g ry rz fun w' s4 I4 rw' => ⟨_, H3, I4, rw', q3⟩
end
section
variable {X : Cx} {pins : List (Addr × Obj)} {σ : St} {H : Hp} {s : Shared} {a : Addr} {kvs : List (Key × V)} {A : Around} {E : Value → Shared → Prop}
end
section
variable {X : Cx} {pins : List (Addr × Obj)} {σ : St} {H : Hp} {s : Shared} {a : Addr} {y : V} {u : Value} {A : Around} {E : Value → Shared → Prop}
end
end L2
namespace Att
open PySem PySem.W PySem.Calls PyProof.Rows
theorem ints_of_wellAll {P : Params} {h : Heap} : ∀ (ns : List Int) (vs : List Value), WellAll P h vs (ns.map WData.int) → IntsAre vs ns := by
  intro ns
  induction ns with
  | nil =>
    intro vs w
    rw [List.map_nil] at w
    cases w
    exact .nil
  | cons n ns ih =>
    intro vs w
    rw [List.map_cons] at w
    cases w with
    | cons a b =>
      cases a
      exact .cons _ _ (ih _ b)
theorem script_of {l : OpenLaw} {n : Nat} (hn : l.most = some n) {P : Params} {h : Heap} {args : List WData} {vals : List Value}
    (hpre : l.row.toRowW.claim.pre args = true) (hwl : WellAll P h vals args) :
    ∃ a vs ns, vals = [Value.ref a] ∧ args = [WData.list (ns.map WData.int)] ∧ h.get? a = some { cls := .type "list", data := .seq vs.toArray } ∧ IntsAre vs ns ∧ ns.length ≤ n := by
  have hsh : WShape.hasAll [] args [.list .int] = true := (pre_splitW hpre).1
  have hc : l.pre.holds [] { args := args } = true := (pre_splitW hpre).2
  obtain ⟨d, r, rfl, h1, h2⟩ := hasAllW_cons hsh
  obtain rfl := hasAllW_nil h2
  obtain ⟨xs, rfl, h3⟩ := hasW_list h1
  obtain ⟨ns, rfl⟩ := items_int h3
  have hlen : ns.length ≤ n := by
    unfold OpenLaw.pre at hc
    have h4 : (WTm.not (.lt (.lit (.int (n : Int))) (.len (.arg 0)))).holds [] { args := [.list (ns.map .int)] } = true := by
      have h4 := (holds_andW hc).1
      rw [hn] at h4
      exact h4
    have h5 := condW_of h4 (w_not (w_lt w_lit (w_len_list (w_arg rfl))))
    rw [List.length_map] at h5
    refine Nat.le_of_not_lt fun q => ?_
    have q' : (n : Int) < ((ns.length : Nat) : Int) := by omega
    first
      | (rw [decide_eq_true q'] at h5; exact absurd h5 (by decide))
      | (simp at h5; omega)
  cases hwl with
  | cons w1 w2 =>
    cases w2
    cases w1 with
    | list ho hall => exact ⟨_, _, ns, rfl, rfl, ho, ints_of_wellAll ns _ hall, hlen⟩
theorem post_true (l : OpenLaw) (args : List WData) : l.row.toRowW.claim.post args (.bool true) args = true :=
  postW_of (r := l.row.toRowW) (X := (true == true))
    (show WShape.has [] (.bool true) .bool = true by first | rfl | decide | simp [WShape.has, WShape.arms, WShape.armsAll])
    (show (WTm.eq .res (.lit (.bool true))).value [] { args := args, res := some (.bool true), after := args } = some (.bool (true == true)) from w_eq_bool (w_res rfl) w_lit) rfl
theorem attach_call {l : OpenLaw} {n : Nat} {q : Program} {loose : List Str} {XP : (Str → Option Value) → Heap → Prop} {YP : World → Heap → Prop} {d : DefRec}
    (hn : l.most = some n) (hdf : d.params.defaults = [])
    (call : ∀ (w : World) (s₀ s₁ : Shared) (mg mb : Str → Option Value) (fa : Addr) (o : Obj) (pm cd doc : Value) (a : Addr) (vs : List Value) (ns : List Int),
      Ground q loose [] XP w s₀ mg mb s₁.heap → YP w s₁.heap →
      s₁.heap.get? fa = some o → o.data = .func (docDef d.name d.params d.body d.scope pm cd doc) → s₁.heap.CodeRec cd d.name → mg d.name = some (.ref fa) →
      s₁.heap.get? a = some { cls := .type "list", data := .seq vs.toArray } → IntsAre vs ns → ns.length ≤ n → s₁.gens = #[] →
      codeAny (model l.prog w) callerA (.call (.ref fa) ⟨[.ref a], []⟩) (fun r s' => r = .ok (.ret (.bool true)) ∧ OldK s₁.heap s'.heap ∧ s'.os = s₁.os ∧ AllBare s'.gens) s₁) :
    WalkO q loose XP YP l.row.toRowW d [] (fun f vs => PySem.call f vs) := by
  intro w s₀ s₁ mg mb G Y fa o pm cd doc dV kV ho hd hcd hD hmg hg args vals as hpre hlay hrd hwl hlo
  obtain rfl : dV = .none := Dflts.none hD hdf
  obtain rfl : kV = .none := Dflts.noKw hD
  obtain ⟨a, vs, ns, rfl, rfl, hobj, hints, hlen⟩ := script_of hn hpre hwl
  refine enter_call (codeAny_mono (call w s₀ s₁ mg mb fa o pm cd doc a vs ns G Y ho (fd_plain hd) hcd hmg hobj hints hlen hg) fun r s' hq => ?_)
  obtain ⟨rfl, h2, h3, h4⟩ := hq
  exact ⟨.inl ⟨.bool true, .bool true, [], rfl, fun _ => rfl, .bool true, post_true l _, fun _ => ⟨List.Pairwise.nil, fun _ hm => (nomatch hm)⟩⟩, h2, h3, h4⟩
section
variable {prog : Program} {w : World} {A : Around} {E : Value → Shared → Prop} {s : Shared} {K : Frag}
end
end Att
namespace L2
open PySem PySem.Spec PyProof.Rows
theorem vals_ints : ∀ {vs : List Value} {ns : List Int}, IntsAre vs ns → Vals (ns.map V.int) vs
  | _, _, .nil => .nil
  | _, _, .cons n t h => .cons ⟨t, rfl⟩ (vals_ints h)
end L2
namespace L2
open PySem PySem.Spec PyProof.Rows
end L2
namespace L2
open PySem PySem.Spec PyProof.Rows
def inClass (s : Stmt) (j : Nat) : Stmt := match s with
  | .ClassDef _ _ _ body _ _ _ _ _ _ _ => body.getD j (.Pass ⟨0, 0, 0, 0⟩)
  | _ => .Pass ⟨0, 0, 0, 0⟩
def defArgs (s : Stmt) : Arguments := match s with
  | .FunctionDef _ a _ _ _ _ _ _ _ _ => a
  | _ => { posonlyargs := [], args := [], vararg := none, kwonlyargs := [], kw_defaults := [], kwarg := none, defaults := [] }
def defBody (s : Stmt) : List Stmt := match s with
  | .FunctionDef _ _ b _ _ _ _ _ _ _ => b
  | _ => []
def defScope (s : Stmt) : Scope := match s with
  | .FunctionDef _ _ _ _ _ _ sc _ _ _ => sc
  | _ => { kind := .function, names := [], isGenerator := false, isCoroutine := false }
abbrev CX0 : CXT := fun _ _ _ _ _ _ => False
abbrev E0 : XK := fun _ _ _ => False
theorem pass0 {X : Cx} : Passes CX0 X E0 := fun _ _ _ _ _ _ _ h => h.elim
structure Fun (K : PySem.W.Frag) (x qual : Str) (st : Stmt) (f : Addr) (fd : FuncData) : Prop where
  ex : ∃ (oc : Value) (od : Option Addr) (kV doc pm : Value) (an : Option Addr) (cdv ct : Value) (osl : Array (Option Value)),
    fd = PySem.W.fnOf x qual (defArgs st) (defBody st) (defScope st) .none kV doc pm an cdv ct ∧ K.lookup f = some ⟨oc, od, .func fd, osl⟩ ∧ PySem.W.codeIn K cdv qual = true
  kp : PySem.W.keepIn K (.ref f) = true
section
variable {P : Program} {w : World} {K : PySem.W.Frag} {mg : Str → Option Value} {base : Heap}
theorem Fun.ok {x qual : Str} {st : Stmt} {f : Addr} {fd : FuncData} {N ps : List Str} {k : Nat} {sp : Sp} (F : Fun K x qual st f fd) (S : FnScope N ps (defScope st)) (len : ∀ vs H Q E, sp vs H Q E → vs.length = ps.length)
    (hbody : ∀ (cdv : Value) (A : Around) (outer : List Env) (s : Shared) (H : Hp) (vs : List V) (Q : VK) (E : XK), Room k (A.deeper (envOfC qual (defScope st) s.heap.objs.size f cdv)) → sp vs H Q E →
      ∃ t, PSs (cxOf CX0 P w K mg base N qual (defScope st) f cdv A outer s H E).nox (defBody st) t ∧ t { nx := fun _ H' => Q .non H', rt := Q } (start N vs) H) : FnOk P w K mg base CX0 (k + 1) f fd ps sp := by
  obtain ⟨oc, od, kV, doc, pm, an, cdv, ct, osl, rfl, lk, hcd⟩ := F.ex
  refine fn_of lk hcd S len fun A outer s H vs Q E hr hsp => ?_
  obtain ⟨t, h, q⟩ := hbody cdv A outer s H vs Q E hr hsp
  exact ⟨t, h.nox, q⟩
theorem Fun.binds {x qual : Str} {st : Stmt} {f : Addr} {fd : FuncData} {ps : List Str} (F : Fun K x qual st f fd)
    (h : ∀ (kV doc pm : Value) (an : Option Addr) (cdv ct : Value) (us : List Value), us.length = ps.length → bindArgs (PySem.W.fnOf x qual (defArgs st) (defBody st) (defScope st) .none kV doc pm an cdv ct) ⟨us, []⟩ = pure (ps.zip us)) : Binds K fd ps [] := by
  obtain ⟨oc, od, kV, doc, pm, an, cdv, ct, osl, rfl, lk, hcd⟩ := F.ex
  exact .all (h kV doc pm an cdv ct)
theorem fun_mk {x qual : Str} {st : Stmt} {f : Addr} {oc : Value} {od an : Option Addr} {osl : Array (Option Value)} {kV doc pm cdv ct : Value} (l : K.lookup f = some ⟨oc, od, .func (PySem.W.fnOf x qual (defArgs st) (defBody st) (defScope st) .none kV doc pm an cdv ct), osl⟩)
    (c : PySem.W.codeIn K cdv qual = true) (k : PySem.W.keepIn K (.ref f) = true) : Fun K x qual st f (PySem.W.fnOf x qual (defArgs st) (defBody st) (defScope st) .none kV doc pm an cdv ct) := ⟨⟨oc, od, kV, doc, pm, an, cdv, ct, osl, rfl, l, c⟩, k⟩
end
theorem hu_of {A : Around} {k : Nat} (hr : Room k A) : A.units + 1 < cLine := Nat.lt_of_le_of_lt (Nat.add_le_add_left (by decide : 1 ≤ 64) _) hr.units
theorem small1000 {n : Nat} (h : n ≤ 1000) : n < sizeLine := Nat.lt_of_le_of_lt h (by decide)
section
variable {X : Cx}
end
theorem iteF {A B : Prop} (h : B) : if false = true then A else B := by
  rw [if_neg Bool.false_ne_true]
  exact h
theorem iteT {A B : Prop} (h : A) : if true = true then A else B := by
  rw [if_pos rfl]
  exact h
theorem ite2 {c A B : Prop} [Decidable c] (h1 : c → A) (h2 : ¬ c → B) : if c then A else B := by
  by_cases h : c
  · rw [if_pos h]
    exact h1 h
  · rw [if_neg h]
    exact h2 h
def Same (H H' : Hp) : Prop := ∀ b o, H b = some o → H' b = some o
theorem Same.refl (H : Hp) : Same H H := fun _ _ h => h
theorem Same.trans {H H1 H2 : Hp} (a : Same H H1) (b : Same H1 H2) : Same H H2 := fun c o h => b c o (a c o h)
theorem Same.free {H H' : Hp} (e : Same H H') {l : Addr} (h : H' l = Option.none) : H l = Option.none := by
  cases q : H l with
  | none => rfl
  | some o =>
    rw [e l o q] at h
    cases h
theorem Same.seq {K : PySem.W.Frag} {H H' : Hp} {a : Addr} {xs : List V} (e : Same H H') (h : SqL K H a xs) : SqL K H' a xs := by
  rcases h with (h | ⟨o, h⟩) | h
  · exact .inl (.inl (e _ _ h))
  · exact .inl (.inr ⟨o, e _ _ h⟩)
  · exact .inr h
section
variable {κ : Type} [DecidableEq κ]
theorem valV_not {kvs : List (κ × V)} {k : κ} (h : valV kvs k = none) : ¬ k ∈ kvs.map (·.1) := by
  intro m
  obtain ⟨p, hp, e⟩ := List.mem_map.mp m
  have q : (kvs.any fun kv => decide (kv.1 = k)) = true := List.any_eq_true.mpr ⟨p, hp, decide_eq_true e⟩
  rw [valV_any, h] at q
  exact absurd q (by simp)
theorem valV_in {kvs : List (κ × V)} {k : κ} {v : V} (h : valV kvs k = some v) : k ∈ kvs.map (·.1) := by
  have q : (kvs.any fun kv => decide (kv.1 = k)) = true := by
    rw [valV_any, h]
    all_goals rfl
  obtain ⟨p, hp, e⟩ := List.any_eq_true.mp q
  exact List.mem_map.mpr ⟨p, hp, of_decide_eq_true e⟩
theorem nd_snoc : ∀ {l : List κ} {k : κ}, l.Nodup → ¬ k ∈ l → (l ++ [k]).Nodup
  | [], k, _, _ => by simp
  | a :: r, k, h, hk => by
    obtain ⟨h1, h2⟩ := List.nodup_cons.mp h
    show (a :: (r ++ [k])).Nodup
    refine List.nodup_cons.mpr ⟨fun m => ?_, nd_snoc h2 fun m => hk (List.mem_cons.mpr (Or.inr m))⟩
    rcases List.mem_append.mp m with q | q
    · exact h1 q
    · exact hk (List.mem_cons.mpr (Or.inl (List.mem_singleton.mp q).symm))
theorem nd_putK {kvs : List (κ × V)} {k : κ} (v : V) (hn : (kvs.map (·.1)).Nodup) (h : valV kvs k = none) : ((putK kvs k v).map (·.1)).Nodup := by
  rw [putK_new v h, List.map_append]
  exact nd_snoc hn (valV_not h)
end
end L2
set_option maxRecDepth 100000
namespace L2
open PySem PySem.Spec PyProof.Rows
theorem closure_go {env : Env} : ∀ (names : List (Str × NameKind)) (acc : List (Str × Addr)),
    (∀ y ∈ names, y.2 = .free → ∃ c, env.cells.lookup y.1 = some c) → (∀ x c, acc.lookup x = some c → env.cells.lookup x = some c) →
    ∃ cl, (forIn names acc fun (x : Str × NameKind) cs => (if (x.2 == NameKind.free) = true then (do let c ← cellOf env x.1; pure (ForInStep.yield ((x.1, c) :: cs))) else pure (ForInStep.yield cs) : Sem (ForInStep (List (Str × Addr))))) = pure cl ∧
      (∀ x c, cl.lookup x = some c → env.cells.lookup x = some c) ∧ (∀ y ∈ names, y.2 = .free → ∃ c, cl.lookup y.1 = some c) ∧ (∀ x c, acc.lookup x = some c → ∃ c, cl.lookup x = some c)
  | [], acc, _, ha => ⟨acc, rfl, ha, (fun _ h => nomatch h), fun x c h => ⟨c, h⟩⟩
  | (n, k) :: r, acc, h, ha => by
    rw [List.forIn_cons]
    by_cases hk : k = .free
    · obtain ⟨c, hc⟩ := h (n, k) List.mem_cons_self hk
      have hc' : cellOf env n = pure c := by unfold cellOf; rw [show env.cells.lookup n = some c from hc]
      have ha2 : ∀ x d, ((n, c) :: acc).lookup x = some d → env.cells.lookup x = some d := fun x d hx => by
        rw [List.lookup_cons] at hx
        cases e : x == n with
        | true => rw [e] at hx; cases hx; rw [eq_of_beq e]; exact hc
        | false => rw [e] at hx; exact ha x d hx
      obtain ⟨cl, e, h1, h2, h3⟩ := closure_go r ((n, c) :: acc) (fun y hy => h y (List.mem_cons_of_mem _ hy)) ha2
      refine ⟨cl, ?_, h1, fun y hy hf => ?_, fun x d hx => ?_⟩
      · have hk' : (k == NameKind.free) = true := by rw [hk]; rfl
        simp only [hk', if_true, hc', pure_bind]
        exact e
      · rcases List.mem_cons.mp hy with z | hy
        · rw [z]; exact h3 n c (by simp [List.lookup_cons])
        · exact h2 y hy hf
      · cases e2 : x == n with
        | true => exact h3 x c (by simp [List.lookup_cons, e2])
        | false => exact h3 x d (by simp [List.lookup_cons, e2, hx])
    · have hk' : (k == NameKind.free) = false := by simpa using hk
      obtain ⟨cl, e, h1, h2, h3⟩ := closure_go r acc (fun y hy => h y (List.mem_cons_of_mem _ hy)) ha
      refine ⟨cl, ?_, h1, fun y hy hf => ?_, h3⟩
      · simp only [hk', Bool.false_eq_true, if_false, pure_bind]
        exact e
      · rcases List.mem_cons.mp hy with z | hy
        · rw [z] at hf; exact absurd hf hk
        · exact h2 y hy hf
theorem closure_ok {sc : Scope} {env : Env} (h : ∀ y ∈ sc.names, y.2 = .free → ∃ c, env.cells.lookup y.1 = some c) :
    ∃ cl, closureFor sc env = pure cl ∧ (∀ x c, cl.lookup x = some c → env.cells.lookup x = some c) ∧ (∀ y ∈ sc.names, y.2 = .free → ∃ c, cl.lookup y.1 = some c) := by
  obtain ⟨cl, e, h1, h2, _⟩ := closure_go (env := env) sc.names [] h (fun _ _ h => nomatch h)
  refine ⟨cl, ?_, h1, h2⟩
  unfold closureFor
  have e' : (forIn sc.names ([] : List (Str × Addr)) fun (x : Str × NameKind) cs => (if (x.2 == NameKind.free) = true then (do let c ← cellOf env x.1; pure (ForInStep.yield ((x.1, c) :: cs))) else pure (ForInStep.yield cs) : Sem (ForInStep (List (Str × Addr))))) >>= (fun cs => (pure cs : Sem _)) = pure cl := by rw [e]; rfl
  exact e'
theorem lookup_relabel_free {env : Env} : ∀ {names : List (Str × NameKind)} {x : Str}, names.lookup x = some .free →
    (names.map fun (n, k) => if (k == NameKind.free && env.scope.kind == .function && env.kindOf n == some .cell) then (n, NameKind.cell) else (n, k)).lookup x = some .cell ∨
    (names.map fun (n, k) => if (k == NameKind.free && env.scope.kind == .function && env.kindOf n == some .cell) then (n, NameKind.cell) else (n, k)).lookup x = some .free
  | [], _, h => by simp at h
  | (n, k) :: r, x, h => by
    have ih := @lookup_relabel_free env r x
    show List.lookup x ((if (k == NameKind.free && env.scope.kind == .function && env.kindOf n == some .cell) = true then (n, NameKind.cell) else (n, k)) :: _) = _ ∨ List.lookup x ((if (k == NameKind.free && env.scope.kind == .function && env.kindOf n == some .cell) = true then (n, NameKind.cell) else (n, k)) :: _) = _
    cases hx : x == n with
    | true =>
      simp only [List.lookup_cons, hx] at h
      cases h
      by_cases hc : (NameKind.free == NameKind.free && env.scope.kind == .function && env.kindOf n == some .cell) = true
      · rw [if_pos hc]; simp [List.lookup_cons, hx]
      · rw [if_neg hc]; simp [List.lookup_cons, hx]
    | false =>
      simp only [List.lookup_cons, hx] at h
      by_cases hc : (k == NameKind.free && env.scope.kind == .function && env.kindOf n == some .cell) = true
      · rw [if_pos hc]; simp only [List.lookup_cons, hx]; exact ih h
      · rw [if_neg hc]; simp only [List.lookup_cons, hx]; exact ih h
theorem mem_relabel {env : Env} {names : List (Str × NameKind)} {x : Str} {k : NameKind}
    (h : (names.map fun (n, k) => if (k == NameKind.free && env.scope.kind == .function && env.kindOf n == some .cell) then (n, NameKind.cell) else (n, k)).lookup x = some k) (hk : k = .cell ∨ k = .free) (hc : ∀ y ∈ names, y.2 ≠ .cell) : (x, NameKind.free) ∈ names := by
  have hm := PySem.mem_of_lookup h
  obtain ⟨⟨n, k'⟩, h1, h2⟩ := List.mem_map.mp hm
  dsimp only at h2
  split at h2
  · next hh =>
    cases h2
    have : k' = .free := by
      simp only [Bool.and_eq_true, beq_iff_eq] at hh
      exact hh.1.1
    rw [← this]; exact h1
  · cases h2
    rcases hk with z | z
    · exact absurd z (hc _ h1)
    · rw [← z]; exact h1
abbrev cxComp (X : Cx) (N' : List Str) (sc : Scope) (cl : List (Str × Addr)) (C : Addr) (s3 : Shared) (H0 : Hp) (fp : List Addr) (pn : List (Addr × Obj)) : Cx where
  prog := X.prog
  w := X.w
  K := X.K
  mg := X.mg
  base := X.base
  A := X.A
  N := N'
  s₀ := s3
  H₀ := H0
  env := compEnvC sc cl C X.env
  outer := X.stack
  stack := X.stack
  ex := fp
  fn := fun _ => false
  calm := X.calm
  pn := pn
  xe := fun _ _ => False
structure CScope (osc : Scope) (oN : List Str) (sc : Scope) (own : List Str) (idx : List Nat) (N' : List Str) : Prop where
  kind : sc.kind = .function
  cell : ∀ y ∈ sc.names, y.2 ≠ .cell
  names : ∀ y ∈ sc.names, y.2 = .local → sc.names.lookup y.1 = some .local
  free : ∀ y ∈ sc.names, y.2 = .free → (osc.names.lookup y.1 = some .cell ∨ osc.names.lookup y.1 = some .free)
  seen : ∀ j ∈ idx, sc.names.lookup (oN.getD j "") = some .free ∧ j < oN.length
  nn : N' = own ++ idx.map (fun j => oN.getD j "")
def stIn (own : List Str) (idx : List Nat) (σ : St) : St := List.replicate own.length none ++ idx.map fun j => (σ[j]?).join
section
variable {X : Cx} {pins : List (Addr × Obj)} {σ : St} {H2 : Hp} {s2 : Shared}
theorem inv_comp {sc : Scope} {own : List Str} {idx : List Nat} {N' : List Str} {cl : List (Str × Addr)} {fp : List Addr} {h4 : Heap} {ob : Obj} {ho : HO} {t4 : Nat} (S : CScope X.env.scope X.N sc own idx N') (I : Inv X pins σ H2 s2) (hf : ∀ b ∈ fp, FpOk X pins H2 b) (hfo : ∀ b ∈ fp, ∃ o, s2.heap.get? b = some o)
    (c1 : ∀ x c, cl.lookup x = some c → X.env.cells.lookup x = some c) (c2 : ∀ y ∈ sc.names, y.2 = .free → ∃ c, cl.lookup y.1 = some c) (hob : ob.isFreed = false)
    (hD : ∀ (H : Hp) (h : Heap), h.get? s2.heap.objs.size = some ob → ObjOk X.prog X.w H h s2.heap.objs.size ho)
    (ns : h4.Ns (s2.heap.push ob).objs.size (fun x => ([] : List (Str × Value)).reverse.lookup x)) (sb : ∀ b o, (s2.heap.push ob).get? b = some o → h4.get? b = some o) :
    Inv (cxComp X N' sc cl (s2.heap.push ob).objs.size { s2 with heap := s2.heap.push ob } (upd H2 s2.heap.objs.size ho) fp (X.pn ++ pins)) [] (stIn own idx σ) (upd H2 s2.heap.objs.size ho) { s2 with heap := h4, toks := t4 } := by
  have hsz : (s2.heap.push ob).objs.size = s2.heap.objs.size + 1 := Heap.size_push _ _
  have fr2 : H2 s2.heap.objs.size = none := I.hok.fresh (Nat.le_refl _)
  have up : ∀ b o, s2.heap.get? b = some o → (s2.heap.push ob).get? b = some o := fun b o e => Heap.get?_push_of_some _ e
  have up4 : ∀ b o, s2.heap.get? b = some o → h4.get? b = some o := fun b o e => sb b o (up b o e)
  have ltD : ∀ b o, s2.heap.get? b = some o → b ≠ s2.heap.objs.size := fun b o e => Nat.ne_of_lt (Heap.lt_size e)
  have nh : ∀ b o, s2.heap.get? b = some o → H2 b = none → upd H2 s2.heap.objs.size ho b = none := fun b o e n => by rw [upd_ne (ltD b o e)]; exact n
  have stkO : ∀ b ∈ frs X.stack, ∃ o, s2.heap.get? b = some o := fun b hb => by
    obtain ⟨_, o, ho, _⟩ := I.stack.mem hb
    exact ⟨o, ho⟩
  have cellO : ∀ x c, cl.lookup x = some c → ∃ o, s2.heap.get? c = some o := fun x c e => by
    obtain ⟨v, o, ho, _⟩ := I.cell x c (c1 x c e)
    exact ⟨o, ho⟩
  have eD : (s2.heap.push ob).get? s2.heap.objs.size = some ob := Heap.get?_push_size s2.heap hob
  have hok3 : HOk X.prog X.w (upd H2 s2.heap.objs.size ho) h4 := I.hok.laid up4 (Nat.le_refl _) (hD _ _ (sb _ _ eD))
  refine ⟨⟨I.ok.mod, S.kind, I.ok.glob, I.ok.blt, Nat.le_refl _, fun x y c h1 h2 => I.ok.inj x y c (c1 x c h1) (c1 y c h2), fun x hx => ?_, (fun x c hx _ => nomatch hx), I.ok.hd, I.ok.frames, .inl rfl, fun b hb => ⟨?_, fun x c e => ?_⟩, fun b o e => ⟨?_, ?_⟩, ?_, fun b o e hb => ?_, fun b hb => ?_, ?_, fun b hb => ?_⟩,
    rfl, I.bare, Un.kept sb, ⟨_, ns, fun i x v h1 h2 h3 => ?_⟩, fun x c e => ?_, ?_, fun x c e => ?_, fun p hp => ?_, hok3, ?_⟩
  · rcases hx with hx | hx
    · exact c2 (x, .free) (mem_relabel hx (.inl rfl) S.cell) rfl
    · exact c2 (x, .free) (mem_relabel hx (.inr rfl) S.cell) rfl
  · obtain ⟨o, e⟩ := hfo b hb
    have := Heap.lt_size e
    show b ≠ (s2.heap.push ob).objs.size
    rw [hsz]; exact Nat.ne_of_lt (Nat.lt_succ_of_lt this)
  · exact (hf b hb).2.2.2.2.1 x c (c1 x c e)
  · exact up b o (I.bk b o e)
  · exact nh b o (I.bk b o e) (I.bs b o e).2
  · show X.base.objs.size ≤ (s2.heap.push ob).objs.size
    have := Nat.le_trans I.ok.bsz I.sz
    rw [hsz]; omega
  · obtain ⟨f0, f1, f2, f3, f4, f5⟩ := hf b hb
    rcases f3 with z | z
    · exact I.ok.noex b o e z
    · exact absurd (Heap.lt_size e) (Nat.not_lt.mpr (Nat.le_trans I.ok.bsz z))
  · obtain ⟨f0, f1, f2, f3, f4, f5⟩ := hf b hb
    intro z
    rcases List.mem_cons.mp (I.stkSub b z) with z | z
    · exact f1 z
    · exact f2 z
  · exact Heap.FunFrames.of_keeps (fun b o e _ => ⟨o, up b o e, rfl⟩) I.stack
  · obtain ⟨o, e⟩ := stkO b hb
    exact nh b o e (I.stkFree b hb)
  · unfold stIn at h2
    by_cases hi : i < own.length
    · rw [List.getElem?_append_left (by simpa using hi), List.getElem?_replicate, if_pos hi] at h2
      cases h2
    · rw [List.getElem?_append_right (by simpa using hi), List.length_replicate, List.getElem?_map] at h2
      have h1' : N'[i]? = some x := h1
      rw [S.nn, List.getElem?_append_right (by simpa using hi), List.getElem?_map] at h1'
      cases ej : idx[i - own.length]? with
      | none => rw [ej] at h1'; cases h1'
      | some j =>
        rw [ej] at h1' h2
        obtain ⟨hs1, hs2⟩ := S.seen j (List.mem_of_getElem? ej)
        have hx : X.N[j]? = some x := by
          have : X.N.getD j "" = x := Option.some.inj h1'
          rw [← this, List.getD_eq_getElem?_getD, List.getElem?_eq_getElem hs2]; rfl
        have hv : σ[j]? = some (some v) := by
          have h2' : (σ[j]?).join = some v := Option.some.inj h2
          cases q : σ[j]? with
          | none => rw [q] at h2'; cases h2'
          | some w => rw [q] at h2'; exact congrArg some h2'
        have hsx : sc.names.lookup x = some .free := by
          have : X.N.getD j "" = x := Option.some.inj h1'
          rw [← this]; exact hs1
        have hmem : (x, NameKind.free) ∈ sc.names := PySem.mem_of_lookup hsx
        obtain ⟨m, hn, hl⟩ := I.loc
        have hvis : Vis X.env.scope x := by
          rcases S.free _ hmem rfl with z | z
          · exact .inr (.inl z)
          · exact .inr (.inr z)
        obtain ⟨u, r, lk⟩ := hl j x v hx hv hvis
        refine ⟨u, r, ?_⟩
        rcases lk with ⟨k, _⟩ | ⟨k, c, e, z⟩
        · rcases S.free _ hmem rfl with q | q
          · have q' : X.env.kindOf x = some .cell := q
            rw [q'] at k; cases k
          · have q' : X.env.kindOf x = some .free := q
            rw [q'] at k; cases k
        · obtain ⟨c', hc'⟩ := c2 (x, .free) hmem rfl
          have e' := c1 x c' hc'
          rw [e] at e'
          cases e'
          refine .inr ⟨?_, c, hc', ?_⟩
          · rcases lookup_relabel_free (env := X.env) hsx with q | q
            · exact .inl q
            · exact .inr q
          · obtain ⟨o, ho', hd⟩ := z
            exact ⟨o, up4 c o ho', hd⟩
  · obtain ⟨v, o, ho', hd⟩ := I.cell x c (c1 x c e)
    exact ⟨v, o, up4 c o ho', hd⟩
  · show upd H2 s2.heap.objs.size ho (s2.heap.push ob).objs.size = none
    rw [upd_ne (by rw [hsz]; exact Nat.ne_of_gt (Nat.lt_succ_self _))]
    exact I.hok.fresh (by rw [hsz]; omega)
  · obtain ⟨o, e1⟩ := cellO x c e
    exact nh c o e1 (I.freeC x c (c1 x c e))
  · have hp' : p ∈ X.pn ++ pins := by simpa using hp
    obtain ⟨e, n, ne, nf, d⟩ := I.pin p hp'
    refine ⟨up4 _ _ e, nh _ _ e n, ?_, fun z => ?_, d⟩
    · have := Heap.lt_size e
      show p.1 ≠ (s2.heap.push ob).objs.size
      rw [hsz]; exact Nat.ne_of_lt (Nat.lt_succ_of_lt this)
    · rcases List.mem_cons.mp (I.stkSub p.1 z) with z | z
      · exact ne z
      · exact nf z
  · show (stIn own idx σ).length = N'.length
    rw [S.nn]; unfold stIn
    simp
theorem comp_back {sc : Scope} {N' : List Str} {cl : List (Str × Addr)} {fp : List Addr} {ob : Obj} {ho : HO} {τ : St} {H' : Hp} {s' : Shared} (I : Inv X pins σ H2 s2) (hf : ∀ b ∈ fp, FpOk X pins H2 b) (hob : ob.isFreed = false)
    (J : Inv (cxComp X N' sc cl (s2.heap.push ob).objs.size { s2 with heap := s2.heap.push ob } (upd H2 s2.heap.objs.size ho) fp (X.pn ++ pins)) [] τ H' s') :
    Inv X pins σ H' s' ∧ H' (s2.heap.push ob).objs.size = none ∧ (s2.heap.push ob).objs.size ≠ X.env.locals ∧ X.s₀.heap.objs.size ≤ (s2.heap.push ob).objs.size ∧
      (∀ x c, X.env.cells.lookup x = some c → c ≠ (s2.heap.push ob).objs.size) ∧ (∀ p ∈ X.pn ++ pins, p.1 ≠ (s2.heap.push ob).objs.size) ∧ ∃ m, s'.heap.Ns (s2.heap.push ob).objs.size m := by
  have hsz : (s2.heap.push ob).objs.size = s2.heap.objs.size + 1 := Heap.size_push _ _
  have u1 : Un (frs X.stack) fp H2 (upd H2 s2.heap.objs.size ho) s2.heap (s2.heap.push ob) := Un.laid (fun b o e => Heap.get?_push_of_some _ e) (Nat.le_refl _) (I.hok.fresh (Nat.le_refl _))
  have u2 : Un (frs X.stack) fp (upd H2 s2.heap.objs.size ho) H' (s2.heap.push ob) s'.heap := J.base
  have hos : s'.os = s2.os := J.os
  refine ⟨I.call' hos (u1.trans u2) J.hok J.bare fun b hb => ?_, J.free, ?_, ?_, fun x c e z => ?_, fun p hp z => ?_, let ⟨m, hn, _⟩ := J.loc; ⟨m, hn⟩⟩
  · obtain ⟨f0, f1, f2, f3, f4, f5⟩ := hf b hb
    exact ⟨f3, f1, f4, f5⟩
  · rw [hsz]; exact Nat.ne_of_gt (Nat.lt_succ_of_lt I.lt)
  · have := I.sz; rw [hsz]; omega
  · obtain ⟨v, q⟩ := I.cell x c e
    have := q.lt
    rw [z, hsz] at this; exact absurd this (Nat.not_lt.mpr (Nat.le_succ _))
  · have := Heap.lt_size (I.pin p hp).1
    rw [z, hsz] at this; exact absurd this (Nat.not_lt.mpr (Nat.le_succ _))
end
section
variable {prog : Program} {w : World} {A : Around} {R : Result → Shared → Prop} {s : Shared}
abbrev NoE : Value → Shared → Prop := fun _ _ => False
theorem compLoopG {elt target iter : Expr} {ifs : List Expr} {scope : Scope} {pos : Pos} {it acc : Value} {env : Env} (I : Nat → Shared → Prop)
    (turn : ∀ n s, I n s → wpAny (model prog w) A (pyNext it) (fun r s₁ => match r with
      | none => R (.ok .next) s₁
      | some v => wpAny (model prog w) A (letOwnedTupleGo target it v) (fun _ s₁' => wpAny (model prog w) A (assign target env v) (fun _ s₂ =>
          wpAny (model prog w) A (forIn ifs true fun c r => if r = true then do let ok ← isTrue c env (eval c env); pure (ForInStep.yield ok) else pure (ForInStep.yield r)) (fun ok s₃ =>
            if ok = true then wpAny (model prog w) A (eval elt env) (fun x s₄ =>
              wpAny (model prog w) A (call (.builtin "list.append") [acc, x]) (fun _ s₅ => ∃ m, m < n ∧ I m s₅) NoE s₄) NoE s₃
            else ∃ m, m < n ∧ I m s₃) NoE s₂) NoE s₁') NoE s₁) NoE s)
    (n : Nat) (h : I n s) :
    codeAny (model prog w) A (.compLoop (.ListComp elt [⟨target, iter, ifs, 0⟩] scope pos) 0 it acc env) R s := by
  refine codeAny_loop rfl I (fun n s hI => ?_) n h
  show wpAny _ A ((compTurn (.ListComp elt [⟨target, iter, ifs, 0⟩] scope pos) 0 it acc env).onRaise (fun x => do noteFrame x env; theTreesLotGoes x)) _ _ s
  refine wpAny_noted ?_
  rw [compTurn_list]
  refine wpAny_bind (wpAny_standAt (wpAny_bind (wpAny_mono (turn n s hI) (fun r s₁ h₁ => ?_) fun _ _ h' => h'.elim)))
  cases r with
  | none => exact wpAny_pure h₁
  | some v =>
    refine wpAny_bind (wpAny_mono h₁ (fun _ s₁' h₁' => ?_) fun _ _ h' => h'.elim)
    refine wpAny_bind (wpAny_mono h₁' (fun _ s₂ h₂ => wpAny_bind (wpAny_mono h₂ (fun ok s₃ h₃ => ?_) fun _ _ h' => h'.elim)) fun _ _ h' => h'.elim)
    cases ok with
    | false => exact wpAny_pure ⟨rfl, h₃⟩
    | true =>
      exact wpAny_bind (wpAny_bind (wpAny_mono h₃ (fun x s₄ h₄ => wpAny_bind (wpAny_mono h₄ (fun _ s₅ h₅ => wpAny_pure (wpAny_pure ⟨rfl, h₅⟩)) fun _ _ h' => h'.elim)) fun _ _ h' => h'.elim))
end
abbrev TC := St → Hp → (Bool → Hp → Prop) → Prop
def PC' (X : Cx) (ifs : List Expr) (t : TC) : Prop :=
  ∀ (pins : List (Addr × Obj)) (s : Shared) (σ : St) (H : Hp) (Q : Bool → Hp → Prop), Inv X pins σ H s → t σ H Q →
    wpAny (model X.prog X.w) X.A (forIn ifs true fun c r => if r = true then do let ok ← isTrue c X.env (eval c X.env); pure (ForInStep.yield ok) else pure (ForInStep.yield r)) (TP X pins σ Q) X.xe s
def tcNil : TC := fun _ H Q => Q true H
theorem pc_nil' {X : Cx} : PC' X [] tcNil := fun pins s σ H Q I h => wpAny_pure ⟨H, I, h⟩
theorem pc_one' {X : Cx} {c : Expr} {t : TT} (h : PT X c t) : PC' X [c] t := fun pins s σ H Q I hq => wpAny_tests_one (h pins s σ H Q I hq)
def tLC (own : List Str) (idx : List Nat) (wi : TI) (g : TG) (tc : TC) (te : TE) : TE := fun σ H Q => wi σ H fun J H1 => ∀ D, H1 D = none → ∃ W : Nat → Nat → St → Hp → Prop, (∃ m, W 0 m (stIn own idx σ) (upd H1 D (.lst []))) ∧ ∀ i m τ H, W i m τ H →
  (J.stop i H ∧ Q (.ref D) H) ∨ (J.go i H ∧ ∃ N : St → Hp → Prop, (∀ τ' H', N τ' H' → ∃ m', m' < m ∧ W (i + 1) m' τ' H') ∧ ∀ x H', J.yld i H x H' → g x τ H' fun τ2 H2 => tc τ2 H2 fun b H3 =>
    if b = true then te τ2 H3 fun y H4 => ∃ xs, H4 D = some (.lst xs) ∧ xs.length < sizeLine ∧ N τ2 (upd H4 D (.lst (xs ++ [y]))) else N τ2 H3)
section
variable {X : Cx} {tg iter elt : Expr} {ifs : List Expr} {sc : Scope} {pos : Pos} {own : List Str} {idx : List Nat} {N' : List Str} {wi : TI} {g : TG} {tc : TC} {te : TE}
abbrev lob : Obj := { cls := .type "list", dict := none, data := .seq ([] : List Value).toArray }
theorem comp_block (S : CScope X.env.scope X.N sc own idx N') {cl : List (Str × Addr)} (c1 : ∀ x c, cl.lookup x = some c → X.env.cells.lookup x = some c) (c2 : ∀ y ∈ sc.names, y.2 = .free → ∃ c, cl.lookup y.1 = some c) (hc : X.calm = true)
    (hg : ∀ cl C s3 H0 fp pn, PG (cxComp X N' sc cl C s3 H0 fp pn) tg g) (ht : ∀ cl C s3 H0 fp pn, PC' (cxComp X N' sc cl C s3 H0 fp pn) ifs tc) (he : ∀ cl C s3 H0 fp pn, PE (cxComp X N' sc cl C s3 H0 fp pn) elt te)
    {pins : List (Addr × Obj)} {σ : St} {Q : VK} {itv : Value} {s2 : Shared} {RR : Value → Addr → Result → Shared → Prop} {E : Value → Shared → Prop}
    (hI : PIE X pins σ tg (fun J H1 => ∀ D, H1 D = none → ∃ W : Nat → Nat → St → Hp → Prop, (∃ m, W 0 m (stIn own idx σ) (upd H1 D (.lst []))) ∧ ∀ i m τ H, W i m τ H →
      (J.stop i H ∧ Q (.ref D) H) ∨ (J.go i H ∧ ∃ N : St → Hp → Prop, (∀ τ' H', N τ' H' → ∃ m', m' < m ∧ W (i + 1) m' τ' H') ∧ ∀ x H', J.yld i H x H' → g x τ H' fun τ2 H2 => tc τ2 H2 fun b H3 =>
        if b = true then te τ2 H3 fun y H4 => ∃ xs, H4 D = some (.lst xs) ∧ xs.length < sizeLine ∧ N τ2 (upd H4 D (.lst (xs ++ [y]))) else N τ2 H3)) itv s2)
    (hRR : ∀ D C H' s', Inv X pins σ H' s' → Q (.ref D) H' → (H' C = none ∧ C ≠ X.env.locals ∧ X.s₀.heap.objs.size ≤ C ∧ (∀ x c, X.env.cells.lookup x = some c → c ≠ C) ∧ (∀ p ∈ X.pn ++ pins, p.1 ≠ C) ∧ ∃ m, s'.heap.Ns C m) → RR (.ref D) C (.ok .next) s') :
    wpAny (model X.prog X.w) X.A (newList []) (fun acc s₃ => wpAny (model X.prog X.w) X.A (newFunctionEnv sc X.env.globals cl [] X.env.qual none .none (some X.env)) (fun cenv s₄ =>
      codeAny (model X.prog X.w) X.A (.compStart (.ListComp elt [⟨tg, iter, ifs, 0⟩] sc pos) 0 itv acc { cenv with scope := relabel sc X.env }) (RR acc cenv.locals) s₄) E s₃) E s2 := by
  obtain ⟨it, fp, tn, J, H2, rfl, I, T, st2, f2, body⟩ := hI
  refine wpAny_newObj_type (wpAny_newFunctionEnv S.cell (by intro y hy; simp at hy) (fun h4 ns sb => ?_) S.kind)
  dsimp only at ns sb ⊢
  have hob : lob.isFreed = false := rfl
  have fr : H2 s2.heap.objs.size = none := I.hok.fresh (Nat.le_refl _)
  obtain ⟨W, ⟨m0, w0⟩, turn⟩ := body _ fr
  have hfo : ∀ b ∈ fp, ∃ o, s2.heap.get? b = some o := fun b hb => let ⟨o, e, _⟩ := T.obj _ _ st2 b hb; ⟨o, e⟩
  have sb' : ∀ b o, (s2.heap.push lob).get? b = some o → h4.get? b = some o := fun b o e => (sb.2 b (Nat.ne_of_lt (Heap.lt_size e))).trans (Heap.get?_push_of_some _ e)
  have hDo : ∀ (H : Hp) (h : Heap), h.get? s2.heap.objs.size = some lob → ObjOk X.prog X.w H h s2.heap.objs.size (.lst []) := fun H h e => ⟨Nat.zero_le _, [], _, .nil, e⟩
  have I4 : Inv (cxComp X N' sc cl (s2.heap.push lob).objs.size { s2 with heap := s2.heap.push lob } (upd H2 s2.heap.objs.size (.lst [])) fp (X.pn ++ pins)) [] (stIn own idx σ) (upd H2 s2.heap.objs.size (.lst [])) { s2 with heap := h4, toks := s2.toks + ([] : List (Str × Value)).length } :=
    inv_comp S I f2 hfo c1 c2 hob hDo ns sb'
  -- the block's own context
  generalize hY : cxComp X N' sc cl (s2.heap.push lob).objs.size { s2 with heap := s2.heap.push lob } (upd H2 s2.heap.objs.size (.lst [])) fp (X.pn ++ pins) = Y at I4
  have hgY : PG Y tg g := by rw [← hY]; exact hg _ _ _ _ _ _
  have htY : PC' Y ifs tc := by rw [← hY]; exact ht _ _ _ _ _ _
  have heY : PE Y elt te := by rw [← hY]; exact he _ _ _ _ _ _
  have pY : Y.prog = X.prog := by rw [← hY]
  have wY : Y.w = X.w := by rw [← hY]
  have KY : Y.K = X.K := by rw [← hY]
  have AY : Y.A = X.A := by rw [← hY]
  have cY : Y.calm = true := by rw [← hY]; exact hc
  have xY : Y.xe = fun _ _ => False := by rw [← hY]
  have eY : Y.env = compEnvC sc cl (s2.heap.push lob).objs.size X.env := by rw [← hY]
  have exY : Y.ex = fp := by rw [← hY]
  have fsY : Y.fs = frs X.stack := by rw [← hY]
  have pnY : Y.pn = X.pn ++ pins := by rw [← hY]
  have stat : ∀ {H' : Hp}, (∀ b ∈ fp, H' b = none) → ∀ b ∈ fp, FpOk Y [] H' b := fun hn b hb => by
    obtain ⟨f0, f1, f3, f4, f5, f6⟩ := f2 b hb
    refine ⟨hn b hb, ?_, ?_, .inl (by rw [exY]; exact hb), fun x c e => ?_, fun p hp => ?_⟩
    · obtain ⟨o, e⟩ := hfo b hb
      have := Heap.lt_size e
      rw [eY]
      show b ≠ (s2.heap.push lob).objs.size
      rw [Heap.size_push]; exact Nat.ne_of_lt (Nat.lt_succ_of_lt this)
    · rw [fsY]
      intro z
      rcases List.mem_cons.mp (I.stkSub b z) with z | z
      · exact f1 z
      · exact f3 z
    · rw [eY] at e
      exact f5 x c (c1 x c e)
    · rw [pnY, List.append_nil] at hp
      exact f6 p hp
  have st4 : tn 0 h4 := T.keep _ _ _ st2 fun b hb o e => sb' b o (Heap.get?_push_of_some _ e)
  have fr4 : ∀ b ∈ fp, upd H2 s2.heap.objs.size (.lst []) b = none := fun b hb => by
    obtain ⟨o, e⟩ := hfo b hb
    rw [upd_ne (Nat.ne_of_lt (Heap.lt_size e))]
    exact (f2 b hb).1
  have loop : codeAny (model X.prog X.w) X.A (.compLoop (.ListComp elt [⟨tg, iter, ifs, 0⟩] sc pos) 0 (.ref it) (.ref s2.heap.objs.size) (compEnvC sc cl (s2.heap.push lob).objs.size X.env))
      (RR (.ref s2.heap.objs.size) (s2.heap.push lob).objs.size) { s2 with heap := h4, toks := s2.toks + ([] : List (Str × Value)).length } := by
    refine compLoopG (fun n s' => ∃ i τ H', Inv Y [] τ H' s' ∧ tn i s'.heap ∧ (∀ b ∈ fp, H' b = none) ∧ W i n τ H') ?_ m0 ⟨0, _, _, I4, st4, fr4, w0⟩
    rintro n s3 ⟨i, τ3, H3, I3, st3, fr3, w3⟩
    rcases turn i n τ3 H3 w3 with ⟨stop, qn⟩ | ⟨go, N, hN, step⟩
    · have h := T.done Y pY wY KY cY i [] s3 τ3 H3 NoE I3 (stat fr3) st3 stop
      rw [AY] at h
      refine thn h ?_
      rintro r s4 ⟨hr, I4'⟩
      subst hr
      have J4 := I4'
      rw [← hY] at J4
      obtain ⟨b1, b2⟩ := comp_back I f2 hob J4
      exact hRR _ _ _ _ b1 qn b2
    · have h := T.item Y pY wY KY cY i [] s3 τ3 H3 NoE I3 (stat fr3) st3 go
      rw [AY] at h
      refine thn h ?_
      rintro r s4 ⟨u, hr, h4'⟩
      subst hr
      refine thn h4' ?_
      rintro _ s5 ⟨x, H5, I5, r5, y5, st5, fr5⟩
      have I5' := I5.pinned (stat fr5) (T.obj _ _ st5)
      have g5 := hgY _ s5 τ3 H5 x u _ I5' r5 (step x H5 y5)
      rw [pY, wY, AY, xY, eY] at g5
      refine thn g5 ?_
      rintro _ s6 ⟨τ6, H6, I6, q6⟩
      have t6 := htY _ s6 τ6 H6 _ I6 q6
      rw [pY, wY, AY, xY, eY] at t6
      refine thn t6 ?_
      rintro ok s7 ⟨H7, I7, q7⟩
      have again : ∀ {τ8 : St} {H8 : Hp} {s8 : Shared}, Inv Y ([] ++ pinsAt fp s5.heap) τ8 H8 s8 → N τ8 H8 → ∃ m, m < n ∧ ∃ i τ' H', Inv Y [] τ' H' s8 ∧ tn i s8.heap ∧ (∀ b ∈ fp, H' b = none) ∧ W i m τ' H' := fun {τ8 H8 s8} I8 n8 => by
        obtain ⟨m', hm, w8⟩ := hN τ8 H8 n8
        refine ⟨m', hm, i + 1, τ8, H8, I8.unpinned, T.keep _ _ _ st5 fun b hb o e => (I8.pin (b, o) (List.mem_append_right _ (List.mem_append_right _ (mem_pinsAt hb e)))).1, fun b hb => ?_, w8⟩
        obtain ⟨o, e, d⟩ := T.obj _ _ st5 b hb
        exact (I8.pin (b, o) (List.mem_append_right _ (List.mem_append_right _ (mem_pinsAt hb e)))).2.1
      cases ok with
      | false =>
        rw [if_neg (by decide)] at q7 ⊢
        exact again I7 q7
      | true =>
        rw [if_pos rfl] at q7 ⊢
        have e7 := heY _ s7 τ6 H7 _ I7 q7
        rw [pY, wY, AY, xY, eY] at e7
        refine thn e7 ?_
        rintro yv s8 ⟨y, H8, I8, r8, xs, hD8, hz, n8⟩
        have a8 := mt_append (X := Y) _ s8 τ6 H8 (.ref s2.heap.objs.size) [y] (.ref s2.heap.objs.size) [yv] (fun v H' => N τ6 H') I8 rfl (.cons r8 .nil) ⟨_, xs, y, rfl, rfl, hD8, hz, n8⟩
        rw [pY, wY, AY, xY] at a8
        refine thn a8 ?_
        rintro _ s9 ⟨_, H9, I9, _, n9⟩
        exact again I9 n9
  exact codeAny_compStart_list loop (T.self _ 0 _ _ _ st4 loop)
theorem CScope.closure (S : CScope X.env.scope X.N sc own idx N') (ok : X.Ok) : ∃ cl, closureFor sc X.env = pure cl ∧ (∀ x c, cl.lookup x = some c → X.env.cells.lookup x = some c) ∧ (∀ y ∈ sc.names, y.2 = .free → ∃ c, cl.lookup y.1 = some c) :=
  closure_ok fun y hy hf => ok.has _ (S.free y hy hf)
theorem pe_lc (S : CScope X.env.scope X.N sc own idx N') (hc : X.calm = true) (hi : PI X tg iter wi)
    (hg : ∀ cl C s3 H0 fp pn, PG (cxComp X N' sc cl C s3 H0 fp pn) tg g) (ht : ∀ cl C s3 H0 fp pn, PC' (cxComp X N' sc cl C s3 H0 fp pn) ifs tc) (he : ∀ cl C s3 H0 fp pn, PE (cxComp X N' sc cl C s3 H0 fp pn) elt te)
    (hs : ∀ x, foldedSetIterable iter X.env x = pure x := by intro _; rfl) : PE X (.ListComp elt [⟨tg, iter, ifs, 0⟩] sc pos) (tLC own idx wi g tc te) := by
  intro pins s σ H Q I h
  obtain ⟨cl, hcl, c1, c2⟩ := S.closure I.ok
  rw [eval_ListComp]
  refine wpAny_comprehension_free (use := none) rfl hs hcl S.kind S.names (thn (hi pins s σ H _ I h) fun v s1 h1 => thn h1 fun itv s2 h2 => ?_)
  refine comp_block (Q := Q) (pins := pins) (σ := σ) (RR := fun acc C => compPost (model X.prog X.w) X.A X.xe none (EP X pins σ Q) acc C) S c1 c2 hc hg ht he h2 ?_
  intro D C H' s' I' q ⟨a1, a2, a3, a4, a5, m, a6⟩
  exact ⟨m, a6, fun h' sb => ⟨.ref D, H', I'.turned (t' := s'.toks) (fun b o hb e => (sb.2 b hb).trans e) a1 (Ne.symm (Ne.symm a2)) (.inr a3) a4 a5, rfl, q⟩⟩
theorem ps_lc {i : Nat} {y : Str} {py spos : Pos} (S : CScope X.env.scope X.N sc own idx N') (hc : X.calm = true) (hi : PI X tg iter wi)
    (hg : ∀ cl C s3 H0 fp pn, PG (cxComp X N' sc cl C s3 H0 fp pn) tg g) (ht : ∀ cl C s3 H0 fp pn, PC' (cxComp X N' sc cl C s3 H0 fp pn) ifs tc) (he : ∀ cl C s3 H0 fp pn, PE (cxComp X N' sc cl C s3 H0 fp pn) elt te)
    (hN : X.N.Nodup) (hiy : X.N[i]? = some y) (hy : X.env.scope.names.lookup y = some .local)
    (hsw : swapsWith (.ListComp elt [⟨tg, iter, ifs, 0⟩] sc pos) (some (.Name y py)) spos.line X.env = pure true := by rfl)
    (hs : ∀ x, foldedSetIterable iter X.env x = pure x := by intro _; rfl) : PS X (.Assign [.Name y py] (.ListComp elt [⟨tg, iter, ifs, 0⟩] sc pos) spos) (tAsg (tLC own idx wi g tc te) (gName i)) := by
  intro pins s σ H D I h
  obtain ⟨cl, hcl, c1, c2⟩ := S.closure I.ok
  rw [exec_Assign_Name_used _ _ _ _ hsw]
  refine wpAny_bind (wpAny_standAt (wpAny_bind ?_))
  show wpAny _ X.A (do let _ ← comprehension (.ListComp elt [⟨tg, iter, ifs, 0⟩] sc pos) sc X.env _ (newList []) false (eval iter X.env) (some (assign (.Name y py) X.env))) _ _ s
  refine wpAny_bind (wpAny_mono (wpAny_comprehension_free (use := some (assign (.Name y py) X.env)) (Q := fun _ s' => SP X pins D .next s') rfl hs hcl S.kind S.names
    (thn (hi pins s σ H _ I h) fun v s1 h1 => thn h1 fun itv s2 h2 => ?_)) (fun _ s' hq => wpAny_pure (wpAny_pure hq)) fun _ _ e => e)
  refine comp_block (Q := fun x H1 => gName i x σ H1 D.nx) (pins := pins) (σ := σ) (RR := fun acc C => compPost (model X.prog X.w) X.A X.xe (some (assign (.Name y py) X.env)) (fun _ s' => SP X pins D .next s') acc C) S c1 c2 hc hg ht he h2 ?_
  intro D' C H' s' I' q ⟨a1, a2, a3, a4, a5, m, a6⟩
  show wpAny _ X.A (assign (.Name y py) X.env (.ref D')) _ _ _
  refine wpAny_assign_Name (store_ok2 (v := .ref D') I' hN hiy (.inl hy) rfl (fun s'' I'' ⟨a, sb, ha⟩ => ?_) (.inr hy))
  have nCa : C ≠ a := by
    rcases ha with z | z
    · rw [z]; exact a2
    · exact Ne.symm (a4 _ _ z)
  refine ⟨m, a6.sameBut sb nCa, fun h' sb' => ⟨_, H', I''.turned (t' := s''.toks) (fun b o hb e => (sb'.2 b hb).trans e) a1 a2 (.inr a3) a4 a5, q⟩⟩
end
end L2
set_option maxRecDepth 100000
namespace L2
open PySem PySem.Spec PyProof.Rows
def tV (i : Nat) : TE := fun σ H Q => match σ[i]? with | some (some v) => Q v H | _ => False
section
variable {X : Cx}
theorem pvv (i : Nat) {x : Str} {pos : Pos} (hN : X.N[i]? = some x := by rfl) (hv : Vis X.env.scope x := by first | exact Or.inl rfl | exact Or.inr (Or.inl rfl) | exact Or.inr (Or.inr rfl)) (hd : (x == ("__debug__" : Str)) = false := by decide) (hcd : (x == ("__classdict__" : Str)) = false := by decide) : PE X (.Name x pos) (tV i) := by
  intro pins s σ H Q I h
  refine pe_var hN hv hd hcd pins s σ H Q I ?_
  unfold tV at h
  split at h
  · next v e => exact ⟨v, e, h⟩
  · exact h.elim
def rAddD : R2 := fun x y H Q => match x, y with
  | .int i, .int j => Q (.int (i + j)) H
  | .str i, .str j => i.length + j.length ≤ sizeLine ∧ Q (.str (i ++ j)) H
  | .ref l, .ref b => (∃ xs zs, H l = some (.lst xs) ∧ H b = some (.lst zs) ∧ xs.length + zs.length ≤ sizeLine ∧ ∀ p, H p = none → Q (.ref p) (upd H p (.lst (xs ++ zs))))
  | _, _ => False
theorem op_addD : OpR X (binaryOp .Add) rAddD := by
  intro pins s σ H x y v u Q I rx ry h
  cases x <;> cases y <;> first
    | exact (show False from h).elim
    | exact op_add pins s σ H _ _ v u Q I rx ry ⟨_, _, rfl, rfl, h⟩
    | exact op_add_str pins s σ H _ _ v u Q I rx ry ⟨_, _, rfl, rfl, h.1, h.2⟩
    | (obtain ⟨xs, zs, h1, h2, h3, h4⟩ := h; exact op_cat pins s σ H _ _ v u Q I rx ry ⟨_, _, xs, zs, rfl, rfl, h1, h2, h3, h4⟩)
def rSubD : R2 := fun x y H Q => match x, y with | .int i, .int j => Q (.int (i - j)) H | _, _ => False
theorem op_subD : OpR X (binaryOp .Sub) rSubD := by
  intro pins s σ H x y v u Q I rx ry h
  cases x <;> cases y <;> first
    | exact (show False from h).elim
    | exact op_sub pins s σ H _ _ v u Q I rx ry ⟨_, _, rfl, rfl, h⟩
def rMulD : R2 := fun x y H Q => match x, y with | .int i, .int j => CMul i j ∧ Q (.int (i * j)) H | _, _ => False
theorem op_mulD : OpR X (binaryOp .Mult) rMulD := by
  intro pins s σ H x y v u Q I rx ry h
  cases x <;> cases y <;> first
    | exact (show False from h).elim
    | exact op_mul pins s σ H _ _ v u Q I rx ry ⟨_, _, rfl, rfl, h.1, h.2⟩
def rModD : R2 := fun x y H Q => match x, y with | .int i, .int j => 0 < j ∧ Q (.int (i % j)) H | _, _ => False
theorem op_modD : OpR X (binaryOp .Mod) rModD := by
  intro pins s σ H x y v u Q I rx ry h
  cases x <;> cases y <;> first
    | exact (show False from h).elim
    | exact op_mod pins s σ H _ _ v u Q I rx ry ⟨_, _, rfl, rfl, h.1, h.2⟩
def rDivD : R2 := fun x y H Q => match x, y with | .int i, .int j => (0 < j ∧ j < 1073741824) ∧ Q (.int (i / j)) H | _, _ => False
theorem op_divD : OpR X (binaryOp .FloorDiv) rDivD := by
  intro pins s σ H x y v u Q I rx ry h
  cases x <;> cases y <;> first
    | exact (show False from h).elim
    | exact op_fdiv pins s σ H _ _ v u Q I rx ry ⟨_, _, rfl, rfl, h.1, h.2⟩
def rPowD : R2 := fun x y H Q => match x, y with | .int i, .int j => CPow i j ∧ Q (.int (i ^ j.toNat)) H | _, _ => False
theorem op_powD : OpR X (binaryOp .Pow) rPowD := by
  intro pins s σ H x y v u Q I rx ry h
  cases x <;> cases y <;> first
    | exact (show False from h).elim
    | exact op_pow pins s σ H _ _ v u Q I rx ry ⟨_, _, rfl, rfl, h.1, h.2⟩
def rIC (p : Int → Int → Bool) : R2 := fun x y H Q => match x, y with | .int i, .int j => Q (.bl (p i j)) H | _, _ => False
theorem op_gtD : OpR X (compareOp .Gt) (rIC fun i j => decide (j < i)) := by
  intro pins s σ H x y v u Q I rx ry h
  cases x <;> cases y <;> first
    | exact (show False from h).elim
    | exact op_gt pins s σ H _ _ v u Q I rx ry ⟨_, _, rfl, rfl, h⟩
theorem op_geD : OpR X (compareOp .GtE) (rIC fun i j => decide (j ≤ i)) := by
  intro pins s σ H x y v u Q I rx ry h
  cases x <;> cases y <;> first
    | exact (show False from h).elim
    | exact op_ge pins s σ H _ _ v u Q I rx ry ⟨_, _, rfl, rfl, h⟩
def rLtD : R2 := fun x y H Q => match x, y with
  | .int i, .int j => Q (.bl (decide (i < j))) H
  | .str i, .str j => Q (.bl (decide (i.cps.toList < j.cps.toList))) H
  | _, _ => False
theorem op_ltD : OpR X (compareOp .Lt) rLtD := by
  intro pins s σ H x y v u Q I rx ry h
  cases x <;> cases y <;> first
    | exact (show False from h).elim
    | exact op_lt pins s σ H _ _ v u Q I rx ry ⟨_, _, rfl, rfl, h⟩
    | exact op_lt_str pins s σ H _ _ v u Q I rx ry ⟨_, _, rfl, rfl, h⟩
def rEqD (n : Bool) : R2 := fun x y H Q => match x, y with
  | .ref a, .ref b => a ≠ b ∧ ∃ xs, H a = some (.lst xs) ∧ H b = some (.lst []) ∧ Q (.bl (n ^^ xs.isEmpty)) H
  | x, y => scal x y = true ∧ Q (.bl (n ^^ decide (x = y))) H
theorem eq_empty {pins : List (Addr × Obj)} {σ : St} {H : Hp} {s : Shared} {Q : Value → Shared → Prop} {E : Value → Shared → Prop} {A : Around} {a b : Addr} {xs : List V} (hu : A.units < cLine) (I : Inv X pins σ H s) (ha : H a = some (.lst xs)) (hb : H b = some (.lst [])) (hab : a ≠ b)
    (q : ∀ tk, Q (.bool xs.isEmpty) { s with toks := tk }) (q0 : Q (.bool xs.isEmpty) s) : wpAny (model X.prog X.w) A (compareOp .Eq (.ref a) (.ref b)) Q E s := by
  obtain ⟨_, its, n, r1, e1⟩ := (show ObjOk X.prog X.w H s.heap a (.lst xs) from I.hok a _ ha)
  obtain ⟨_, its2, n2, r2, e2⟩ := (show ObjOk X.prog X.w H s.heap b (.lst []) from I.hok b _ hb)
  cases r2
  have l1 : s.heap.IsList a its.toArray := ⟨_, e1, rfl, _, rfl⟩
  have l2 : s.heap.IsList b (#[] : Array Value) := ⟨_, e2, rfl, _, rfl⟩
  cases r1 with
  | nil =>
    exact SeqAt.eq_listAt (e := fun _ => true) l1 l2 rfl hu (fun i hi => absurd hi (by simp)) (by simpa using q0)
  | cons z t =>
    exact SeqAt.eq_list_lengthsAt l1 l2 (by simp) hu (by simpa using q0)
theorem op_eqD (hu : X.A.units < cLine) : OpR X (compareOp .Eq) (rEqD false) := by
  intro pins s σ H x y v u Q I rx ry h
  have hs : (∀ a b, x = .ref a → y = .ref b → False) → scal x y = true ∧ Q (.bl (false ^^ decide (x = y))) H := fun hn => by
    cases x <;> cases y <;> first
      | exact (hn _ _ rfl rfl).elim
      | exact h
  by_cases hr : ∃ a b, x = .ref a ∧ y = .ref b
  · obtain ⟨a, b, rfl, rfl⟩ := hr
    obtain ⟨hab, xs, h1, h2, q⟩ := h
    cases rx; cases ry
    exact eq_empty hu I h1 h2 hab (fun tk => ⟨.bl xs.isEmpty, H, I.tok tk, rfl, by simpa using q⟩) ⟨.bl xs.isEmpty, H, I, rfl, by simpa using q⟩
  · obtain ⟨h1, h2⟩ := hs fun a b e1 e2 => hr ⟨a, b, e1, e2⟩
    exact op_eq pins s σ H x y v u Q I rx ry ⟨h1, by simpa using h2⟩
theorem ne_empty {pins : List (Addr × Obj)} {σ : St} {H : Hp} {s : Shared} {Q : Value → Shared → Prop} {E : Value → Shared → Prop} {A : Around} {a b : Addr} {xs : List V} (hu : A.units < cLine) (I : Inv X pins σ H s) (ha : H a = some (.lst xs)) (hb : H b = some (.lst []))
    (q0 : Q (.bool (!xs.isEmpty)) s) : wpAny (model X.prog X.w) A (compareOp .NotEq (.ref a) (.ref b)) Q E s := by
  obtain ⟨_, its, n, r1, e1⟩ := (show ObjOk X.prog X.w H s.heap a (.lst xs) from I.hok a _ ha)
  obtain ⟨_, its2, n2, r2, e2⟩ := (show ObjOk X.prog X.w H s.heap b (.lst []) from I.hok b _ hb)
  cases r2
  have l1 : s.heap.IsList a its.toArray := ⟨_, e1, rfl, _, rfl⟩
  have l2 : s.heap.IsList b (#[] : Array Value) := ⟨_, e2, rfl, _, rfl⟩
  cases r1 with
  | nil =>
    exact SeqAt.RcNeAt.lists (e := fun _ => true) l1 l2 rfl hu (fun i hi => absurd hi (by simp)) _ _ _ _ (by simpa using q0)
  | cons z t =>
    exact SeqAt.RcNeAt.lists_lengths l1 l2 (by simp) hu _ _ _ _ (by simpa using q0)
theorem op_neD (hu : X.A.units < cLine) : OpR X (compareOp .NotEq) (rEqD true) := by
  intro pins s σ H x y v u Q I rx ry h
  have hs : (∀ a b, x = .ref a → y = .ref b → False) → scal x y = true ∧ Q (.bl (true ^^ decide (x = y))) H := fun hn => by
    cases x <;> cases y <;> first
      | exact (hn _ _ rfl rfl).elim
      | exact h
  by_cases hr : ∃ a b, x = .ref a ∧ y = .ref b
  · obtain ⟨a, b, rfl, rfl⟩ := hr
    obtain ⟨hab, xs, h1, h2, q⟩ := h
    cases rx; cases ry
    exact ne_empty hu I h1 h2 ⟨.bl (!xs.isEmpty), H, I, rfl, by simpa using q⟩
  · obtain ⟨h1, h2⟩ := hs fun a b e1 e2 => hr ⟨a, b, e1, e2⟩
    exact op_ne pins s σ H x y v u Q I rx ry ⟨h1, by simpa using h2⟩
def rIxD (K : PySem.W.Frag) : R2 := fun x y H Q => match x, y with
  | .ref p, .int i => ∃ xs v, (SqL K H p xs ∨ SqT K H p xs) ∧ atI xs i = some v ∧ Q v H
  | .str z, .int i => z.length ≤ sizeLine ∧ ∃ c, atI z.cps.toList i = some c ∧ Q (.str ⟨#[c]⟩) H
  | _, _ => False
theorem ix_D : IxR X (rIxD X.K) := by
  intro e1 e2 pins s σ H x y v u Q I rx ry h hs
  cases x <;> cases y <;> first
    | exact (show False from h).elim
    | (obtain ⟨xs, w, h1 | h1, h2, h3⟩ := h
       · exact ix_list e1 e2 pins s σ H _ _ v u Q I rx ry ⟨_, xs, _, w, rfl, rfl, h1, h2, h3⟩ hs
       · exact ix_tup e1 e2 pins s σ H _ _ v u Q I rx ry ⟨_, xs, _, w, rfl, rfl, h1, h2, h3⟩ hs)
    | (obtain ⟨h1, c, h2, h3⟩ := h; exact ix_str e1 e2 pins s σ H _ _ v u Q I rx ry ⟨_, _, c, rfl, rfl, h1, h2, h3⟩ hs)
def rInD (K : PySem.W.Frag) (n : Bool) : R2 := fun x y H Q => match y with
  | .str j => ∃ i, x = .str i ∧ Q (.bl (n ^^ (!(Builtin.Str.occurrences j i 0 j.length 1).isEmpty))) H
  | .ref p => ∃ xs, (SqL K H p xs ∨ SqT K H p xs) ∧ flatV x = true ∧ xs.all flatV = true ∧ Q (.bl (n ^^ inV x xs)) H
  | _ => False
theorem op_inD : OpR X (compareOp .In) (rInD X.K false) := by
  intro pins s σ H x y v u Q I rx ry h
  cases y <;> first
    | exact (show False from h).elim
    | (obtain ⟨i, rfl, h2⟩ := h; exact op_in_str pins s σ H _ _ v u Q I rx ry ⟨i, _, rfl, rfl, by simpa using h2⟩)
    | (obtain ⟨xs, h1, h2, h3, h4⟩ := h; exact op_in_seq pins s σ H _ _ v u Q I rx ry ⟨_, xs, rfl, h1, h2, h3, by simpa using h4⟩)
theorem op_notInD : OpR X (compareOp .NotIn) (rInD X.K true) := by
  intro pins s σ H x y v u Q I rx ry h
  cases y <;> first
    | exact (show False from h).elim
    | (obtain ⟨i, rfl, h2⟩ := h; exact op_notin_str pins s σ H _ _ v u Q I rx ry ⟨i, _, rfl, rfl, by simpa using h2⟩)
    | (obtain ⟨xs, h1, h2, h3, h4⟩ := h; exact op_notIn_seq pins s σ H _ _ v u Q I rx ry ⟨_, xs, rfl, h1, h2, h3, by simpa using h4⟩)
def rLenD (K : PySem.W.Frag) : List V → Hp → VK → Prop := fun xs H Q => match xs with
  | [.str y] => y.length ≤ sizeLine ∧ Q (.int y.length) H
  | [.ref p] => (∃ ys, (SqL K H p ys ∨ SqT K H p ys) ∧ Q (.int ys.length) H) ∨ (∃ kvs, Rd H p (.dK kvs) ∧ Q (.int kvs.length) H)
  | _ => False
theorem call_lenA : CallR X (.builtin "len") (rLenD X.K) := by
  intro pins s σ H xs us Q I r h
  unfold rLenD at h
  split at h
  · exact call_len pins s σ H _ us Q I r ⟨_, _, rfl, ⟨h.1, rfl⟩, h.2⟩
  · rcases h with ⟨ys, h1 | h1, q⟩ | ⟨kvs, h1, q⟩
    · exact call_len pins s σ H _ us Q I r ⟨_, _, rfl, .inl ⟨ys, h1, rfl⟩, q⟩
    · exact call_len pins s σ H _ us Q I r ⟨_, _, rfl, .inr ⟨ys, h1, rfl⟩, q⟩
    · obtain ⟨u, rfl, ru⟩ := vals1 r
      cases ru
      exact d_len I h1 fun t s' I' => ⟨.int kvs.length, H, I', ⟨t, rfl⟩, q⟩
  · exact h.elim
def tyName (H : Hp) : V → Option String
  | .non => some "NoneType"
  | .bl _ => some "bool"
  | .int _ => some "int"
  | .str _ => some "str"
  | .ref a => match H a with
    | some (.lst _) => some "list"
    | some (.tup _) => some "tuple"
    | some (.dK _) => some "dict"
    | _ => none
  | _ => none
def isiT (t T : String) : Bool := t == T || (t == "bool" && T == "int")
theorem kit_all : ∀ (K : PySem.W.Frag) (t T : String), t ∈ ["NoneType", "bool", "int", "str", "list", "tuple", "dict"] → T ∈ ["bool", "int", "str", "list", "tuple", "dict"] → PySem.W.kitOne K (.type t) (.type T) = some (isiT t T) := by
  intro K t T h1 h2
  simp only [List.mem_cons, List.mem_nil_iff, or_false] at h1 h2
  rcases h1 with rfl | rfl | rfl | rfl | rfl | rfl | rfl <;> rcases h2 with rfl | rfl | rfl | rfl | rfl | rfl <;> rfl
def rIsi : List V → Hp → VK → Prop := fun xs H Q => match xs with
  | [x, .ty T] => T ∈ ["bool", "int", "str", "list", "tuple", "dict"] ∧ ∃ t, tyName H x = some t ∧ Q (.bl (isiT t T)) H
  | _ => False
theorem call_isiD : CallR X (.builtin "isinstance") rIsi := by
  intro pins s σ H xs us Q I r h
  unfold rIsi at h
  split at h
  · next x T =>
    obtain ⟨hT, t, ht, q⟩ := h
    obtain ⟨u, c, rfl, ru, rc⟩ := r.two
    cases rc
    have fin : ∀ tk, EP X pins σ Q (.bool (isiT t T)) { s with toks := tk } := fun tk => ⟨.bl (isiT t T), H, I.tok tk, rfl, q⟩
    have tm : t ∈ ["NoneType", "bool", "int", "str", "list", "tuple", "dict"] ∧ TyOf X.K H x (.type t) := by
      cases x with
      | non => cases ht; exact ⟨by simp, .non⟩
      | bl b => cases ht; exact ⟨by simp, .bl b⟩
      | int b => cases ht; exact ⟨by simp, .int b⟩
      | str b => cases ht; exact ⟨by simp, .str b⟩
      | ref a =>
        unfold tyName at ht
        dsimp only at ht
        split at ht
        · next e => cases ht; exact ⟨by simp, .lst e⟩
        · next e => cases ht; exact ⟨by simp, .tup e⟩
        · next e => cases ht; exact ⟨by simp, .dK e⟩
        · cases ht
      | _ => cases ht
    exact isinst_ok I ru tm.2 (kit_all _ t T tm.1 hT) fin
  · exact h.elim
def rAll (K : PySem.W.Frag) : List V → Hp → VK → Prop := fun xs H Q => match xs with
  | [.ref p] => ∃ bs : List Bool, SqL K H p (bs.map V.bl) ∧ Q (.bl (bs.all id)) H
  | _ => False
theorem bools_of : ∀ {bs : List Bool} {us : List Value}, Vals (bs.map V.bl) us → us = bs.map Value.bool
  | [], _, .nil => rfl
  | b :: bs, _, .cons r t => by
    cases (show _ = Value.bool b from r)
    rw [bools_of t]; rfl
theorem call_allD (hc : X.calm = true) : CallR X (.builtin "all") (rAll X.K) := by
  intro pins s σ H xs us Q I r h
  unfold rAll at h
  split at h
  · next p =>
    obtain ⟨bs, hq, q⟩ := h
    obtain ⟨u, rfl, ru⟩ := r.one
    cases ru
    obtain ⟨its, rv, pl, hz⟩ := I.list hq
    have e := bools_of rv
    subst e
    have hlt : p < s.heap.objs.size := by obtain ⟨_, e, _⟩ := pl.isList; exact Heap.lt_size e
    refine call_all_walk (wpAny_pyIter_list pl.isList ?_)
    refine ⟨s.heap.objs.size, [s.heap.objs.size, p], [s.heap.objs.size], (bs.map Value.bool).toArray.size, _, _, fun i => (bs[i]?).getD true, rfl, Walks.list (A := X.A.in1) (I.ok.hd hc) _ p (Nat.ne_of_lt hlt) _,
      ⟨⟨_, Heap.get?_push_size _ rfl, rfl, rfl⟩, pl.isList.push _⟩, fun i v s' Q' E' hP hQ => ?_, fun h' tk hk => ?_⟩
    · have hP' : (bs.map Value.bool)[i]? = some v := by simpa using hP
      rw [List.getElem?_map] at hP'
      cases eb : bs[i]? with
      | none => rw [eb] at hP'; cases hP'
      | some b =>
        rw [eb] at hP'
        cases hP'
        simp only [eb, Option.getD_some] at hQ
        exact wpAny_truthy_bool hQ
    · have e : ((List.range (bs.map Value.bool).toArray.size).all fun i => (bs[i]?).getD true) = bs.all id := by
        rw [List.size_toArray, List.length_map]
        rw [Bool.eq_iff_iff, List.all_eq_true, List.all_eq_true]
        constructor
        · intro h b hb
          obtain ⟨i, hi, rfl⟩ := List.getElem_of_mem hb
          have := h i (List.mem_range.mpr hi)
          simpa [List.getElem?_eq_getElem hi] using this
        · intro h i hi
          have hi' := List.mem_range.mp hi
          have := h _ (List.getElem_mem hi')
          simpa [List.getElem?_eq_getElem hi'] using this
      rw [e]
      refine ⟨.bl (bs.all id), H, I.kept (t' := tk) fun b o e => hk b o (fun hm => ?_) (Heap.get?_push_of_some _ e), rfl, q⟩
      rw [List.mem_singleton.mp hm] at e
      exact Nat.lt_irrefl _ (Heap.lt_size e)
  · exact h.elim
theorem strs_of : ∀ {xs : List Str} {us : List Value}, Vals (xs.map V.str) us → StrsAre us xs
  | [], _, .nil => .nil
  | x :: xs, _, .cons r t => by
    obtain ⟨k, rfl⟩ := (show ∃ t, _ = Value.str x t from r)
    exact .cons x k (strs_of t)
def rJoin (K : PySem.W.Frag) : V → List V → Hp → VK → Prop := fun x vs H Q => match x, vs with
  | .str sep, [.ref p] => ∃ ys : List Str, SqL K H p (ys.map V.str) ∧ (ys.map (·.length)).sum + ys.length * sep.length ≤ 16777216 ∧ Q (.str (Txt.join sep ys)) H
  | _, _ => False
theorem mt_join : MtM X "str.join" (rJoin X.K) := by
  intro pins s σ H x vs v us Q I rx rv h
  unfold rJoin at h
  split at h
  · next sep p =>
    obtain ⟨ys, hq, hz, q⟩ := h
    obtain ⟨t, rfl⟩ := (show ∃ t, v = Value.str sep t from rx)
    obtain ⟨u, rfl, ru⟩ := rv.one
    cases ru
    obtain ⟨its, rv', pl, _⟩ := I.list hq
    exact join_list pl.isList (by simpa using strs_of rv') hz fun t' k => ⟨.str (Txt.join sep ys), H, I.tok k, ⟨t', rfl⟩, q⟩
  · exact h.elim
def rSlS : V → Option Int → Option Int → Hp → VK → Prop := fun x lo hi H Q => ∃ z, x = .str z ∧ z.length ≤ sizeLine ∧ Q (.str (Txt.slice z lo hi)) H
theorem sl_str : SlR X rSlS := by
  intro pins s σ H x v vl vu lo hi sl Q I rx hs pl pu h
  obtain ⟨z, rfl, hz, q⟩ := h
  obtain ⟨t, rfl⟩ := (show ∃ t, v = Value.str z t from rx)
  refine ⟨"str", _, F.slot_str_getitem.lookup, typeIs_str _ _ _, ?_⟩
  have hpart : ∀ {w : Value} {o : Option Int}, IsPart w o → ∃ l : Option (Int × Tok), w = partValue l ∧ l.map (·.1) = o := fun {w o} p => by
    cases p with
    | none => exact ⟨none, rfl, rfl⟩
    | int k t => exact ⟨some (k, t), rfl, rfl⟩
  obtain ⟨l, e1, e2⟩ := hpart pl
  obtain ⟨u, e3, e4⟩ := hpart pu
  subst e1 e3
  obtain ⟨o, ho, hc, hd⟩ := hs
  refine wpAny_getItem_str_slice (l := l) (u := u) (st := none) ⟨o, ho, hc, hd⟩ rfl ?_
  refine post_val_or_str ⟨Nat.le_trans (Txt.slice_le z _ _) hz, fun t' k => ?_⟩
  show EP X pins σ Q (.str (Txt.slice z (l.map (·.1)) (u.map (·.1))) t') _
  rw [e2, e4]
  exact ⟨.str (Txt.slice z lo hi), H, I.tok k, ⟨t', rfl⟩, q⟩
def Its (z : Str) : It := ⟨fun i _ => i < z.cps.size, fun i H x H' => H' = H ∧ ∃ c, z.cps[i]? = some c ∧ x = .str ⟨#[c]⟩, fun i _ => z.cps.size = i⟩
theorem turn_walks {P : Program} {w : World} {K : PySem.W.Frag} {tg : Expr} {it : Addr} {z : Str} {St : Nat → Heap → Prop} (W : ∀ A' : Around, A'.handled = none → Walks P w A' it [it] [it] z.cps.size (SignAt z) St)
    (hself : ∀ (A : Around) (i : Nat) (s : Shared) (Q : Value → Shared → Prop) (E : Value → Shared → Prop), St i s.heap → Q (.ref it) s → wpAny (model P w) A (pyIter (.ref it)) Q E s)
    (hg : ∀ i h, St i h → ∃ o n vs, h.get? it = some o ∧ o.cls = .type n ∧ o.data = .fields vs ∧ ["enumerate", "zip", "dict_itemiterator", "dict_reverseitemiterator", "odict_iterator", "itertools.zip_longest", "itertools.pairwise"].contains n = false) : Turn P w K tg (Its z) [it] it St where
  mem := by simp
  obj := fun i h st b hb => by
    have e : b = it := by simpa using hb
    subst e
    obtain ⟨o, n, vs, e, c, d, _⟩ := hg i h st
    exact ⟨o, e, fun v z => by rw [d] at z; cases z⟩
  keep := fun i h h' st k => (W {} rfl).frame _ _ _ st k
  item := by
    intro X hP hw hK hc i pins s σ H E I hf st hgo
    subst hP hw hK
    obtain ⟨f0, f1, f2, f3, f4, f5⟩ := hf it (by simp)
    refine (W X.A (I.ok.hd hc)).item i s _ _ hgo st fun v h' tk hv st' kk => ?_
    obtain ⟨c, t, hc1, rfl⟩ := hv
    have I1 : Inv X pins σ H { s with heap := h', toks := tk } := I.turned (fun b o hb e => kk b o (by simpa using hb) e) f0 f1 f3 f4 f5
    obtain ⟨o, n, vs, e, c', d, nn⟩ := hg _ _ st'
    exact ⟨_, rfl, go_of (s := { s with heap := h', toks := tk }) e c' d nn ⟨.str ⟨#[c]⟩, H, I1, ⟨t, rfl⟩, ⟨rfl, c, hc1, rfl⟩, st', fun b hb => (hf b hb).1⟩⟩
  done := by
    intro X hP hw hK hc i pins s σ H E I hf st hgo
    subst hP hw hK
    obtain ⟨f0, f1, f2, f3, f4, f5⟩ := hf it (by simp)
    have e : z.cps.size = i := hgo
    subst e
    exact (W X.A (I.ok.hd hc)).done s _ _ st fun h' tk kk => ⟨rfl, I.turned (fun b o hb e => kk b o (by simpa using hb) e) f0 f1 f3 f4 f5⟩
  self := hself
end
end L2
set_option maxRecDepth 100000
namespace L2
open PySem PySem.Spec PyProof.Rows
def FnK (P : Program) (w : World) (K : PySem.W.Frag) (mg : Str → Option Value) (base : Heap) (k : Nat) (x : Str) (ps : List Str) (sp : Sp) : Prop :=
  ∃ (f : Addr) (fd : FuncData), FnOk P w K mg base CX0 k f fd ps sp ∧ mg x = some (.ref f) ∧ PySem.W.keepIn K (.ref f) = true ∧ Binds K fd ps [] ∧ ∃ (oc : Value) (od : Option Addr) (osl : Array (Option Value)), K.lookup f = some ⟨oc, od, .func fd, osl⟩
section
variable {X : Cx} {k : Nat} {ps : List Str} {sp : Sp} {x : Str} {p pos : Pos} {e : Expr} {es : List Expr} {t : TA}
theorem pe_fn (F : FnK X.prog X.w X.K X.mg X.base k x ps sp) (hr : Room k X.A) (ha : PA X (e :: es) t) (hg : Gl X x := by rfl) (hdb : (x == ("__debug__" : Str)) = false := by decide)
    (he : starEach (e :: es) X.env = (false, eval e X.env) :: starEach es X.env := by rfl) (hpl : (backTo pos (starEach es X.env)).any (·.1) = false := by rfl) :
    PE X (.Call (.Name x p) (e :: es) [] pos) (tCall sp [] E0 t) := by
  obtain ⟨f, fd, G, mgf, kp, b, _⟩ := F
  exact pe_call G hr hg mgf kp b .nil pass0 ha hdb he hpl
end
def iD (K : PySem.W.Frag) (tl : TE) : TI := fun σ H R => tl σ H fun x H1 => match x with
  | .ref a => ((∃ xs, SqL K H1 a xs) ∧ R (Itl K a) H1) ∨ ((∃ xs, SqT K H1 a xs) ∧ R (Itt K a) H1)
  | .str z => R (Its z) H1
  | _ => False
theorem pi_D {X : Cx} {tg l : Expr} {tl : TE} (hl : PE X l tl) : PI X tg l (iD X.K tl) := by
  intro pins s σ H R I h
  refine thn (hl pins s σ H _ I h) ?_
  rintro v s1 ⟨x, H1, I1, r1, q1⟩
  cases x with
  | ref a =>
    cases r1
    rcases q1 with ⟨⟨xs, hq⟩, q⟩ | ⟨⟨xs, hq⟩, q⟩
    · obtain ⟨its, rv, p, hz⟩ := I1.list hq
      refine wpAny_pyIter_list p.isList ?_
      refine ⟨s1.heap.objs.size, [s1.heap.objs.size], _, _, H1, rfl, I1.kept (t' := s1.toks) fun b o e => Heap.get?_push_of_some _ e, turn_list a _, ⟨_, Heap.get?_push_size _ rfl, rfl, rfl⟩, fun b hb => ?_, q⟩
      have e : b = s1.heap.objs.size := by simpa using hb
      subst e
      exact I1.fpOk (Nat.le_refl _) (I1.hok.fresh (Nat.le_refl _))
    · obtain ⟨its, rv, p, hz⟩ := I1.tuple hq
      refine wpAny_pyIter_tuple (show s1.heap.IsTuple a its.toArray from p) ?_
      refine ⟨s1.heap.objs.size, [s1.heap.objs.size], _, _, H1, rfl, I1.kept (t' := s1.toks) fun b o e => Heap.get?_push_of_some _ e, turn_tuple a _, ⟨_, Heap.get?_push_size _ rfl, rfl, rfl⟩, fun b hb => ?_, q⟩
      have e : b = s1.heap.objs.size := by simpa using hb
      subst e
      exact I1.fpOk (Nat.le_refl _) (I1.hok.fresh (Nat.le_refl _))
  | str z =>
    obtain ⟨t, rfl⟩ := (show ∃ t, v = Value.str z t from r1)
    have q : R (Its z) H1 := q1
    have fin : ∀ (o : Obj) (n : String) (W : ∀ A' : Around, A'.handled = none → Walks X.prog X.w A' s1.heap.objs.size [s1.heap.objs.size] [s1.heap.objs.size] z.cps.size (SignAt z) (fun i h => h.IsStrIter s1.heap.objs.size n z t i)),
        (∀ (A : Around) (i : Nat) (s : Shared) (Q : Value → Shared → Prop) (E : Value → Shared → Prop), s.heap.IsStrIter s1.heap.objs.size n z t i → Q (.ref s1.heap.objs.size) s → wpAny (model X.prog X.w) A (pyIter (.ref s1.heap.objs.size)) Q E s) →
        ["enumerate", "zip", "dict_itemiterator", "dict_reverseitemiterator", "odict_iterator", "itertools.zip_longest", "itertools.pairwise"].contains n = false →
        (s1.heap.push o).IsStrIter s1.heap.objs.size n z t 0 → PIE X pins σ tg R (.ref s1.heap.objs.size) { s1 with heap := s1.heap.push o } := by
      intro o n W hself hn st
      refine ⟨s1.heap.objs.size, [s1.heap.objs.size], _, _, H1, rfl, I1.kept (t' := s1.toks) fun b o e => Heap.get?_push_of_some _ e, turn_walks W hself (fun i h st => ?_), st, fun b hb => ?_, q⟩
      · obtain ⟨o, e, c, d⟩ := st
        exact ⟨o, n, _, e, c, d, hn⟩
      · have e : b = s1.heap.objs.size := by simpa using hb
        subst e
        exact I1.fpOk (Nat.le_refl _) (I1.hok.fresh (Nat.le_refl _))
    cases ha : z.cps.all (· < 128)
    · exact wpAny_pyIter_wide ha (fin _ _ (fun A' hA => Walks.strWide hA _ z t) (fun A i s Q E st h => wpAny_pyIter_striter_wide st h) (by decide) ⟨_, Heap.get?_push_size _ rfl, rfl, rfl⟩)
    · exact wpAny_pyIter_ascii ha (fin _ _ (fun A' hA => Walks.strAscii hA _ z t) (fun A i s Q E st h => wpAny_pyIter_striter_ascii st h) (by decide) ⟨_, Heap.get?_push_size _ rfl, rfl, rfl⟩)
  | _ => exact (show False from q1).elim
def ItN (J : It) (ok : Hp → Prop) (n : Nat) (item : Nat → V) : Prop :=
  ∀ H, ok H → (∀ i, i < n → J.go i H ∧ ∀ x H', J.yld i H x H' → H' = H ∧ x = item i) ∧ J.stop n H
theorem itn_list {K : PySem.W.Frag} {a : Addr} (xs : List V) : ItN (Itl K a) (fun H => SqL K H a xs) xs.length (fun i => xs.getD i .non) := fun H ok =>
  ⟨fun i hi => ⟨⟨xs, xs[i], ok, by simp [hi]⟩, fun x H' ⟨e, y⟩ => ⟨e, by
    have := y xs ok
    show x = xs.getD i V.non
    rw [List.getD_eq_getElem?_getD, this]; rfl⟩⟩, ⟨xs, ok, Nat.le_refl _⟩⟩
theorem itn_tup {K : PySem.W.Frag} {a : Addr} (xs : List V) : ItN (Itt K a) (fun H => SqT K H a xs) xs.length (fun i => xs.getD i .non) := fun H ok =>
  ⟨fun i hi => ⟨⟨xs, xs[i], ok, by simp [hi]⟩, fun x H' ⟨e, y⟩ => ⟨e, by
    have := y xs ok
    show x = xs.getD i V.non
    rw [List.getD_eq_getElem?_getD, this]; rfl⟩⟩, ⟨xs, ok, Nat.le_refl _⟩⟩
theorem itn_range (lo : Int) (n : Nat) : ItN (Itr lo n) (fun _ => True) n (fun i => .int (lo + i)) := fun H _ =>
  ⟨fun i hi => ⟨hi, fun x H' ⟨e, y⟩ => ⟨e, y⟩⟩, Nat.le_refl _⟩
theorem lc_by {J : It} {ok : Hp → Prop} {n : Nat} {item : Nat → V} {g : TG} {tc : TC} {te : TE} {τ0 : St} {H0 : Hp} {D : Addr} {Q : Hp → Prop} (hJ : ItN J ok n item) (Pv : Nat → St → Hp → Prop) (h0 : Pv 0 τ0 H0)
    (hok : ∀ i τ H, i ≤ n → Pv i τ H → ok H)
    (hs : ∀ i τ H, i < n → Pv i τ H → g (item i) τ H fun τ2 H2 => tc τ2 H2 fun b H3 => if b = true then te τ2 H3 fun y H4 => ∃ xs, H4 D = some (.lst xs) ∧ xs.length < sizeLine ∧ Pv (i + 1) τ2 (upd H4 D (.lst (xs ++ [y]))) else Pv (i + 1) τ2 H3)
    (hd : ∀ τ H, Pv n τ H → Q H) : ∃ W : Nat → Nat → St → Hp → Prop, (∃ m, W 0 m τ0 H0) ∧ ∀ i m τ H, W i m τ H →
      (J.stop i H ∧ Q H) ∨ (J.go i H ∧ ∃ N : St → Hp → Prop, (∀ τ' H', N τ' H' → ∃ m', m' < m ∧ W (i + 1) m' τ' H') ∧ ∀ x H', J.yld i H x H' → g x τ H' fun τ2 H2 => tc τ2 H2 fun b H3 =>
        if b = true then te τ2 H3 fun y H4 => ∃ xs, H4 D = some (.lst xs) ∧ xs.length < sizeLine ∧ N τ2 (upd H4 D (.lst (xs ++ [y]))) else N τ2 H3) := by
  refine ⟨fun i m τ H => m = n - i ∧ i ≤ n ∧ Pv i τ H, ⟨n, by simp, Nat.zero_le _, h0⟩, ?_⟩
  rintro i m τ H ⟨rfl, hi, p⟩
  obtain ⟨k1, k2⟩ := hJ H (hok i τ H hi p)
  by_cases hlt : i < n
  · refine .inr ⟨(k1 i hlt).1, Pv (i + 1), fun σ' H' p' => ⟨n - (i + 1), by omega, rfl, hlt, p'⟩, fun x H' y => ?_⟩
    obtain ⟨e, e2⟩ := (k1 i hlt).2 x H' y
    subst e e2
    exact hs i τ _ hlt p
  · have e : i = n := by omega
    subst e
    exact .inl ⟨k2, hd τ H p⟩
theorem for_by {J : It} {ok : Hp → Prop} {n : Nat} {item : Nat → V} {g : TG} {tb : TS} {D : Ends} {σ : St} {H : Hp} (hJ : ItN J ok n item) (Pv : Nat → St → Hp → Prop) (h0 : Pv 0 σ H) (hok : ∀ i τ H, i ≤ n → Pv i τ H → ok H)
    (hs : ∀ i σ H, i < n → Pv i σ H → g (item i) σ H fun σ2 H2 => tb { D with nx := Pv (i + 1), ct := Pv (i + 1), bk := D.nx } σ2 H2) (hd : ∀ σ H, Pv n σ H → D.nx σ H) :
    ∃ W : Nat → Nat → St → Hp → Prop, (∃ m, W 0 m σ H) ∧ ∀ i m σ H, W i m σ H →
      (J.stop i H ∧ D.nx σ H) ∨ (J.go i H ∧ ∃ N : St → Hp → Prop, (∀ σ' H', N σ' H' → ∃ m', m' < m ∧ W (i + 1) m' σ' H') ∧ ∀ x H', J.yld i H x H' → g x σ H' fun σ2 H2 => tb { D with nx := N, ct := N, bk := D.nx } σ2 H2) := by
  refine ⟨fun i m σ H => m = n - i ∧ i ≤ n ∧ Pv i σ H, ⟨n, by simp, Nat.zero_le _, h0⟩, ?_⟩
  rintro i m σ H ⟨rfl, hi, p⟩
  obtain ⟨k1, k2⟩ := hJ H (hok i σ H hi p)
  by_cases hlt : i < n
  · refine .inr ⟨(k1 i hlt).1, Pv (i + 1), fun σ' H' p' => ⟨n - (i + 1), by omega, rfl, hlt, p'⟩, fun x H' y => ?_⟩
    obtain ⟨e, e2⟩ := (k1 i hlt).2 x H' y
    subst e e2
    exact hs i σ _ hlt p
  · have e : i = n := by omega
    subst e
    exact .inl ⟨k2, hd σ H p⟩
def FnT (K : PySem.W.Frag) (mg : Str → Option Value) (x : Str) (st : Stmt) (ps : List Str) : Prop := ∃ (f : Addr) (fd : FuncData), Fun K x x st f fd ∧ mg x = some (.ref f) ∧ Binds K fd ps []
theorem FnT.ok {P : Program} {w : World} {K : PySem.W.Frag} {mg : Str → Option Value} {base : Heap} {x : Str} {st : Stmt} {N ps : List Str} {k : Nat} {sp : Sp} (F : FnT K mg x st ps) (S : FnScope N ps (defScope st)) (len : ∀ vs H Q E, sp vs H Q E → vs.length = ps.length)
    (hbody : ∀ (f : Addr) (cdv : Value) (A : Around) (outer : List Env) (s : Shared) (H : Hp) (vs : List V) (Q : VK) (E : XK), Room k (A.deeper (envOfC x (defScope st) s.heap.objs.size f cdv)) → sp vs H Q E →
      ∃ t, PSs (cxOf CX0 P w K mg base N x (defScope st) f cdv A outer s H E).nox (defBody st) t ∧ t { nx := fun _ H' => Q .non H', rt := Q } (start N vs) H) : FnK P w K mg base (k + 1) x ps sp := by
  obtain ⟨f, fd, Fu, m, b⟩ := F
  exact ⟨f, fd, Fu.ok S len (hbody f), m, Fu.kp, b, let ⟨oc, od, _, _, _, _, _, _, osl, _, lk, _⟩ := Fu.ex; ⟨oc, od, osl, lk⟩⟩
section
variable {X : Cx} {x : Str} {pos : Pos}
theorem pe_gl {v : V} (h : ∃ u, X.mg x = some u ∧ RelV v u) (hg : Gl X x := by rfl) (hd : (x == ("__debug__" : Str)) = false := by decide) : PE X (.Name x pos) (tC v) := by
  obtain ⟨u, h1, h2⟩ := h
  exact pe_glob hg h1 h2 hd
def tGlT (K : PySem.W.Frag) (xs : List V) : TE := fun _ H Q => ∀ a, SqT K H a xs → Q (.ref a) H
theorem pe_glT {xs : List V} (h : ∃ a, X.mg x = some (.ref a) ∧ ∀ H, SqT X.K H a xs) (hg : Gl X x := by rfl) (hd : (x == ("__debug__" : Str)) = false := by decide) : PE X (.Name x pos) (tGlT X.K xs) := by
  obtain ⟨a, h1, h2⟩ := h
  intro pins s σ H Q I q
  exact pe_glob (v := .ref a) hg h1 rfl hd pins s σ H Q I (q a (h2 H))
theorem sl_D : SlR X (fun x lo hi H Q => rSlS x lo hi H Q ∨ (rSlL X.K x lo hi H Q ∨ rSlT X.K x lo hi H Q)) := sl_str.or (sl_list.or sl_tup)
end
section
variable {X : Cx} (K : PySem.W.Frag)
theorem ix_K (h : X.K = K := by rfl) : IxR X (rIxD K) := by rw [← h]; exact ix_D
theorem op_inK (h : X.K = K := by rfl) : OpR X (compareOp .In) (rInD K false) := by rw [← h]; exact op_inD
theorem op_notInK (h : X.K = K := by rfl) : OpR X (compareOp .NotIn) (rInD K true) := by rw [← h]; exact op_notInD
theorem call_lenK (h : X.K = K := by rfl) : CallR X (.builtin "len") (rLenD K) := by rw [← h]; exact call_lenA
theorem call_allK (hc : X.calm = true) (h : X.K = K := by rfl) : CallR X (.builtin "all") (rAll K) := by rw [← h]; exact call_allD hc
theorem mt_joinK (h : X.K = K := by rfl) : MtM X "str.join" (rJoin K) := by rw [← h]; exact mt_join
theorem sl_K (h : X.K = K := by rfl) : SlR X (fun x lo hi H Q => rSlS x lo hi H Q ∨ (rSlL K x lo hi H Q ∨ rSlT K x lo hi H Q)) := by rw [← h]; exact sl_D
theorem pi_K {tg l : Expr} {tl : TE} (hl : PE X l tl) (h : X.K = K := by rfl) : PI X tg l (iD K tl) := by rw [← h]; exact pi_D hl
theorem pe_glK {x : Str} {pos : Pos} {xs : List V} (hx : ∃ a, X.mg x = some (.ref a) ∧ ∀ H, SqT K H a xs) (h : X.K = K := by rfl) (hg : Gl X x := by rfl) (hd : (x == ("__debug__" : Str)) = false := by decide) : PE X (.Name x pos) (tGlT K xs) := by
  subst h; exact pe_glT hx hg hd
theorem pg_tupK {es : List Expr} {k : Nat} {t : TGs} {n : Nat} {pos : Pos} (hc : X.calm = true) (hh : PGs X es t) (h : X.K = K := by rfl)
    (hn : (assignEach es X.env).length = n := by rfl) (hst : (assignEach es X.env).findIdx? (·.1) = none := by rfl) : PG X (.Tuple es k pos) (gTup K n t) := by
  subst h; exact pg_tup hc hh hn hst
theorem pe_bmK {T : String} {name : Str} {id : String} {r : V → List V → Hp → VK → Prop} {o e : Expr} {es : List Expr} {to : TE} {t : TA} {apos cpos : Pos} (pa : PlainAttrs T) (slot : Slot T name id) (hty : typeOf (.builtin id) = pure (.type "method_descriptor")) (hm : MtM X id r) (ho : PE X o to) (ha : PA X (e :: es) t) (h : X.K = K := by rfl)
    (hbase : attributeBase o name X.env (eval o X.env) = eval o X.env := by rfl)
    (hfew : ((backTo cpos (starEach (e :: es) X.env)).all (fun x => !x.1) && (backToKw cpos (keywordEach [] X.env)).all (fun x => x.1.isSome)
      && decide ((e :: es).length + ([] : List Keyword).length + (if ([] : List Keyword).isEmpty then 0 else 1) < 30)) = true := by rfl)
    (hline : (apos.endLine == cpos.line) = true := by rfl) (hs : starEach (e :: es) X.env = (false, eval e X.env) :: starEach es X.env := by rfl) (hplain : (backTo cpos (starEach es X.env)).any (·.1) = false := by rfl) :
    PE X (.Call (.Attribute o name apos) (e :: es) [] cpos) (tBM K T r to t) := by
  subst h; exact pe_bm pa slot hty hm ho ha hbase hfew hline hs hplain
end
end L2
set_option maxRecDepth 100000
namespace L2
open PySem PySem.Spec PyProof.Rows
structure SE (X : Cx) (e : Expr) (t : TE) : Prop where
  h : PE X e t
structure ST (X : Cx) (e : Expr) (t : TT) : Prop where
  h : PT X e t
structure SW (X : Cx) (e : Expr) (t : TT) : Prop where
  h : PW X e t
structure SA (X : Cx) (es : List Expr) (t : TA) : Prop where
  h : PA X es t
structure SS (X : Cx) (s : Stmt) (t : TS) : Prop where
  h : PS X s t
structure SB (X : Cx) (s : List Stmt) (t : TS) : Prop where
  h : PSs X s t
structure SG (X : Cx) (e : Expr) (t : TG) : Prop where
  h : PG X e t
structure SGs (X : Cx) (e : List Expr) (t : TGs) : Prop where
  h : PGs X e t
structure SI (X : Cx) (tg e : Expr) (t : TI) : Prop where
  h : PI X tg e t
structure SC (X : Cx) (e : List Expr) (t : TC) : Prop where
  h : PC' X e t
structure SO (X : Cx) (e : Option Expr) (t : TO) : Prop where
  h : PO X e t
structure SP2 (X : Cx) (pos : Pos) (keys : List (Option Expr)) (values : List Expr) (trs : List (TE × TE)) : Prop where
  h : PPs X pos keys values trs
section
variable {X : Cx} {es : List Expr} {te : TE} {t : TA} {c : Const} {j : Nat} {pos0 : Pos} {n : Str} {xs0 : List Expr} {f0 a0 b0 c0 : Expr} {kw0 : List Keyword} {o0 : Operator} {ks0 : List (Option Expr)} {gs0 : List Comprehension} {sc0 : Scope} {u0 : UnaryOp} {bo0 : BoolOp} {ops0 : List CmpOp}theorem sa_nil : SA X [] tNil := ⟨pa_nil⟩
theorem sa_Constant (ha : SE X (.Constant c j pos0) te) (hr : SA X es t) : SA X (.Constant c j pos0 :: es) (tCons te t) := ⟨pa_cons ha.h hr.h⟩
theorem sa_Name (ha : SE X (.Name n pos0) te) (hr : SA X es t) : SA X (.Name n pos0 :: es) (tCons te t) := ⟨pa_cons ha.h hr.h⟩
theorem sa_List (ha : SE X (.List xs0 pos0) te) (hr : SA X es t) : SA X (.List xs0 pos0 :: es) (tCons te t) := ⟨pa_cons ha.h hr.h⟩
theorem sa_Tuple (ha : SE X (.Tuple xs0 j pos0) te) (hr : SA X es t) : SA X (.Tuple xs0 j pos0 :: es) (tCons te t) := ⟨pa_cons ha.h hr.h⟩
theorem sa_Call (ha : SE X (.Call f0 xs0 kw0 pos0) te) (hr : SA X es t) : SA X (.Call f0 xs0 kw0 pos0 :: es) (tCons te t) := ⟨pa_cons ha.h hr.h⟩
theorem sa_BinOp (ha : SE X (.BinOp a0 o0 b0 pos0) te) (hr : SA X es t) : SA X (.BinOp a0 o0 b0 pos0 :: es) (tCons te t) := ⟨pa_cons ha.h hr.h⟩
theorem sa_Subscript (ha : SE X (.Subscript a0 b0 pos0) te) (hr : SA X es t) : SA X (.Subscript a0 b0 pos0 :: es) (tCons te t) := ⟨pa_cons ha.h hr.h⟩
theorem sa_ListComp (ha : SE X (.ListComp a0 gs0 sc0 pos0) te) (hr : SA X es t) : SA X (.ListComp a0 gs0 sc0 pos0 :: es) (tCons te t) := ⟨pa_cons ha.h hr.h⟩
theorem sa_Compare (ha : SE X (.Compare a0 ops0 xs0 pos0) te) (hr : SA X es t) : SA X (.Compare a0 ops0 xs0 pos0 :: es) (tCons te t) := ⟨pa_cons ha.h hr.h⟩
end
section
variable {X : Cx} {a b c e o i value lo hi tg iter elt : Expr} {ta tb tc te td ty tv : TE} {t : TA} {pos p p2 pos' pos0 : Pos} {x : Str} {es : List Expr}
theorem zv (i : Nat) {x : Str} {pos : Pos} (hN : X.N[i]? = some x := by rfl) (hv : Vis X.env.scope x := by first | exact Or.inl rfl | exact Or.inr (Or.inl rfl) | exact Or.inr (Or.inr rfl)) (hd : (x == ("__debug__" : Str)) = false := by decide) (hcd : (x == ("__classdict__" : Str)) = false := by decide) : SE X (.Name x pos) (tV i) := ⟨pvv i hN hv hd hcd⟩
theorem z_gl {v : V} (h : ∃ u, X.mg x = some u ∧ RelV v u) (hg : Gl X x := by rfl) (hd : (x == ("__debug__" : Str)) = false := by decide) : SE X (.Name x pos) (tC v) := ⟨pe_gl h hg hd⟩
theorem z_glK (K : PySem.W.Frag) {xs : List V} (hx : ∃ a, X.mg x = some (.ref a) ∧ ∀ H, SqT K H a xs) (h : X.K = K := by rfl) (hg : Gl X x := by rfl) (hd : (x == ("__debug__" : Str)) = false := by decide) : SE X (.Name x pos) (tGlT K xs) := ⟨pe_glK K hx h hg hd⟩
theorem z_bltn {v : V} {u : Value} (hg : Gl X x) (hm : X.mg x = none) (hv : bootBuiltins x = some u) (r : RelV v u) (hn : x ≠ "__name__" := by decide) (hd : (x == ("__debug__" : Str)) = false := by decide) : SE X (.Name x pos) (tC v) := ⟨pe_bltn hg hm hv r hn hd⟩
theorem z_non {j} : SE X (.Constant .none j pos) (tC .non) := ⟨pe_non⟩
theorem z_bl {b : Bool} {j} : SE X (.Constant (.bool b) j pos) (tC (.bl b)) := ⟨pe_bl⟩
theorem z_int {i : Int} {j} : SE X (.Constant (.int i) j pos) (tC (.int i)) := ⟨pe_int⟩
theorem z_str {x : Str} {j} : SE X (.Constant (.str x) j pos) (tC (.str x)) := ⟨pe_str⟩
theorem z_op {op : Operator} {r : R2} (ho : OpR X (binaryOp op) r) (ha : SE X a ta) (hb : SE X b tb) : SE X (.BinOp a op b pos) (tOp r ta tb) := ⟨pe_op ho ha.h hb.h⟩
theorem z_un {op : UnaryOp} {r : V → Hp → VK → Prop} (ho : UnR X (unaryOp op) r) (ha : SE X a ta) : SE X (.UnaryOp op a pos) (tUn r ta) := ⟨pe_un ho ha.h⟩
theorem z_one {op} (h : SE X a ta) : SE X (.BoolOp op [a] pos) ta := ⟨pe_one h.h⟩
theorem z_and {rest : List Expr} (ha : SE X a ta) (hb : SE X (.BoolOp .And (b :: rest) pos) tb) : SE X (.BoolOp .And (a :: b :: rest) pos) (tAndV ta tb) := ⟨pe_and ha.h hb.h⟩
theorem z_cmpR {op : CmpOp} {r : R2} (ho : OpR X (compareOp op) r) (ha : SE X a ta) (hb : SE X b tb) (hm : behindInMarks op b = false) : SE X (.Compare a [op] [b] pos) (tOp r ta tb) := ⟨pe_cmpR ho ha.h hb.h hm⟩
theorem y_cmpR {op : CmpOp} {r : R2} (ho : OpR X (compareOp op) r) (ha : SE X a ta) (hb : SE X b tb) (hm : behindInMarks op b = false) : ST X (.Compare a [op] [b] pos) (tTest (tOp r ta tb)) := ⟨pt_cmpR ho ha.h hb.h hm⟩
theorem y_val (h : SE X e te) (he : ∀ whole, isTrue e X.env whole = (do let v ← whole; standAt e.pos; holding [v] (truthy v)) := by intro _; rfl) : ST X e (tB te) := ⟨pt_val h.h he⟩
theorem y_not {tA : TT} (ha : ST X a tA) : ST X (.UnaryOp .Not a pos) (tNot tA) := ⟨pt_not ha.h⟩
theorem w_and1 {tA : TT} (ha : ST X a tA) : SW X (.BoolOp .And [a] pos) tA := ⟨pw_and1 ha.h⟩
theorem w_or1 {tA : TT} (ha : ST X a tA) : SW X (.BoolOp .Or [a] pos) tA := ⟨pw_or1 ha.h⟩
theorem w_and {tA tB' : TT} {rest : List Expr} (ha : ST X a tA) (hb : SW X (.BoolOp .And (b :: rest) pos) tB') : SW X (.BoolOp .And (a :: b :: rest) pos) (tAnd tA tB') := ⟨pw_and ha.h hb.h⟩
theorem w_or {tA tB' : TT} {rest : List Expr} (ha : ST X a tA) (hb : SW X (.BoolOp .Or (b :: rest) pos) tB') : SW X (.BoolOp .Or (a :: b :: rest) pos) (tOr tA tB') := ⟨pw_or ha.h hb.h⟩
theorem SW.pt {tA : TT} (h : SW X e tA) : ST X e tA := ⟨h.h.pt⟩
theorem z_lst (h : SA X es t) : SE X (.List es pos) (tLst t) := ⟨pe_lst h.h⟩
theorem z_tup {x1} (h : SA X es t) : SE X (.Tuple es x1 pos) (tTup t) := ⟨pe_tup h.h⟩
theorem z_dnew : SE X (.Dict [] [] pos) tDNewK := ⟨pe_dnewK⟩
theorem zz_nil : SP2 X pos [] [] [] := ⟨pps_nil⟩
theorem zz_cons {ks : List (Option Expr)} {vs : List Expr} {tk tw : TE} {trs : List (TE × TE)} (hk : SE X a tk) (hv : SE X b tw) (hr : SP2 X pos ks vs trs) : SP2 X pos (some a :: ks) (b :: vs) ((tk, tw) :: trs) := ⟨pps_cons hk.h hv.h hr.h⟩
theorem z_disp {keys : List (Option Expr)} {values : List Expr} {trs : List (TE × TE)} (h : SP2 X pos keys values trs) (hall : keys.all (·.isSome) = true) (hl : keys.length = values.length) (h0 : keys ≠ []) (h15 : keys.length ≤ 15) : SE X (.Dict keys values pos) (tDisp trs) := ⟨pe_disp h.h hall hl h0 h15⟩
theorem z_ifExp {tA : TT} (hc : ST X c tA) (ha : SE X a ta) (hb : SE X b tb) : SE X (.IfExp c a b pos) (tIf tA ta tb) := ⟨pe_ifExp hc.h ha.h hb.h⟩
theorem zo_none : SO X none tNoPart := ⟨po_none⟩
theorem zo_some (h : SE X e te) : SO X (some e) (tPart te) := ⟨po_some h.h⟩
theorem z_slice {r : V → Option Int → Option Int → Hp → VK → Prop} {l u : Option Expr} {tl th : TO} (hr : SlR X r) (he : SE X e te) (hl : SO X l tl) (hu : SO X u th) : SE X (.Subscript e (.Slice l u none p2) pos) (tSl r te tl th) := ⟨pe_slice hr he.h hl.h hu.h⟩
theorem z_dget (hu : X.A.units + 1 < cLine) (ho : SE X o td) (hi : SE X i ty) (hs : NoSl i) : SE X (.Subscript o i pos) (tDGet td ty) := ⟨pe_dget hu ho.h hi.h hs⟩
theorem z_ix {r : R2} (hr : IxR X r) (ha : SE X a ta) (hb : SE X b tb) (hs : PlainIx b) : SE X (.Subscript a b pos) (tOp r ta tb) := ⟨pe_ix hr ha.h hb.h hs⟩
theorem z_fn {k : Nat} {ps : List Str} {sp : Sp} (F : FnK X.prog X.w X.K X.mg X.base k x ps sp) (hr : Room k X.A) (ha : SA X (e :: es) t) (hg : Gl X x := by rfl) (hdb : (x == ("__debug__" : Str)) = false := by decide)
    (he : starEach (e :: es) X.env = (false, eval e X.env) :: starEach es X.env := by rfl) (hpl : (backTo pos (starEach es X.env)).any (·.1) = false := by rfl) :
    SE X (.Call (.Name x p) (e :: es) [] pos) (tCall sp [] E0 t) := ⟨pe_fn F hr ha.h hg hdb he hpl⟩
theorem z_callB {id : String} {r : List V → Hp → VK → Prop} (hc : CallR X (.builtin id) r) (hg : Gl X x) (hm : X.mg x = none) (hv : bootBuiltins x = some (.builtin id)) (ha : SA X (e :: es) t) (hn : x ≠ "__name__" := by decide) (hdb : (x == ("__debug__" : Str)) = false := by decide)
    (he : starEach (e :: es) X.env = (false, eval e X.env) :: starEach es X.env := by rfl) (hpl : (backTo pos (starEach es X.env)).any (·.1) = false := by rfl) : SE X (.Call (.Name x p) (e :: es) [] pos) (tCB r t) := ⟨pe_callB hc hg hm hv ha.h hn hdb he hpl⟩
theorem z_bm (K : PySem.W.Frag) {T : String} {name : Str} {id : String} {r : V → List V → Hp → VK → Prop} {to : TE} {apos cpos : Pos} (pa : PlainAttrs T) (slot : Slot T name id) (hty : typeOf (.builtin id) = pure (.type "method_descriptor")) (hm : MtM X id r) (ho : SE X o to) (ha : SA X (e :: es) t) (h : X.K = K := by rfl)
    (hbase : attributeBase o name X.env (eval o X.env) = eval o X.env := by rfl)
    (hfew : ((backTo cpos (starEach (e :: es) X.env)).all (fun x => !x.1) && (backToKw cpos (keywordEach [] X.env)).all (fun x => x.1.isSome)
      && decide ((e :: es).length + ([] : List Keyword).length + (if ([] : List Keyword).isEmpty then 0 else 1) < 30)) = true := by rfl)
    (hline : (apos.endLine == cpos.line) = true := by rfl) (hs : starEach (e :: es) X.env = (false, eval e X.env) :: starEach es X.env := by rfl) (hplain : (backTo cpos (starEach es X.env)).any (·.1) = false := by rfl) :
    SE X (.Call (.Attribute o name apos) (e :: es) [] cpos) (tBM K T r to t) := ⟨pe_bmK K pa slot hty hm ho.h ha.h h hbase hfew hline hs hplain⟩
theorem sb_nil : SB X [] tNext := ⟨pss_nil⟩
theorem sb_one {st : Stmt} {u : TS} (h1 : SS X st u) : SB X [st] u := ⟨pss_one h1.h⟩
theorem sb_cons {st : Stmt} {rest : List Stmt} {u v : TS} (h1 : SS X st u) (h2 : SB X rest v) : SB X (st :: rest) (tSeq u v) := ⟨pss_cons h1.h h2.h⟩
theorem s_ret (he : SE X e te) : SS X (.Return (some e) pos) (tRet te) := ⟨ps_ret he.h⟩
theorem s_expr (he : SE X e te) (hs : swapsWith e none pos.line X.env = pure false := by rfl) : SS X (.Expr e pos) (tDrop te) := ⟨ps_expr he.h hs⟩
theorem s_if {a b : List Stmt} {tA : TT} {u v : TS} (hc : ST X c tA) (ha : SB X a u) (hb : SB X b v) : SS X (.If c a b pos) (tIfS tA u v) := ⟨ps_if hc.h ha.h hb.h⟩
theorem s_for {body : List Stmt} {wi : TI} {g : TG} {u : TS} (hp : PassesOwn (model X.prog X.w) X.A X.env X.xe) (hc : X.calm = true) (hi : SI X tg iter wi) (hg : SG X tg g) (hb : SB X body u) (hs : ∀ x, foldedSetIterable iter X.env x = pure x := by intro _; rfl) : SS X (.For tg iter body [] pos) (tFor wi g u) := ⟨ps_for hp hc hi.h hg.h hb.h hs⟩
theorem s_while {body : List Stmt} {tA : TT} {u : TS} (hp : PassesOwn (model X.prog X.w) X.A X.env X.xe) (hc : ST X c tA) (hb : SB X body u) : SS X (.While c body [] pos) (tWhile tA u) := ⟨ps_while hp hc.h hb.h⟩
theorem s_set {i : Nat} (hN : X.N.Nodup) (hi : X.N[i]? = some x) (hx : Loc X.env.scope x) (he : SE X e te) (hs : swapsWith e (some (.Name x pos')) pos.line X.env = pure false := by rfl) (hf : X.fn x = true ∨ X.env.scope.names.lookup x = some .local := by first | exact .inl rfl | exact .inr rfl | assumption) :
    SS X (.Assign [.Name x pos'] e pos) (tAsg te (gName i)) := ⟨ps_set hN hi hx he.h hs hf⟩
theorem s_dput (hu : X.A.units + 1 < cLine) (ho : SE X o td) (hi : SE X i ty) (hv : SE X value tv) (hs : swapsWith value (some (.Subscript o i pos')) pos.line X.env = pure false) : SS X (.Assign [.Subscript o i pos'] value pos) (sDPut td ty tv) := ⟨ps_dput hu ho.h hi.h hv.h hs⟩
theorem s_asg {g : TG} (he : SE X e te) (hg : SG X tg g) (hs : swapsWithSole [tg] e pos.line X.env = pure false := by rfl) (hw : swappedStores [tg] e X.env = pure none := by rfl)
    (h1 : (assignEach [tg] X.env).map (·.2) = [assign tg X.env] := by rfl) : SS X (.Assign [tg] e pos) (tAsg te g) := ⟨ps_asg he.h hg.h hs hw h1⟩
theorem g_name {i : Nat} (hN : X.N.Nodup) (hi : X.N[i]? = some x) (hx : Loc X.env.scope x) (hf : X.fn x = true ∨ X.env.scope.names.lookup x = some .local := by first | exact .inl rfl | exact .inr rfl | assumption) : SG X (.Name x pos) (gName i) := ⟨pg_name hN hi hx hf⟩
theorem gs_nil : SGs X [] gNil := ⟨pgs_nil⟩
theorem gs_cons {g : TG} {u : TGs} (h1 : SG X e g) (h2 : SGs X es u) (hs : (assignEach (e :: es) X.env).map (·.2) = assign e X.env :: (assignEach es X.env).map (·.2) := by rfl) : SGs X (e :: es) (gCons g u) := ⟨pgs_cons h1.h h2.h hs⟩
theorem g_tup (K : PySem.W.Frag) {k : Nat} {u : TGs} {n : Nat} (hc : X.calm = true) (hh : SGs X es u) (h : X.K = K := by rfl)
    (hn : (assignEach es X.env).length = n := by rfl) (hst : (assignEach es X.env).findIdx? (·.1) = none := by rfl) : SG X (.Tuple es k pos) (gTup K n u) := ⟨pg_tupK K hc hh.h h hn hst⟩
theorem g_sub {u : TSet} (ho : SE X o td) (hi : SE X i ty) (hs : PSet X u)
    (ha : ∀ v, assign (.Subscript o i pos) X.env v = (do
      let ov ← holding [v] (eval o X.env)
      let iv ← holding [v, ov] (eval i X.env)
      standAt pos
      holding [v, ov, iv] (setItem ov iv v)
      release [v, ov, iv] []) := by intro _; rfl) : SG X (.Subscript o i pos) (gSub td ty u) := ⟨pg_sub ho.h hi.h hs ha⟩
theorem i_range1 (hg : Gl X "range") (hm : X.mg "range" = none) (ha : SA X [a] t) (hs : starEach [a] X.env = [(false, eval a X.env)] := by rfl) : SI X tg (.Call (.Name "range" p) [a] [] pos) (iRng1 t) := ⟨pi_range1 hg hm ha.h hs⟩
theorem i_K (K : PySem.W.Frag) (hl : SE X e te) (h : X.K = K := by rfl) : SI X tg e (iD K te) := ⟨pi_K K hl.h h⟩
theorem c_nil : SC X [] tcNil := ⟨pc_nil'⟩
theorem c_one {tA : TT} (h : ST X c tA) : SC X [c] tA := ⟨pc_one' h.h⟩
theorem z_lc {ifs : List Expr} {sc : Scope} {own : List Str} {idx : List Nat} {N' : List Str} {wi : TI} {g : TG} {tt : TC} (S : CScope X.env.scope X.N sc own idx N') (hc : X.calm = true) (hi : SI X tg iter wi)
    (hg : ∀ cl C s3 H0 fp pn, SG (cxComp X N' sc cl C s3 H0 fp pn) tg g) (ht : ∀ cl C s3 H0 fp pn, SC (cxComp X N' sc cl C s3 H0 fp pn) ifs tt) (he : ∀ cl C s3 H0 fp pn, SE (cxComp X N' sc cl C s3 H0 fp pn) elt te)
    (hs : ∀ x, foldedSetIterable iter X.env x = pure x := by intro _; rfl) : SE X (.ListComp elt [⟨tg, iter, ifs, 0⟩] sc pos) (tLC own idx wi g tt te) :=
  ⟨pe_lc S hc hi.h (fun q r s t u v => (hg q r s t u v).h) (fun q r s t u v => (ht q r s t u v).h) (fun q r s t u v => (he q r s t u v).h) hs⟩
theorem s_lc {ifs : List Expr} {sc : Scope} {own : List Str} {idx : List Nat} {N' : List Str} {wi : TI} {g : TG} {tt : TC} {i : Nat} {y : Str} {py spos : Pos} (S : CScope X.env.scope X.N sc own idx N') (hc : X.calm = true) (hi : SI X tg iter wi)
    (hg : ∀ cl C s3 H0 fp pn, SG (cxComp X N' sc cl C s3 H0 fp pn) tg g) (ht : ∀ cl C s3 H0 fp pn, SC (cxComp X N' sc cl C s3 H0 fp pn) ifs tt) (he : ∀ cl C s3 H0 fp pn, SE (cxComp X N' sc cl C s3 H0 fp pn) elt te)
    (hN : X.N.Nodup) (hiy : X.N[i]? = some y) (hy : X.env.scope.names.lookup y = some .local)
    (hsw : swapsWith (.ListComp elt [⟨tg, iter, ifs, 0⟩] sc pos) (some (.Name y py)) spos.line X.env = pure true := by rfl)
    (hs : ∀ x, foldedSetIterable iter X.env x = pure x := by intro _; rfl) : SS X (.Assign [.Name y py] (.ListComp elt [⟨tg, iter, ifs, 0⟩] sc pos) spos) (tAsg (tLC own idx wi g tt te) (gName i)) :=
  ⟨ps_lc S hc hi.h (fun q r s t u v => (hg q r s t u v).h) (fun q r s t u v => (ht q r s t u v).h) (fun q r s t u v => (he q r s t u v).h) hN hiy hy hsw hs⟩
end
theorem FnT.okS {P : Program} {w : World} {K : PySem.W.Frag} {mg : Str → Option Value} {base : Heap} {x : Str} {st : Stmt} {N ps : List Str} {k : Nat} {sp : Sp} (F : FnT K mg x st ps) (S : FnScope N ps (defScope st)) (len : ∀ vs H Q E, sp vs H Q E → vs.length = ps.length)
    (hbody : ∀ (f : Addr) (cdv : Value) (A : Around) (outer : List Env) (s : Shared) (H : Hp) (vs : List V) (Q : VK) (E : XK), Room k (A.deeper (envOfC x (defScope st) s.heap.objs.size f cdv)) → sp vs H Q E →
      ∃ t, SB (cxOf CX0 P w K mg base N x (defScope st) f cdv A outer s H E).nox (defBody st) t ∧ t { nx := fun _ H' => Q .non H', rt := Q } (start N vs) H) : FnK P w K mg base (k + 1) x ps sp :=
  F.ok S len fun f cdv A outer s H vs Q E hr h => let ⟨t, h1, h2⟩ := hbody f cdv A outer s H vs Q E hr h; ⟨t, h1.h, h2⟩
end L2
set_option maxRecDepth 100000
namespace L2
open PySem PySem.Spec PyProof.Rows
section
variable {prog : Program} {w : World} {A : Around} {R : Result → Shared → Prop} {s : Shared}
theorem compLoopD {kx vx target iter : Expr} {ifs : List Expr} {scope : Scope} {pos : Pos} {it : Value} {D : Addr} {env : Env} (I : Nat → Shared → Prop)
    (turn : ∀ n s, I n s → wpAny (model prog w) A (pyNext it) (fun r s₁ => match r with
      | none => R (.ok .next) s₁
      | some v => wpAny (model prog w) A (letOwnedTupleGo target it v) (fun _ s₁' => wpAny (model prog w) A (assign target env v) (fun _ s₂ =>
          wpAny (model prog w) A (forIn ifs true fun c r => if r = true then do let ok ← isTrue c env (eval c env); pure (ForInStep.yield ok) else pure (ForInStep.yield r)) (fun ok s₃ =>
            if ok = true then wpAny (model prog w) A (eval kx env) (fun kv s₄ => wpAny (model prog w) A (eval vx env) (fun vv s₅ =>
              wpAny (model prog w) A (dictSet D kv vv) (fun _ s₆ => ∃ m, m < n ∧ I m s₆) NoE s₅) NoE s₄) NoE s₃
            else ∃ m, m < n ∧ I m s₃) NoE s₂) NoE s₁') NoE s₁) NoE s)
    (n : Nat) (h : I n s) :
    codeAny (model prog w) A (.compLoop (.DictComp kx vx [⟨target, iter, ifs, 0⟩] scope pos) 0 it (.ref D) env) R s := by
  refine codeAny_loop rfl I (fun n s hI => ?_) n h
  show wpAny _ A ((compTurn (.DictComp kx vx [⟨target, iter, ifs, 0⟩] scope pos) 0 it (.ref D) env).onRaise (fun x => do noteFrame x env; theTreesLotGoes x)) _ _ s
  refine wpAny_noted ?_
  rw [compTurn_dict]
  refine wpAny_bind (wpAny_standAt (wpAny_bind (wpAny_mono (turn n s hI) (fun r s₁ h₁ => ?_) fun _ _ h' => h'.elim)))
  cases r with
  | none => exact wpAny_pure h₁
  | some v =>
    refine wpAny_bind (wpAny_mono h₁ (fun _ s₁' h₁' => ?_) fun _ _ h' => h'.elim)
    refine wpAny_bind (wpAny_mono h₁' (fun _ s₂ h₂ => wpAny_bind (wpAny_mono h₂ (fun ok s₃ h₃ => ?_) fun _ _ h' => h'.elim)) fun _ _ h' => h'.elim)
    cases ok with
    | false => exact wpAny_pure ⟨rfl, h₃⟩
    | true =>
      exact wpAny_bind (wpAny_bind (wpAny_mono h₃ (fun kv s₄ h₄ => wpAny_bind (wpAny_holding (wpAny_mono h₄ (fun vv s₅ h₅ => wpAny_bind (wpAny_standAt (wpAny_holding (wpAny_mono h₅ (fun _ s₆ h₆ => wpAny_pure ⟨rfl, h₆⟩) fun _ _ h' => h'.elim)))) fun _ _ h' => h'.elim))) fun _ _ h' => h'.elim))
end
section
variable {X : Cx} {tg iter kx vx : Expr} {ifs : List Expr} {sc : Scope} {pos : Pos} {own : List Str} {idx : List Nat} {N' : List Str} {wi : TI} {g : TG} {tc : TC} {tk tw : TE}
abbrev dob : Obj := { cls := .type "dict", data := .dict #[] }
def tDC (own : List Str) (idx : List Nat) (wi : TI) (g : TG) (tc : TC) (tk tw : TE) : TE := fun σ H Q => wi σ H fun J H1 => ∀ D, H1 D = none → ∃ W : Nat → Nat → St → Hp → Prop, (∃ m, W 0 m (stIn own idx σ) (upd H1 D (.dK []))) ∧ ∀ i m τ H, W i m τ H →
  (J.stop i H ∧ Q (.ref D) H) ∨ (J.go i H ∧ ∃ N : St → Hp → Prop, (∀ τ' H', N τ' H' → ∃ m', m' < m ∧ W (i + 1) m' τ' H') ∧ ∀ x H', J.yld i H x H' → g x τ H' fun τ2 H2 => tc τ2 H2 fun b H3 =>
    if b = true then tk τ2 H3 fun x H4 => tw τ2 H4 fun y H5 => ∃ kvs key, x = kV key ∧ H5 D = some (.dK kvs) ∧ kvs.length < sizeLine ∧ N τ2 (upd H5 D (.dK (putK kvs key y))) else N τ2 H3)
theorem comp_blockD (S : CScope X.env.scope X.N sc own idx N') {cl : List (Str × Addr)} (c1 : ∀ x c, cl.lookup x = some c → X.env.cells.lookup x = some c) (c2 : ∀ y ∈ sc.names, y.2 = .free → ∃ c, cl.lookup y.1 = some c) (hc : X.calm = true)
    (hg : ∀ cl C s3 H0 fp pn, PG (cxComp X N' sc cl C s3 H0 fp pn) tg g) (ht : ∀ cl C s3 H0 fp pn, PC' (cxComp X N' sc cl C s3 H0 fp pn) ifs tc) (he : ∀ cl C s3 H0 fp pn, PE (cxComp X N' sc cl C s3 H0 fp pn) kx tk) (hv : ∀ cl C s3 H0 fp pn, PE (cxComp X N' sc cl C s3 H0 fp pn) vx tw)
    {pins : List (Addr × Obj)} {σ : St} {Q : VK} {itv : Value} {s2 : Shared} {RR : Value → Addr → Result → Shared → Prop} {E : Value → Shared → Prop}
    (hI : PIE X pins σ tg (fun J H1 => ∀ D, H1 D = none → ∃ W : Nat → Nat → St → Hp → Prop, (∃ m, W 0 m (stIn own idx σ) (upd H1 D (.dK []))) ∧ ∀ i m τ H, W i m τ H →
      (J.stop i H ∧ Q (.ref D) H) ∨ (J.go i H ∧ ∃ N : St → Hp → Prop, (∀ τ' H', N τ' H' → ∃ m', m' < m ∧ W (i + 1) m' τ' H') ∧ ∀ x H', J.yld i H x H' → g x τ H' fun τ2 H2 => tc τ2 H2 fun b H3 =>
        if b = true then tk τ2 H3 fun x H4 => tw τ2 H4 fun y H5 => ∃ kvs key, x = kV key ∧ H5 D = some (.dK kvs) ∧ kvs.length < sizeLine ∧ N τ2 (upd H5 D (.dK (putK kvs key y))) else N τ2 H3)) itv s2)
    (hRR : ∀ D C H' s', Inv X pins σ H' s' → Q (.ref D) H' → (H' C = none ∧ C ≠ X.env.locals ∧ X.s₀.heap.objs.size ≤ C ∧ (∀ x c, X.env.cells.lookup x = some c → c ≠ C) ∧ (∀ p ∈ X.pn ++ pins, p.1 ≠ C) ∧ ∃ m, s'.heap.Ns C m) → RR (.ref D) C (.ok .next) s') :
    wpAny (model X.prog X.w) X.A newDict (fun acc s₃ => wpAny (model X.prog X.w) X.A (newFunctionEnv sc X.env.globals cl [] X.env.qual none .none (some X.env)) (fun cenv s₄ =>
      codeAny (model X.prog X.w) X.A (.compStart (.DictComp kx vx [⟨tg, iter, ifs, 0⟩] sc pos) 0 itv acc { cenv with scope := relabel sc X.env }) (RR acc cenv.locals) s₄) E s₃) E s2 := by
  obtain ⟨it, fp, tn, J, H2, rfl, I, T, st2, f2, body⟩ := hI
  refine wpAny_newObj_type (wpAny_newFunctionEnv S.cell (by intro y hy; simp at hy) (fun h4 ns sb => ?_) S.kind)
  dsimp only at ns sb ⊢
  have hob : dob.isFreed = false := rfl
  have fr : H2 s2.heap.objs.size = none := I.hok.fresh (Nat.le_refl _)
  obtain ⟨W, ⟨m0, w0⟩, turn⟩ := body _ fr
  have hfo : ∀ b ∈ fp, ∃ o, s2.heap.get? b = some o := fun b hb => let ⟨o, e, _⟩ := T.obj _ _ st2 b hb; ⟨o, e⟩
  have sb' : ∀ b o, (s2.heap.push dob).get? b = some o → h4.get? b = some o := fun b o e => (sb.2 b (Nat.ne_of_lt (Heap.lt_size e))).trans (Heap.get?_push_of_some _ e)
  have hDo : ∀ (H : Hp) (h : Heap), h.get? s2.heap.objs.size = some dob → ObjOk X.prog X.w H h s2.heap.objs.size (.dK []) := fun H h e => ⟨Nat.zero_le _, beq_eq_false_iff_ne.mpr (Ne.symm (Nat.ne_of_lt I.big)), [], .nil, (Heap.DictOf.new s2.heap).at fun o eo => by rw [Heap.get?_push_size _ rfl] at eo; cases eo; exact e⟩
  have I4 : Inv (cxComp X N' sc cl (s2.heap.push dob).objs.size { s2 with heap := s2.heap.push dob } (upd H2 s2.heap.objs.size (.dK [])) fp (X.pn ++ pins)) [] (stIn own idx σ) (upd H2 s2.heap.objs.size (.dK [])) { s2 with heap := h4, toks := s2.toks + ([] : List (Str × Value)).length } :=
    inv_comp S I f2 hfo c1 c2 hob hDo ns sb'
  -- the block's own context
  generalize hY : cxComp X N' sc cl (s2.heap.push dob).objs.size { s2 with heap := s2.heap.push dob } (upd H2 s2.heap.objs.size (.dK [])) fp (X.pn ++ pins) = Y at I4
  have hgY : PG Y tg g := by rw [← hY]; exact hg _ _ _ _ _ _
  have htY : PC' Y ifs tc := by rw [← hY]; exact ht _ _ _ _ _ _
  have heY : PE Y kx tk := by rw [← hY]; exact he _ _ _ _ _ _
  have hvY : PE Y vx tw := by rw [← hY]; exact hv _ _ _ _ _ _
  have pY : Y.prog = X.prog := by rw [← hY]
  have wY : Y.w = X.w := by rw [← hY]
  have KY : Y.K = X.K := by rw [← hY]
  have AY : Y.A = X.A := by rw [← hY]
  have cY : Y.calm = true := by rw [← hY]; exact hc
  have xY : Y.xe = fun _ _ => False := by rw [← hY]
  have eY : Y.env = compEnvC sc cl (s2.heap.push dob).objs.size X.env := by rw [← hY]
  have exY : Y.ex = fp := by rw [← hY]
  have fsY : Y.fs = frs X.stack := by rw [← hY]
  have pnY : Y.pn = X.pn ++ pins := by rw [← hY]
  have stat : ∀ {H' : Hp}, (∀ b ∈ fp, H' b = none) → ∀ b ∈ fp, FpOk Y [] H' b := fun hn b hb => by
    obtain ⟨f0, f1, f3, f4, f5, f6⟩ := f2 b hb
    refine ⟨hn b hb, ?_, ?_, .inl (by rw [exY]; exact hb), fun x c e => ?_, fun p hp => ?_⟩
    · obtain ⟨o, e⟩ := hfo b hb
      have := Heap.lt_size e
      rw [eY]
      show b ≠ (s2.heap.push dob).objs.size
      rw [Heap.size_push]; exact Nat.ne_of_lt (Nat.lt_succ_of_lt this)
    · rw [fsY]
      intro z
      rcases List.mem_cons.mp (I.stkSub b z) with z | z
      · exact f1 z
      · exact f3 z
    · rw [eY] at e
      exact f5 x c (c1 x c e)
    · rw [pnY, List.append_nil] at hp
      exact f6 p hp
  have st4 : tn 0 h4 := T.keep _ _ _ st2 fun b hb o e => sb' b o (Heap.get?_push_of_some _ e)
  have fr4 : ∀ b ∈ fp, upd H2 s2.heap.objs.size (.dK []) b = none := fun b hb => by
    obtain ⟨o, e⟩ := hfo b hb
    rw [upd_ne (Nat.ne_of_lt (Heap.lt_size e))]
    exact (f2 b hb).1
  have loop : codeAny (model X.prog X.w) X.A (.compLoop (.DictComp kx vx [⟨tg, iter, ifs, 0⟩] sc pos) 0 (.ref it) (.ref s2.heap.objs.size) (compEnvC sc cl (s2.heap.push dob).objs.size X.env))
      (RR (.ref s2.heap.objs.size) (s2.heap.push dob).objs.size) { s2 with heap := h4, toks := s2.toks + ([] : List (Str × Value)).length } := by
    refine compLoopD (fun n s' => ∃ i τ H', Inv Y [] τ H' s' ∧ tn i s'.heap ∧ (∀ b ∈ fp, H' b = none) ∧ W i n τ H') ?_ m0 ⟨0, _, _, I4, st4, fr4, w0⟩
    rintro n s3 ⟨i, τ3, H3, I3, st3, fr3, w3⟩
    rcases turn i n τ3 H3 w3 with ⟨stop, qn⟩ | ⟨go, N, hN, step⟩
    · have h := T.done Y pY wY KY cY i [] s3 τ3 H3 NoE I3 (stat fr3) st3 stop
      rw [AY] at h
      refine thn h ?_
      rintro r s4 ⟨hr, I4'⟩
      subst hr
      have J4 := I4'
      rw [← hY] at J4
      obtain ⟨b1, b2⟩ := comp_back I f2 hob J4
      exact hRR _ _ _ _ b1 qn b2
    · have h := T.item Y pY wY KY cY i [] s3 τ3 H3 NoE I3 (stat fr3) st3 go
      rw [AY] at h
      refine thn h ?_
      rintro r s4 ⟨u, hr, h4'⟩
      subst hr
      refine thn h4' ?_
      rintro _ s5 ⟨x, H5, I5, r5, y5, st5, fr5⟩
      have I5' := I5.pinned (stat fr5) (T.obj _ _ st5)
      have g5 := hgY _ s5 τ3 H5 x u _ I5' r5 (step x H5 y5)
      rw [pY, wY, AY, xY, eY] at g5
      refine thn g5 ?_
      rintro _ s6 ⟨τ6, H6, I6, q6⟩
      have t6 := htY _ s6 τ6 H6 _ I6 q6
      rw [pY, wY, AY, xY, eY] at t6
      refine thn t6 ?_
      rintro ok s7 ⟨H7, I7, q7⟩
      have again : ∀ {τ8 : St} {H8 : Hp} {s8 : Shared}, Inv Y ([] ++ pinsAt fp s5.heap) τ8 H8 s8 → N τ8 H8 → ∃ m, m < n ∧ ∃ i τ' H', Inv Y [] τ' H' s8 ∧ tn i s8.heap ∧ (∀ b ∈ fp, H' b = none) ∧ W i m τ' H' := fun {τ8 H8 s8} I8 n8 => by
        obtain ⟨m', hm, w8⟩ := hN τ8 H8 n8
        refine ⟨m', hm, i + 1, τ8, H8, I8.unpinned, T.keep _ _ _ st5 fun b hb o e => (I8.pin (b, o) (List.mem_append_right _ (List.mem_append_right _ (mem_pinsAt hb e)))).1, fun b hb => ?_, w8⟩
        obtain ⟨o, e, d⟩ := T.obj _ _ st5 b hb
        exact (I8.pin (b, o) (List.mem_append_right _ (List.mem_append_right _ (mem_pinsAt hb e)))).2.1
      cases ok with
      | false =>
        rw [if_neg (by decide)] at q7 ⊢
        exact again I7 q7
      | true =>
        rw [if_pos rfl] at q7 ⊢
        have e7 := heY _ s7 τ6 H7 _ I7 q7
        rw [pY, wY, AY, xY, eY] at e7
        refine thn e7 ?_
        rintro kv s8 ⟨x8, H8, I8, r8, q8⟩
        have v8 := hvY _ s8 τ6 H8 _ I8 q8
        rw [pY, wY, AY, xY, eY] at v8
        refine thn v8 ?_
        rintro yv s9 ⟨y9, H9, I9, r9, kvs, key, ek, hD9, hz, n9⟩
        subst ek
        obtain ⟨z, hd, vs, rel, dd⟩ := dk_of I9.hok hD9
        have hzz : vs.length ≤ sizeLine := by rw [← rel.length]; exact z
        have hlen : (putK kvs key y9).length ≤ sizeLine := by have := length_putK kvs key y9; omega
        rw [pY, wY] at dd
        refine wpAny_dictSet_pairs (hsz := hzz) (kV_is r8) dd fun h' dd' hs => ?_
        have he9 : ∃ q, h'.get? s2.heap.objs.size = some q := let ⟨q, _, _, hq, _⟩ := dd'; ⟨q, hq⟩
        rw [← pY, ← wY] at dd'
        have I10 := d_write (t' := s9.toks + 1) (ob := .dK (putK kvs key y9)) I9 (by rw [hD9]; exact True.intro) hs he9 (dk_new hlen hd (rel.put key r9) dd')
        exact again I10 n9
  exact codeAny_compStart_dict loop (T.self _ 0 _ _ _ st4 loop)
theorem pe_dc (S : CScope X.env.scope X.N sc own idx N') (hc : X.calm = true) (hi : PI X tg iter wi)
    (hg : ∀ cl C s3 H0 fp pn, PG (cxComp X N' sc cl C s3 H0 fp pn) tg g) (ht : ∀ cl C s3 H0 fp pn, PC' (cxComp X N' sc cl C s3 H0 fp pn) ifs tc) (he : ∀ cl C s3 H0 fp pn, PE (cxComp X N' sc cl C s3 H0 fp pn) kx tk) (hv : ∀ cl C s3 H0 fp pn, PE (cxComp X N' sc cl C s3 H0 fp pn) vx tw)
    (hs : ∀ x, foldedSetIterable iter X.env x = pure x := by intro _; rfl) : PE X (.DictComp kx vx [⟨tg, iter, ifs, 0⟩] sc pos) (tDC own idx wi g tc tk tw) := by
  intro pins s σ H Q I h
  obtain ⟨cl, hcl, c1, c2⟩ := S.closure I.ok
  show wpAny _ X.A (comprehension (.DictComp kx vx [⟨tg, iter, ifs, 0⟩] sc pos) sc X.env _ newDict false (eval iter X.env)) _ _ s
  refine wpAny_comprehension_free (use := none) rfl hs hcl S.kind S.names (thn (hi pins s σ H _ I h) fun v s1 h1 => thn h1 fun itv s2 h2 => ?_)
  refine comp_blockD (Q := Q) (pins := pins) (σ := σ) (RR := fun acc C => compPost (model X.prog X.w) X.A X.xe none (EP X pins σ Q) acc C) S c1 c2 hc hg ht he hv h2 ?_
  intro D C H' s' I' q ⟨a1, a2, a3, a4, a5, m, a6⟩
  exact ⟨m, a6, fun h' sb => ⟨.ref D, H', I'.turned (t' := s'.toks) (fun b o hb e => (sb.2 b hb).trans e) a1 (Ne.symm (Ne.symm a2)) (.inr a3) a4 a5, rfl, q⟩⟩
theorem z_dc (S : CScope X.env.scope X.N sc own idx N') (hc : X.calm = true) (hi : SI X tg iter wi)
    (hg : ∀ cl C s3 H0 fp pn, SG (cxComp X N' sc cl C s3 H0 fp pn) tg g) (ht : ∀ cl C s3 H0 fp pn, SC (cxComp X N' sc cl C s3 H0 fp pn) ifs tc) (he : ∀ cl C s3 H0 fp pn, SE (cxComp X N' sc cl C s3 H0 fp pn) kx tk) (hv : ∀ cl C s3 H0 fp pn, SE (cxComp X N' sc cl C s3 H0 fp pn) vx tw)
    (hs : ∀ x, foldedSetIterable iter X.env x = pure x := by intro _; rfl) : SE X (.DictComp kx vx [⟨tg, iter, ifs, 0⟩] sc pos) (tDC own idx wi g tc tk tw) :=
  ⟨pe_dc S hc hi.h (fun q r s t u v => (hg q r s t u v).h) (fun q r s t u v => (ht q r s t u v).h) (fun q r s t u v => (he q r s t u v).h) (fun q r s t u v => (hv q r s t u v).h) hs⟩
end
end L2
set_option maxRecDepth 100000
namespace L2
open PySem PySem.Spec PyProof.Rows
theorem Same.upd {H : Hp} {a : Addr} (h : H a = none) (o : HO) : Same H (upd H a o) := fun b u q => by rw [upd_ne (ne_of_none q h)]; exact q
theorem lc_pure {J : It} {ok : Hp → Prop} {n : Nat} {item : Nat → V} {tc : TC} {te : TE} {τ0 : St} {H1 : Hp} {D : Addr} {Q : Hp → Prop} (hJ : ItN J ok n item) (p : Nat → Bool) (f : Nat → V) (hn : n < sizeLine)
    (hok : ∀ ys, ok (upd H1 D (.lst ys)))
    (ht : ∀ i, i < n → ∀ ys k, k (p i) (upd H1 D (.lst ys)) → tc (τ0.set 0 (some (item i))) (upd H1 D (.lst ys)) k)
    (he : ∀ i, i < n → p i = true → ∀ ys k, k (f i) (upd H1 D (.lst ys)) → te (τ0.set 0 (some (item i))) (upd H1 D (.lst ys)) k)
    (hQ : Q (upd H1 D (.lst (((List.range n).filter p).map f)))) : ∃ W : Nat → Nat → St → Hp → Prop, (∃ m, W 0 m τ0 (upd H1 D (.lst []))) ∧ ∀ i m τ H, W i m τ H →
      (J.stop i H ∧ Q H) ∨ (J.go i H ∧ ∃ N : St → Hp → Prop, (∀ τ' H', N τ' H' → ∃ m', m' < m ∧ W (i + 1) m' τ' H') ∧ ∀ x H', J.yld i H x H' → gName 0 x τ H' fun τ2 H2 => tc τ2 H2 fun b H3 =>
        if b = true then te τ2 H3 fun y H4 => ∃ xs, H4 D = some (.lst xs) ∧ xs.length < sizeLine ∧ N τ2 (upd H4 D (.lst (xs ++ [y]))) else N τ2 H3) := by
  refine lc_by hJ (fun i τ H => H = upd H1 D (.lst (((List.range i).filter p).map f)) ∧ ∃ v, τ = τ0.set 0 v ∨ τ = τ0) ⟨rfl, none, .inr rfl⟩ (fun i τ H hi h => by rw [h.1]; exact hok _) ?_ ?_
  · rintro i τ H hi ⟨rfl, v, hv⟩
    show tc (τ.set 0 (some (item i))) _ _
    have e : τ.set 0 (some (item i)) = τ0.set 0 (some (item i)) := by
      rcases hv with rfl | rfl
      · rw [List.set_set]
      · rfl
    rw [e]
    refine ht i hi _ _ ?_
    have hr : List.range (i + 1) = List.range i ++ [i] := List.range_succ
    cases hp : p i with
    | true =>
      rw [if_pos rfl]
      refine he i hi hp _ _ ⟨_, upd_same, ?_, ?_, some (item i), .inl rfl⟩
      · rw [List.length_map]
        have := List.length_filter_le p (List.range i)
        rw [List.length_range] at this
        omega
      · rw [upd_upd, hr, List.filter_append, List.map_append]
        simp [hp]
    | false =>
      rw [if_neg (by decide)]
      refine ⟨?_, some (item i), .inl rfl⟩
      rw [hr, List.filter_append, List.map_append]
      simp [hp]
  · rintro τ H ⟨rfl, _⟩
    exact hQ
theorem iteNB {c : Bool} {A B : Prop} (h1 : c = true → B) (h2 : c = false → A) : if (!c) = true then A else B := by
  cases c with
  | true => exact iteF (h1 rfl)
  | false => exact iteT (h2 rfl)
theorem iteB {c : Bool} {A B : Prop} (h1 : c = true → A) (h2 : c = false → B) : if c = true then A else B := by
  cases c with
  | true => exact iteT (h1 rfl)
  | false => exact iteF (h2 rfl)
theorem tSeq_by {t u : TS} {D : Ends} {σ : St} {H : Hp} (mid : St → Hp → Prop) (h1 : ∀ nx : St → Hp → Prop, (∀ σ' H', mid σ' H' → nx σ' H') → t { D with nx := nx } σ H) (h2 : ∀ σ' H', mid σ' H' → u D σ' H') : tSeq t u D σ H := h1 (u D) h2
theorem atI_zero {α : Type} (x : α) (xs : List α) : atI (x :: xs) 0 = some x := atI_nat (j := 0) rfl
theorem ixN_zero (n : Nat) : ixN (n + 1) 0 = some 0 := by
  unfold ixN
  rw [if_pos (by decide), if_pos (by omega)]; rfl
theorem atI_some {α : Type} (xs : List α) (i : Int) (h0 : 0 ≤ i) (h1 : i < xs.length) : ∃ c, xs[i.toNat]? = some c ∧ atI xs i = some c := by
  have hl : i.toNat < xs.length := by omega
  refine ⟨xs[i.toNat], by simp [hl], ?_⟩
  have := atI_nat (xs := xs) (j := i.toNat) (v := xs[i.toNat]) (by simp [hl])
  rw [← this]
  congr 1
  omega
theorem join0_length (ys : List Str) (sep : Str) (h0 : sep.length = 0) (h : ∀ y ∈ ys, y.length = 1) : (Txt.join sep ys).length = ys.length := by
  show (Builtin.Str.glued sep ys).length = _
  rw [size_glued, h0, Nat.mul_zero, Nat.add_zero]
  exact sumLen_of_ones ys h
theorem mapStr_getD (ns : List Str) (i : Nat) (h : i < ns.length) : (ns.map V.str).getD i .non = .str (ns.getD i "") := by
  simp [List.getD_eq_getElem?_getD, h]
theorem mapInt_getD (ns : List Int) (i : Nat) (h : i < ns.length) : (ns.map V.int).getD i .non = .int (ns.getD i 0) := by
  simp [List.getD_eq_getElem?_getD, h]
abbrev penD (w : Addr) (m t : Int) : List (Key × V) := [(.inr "mixed", .int m), (.inr "turn", .int t), (.inr "wide", .ref w)]
structure PenAt (H : Hp) (p w : Addr) (t : Nat) : Prop where
  ex : ∃ (m c : Int) (ws : List Int), H p = some (.dK (penD w m c)) ∧ H w = some (.lst (ws.map V.int)) ∧ (0 ≤ m ∧ m < 2147483629) ∧ 0 ≤ c ∧ c ≤ (t : Int)
theorem PenAt.mono {H : Hp} {p w : Addr} {t u : Nat} (h : PenAt H p w t) (l : t ≤ u) : PenAt H p w u := by
  obtain ⟨m, c, ws, h1, h2, h3, h4, h5⟩ := h.ex
  exact ⟨m, c, ws, h1, h2, h3, h4, by omega⟩
theorem PenAt.ne {H : Hp} {p w : Addr} {t : Nat} (h : PenAt H p w t) : p ≠ w := by
  obtain ⟨m, c, ws, h1, h2, _⟩ := h.ex
  exact ne_of h1 h2 (by intro z; cases z)
def Sm (p w : Addr) (H H' : Hp) : Prop := ∀ b o, H b = some o → b ≠ p → b ≠ w → H' b = some o
theorem Sm.refl {p w : Addr} {H : Hp} : Sm p w H H := fun _ _ h _ _ => h
theorem Sm.trans {p w : Addr} {H H1 H2 : Hp} (a : Sm p w H H1) (b : Sm p w H1 H2) : Sm p w H H2 := fun c o h h1 h2 => b c o (a c o h h1 h2) h1 h2
theorem Same.sm {p w : Addr} {H H1 : Hp} (a : Same H H1) : Sm p w H H1 := fun c o h _ _ => a c o h
theorem PenAt.same {H H' : Hp} {p w : Addr} {t : Nat} (h : PenAt H p w t) (s : Same H H') : PenAt H' p w t := by
  obtain ⟨m, c, ws, h1, h2, r⟩ := h.ex
  exact ⟨m, c, ws, s _ _ h1, s _ _ h2, r⟩
theorem Sm.free {p w : Addr} {H H' : Hp} (s : Sm p w H H') {l : Addr} (h : H' l = none) (hp : l ≠ p) (hw : l ≠ w) : H l = none := by
  cases q : H l with
  | none => rfl
  | some o => rw [s l o q hp hw] at h; cases h
theorem PenAt.upd {H : Hp} {p w D : Addr} {t : Nat} {o : HO} (h : PenAt H p w t) (h1 : D ≠ p) (h2 : D ≠ w) : PenAt (upd H D o) p w t := by
  obtain ⟨m, c, ws, e1, e2, r⟩ := h.ex
  exact ⟨m, c, ws, by rw [upd_ne h1.symm]; exact e1, by rw [upd_ne h2.symm]; exact e2, r⟩
theorem Sm.upd {p w D : Addr} {H H' : Hp} {o : HO} (s : Sm p w H H') (h : H D = none) : Sm p w H (upd H' D o) := fun b u hb h1 h2 => by rw [upd_ne (ne_of_none hb h)]; exact s b u hb h1 h2
theorem PenAt.ne1 {H : Hp} {p w D : Addr} {t : Nat} (h : PenAt H p w t) (hD : H D = none) : D ≠ p := fun e => by obtain ⟨_, _, _, z, _⟩ := h.ex; rw [← e, hD] at z; cases z
theorem PenAt.ne2 {H : Hp} {p w D : Addr} {t : Nat} (h : PenAt H p w t) (hD : H D = none) : D ≠ w := fun e => by obtain ⟨_, _, _, _, z, _⟩ := h.ex; rw [← e, hD] at z; cases z
abbrev TMAX : Nat := 1000000000000
def spDraw : Sp := fun vs H Q _ => ∃ (p w : Addr) (m : Int) (t : Nat), vs = [.ref p, .int m] ∧ PenAt H p w t ∧ (0 < m ∧ m < 1073741824) ∧ t < TMAX ∧
  ∀ (r : Int) (H' : Hp), 0 ≤ r → r < m → PenAt H' p w (t + 1) → Sm p w H H' → Q (.int r) H'
def spPen (K : PySem.W.Frag) : Sp := fun vs H Q _ => ∃ (a : Addr) (ns : List Int), vs = [.ref a] ∧ SqL K H a (ns.map V.int) ∧ ns.length ≤ 63 ∧
  ∀ (p w : Addr) (H' : Hp), H p = none → H w = none → PenAt H' p w 0 → Same H H' → Q (.ref p) H'
def GoodV (p w : Addr) (H : Hp) : V → Prop
  | .non => True
  | .bl _ => True
  | .int _ => True
  | .str z => z.length ≤ 100000
  | .ref a => a ≠ p ∧ a ≠ w ∧ ((∃ xs, H a = some (.lst xs)) ∨ (∃ xs, H a = some (.tup xs)) ∨ ∃ kvs, H a = some (.dK kvs))
  | _ => False
theorem GoodV.sm {p w : Addr} {H H' : Hp} {x : V} (h : GoodV p w H x) (s : Sm p w H H') : GoodV p w H' x := by
  cases x with
  | ref a =>
    obtain ⟨h1, h2, h3⟩ := h
    refine ⟨h1, h2, ?_⟩
    rcases h3 with ⟨xs, e⟩ | ⟨xs, e⟩ | ⟨xs, e⟩
    · exact .inl ⟨xs, s _ _ e h1 h2⟩
    · exact .inr (.inl ⟨xs, s _ _ e h1 h2⟩)
    · exact .inr (.inr ⟨xs, s _ _ e h1 h2⟩)
  | _ => exact h
structure GLs (p w : Addr) (t : Nat) (H : Hp) (xs : List V) : Prop where
  pen : PenAt H p w t
  all : ∀ x ∈ xs, GoodV p w H x
section
variable {p w : Addr} {t u : Nat} {H H' : Hp} {xs ys : List V}
theorem GLs.sm (g : GLs p w t H xs) (hp : PenAt H' p w u) (s : Sm p w H H') : GLs p w u H' xs := ⟨hp, fun x hx => (g.all x hx).sm s⟩
theorem GLs.upd {q : Addr} {o : HO} (g : GLs p w t H xs) (h : H q = none) : GLs p w t (upd H q o) xs := g.sm (g.pen.same (Same.upd h o)) (Same.upd h o).sm
end
end L2
set_option maxRecDepth 100000
namespace L2
open PySem PySem.Spec PyProof.Rows
section
variable {X : Cx} {x : Str} {p pos : Pos} {e : Expr} {es : List Expr} {t : TA}
theorem z_callTy {T : String} {r : List V → Hp → VK → Prop} (hc : CallR X (.type T) r) (hg : Gl X x) (hm : X.mg x = none) (hv : bootBuiltins x = some (.type T)) (ha : SA X (e :: es) t) (hn : x ≠ "__name__" := by decide) (hdb : (x == ("__debug__" : Str)) = false := by decide)
    (he : starEach (e :: es) X.env = (false, eval e X.env) :: starEach es X.env := by rfl) (hpl : (backTo pos (starEach es X.env)).any (·.1) = false := by rfl) : SE X (.Call (.Name x p) (e :: es) [] pos) (tCB r t) := ⟨pe_callTy hc hg hm hv ha.h hn hdb he hpl⟩
def rTupOf (K : PySem.W.Frag) : List V → Hp → VK → Prop := fun xs H Q => ∃ p ys, xs = [.ref p] ∧ ((SqL K H p ys ∧ ∀ l, H l = none → Q (.ref l) (upd H l (.tup ys))) ∨ (SqT K H p ys ∧ Q (.ref p) H))
def rLstOf (K : PySem.W.Frag) : List V → Hp → VK → Prop := fun xs H Q => ∃ p ys, xs = [.ref p] ∧ (SqL K H p ys ∨ SqT K H p ys) ∧ ∀ l, H l = none → Q (.ref l) (upd H l (.lst ys))
theorem call_tupK (K : PySem.W.Frag) (h : X.K = K := by rfl) : CallR X (.type "tuple") (rTupOf K) := by subst h; exact call_tuple_of
theorem call_lstK (K : PySem.W.Frag) (h : X.K = K := by rfl) : CallR X (.type "list") (rLstOf K) := by subst h; exact call_list_of
theorem vals_strs : ∀ {xs : List Str} {us : List Value}, StrsAre us xs → Vals (xs.map V.str) us
  | _, _, .nil => .nil
  | _, _, .cons x k r => .cons ⟨k, rfl⟩ (vals_strs r)
def rSorted (K : PySem.W.Frag) : List V → Hp → VK → Prop := fun xs H Q => ∃ p ss, xs = [.ref p] ∧ SqL K H p (ss.map V.str) ∧ ss.length < 64 ∧
  ∀ l (ss' : List Str), H l = none → ss'.Perm ss → sortedS ss' = true → Q (.ref l) (upd H l (.lst (ss'.map V.str)))
theorem call_sortedK (K : PySem.W.Frag) (hK : X.K = K := by rfl) : CallR X (.builtin "sorted") (rSorted K) := by
  subst hK
  intro pins s σ H xs us Q I r h
  obtain ⟨p, ss, rfl, hq, h64, q⟩ := h
  obtain ⟨u, rfl, ru⟩ := r.one
  cases ru
  obtain ⟨its, rv, pl, hz⟩ := I.list hq
  have hS := strs_of rv
  have hlen : its.length = ss.length := by have := rv.length; rw [List.length_map] at this; exact this.symm
  refine sorted_strs pl.isList hS (by rw [hlen]; exact h64) fun out ss' a1 a2 a3 => ?_
  obtain ⟨e, he⟩ := sortedAll_at s.heap its out
  have hf : H (s.heap.objs.size + 1) = none := I.hok.fresh (Nat.le_succ _)
  refine ⟨.ref (s.heap.objs.size + 1), _, I.laid (t' := s.toks) (a := s.heap.objs.size + 1) (o := .lst (ss'.map V.str)) (fun b o eo => sortedAll_old eo) (Nat.le_succ _) ?_, rfl, q _ ss' hf a2 a3⟩
  refine ⟨?_, out.toList, e, vals_strs a1, ?_⟩
  · rw [List.length_map, a2.length_eq]
    have : sizeLine = 16777216 := sizeLine_eq
    omega
  · rw [he]
end
mutual
inductive Den (H : Hp) : V → PyData → Prop
  | non : Den H .non .none
  | bl (b : Bool) : Den H (.bl b) (.bool b)
  | int (i : Int) : Den H (.int i) (.int i)
  | str (z : Str) : Den H (.str z) (.str z)
  | tup {a : Addr} {xs : List V} {ds : List PyData} : H a = some (.tup xs) → DenL H xs ds → Den H (.ref a) (.tuple ds)
  | lst {a : Addr} {xs : List V} {ds : List PyData} : H a = some (.lst xs) → DenL H xs ds → Den H (.ref a) (.list ds)
inductive DenL (H : Hp) : List V → List PyData → Prop
  | nil : DenL H [] []
  | cons {x : V} {d : PyData} {xs : List V} {ds : List PyData} : Den H x d → DenL H xs ds → DenL H (x :: xs) (d :: ds)
end
mutual
theorem Den.same {H H' : Hp} (s : Same H H') : ∀ {x : V} {d : PyData}, Den H x d → Den H' x d
  | _, _, .non => .non
  | _, _, .bl b => .bl b
  | _, _, .int i => .int i
  | _, _, .str z => .str z
  | _, _, .tup e r => .tup (s _ _ e) (DenL.same s r)
  | _, _, .lst e r => .lst (s _ _ e) (DenL.same s r)
theorem DenL.same {H H' : Hp} (s : Same H H') : ∀ {xs : List V} {ds : List PyData}, DenL H xs ds → DenL H' xs ds
  | _, _, .nil => .nil
  | _, _, .cons a r => .cons (Den.same s a) (DenL.same s r)
end
mutual
theorem reads_of {P : Program} {w : World} {H : Hp} {h : Heap} (ok : HOk P w H h) : ∀ {x : V} {d : PyData} {u : Value}, Den H x d → RelV x u → ∃ as, Reads h u d as
  | _, _, _, .non, r => by cases (show _ = Value.none from r); exact ⟨[], .none⟩
  | _, _, _, .bl b, r => by cases (show _ = Value.bool b from r); exact ⟨[], .bool b⟩
  | _, _, _, .int i, r => by obtain ⟨t, rfl⟩ := (show ∃ t, _ = Value.int i t from r); exact ⟨[], .int i t⟩
  | _, _, _, .str z, r => by obtain ⟨t, rfl⟩ := (show ∃ t, _ = Value.str z t from r); exact ⟨[], .str z t⟩
  | _, _, _, .tup (a := a) (xs := xs) e l, r => by
    cases (show _ = Value.ref a from r)
    obtain ⟨_, its, rv, o, ho, hc, n, hd⟩ := (show ObjOk P w H h a (.tup xs) from ok a _ e)
    obtain ⟨as, ra⟩ := readsAll_of ok l rv
    exact ⟨as, .tuple ho hc hd (by simpa using ra)⟩
  | _, _, _, .lst (a := a) (xs := xs) e l, r => by
    cases (show _ = Value.ref a from r)
    obtain ⟨_, its, n, rv, ho⟩ := (show ObjOk P w H h a (.lst xs) from ok a _ e)
    obtain ⟨as, ra⟩ := readsAll_of ok l rv
    exact ⟨a :: as, .list ho rfl rfl (by simpa using ra)⟩
theorem readsAll_of {P : Program} {w : World} {H : Hp} {h : Heap} (ok : HOk P w H h) : ∀ {xs : List V} {ds : List PyData} {us : List Value}, DenL H xs ds → Vals xs us → ∃ as, ReadsAll h us ds as
  | _, _, _, .nil, .nil => ⟨[], .nil⟩
  | _, _, _, .cons a l, .cons r rs => by
    obtain ⟨as, ra⟩ := reads_of ok a r
    obtain ⟨bs, rb⟩ := readsAll_of ok l rs
    exact ⟨as ++ bs, .cons ra rb⟩
end
end L2
set_option maxRecDepth 100000
namespace L2
open PySem PySem.Spec PyProof.Rows
section
variable {X : Cx}
def rIsB (n : Bool) : R2 := fun x y H Q => match x, y with
  | .bl a, .bl b => Q (.bl (n ^^ (a == b))) H
  | x, .non => Q (.bl (n ^^ decide (x = .non))) H
  | _, _ => False
theorem op_isB : OpR X (compareOp .Is) (rIsB false) := by
  intro pins s σ H x y v u Q I rx ry h
  cases y with
  | non => exact op_isN pins s σ H _ _ v u Q I rx ry ⟨rfl, by cases x <;> simpa [rIsB] using h⟩
  | bl b =>
    cases x with
    | bl a =>
      cases rx; cases ry
      exact is_bool (fin_bl I h (by cases a <;> cases b <;> rfl))
    | _ => exact (show False from h).elim
  | _ => cases x <;> exact (show False from h).elim
end
end L2
set_option maxRecDepth 100000
namespace L2
open PySem PySem.Spec PyProof.Rows
abbrev ABC : Str := "abcdefghijklmnopqrstuvwxyz"
abbrev NON : List Str := ["all", "none", "way", "box", "pick"]
def inAbc (c : Nat) : Bool := !(Builtin.Str.occurrences ABC ⟨#[c]⟩ 0 ABC.length 1).isEmpty
def isName (z : Str) : Bool := decide (1 ≤ z.length) && decide (z.length ≤ 8) && !(NON.any fun y => y == z) && z.cps.toList.all inAbc
theorem decV_int {i j : Int} : (decide (V.int i = V.int j)) = decide (i = j) := by
  by_cases h : i = j
  · subst h; simp
  · rw [decide_eq_false h, decide_eq_false (fun e => h (V.int.inj e))]
theorem decV_str {i j : Str} : (decide (V.str i = V.str j)) = (i == j) := by
  by_cases h : i = j
  · subst h; simp
  · rw [decide_eq_false (fun e => h (V.str.inj e))]
    exact (beq_eq_false_iff_ne.mpr h).symm
theorem Same.put {H0 H' : Hp} {p : Addr} {o : HO} (s : Same H0 H') (h : H0 p = none) : Same H0 (L2.upd H' p o) := fun b u q => by rw [upd_ne (ne_of_none q h)]; exact s b u q
theorem tSeq_set {te : TE} {i : Nat} {u : TS} {D : Ends} {σ : St} {H : Hp} (h : te σ H fun x H1 => u D (σ.set i (some x)) H1) : tSeq (tAsg te (gName i)) u D σ H := h
theorem tSeq_setC {v : V} {i : Nat} {u : TS} {D : Ends} {σ : St} {H : Hp} (h : u D (σ.set i (some v)) H) : tSeq (tAsg (tC v) (gName i)) u D σ H := h
end L2
set_option maxRecDepth 100000
namespace L2
open PySem PySem.Spec PyProof.Rows
theorem abc_at (c : Nat) (h : 97 ≤ c ∧ c < 123) : ABC.cps.toList[c - 97]? = some c := by
  have : ∀ d : Fin 26, ABC.cps.toList[d.val]? = some (97 + d.val) := by decide +kernel
  have := this ⟨c - 97, by omega⟩
  rw [this]; congr 1; simp; omega
theorem abc_find (c : Nat) (h : 97 ≤ c ∧ c < 123) : Builtin.Str.occurrences ABC ⟨#[c]⟩ 0 ABC.length 1 = [c - 97] := by
  have : ∀ d : Fin 26, Builtin.Str.occurrences ABC ⟨#[97 + d.val]⟩ 0 ABC.length 1 = [d.val] := by decide +kernel
  have := this ⟨c - 97, by omega⟩
  simp only at this
  rw [show 97 + (c - 97) = c by omega] at this
  exact this
end L2
set_option maxRecDepth 100000
namespace L2
open PySem PySem.Spec PyProof.Rows
section
variable {X : Cx} {pins : List (Addr × Obj)} {σ : St} {H : Hp} {s : Shared} {h' : Heap}
theorem Inv.turnedT {t' : Nat} {ch : List Addr} {T : Addr} {o : HO} (I : Inv X pins σ H s) (hf : ∀ b ∈ ch, FpOk X pins H b) (k : ∀ b o, b ∉ ch → s.heap.get? b = some o → h'.get? b = some o)
    (hT : s.heap.objs.size ≤ T) (new : ObjOk X.prog X.w (upd H T o) h' T o) : Inv X pins σ (upd H T o) { s with heap := h', toks := t' } := by
  have hfr : H T = none := I.hok.fresh hT
  have nT : ∀ b ob, s.heap.get? b = some ob → b ≠ T := fun b ob e => Nat.ne_of_lt (Nat.lt_of_lt_of_le (Heap.lt_size e) hT)
  have nch : ∀ b u, H b = some u → b ∉ ch := fun b u e hb => by rw [(hf b hb).1] at e; cases e
  refine I.step (g' := s.gens) (d' := s.drawn) (ch := ch) (fun b hb => ?_) (fun b o _ _ hc e _ => k b o hc e) (fun b o _ _ hc e _ => ⟨o.slots, k b o hc e⟩) (fun b o hc e n => by rw [upd_ne (nT b o e)]; exact n)
    (fun b o hc e => ⟨o, k b o hc e⟩) (fun b xs e => by rw [upd_ne (ne_of_none e hfr)]; exact e) (fun b o u e => by rw [upd_ne (ne_of_none e hfr)]; exact e) (fun b ps e => ⟨#[], by rw [upd_ne (ne_of_none e hfr), e]; simp⟩) (fun m hm => ?_) (fun b u e => ?_) I.bare
  · obtain ⟨f0, f1, f2, f3, f4, f5⟩ := hf b hb
    exact ⟨f3, f1, f4, f5⟩
  · obtain ⟨o, es, ep, ho, r⟩ := hm
    exact ⟨o, es, ep, k _ o (fun z => (hf _ z).2.1 rfl) ho, r⟩
  · by_cases hb : b = T
    · subst hb
      rw [upd_same] at e; cases e
      exact new
    · rw [upd_ne hb] at e
      refine (I.hok b u e).stay (fun c v hc q => k c v ?_ q) (fun c q => by rw [upd_ne (ne_of_none q hfr)]; exact q) fun c xs q => q.upd fun u' hu => ne_of_none hu hfr
      rcases hc with z | z
      · rw [z]; exact nch b u e
      · exact nch c _ z
theorem Inv.turnedL {t' : Nat} {ch : List Addr} (I : Inv X pins σ H s) (hf : ∀ b ∈ ch, FpOk X pins H b) (k : ∀ b o, b ∉ ch → s.heap.get? b = some o → h'.get? b = some o) : Inv X pins σ H { s with heap := h', toks := t' } := by
  have nch : ∀ b u, H b = some u → b ∉ ch := fun b u e hb => by rw [(hf b hb).1] at e; cases e
  refine I.step (g' := s.gens) (d' := s.drawn) (ch := ch) (fun b hb => ?_) (fun b o _ _ hc e _ => k b o hc e) (fun b o _ _ hc e _ => ⟨o.slots, k b o hc e⟩) (fun b o hc e n => n)
    (fun b o hc e => ⟨o, k b o hc e⟩) (fun b xs e => e) (fun b o u e => e) (fun b ps e => ⟨#[], by rw [e]; simp⟩) (fun m hm => ?_) (fun b u e => ?_) I.bare
  · obtain ⟨f0, f1, f2, f3, f4, f5⟩ := hf b hb
    exact ⟨f3, f1, f4, f5⟩
  · obtain ⟨o, es, ep, ho, r⟩ := hm
    exact ⟨o, es, ep, k _ o (fun z => (hf _ z).2.1 rfl) ho, r⟩
  · refine (I.hok b u e).stay (fun c v hc q => k c v ?_ q) (fun c q => q) fun c xs q => q
    rcases hc with z | z
    · rw [z]; exact nch b u e
    · exact nch c _ z
end
abbrev pairY (v1 v2 : V) : Hp → V → Hp → Prop := fun H x H' => ∃ T, x = .ref T ∧ H T = none ∧ H' = upd H T (.tup [v1, v2])
def Ite (K : PySem.W.Frag) (a : Addr) : It :=
  ⟨fun i H => ∃ xs x, SqL K H a xs ∧ xs[i]? = some x, fun i H x H' => ∃ v, (∀ xs, SqL K H a xs → xs[i]? = some v) ∧ pairY (.int i) v H x H', fun i H => ∃ xs, SqL K H a xs ∧ xs.length ≤ i⟩
theorem tup2_ok {P : Program} {w : World} {H : Hp} {h : Heap} {T : Addr} {v1 v2 : V} {u1 u2 : Value} (r1 : RelV v1 u1) (r2 : RelV v2 u2) (e : h.get? T = some { cls := .type "tuple", data := .seq #[u1, u2] }) : ObjOk P w H h T (.tup [v1, v2]) :=
  ⟨⟨show 2 ≤ sizeLine by decide, fun o q => by rw [e] at q; cases q; rfl⟩, [u1, u2], .cons r1 (.cons r2 .nil), _, e, rfl, _, rfl⟩
theorem turn_enum {P : Program} {w : World} {K : PySem.W.Frag} {elts : List Expr} {k : Nat} {pos : Pos} (a e it : Addr) (hei : e ≠ it) : Turn P w K (.Tuple elts k pos) (Ite K a) [e, it] e (fun i h => (∃ old, IsEnum h e it i old) ∧ h.IsListIter it a i) where
  mem := by simp
  obj := fun i h st b hb => by
    obtain ⟨⟨old, he⟩, o, ho, c, d⟩ := st
    simp only [List.mem_cons, List.mem_nil_iff, or_false] at hb
    rcases hb with rfl | rfl
    · exact ⟨_, he, fun v z => by
        have z' : Data.fields _ = Data.cell v := z
        cases z'⟩
    · exact ⟨o, ho, fun v z => by rw [d] at z; cases z⟩
  keep := fun i h h' st k => by
    obtain ⟨⟨old, he⟩, hi⟩ := st
    exact ⟨⟨old, k e (by simp) _ he⟩, hi.at fun o x => k it (by simp) o x⟩
  item := by
    intro X hP hw hK hc i pins s σ H E I hf st hg
    subst hP hw hK
    obtain ⟨⟨old, he⟩, hit⟩ := st
    obtain ⟨xs, x, hq, hx⟩ := hg
    obtain ⟨its, rv, p, hz⟩ := I.list hq
    obtain ⟨u, hu, ru⟩ := rv.get hx
    refine wpAny_pyNext_enum_item he hit p.isList (x := u) (by simpa using hu) hei fun h' ho hit' hT hsz hk => ?_
    have I1 : Inv X pins σ (upd H s.heap.objs.size (.tup [.int i, x])) { s with heap := h', toks := s.toks + 1 } := I.turnedT hf (fun b o hb e => hk b o (fun z => hb (by simp [z])) (fun z => hb (by simp [z])) e) (Nat.le_refl _) (tup2_ok ⟨_, rfl⟩ ru hT)
    refine ⟨_, rfl, wpAny_letOwnedTupleGo_enum (s := { s with heap := h', toks := s.toks + 1 }) ho fun h'' he'' sb => ?_⟩
    have hlt : ∀ b ∈ [e, it], b ≠ s.heap.objs.size := fun b hb z => by
      simp only [List.mem_cons, List.mem_nil_iff, or_false] at hb
      rcases hb with rfl | rfl
      · exact Nat.ne_of_lt (Heap.lt_size he) z
      · obtain ⟨_, q, _⟩ := hit; exact Nat.ne_of_lt (Heap.lt_size q) z
    have hf1 : ∀ b ∈ [e, it], FpOk X pins (upd H s.heap.objs.size (.tup [.int i, x])) b := fun b hb => by
      obtain ⟨f0, f⟩ := hf b hb
      exact ⟨by rw [upd_ne (hlt b hb)]; exact f0, f⟩
    obtain ⟨f0, f1, f2, f3, f4, f5⟩ := hf1 e (by simp)
    refine ⟨.ref s.heap.objs.size, _, I1.turned (t' := s.toks + 1) (fun b o hb q => (sb.2 b hb).trans q) f0 f1 f3 f4 f5, rfl, ⟨x, fun ys hy => by rw [I.list_inj hy hq]; exact hx, _, rfl, I.hok.fresh (Nat.le_refl _), rfl⟩, ⟨⟨u, by simpa using he''⟩, hit'.at fun o q => (sb.2 it hei.symm).trans q⟩, fun b hb => (hf1 b hb).1⟩
  done := by
    intro X hP hw hK hc i pins s σ H E I hf st hg
    subst hP hw hK
    obtain ⟨⟨old, he⟩, hit⟩ := st
    obtain ⟨xs, hq, hx⟩ := hg
    obtain ⟨its, rv, p, hz⟩ := I.list hq
    have hl := rv.length
    exact wpAny_pyNext_enum_end (I.ok.hd hc) he hit p.isList (by simp; omega) fun h' eb => ⟨rfl, I.turnedL (t' := s.toks) hf fun b o hb q => eb b o (fun z => hb (by simp [z])) q⟩
  self := fun _ _ _ _ _ st h => let ⟨⟨_, he⟩, _⟩ := st; wpAny_pyIter_enum he h
theorem zipApart_mk {n l m : Nat} (h1 : l < n) (h2 : m < n) : ZipApart (n + 4) (n + 2) (n + 3) n (n + 1) l m := by
  constructor <;> (show (_ : Nat) ≠ _) <;> omega
def Itz (K : PySem.W.Frag) (a b : Addr) : It :=
  ⟨fun i H => ∃ xs ys x y, SqL K H a xs ∧ SqL K H b ys ∧ xs[i]? = some x ∧ ys[i]? = some y, fun i H x H' => ∃ v1 v2, (∀ xs, SqL K H a xs → xs[i]? = some v1) ∧ (∀ ys, SqL K H b ys → ys[i]? = some v2) ∧ pairY v1 v2 H x H',
   fun i H => ∃ xs ys, SqL K H a xs ∧ SqL K H b ys ∧ (xs.length ≤ i ∨ ys.length ≤ i)⟩
abbrev zipSt (z TI TO i1 i2 a b : Addr) (i : Nat) (h : Heap) : Prop := IsZip h z TI TO .none ∧ IsPair h TI (.ref i1) (.ref i2) ∧ (∃ u v, IsPair h TO u v) ∧ h.IsListIter i1 a i ∧ h.IsListIter i2 b i
theorem turn_zip {P : Program} {w : World} {K : PySem.W.Frag} {elts : List Expr} {k : Nat} {pos : Pos} (z TI TO i1 i2 a b : Addr) (D : ZipApart z TI TO i1 i2 a b) : Turn P w K (.Tuple elts k pos) (Itz K a b) [z, TI, TO, i1, i2] z (zipSt z TI TO i1 i2 a b) where
  mem := by simp
  obj := fun i h st c hc => by
    obtain ⟨hz, hTI, ⟨u, v, hTO⟩, ⟨o1, e1, c1, d1⟩, o2, e2, c2, d2⟩ := st
    simp only [List.mem_cons, List.mem_nil_iff, or_false] at hc
    rcases hc with rfl | rfl | rfl | rfl | rfl
    · exact ⟨_, hz, fun v z => by have z' : Data.fields _ = Data.cell v := z; cases z'⟩
    · exact ⟨_, hTI, fun v z => by have z' : Data.seq _ _ = Data.cell v := z; cases z'⟩
    · exact ⟨_, hTO, fun v z => by have z' : Data.seq _ _ = Data.cell v := z; cases z'⟩
    · exact ⟨_, e1, fun v z => by rw [d1] at z; cases z⟩
    · exact ⟨_, e2, fun v z => by rw [d2] at z; cases z⟩
  keep := fun i h h' st k => by
    obtain ⟨hz, hTI, ⟨u, v, hTO⟩, h1, h2⟩ := st
    exact ⟨k z (by simp) _ hz, k TI (by simp) _ hTI, ⟨u, v, k TO (by simp) _ hTO⟩, h1.at fun o x => k i1 (by simp) o x, h2.at fun o x => k i2 (by simp) o x⟩
  item := by
    intro X hP hw hK hc i pins s σ H E I hf st hg
    subst hP hw hK
    obtain ⟨hz, hTI, ⟨u0, v0, hTO⟩, h1, h2⟩ := st
    obtain ⟨xs, ys, x, y, hq1, hq2, hx, hy⟩ := hg
    obtain ⟨its, rv, p, hzz⟩ := I.list hq1
    obtain ⟨its2, rv2, p2, hz2⟩ := I.list hq2
    obtain ⟨u, hu, ru⟩ := rv.get hx
    obtain ⟨u2, hu2, ru2⟩ := rv2.get hy
    refine wpAny_pyNext_zip_item D hz hTI hTO h1 h2 p.isList p2.isList (x := u) (y := u2) (by simpa using hu) (by simpa using hu2) fun h' a1 a2 a3 a4 a5 a6 hk => ?_
    have I1 : Inv X pins σ (upd H s.heap.objs.size (.tup [x, y])) { s with heap := h', toks := s.toks } := I.turnedT (t' := s.toks) hf (fun b o hb e => hk b o (fun z => hb (by simp [z])) (fun z => hb (by simp [z])) (fun z => hb (by simp [z])) (fun z => hb (by simp [z])) e) (Nat.le_refl _) (tup2_ok ru ru2 a5)
    refine ⟨_, rfl, wpAny_letOwnedTupleGo_zip (s := { s with heap := h' }) a1 fun h'' hz'' sb => ?_⟩
    have hlt : ∀ b ∈ [z, TI, TO, i1, i2], b ≠ s.heap.objs.size := fun c hc z' => by
      simp only [List.mem_cons, List.mem_nil_iff, or_false] at hc
      obtain ⟨o1, e1, _⟩ := h1
      obtain ⟨o2, e2, _⟩ := h2
      rcases hc with rfl | rfl | rfl | rfl | rfl
      · exact Nat.ne_of_lt (Heap.lt_size hz) z'
      · exact Nat.ne_of_lt (Heap.lt_size hTI) z'
      · exact Nat.ne_of_lt (Heap.lt_size hTO) z'
      · exact Nat.ne_of_lt (Heap.lt_size e1) z'
      · exact Nat.ne_of_lt (Heap.lt_size e2) z'
    have hf1 : ∀ b ∈ [z, TI, TO, i1, i2], FpOk X pins (upd H s.heap.objs.size (.tup [x, y])) b := fun b hb => by
      obtain ⟨f0, f⟩ := hf b hb
      exact ⟨by rw [upd_ne (hlt b hb)]; exact f0, f⟩
    obtain ⟨f0, f1, f2, f3, f4, f5⟩ := hf1 z (by simp)
    refine ⟨.ref s.heap.objs.size, _, I1.turned (t' := s.toks) (fun b o hb q => (sb.2 b hb).trans q) f0 f1 f3 f4 f5, rfl, ⟨x, y, fun ys hy => by rw [I.list_inj hy hq1]; exact hx, fun ys hy' => by rw [I.list_inj hy' hq2]; exact hy, _, rfl, I.hok.fresh (Nat.le_refl _), rfl⟩, ?_, fun b hb => (hf1 b hb).1⟩
    refine ⟨hz'', (sb.2 _ D.TIz).trans (hk _ _ D.TIz D.TITO D.TIi1 D.TIi2 hTI), ⟨_, _, (sb.2 _ D.TOz).trans a2⟩, a3.at fun o q => (sb.2 _ D.i1z).trans q, a4.at fun o q => (sb.2 _ D.i2z).trans q⟩
  done := by
    intro X hP hw hK hc i pins s σ H E I hf st hg
    subst hP hw hK
    obtain ⟨hz, hTI, ⟨u0, v0, hTO⟩, h1, h2⟩ := st
    obtain ⟨xs, ys, hq1, hq2, hx⟩ := hg
    obtain ⟨its, rv, p, hzz⟩ := I.list hq1
    obtain ⟨its2, rv2, p2, hz2⟩ := I.list hq2
    have hl := rv.length
    have hl2 := rv2.length
    refine wpAny_pyNext_zip_end (I.ok.hd hc) D hz hTI hTO h1 h2 p.isList p2.isList ?_ fun h' hk => ⟨rfl, I.turnedL (t' := s.toks) hf fun b o hb q => hk b o (fun z => hb (by simp [z])) (fun z => hb (by simp [z])) (fun z => hb (by simp [z])) (fun z => hb (by simp [z])) q⟩
    rcases hx with hx | hx
    · exact .inl (by simp; omega)
    · exact .inr (by simp; omega)
  self := fun _ _ _ _ _ st h => wpAny_pyIter_zip st.1 h
section
variable {X : Cx} {elts : List Expr} {k : Nat} {tpos p pos : Pos} {a b : Expr} {ta : TA}
def iEnum (K : PySem.W.Frag) (ta : TA) : TI := fun σ H R => ta σ H fun vs H1 => ∃ l xs, vs = [.ref l] ∧ SqL K H1 l xs ∧ R (Ite K l) H1
theorem pi_enum (hg : Gl X "enumerate") (hm : X.mg "enumerate" = none) (ha : PA X [a] ta) (hs : starEach [a] X.env = [(false, eval a X.env)] := by rfl) : PI X (.Tuple elts k tpos) (.Call (.Name "enumerate" p) [a] [] pos) (iEnum X.K ta) := by
  intro pins s σ H R I h
  refine Call_ (ld_blt I hg hm boot_enumerate (PyProof.Rows.callWith_type1 (thn (ha pos pins s σ H _ I h) fun us s1 ⟨vs, H1, I1, r1, q1⟩ => ?_) hs rfl))
  obtain ⟨l, xs, e, hq, q⟩ := q1
  subst e
  cases r1 with
  | cons r rr =>
    cases rr
    cases r
    obtain ⟨its, rv, pl, hz⟩ := I1.list hq
    refine call_enumerate_list pl.isList fun h' he hit hsz hk => wpAny_pyIter_enum he ?_
    have I2 : Inv X pins σ H1 { s1 with heap := h' } := I1.kept (t' := s1.toks) hk
    refine ⟨s1.heap.objs.size + 1, [s1.heap.objs.size + 1, s1.heap.objs.size], _, _, H1, rfl, I2, turn_enum l _ _ (Nat.succ_ne_self _), ⟨⟨_, he⟩, hit⟩, fun b hb => ?_, q⟩
    simp only [List.mem_cons, List.mem_nil_iff, or_false] at hb
    rcases hb with rfl | rfl
    · exact I1.fpOk (Nat.le_succ _) (I1.hok.fresh (Nat.le_succ _))
    · exact I1.fpOk (Nat.le_refl _) (I1.hok.fresh (Nat.le_refl _))
def iZip (K : PySem.W.Frag) (ta : TA) : TI := fun σ H R => ta σ H fun vs H1 => ∃ l m xs ys, vs = [.ref l, .ref m] ∧ SqL K H1 l xs ∧ SqL K H1 m ys ∧ R (Itz K l m) H1
theorem pi_zip (hg : Gl X "zip") (hm : X.mg "zip" = none) (ha : PA X [a, b] ta) (hs : starEach [a, b] X.env = [(false, eval a X.env), (false, eval b X.env)] := by rfl) (hs2 : starEach [b] X.env = [(false, eval b X.env)] := by rfl) :
    PI X (.Tuple elts k tpos) (.Call (.Name "zip" p) [a, b] [] pos) (iZip X.K ta) := by
  intro pins s σ H R I h
  refine Call_ (ld_blt I hg hm boot_zip (PyProof.Rows.callWith_type1 (thn (ha pos pins s σ H _ I h) fun us s1 ⟨vs, H1, I1, r1, q1⟩ => ?_) (by rw [hs, hs2]) (by rw [hs2]; rfl)))
  obtain ⟨l, m, xs, ys, e, hq1, hq2, q⟩ := q1
  subst e
  obtain ⟨u1, u2, rfl, r1', r2'⟩ := r1.two
  cases r1'
  cases r2'
  obtain ⟨its, rv, pl, hz⟩ := I1.list hq1
  obtain ⟨its2, rv2, pl2, hz2⟩ := I1.list hq2
  have l1 : l < s1.heap.objs.size := by obtain ⟨_, e, _⟩ := pl.isList; exact Heap.lt_size e
  have l2 : m < s1.heap.objs.size := by obtain ⟨_, e, _⟩ := pl2.isList; exact Heap.lt_size e
  refine call_zip_2 pl.isList pl2.isList fun h' hz hTI hTO h1 h2 hsz hk => wpAny_pyIter_zip hz ?_
  have I2 : Inv X pins σ H1 { s1 with heap := h' } := I1.kept (t' := s1.toks) hk
  have ne : ∀ {x y : Nat}, x < y → x ≠ y := fun h => Nat.ne_of_lt h
  have ne' : ∀ {x y : Nat}, y < x → x ≠ y := fun h => Nat.ne_of_gt h
  refine ⟨s1.heap.objs.size + 4, [s1.heap.objs.size + 4, s1.heap.objs.size + 2, s1.heap.objs.size + 3, s1.heap.objs.size, s1.heap.objs.size + 1], _, _, H1, rfl, I2, turn_zip _ _ _ _ _ l m ?_, ⟨hz, hTI, ⟨_, _, hTO⟩, h1, h2⟩, fun b hb => ?_, q⟩
  · exact zipApart_mk l1 l2
  · simp only [List.mem_cons, List.mem_nil_iff, or_false] at hb
    rcases hb with rfl | rfl | rfl | rfl | rfl <;> exact I1.fpOk (by simp) (I1.hok.fresh (by simp))
theorem pi_enumK (K : PySem.W.Frag) (hg : Gl X "enumerate") (hm : X.mg "enumerate" = none) (ha : SA X [a] ta) (h : X.K = K := by rfl) (hs : starEach [a] X.env = [(false, eval a X.env)] := by rfl) : SI X (.Tuple elts k tpos) (.Call (.Name "enumerate" p) [a] [] pos) (iEnum K ta) := by subst h; exact ⟨pi_enum hg hm ha.h hs⟩
theorem pi_zipK (K : PySem.W.Frag) (hg : Gl X "zip") (hm : X.mg "zip" = none) (ha : SA X [a, b] ta) (h : X.K = K := by rfl) (hs : starEach [a, b] X.env = [(false, eval a X.env), (false, eval b X.env)] := by rfl) (hs2 : starEach [b] X.env = [(false, eval b X.env)] := by rfl) :
    SI X (.Tuple elts k tpos) (.Call (.Name "zip" p) [a, b] [] pos) (iZip K ta) := by subst h; exact ⟨pi_zip hg hm ha.h hs hs2⟩
end
def ItP (J : It) (ok : Hp → Prop) (n : Nat) (f1 f2 : Nat → V) : Prop :=
  ∀ H, ok H → (∀ i, i < n → J.go i H ∧ ∀ x H', J.yld i H x H' → pairY (f1 i) (f2 i) H x H') ∧ J.stop n H
theorem itp_enum {K : PySem.W.Frag} {a : Addr} (xs : List V) : ItP (Ite K a) (fun H => SqL K H a xs) xs.length (fun i => .int i) (fun i => xs.getD i .non) := fun H ok =>
  ⟨fun i hi => ⟨⟨xs, xs[i], ok, by simp [hi]⟩, fun x H' ⟨v, hv, y⟩ => by
    have := hv xs ok
    have e : xs.getD i V.non = v := by rw [List.getD_eq_getElem?_getD, this]; rfl
    show pairY (.int i) (xs.getD i .non) H x H'
    rw [e]; exact y⟩, ⟨xs, ok, Nat.le_refl _⟩⟩
theorem itp_zip {K : PySem.W.Frag} {a b : Addr} (xs ys : List V) : ItP (Itz K a b) (fun H => SqL K H a xs ∧ SqL K H b ys) (min xs.length ys.length) (fun i => xs.getD i .non) (fun i => ys.getD i .non) := fun H ok =>
  ⟨fun i hi => ⟨⟨xs, ys, xs[i]'(by omega), ys[i]'(by omega), ok.1, ok.2, by simp, by simp⟩, fun x H' ⟨v1, v2, hv1, hv2, y⟩ => by
    have e1 : xs.getD i V.non = v1 := by rw [List.getD_eq_getElem?_getD, hv1 xs ok.1]; rfl
    have e2 : ys.getD i V.non = v2 := by rw [List.getD_eq_getElem?_getD, hv2 ys ok.2]; rfl
    show pairY (xs.getD i .non) (ys.getD i .non) H x H'
    rw [e1, e2]; exact y⟩, ⟨xs, ys, ok.1, ok.2, by omega⟩⟩
abbrev g2 (K : PySem.W.Frag) (a b : Nat) : TG := gTup K 2 (gCons (gName a) (gCons (gName b) gNil))
theorem g2_at {K : PySem.W.Frag} {a b : Nat} {T : Addr} {v1 v2 : V} {σ : St} {H : Hp} {Q : St → Hp → Prop} (h : H T = some (.tup [v1, v2])) (q : Q ((σ.set a (some v1)).set b (some v2)) H) : g2 K a b (.ref T) σ H Q :=
  ⟨T, _, rfl, SqT.of h, rfl, _, _, rfl, _, _, rfl, rfl, q⟩
theorem for_pair {K : PySem.W.Frag} {J : It} {ok : Hp → Prop} {n : Nat} {f1 f2 : Nat → V} {a b : Nat} {tb : TS} {D : Ends} {σ : St} {H : Hp} (hJ : ItP J ok n f1 f2) (Pv : Nat → St → Hp → Prop) (h0 : Pv 0 σ H) (hok : ∀ i τ H, i ≤ n → Pv i τ H → ok H)
    (hs : ∀ i σ H T, i < n → Pv i σ H → H T = none → tb { D with nx := Pv (i + 1), ct := Pv (i + 1), bk := D.nx } ((σ.set a (some (f1 i))).set b (some (f2 i))) (upd H T (.tup [f1 i, f2 i]))) (hd : ∀ σ H, Pv n σ H → D.nx σ H) :
    ∃ W : Nat → Nat → St → Hp → Prop, (∃ m, W 0 m σ H) ∧ ∀ i m σ H, W i m σ H →
      (J.stop i H ∧ D.nx σ H) ∨ (J.go i H ∧ ∃ N : St → Hp → Prop, (∀ σ' H', N σ' H' → ∃ m', m' < m ∧ W (i + 1) m' σ' H') ∧ ∀ x H', J.yld i H x H' → g2 K a b x σ H' fun σ2 H2 => tb { D with nx := N, ct := N, bk := D.nx } σ2 H2) := by
  refine ⟨fun i m σ H => m = n - i ∧ i ≤ n ∧ Pv i σ H, ⟨n, by simp, Nat.zero_le _, h0⟩, ?_⟩
  rintro i m σ H ⟨rfl, hi, p⟩
  obtain ⟨k1, k2⟩ := hJ H (hok i σ H hi p)
  by_cases hlt : i < n
  · refine .inr ⟨(k1 i hlt).1, Pv (i + 1), fun σ' H' p' => ⟨n - (i + 1), by omega, rfl, hlt, p'⟩, fun x H' y => ?_⟩
    obtain ⟨T, rfl, hT, rfl⟩ := (k1 i hlt).2 x H' y
    exact g2_at upd_same (hs i σ _ T hlt p hT)
  · have e : i = n := by omega
    subst e
    exact .inl ⟨k2, hd σ H p⟩
end L2
set_option maxRecDepth 100000
namespace PySem
theorem ask_keys_tuple {prog : Program} {w : World} {A : Around} {E : Value → Shared → Prop} {s : Shared} {a : Addr} {o : Obj} {xs : Array Value} {k : Nat} {Q : Option Value → Shared → Prop}
    (hx : s.heap.get? a = some o) (hc : o.cls = .type "tuple") (hdat : o.data = .seq xs k) (hd : o.dict = none) (hA : A.handled = none)
    (h : ∀ h' tk, (∀ b ob, s.heap.get? b = some ob → h'.get? b = some ob) → Q none { s with heap := h', toks := tk }) :
    wpAny (model prog w) A (getAttr? (.ref a) "keys") Q E s := by
  obtain ⟨c, dct, dat, sl⟩ := o
  simp only at hc hdat hd
  subst hc hdat hd
  obtain ⟨hp, g, d, tk, os⟩ := s
  have hT : ∀ tk', (⟨hp, g, d, tk', os⟩ : Shared).TypeIs (.ref a) "tuple" := fun _ => ⟨_, hx, rfl⟩
  have hmiss : typeLookup (.type "tuple") "keys" = pure none := am_miss_of_fast (by kernel_rfl)
  have f1 := sub_AttributeError
  have f3 := F.slot_tuple_getattribute.lookup
  have f4 := F.slot_tuple_getattribute.bind (.ref a)
  have f5 := am_tuple_getattr_none
  unfold getAttr? getAttrBy? getAttrBy
  repeat (any_goals (first | assumption | exact hT _ | ((with_reducible show wpAny _ _ (call (Value.builtin "tuple.__getattribute__") _ _) _ _ _); refine call_meets F.slot_tuple_getattribute (hT _) am_entry_tuple_getattribute (F.args_tuple_getattribute_2 _ _) (meets_getattribute_miss_tuple a xs k sl _ _ hmiss (by decide) (by decide)) ⟨hx, hA, fun h' tk' e hx' => ?_⟩) | wp_step))
  obtain ⟨t', u', he⟩ := hx'.there
  show wpAny _ _ (getattributeRaised _ _ _ _ _ _ _) _ _ _
  unfold getattributeRaised
  repeat (any_goals (first | assumption | wp_step))
  exact h _ _ hx'.keeps
end PySem
namespace PySem.F
theorem entry_dict_update_loop : entryFor table "dict.update.loop" = some Builtin.«dict.update.loop» := entryFor_of_tree (by kernel_rfl)
theorem plain_dict_update_loop : plainId "dict.update.loop" = true := by decide +kernel
end PySem.F
namespace L2
open PySem PySem.Spec PyProof.Rows
def PairsAt (H : Hp) (ys : List V) (rs : List (Key × V)) : Prop := ys.length = rs.length ∧ ∀ i (h : i < rs.length), ∃ b, ys[i]? = some (.ref b) ∧ H b = some (.tup [kV rs[i].1, rs[i].2])
def dictOf (rs : List (Key × V)) : List (Key × V) := rs.foldl (fun kvs r => putK kvs r.1 r.2) []
theorem foldPut_len (rs : List (Key × V)) : ∀ kvs : List (Key × V), (rs.foldl (fun kvs r => putK kvs r.1 r.2) kvs).length ≤ kvs.length + rs.length := by
  induction rs with
  | nil => intro kvs; exact Nat.le_refl _
  | cons r rs ih =>
    intro kvs
    have h1 := ih (putK kvs r.1 r.2)
    have h2 := length_putK kvs r.1 r.2
    rw [List.foldl_cons, List.length_cons]
    omega
theorem dictOf_len (rs : List (Key × V)) : (dictOf rs).length ≤ rs.length := by have := foldPut_len rs []; simpa [dictOf] using this
theorem dictOf_take (rs : List (Key × V)) (i : Nat) (h : i < rs.length) : dictOf (rs.take (i + 1)) = putK (dictOf (rs.take i)) rs[i].1 rs[i].2 := by
  unfold dictOf
  rw [List.take_add_one, List.getElem?_eq_getElem h, Option.toList_some, List.foldl_append]; rfl
section
variable {X : Cx}
theorem pairs_loop {pins : List (Addr × Obj)} {σ : St} {A : Around} {R : Result → Shared → Prop} {d it a : Addr} {ys : List V} {rs : List (Key × V)} (hA : A.handled = none) {H : Hp} (hH : H d = none) (hlen : rs.length ≤ sizeLine) (hp : PairsAt H ys rs) (ha : H a = some (.tup ys)) (hit : it ≠ d)
    (hR : ∀ s, Inv X pins σ (upd H d (.dK (dictOf rs))) s → R (.ok (.ret .none)) s) :
    ∀ (k i : Nat) (s : Shared), rs.length - i = k → i ≤ rs.length → Inv X pins σ (upd H d (.dK (dictOf (rs.take i)))) s → s.heap.IsTupleIter it a i → FpOk X pins (upd H d (.dK (dictOf (rs.take i)))) it →
      codeAny (model X.prog X.w) A (.builtin "dict.update.loop" ⟨[.ref d, .ref it, rawInt i, .none], []⟩) R s := by
  have had : a ≠ d := ne_of_none ha hH
  intro k
  induction k with
  | zero =>
    intro i s hk hi I st f
    have hin : i = rs.length := by omega
    subst hin
    refine codeAny_builtin F.entry_dict_update_loop ?_
    rw [Around.under_plainId F.plain_dict_update_loop _]
    show wpAny _ A.in1 (pyNext (.ref it) >>= _) _ _ s
    obtain ⟨its, rv, p, hz⟩ := I.tuple (SqT.of (by rw [upd_ne had]; exact ha))
    have hl := rv.length
    have hl2 := hp.1
    obtain ⟨f0, f1, f2, f3, f4, f5⟩ := f
    refine wpAny_bind (wpAny_pyNext_tuple_end (by simp [hA]) st (show s.heap.IsTuple a its.toArray from p) (by simp; omega) fun h' eb => ?_)
    have I1 := I.turned (t' := s.toks) (h' := h') (fun b o hb e => eb b o hb e) f0 f1 f3 f4 f5
    rw [List.take_length] at I1
    show wpAny _ _ (Builtin.Dict.addKeywords d [] >>= fun _ => ret .none) _ _ _
    exact wpAny_bind (wpAny_pure (wpAny_pure (hR _ I1)))
  | succ k ih =>
    intro i s hk hi I st f
    have hlt : i < rs.length := by omega
    refine codeAny_builtin F.entry_dict_update_loop ?_
    rw [Around.under_plainId F.plain_dict_update_loop _]
    show wpAny _ A.in1 (pyNext (.ref it) >>= _) _ _ s
    obtain ⟨its, rv, p, hz⟩ := I.tuple (SqT.of (by rw [upd_ne had]; exact ha))
    obtain ⟨b, hb1, hb2⟩ := hp.2 i hlt
    obtain ⟨u, hu, ru⟩ := rv.get hb1
    cases ru
    obtain ⟨f0, f1, f2, f3, f4, f5⟩ := id f
    refine wpAny_bind (wpAny_pyNext_tuple_item st (show s.heap.IsTuple a its.toArray from p) (x := .ref b) (by simpa using hu) fun h' st' sb => ?_)
    have I1 : Inv X pins σ (upd H d (.dK (dictOf (rs.take i)))) { s with heap := h' } := I.turned (t' := s.toks) (fun b o hb e => (sb.2 b hb).trans e) f0 f1 f3 f4 f5
    have hbd : b ≠ d := ne_of_none hb2 hH
    obtain ⟨its2, rv2, ⟨ob, ho, hc, n, hd2⟩, hz2⟩ := I1.tuple (SqT.of (a := b) (by rw [upd_ne hbd]; exact hb2))
    obtain ⟨u1, u2, rfl, r1, r2⟩ := rv2.two
    show wpAny _ A.in1 (holding [Value.ref b] _ >>= _) _ _ _
    refine wpAny_bind (wpAny_holding (wpAny_bind (wpAny_tryCatch ?_)))
    unfold Builtin.Dict.pairItems
    refine wpAny_bind (wpAny_typeOf (T := "tuple") ⟨ob, ho, hc⟩ ?_)
    rw [if_pos (by decide)]
    refine wpAny_bind (wpAny_seqItems ho hd2 (wpAny_pure ?_))
    show wpAny _ A.in1 (holding [u1, u2] (dictSet d u1 u2)) _ _ _
    refine wpAny_holding ?_
    obtain ⟨z, hd, vs, rel, dd⟩ := dk_of I1.hok (upd_same : upd H d (.dK (dictOf (rs.take i))) d = _)
    have hl0 := dictOf_len (rs.take i)
    rw [List.length_take] at hl0
    have hl1 : (dictOf (rs.take i)).length < sizeLine := by omega
    have hzz : vs.length ≤ sizeLine := by rw [← rel.length]; exact z
    have hlen' : (putK (dictOf (rs.take i)) rs[i].1 rs[i].2).length ≤ sizeLine := by have := length_putK (dictOf (rs.take i)) rs[i].1 rs[i].2; omega
    refine wpAny_dictSet_pairs (hsz := hzz) (kV_is r1) dd fun h2 dd' hs => ?_
    have he9 : ∃ q, h2.get? d = some q := let ⟨q, _, _, hq, _⟩ := dd'; ⟨q, hq⟩
    have I10 := d_write (t' := s.toks + 1) (ob := .dK (putK (dictOf (rs.take i)) rs[i].1 rs[i].2)) I1 (by rw [upd_same]; exact True.intro) hs he9 (dk_new hlen' hd (rel.put _ r2) dd')
    rw [upd_upd, ← dictOf_take rs i hlt] at I10
    refine wpAny_pure ⟨plainId_quiet F.plain_dict_update_loop _, ?_⟩
    exact ih (i + 1) _ (by omega) hlt I10 (st'.at fun o q => (hs.2 it hit).trans q) ⟨by rw [upd_ne hit] at f0 ⊢; exact f0, f1, f2, f3, f4, f5⟩
end
end L2
set_option maxRecDepth 100000
namespace L2
open PySem PySem.Spec PyProof.Rows
section
variable {X : Cx}
def rDictOf : List V → Hp → VK → Prop := fun xs H Q => ∃ a ys rs, xs = [.ref a] ∧ H a = some (.tup ys) ∧ PairsAt H ys rs ∧ rs.length ≤ sizeLine ∧ ∀ d, H d = none → Q (.ref d) (upd H d (.dK (dictOf rs)))
theorem call_dict_of (hc : X.calm = true) : CallR X (.type "dict") rDictOf := by
  intro pins s σ H xs us Q I r h
  obtain ⟨a, ys, rs, rfl, ha, hp, hl, q⟩ := h
  obtain ⟨u, rfl, ru⟩ := r.one
  cases ru
  refine callType_codes (Q₁ := fun obj s₁ => obj = .ref s.heap.objs.size ∧ s₁ = { s with heap := s.heap.push { cls := .type "dict", data := .dict #[] } }) F.kt_called_dict (F.kt_typeCall_dict_1 _) F.entry_dict_init (kt_code_dict_new _ ⟨rfl, rfl⟩) ?_
  rintro obj s₁ ⟨rfl, rfl⟩
  have fr : H s.heap.objs.size = none := I.hok.fresh (Nat.le_refl _)
  have hnew : (s.heap.push { cls := .type "dict", data := .dict #[] }).DictOf (mixKind X.prog X.w) s.heap.objs.size [] := Heap.DictOf.new s.heap
  have I1 : Inv X pins σ (upd H s.heap.objs.size (.dK [])) { s with heap := s.heap.push { cls := .type "dict", data := .dict #[] } } := I.laid (t' := s.toks) (fun b u e => Heap.get?_push_of_some _ e) (Nat.le_refl _)
    ⟨Nat.zero_le _, beq_eq_false_iff_ne.mpr (Ne.symm (Nat.ne_of_lt I.big)), [], .nil, hnew⟩
  have had : a ≠ s.heap.objs.size := ne_of_none ha fr
  obtain ⟨⟨z, nd⟩, its, rv, o, ho, hcl, n, hd⟩ := (show ObjOk X.prog X.w _ _ a (.tup ys) from I1.hok a _ (by rw [upd_ne had]; exact ha))
  refine ⟨hnew.typeIs, F.args_dict_init_2 _ _, ?_⟩
  unfold Builtin.«dict.__init__»
  refine wpAny_bind ?_
  unfold Builtin.Dict.selfAndRest
  refine wpAny_bind (wpAny_notOrdered_dict hnew.typeIs ?_)
  show wpAny _ _ (pure (s.heap.objs.size, [Value.ref a])) _ _ _
  refine wpAny_pure ?_
  show wpAny _ _ (Builtin.Dict.updateFrom "dict.__init__" s.heap.objs.size (.ref a) [] .none) _ _ _
  unfold Builtin.Dict.updateFrom
  refine wpAny_bind (wpAny_typeOf (T := "tuple") ⟨o, ho, hcl⟩ ?_)
  rw [if_pos (by decide)]
  have hh : X.A.handled = none := I.ok.hd hc
  refine wpAny_bind (ask_keys_tuple ho hcl hd (nd _ ho) (by simp [hh]) fun h' tk hk => ?_)
  rw [if_pos (by rfl)]
  refine wpAny_bind (wpAny_rule ?_)
  have I2 : Inv X pins σ (upd H s.heap.objs.size (.dK [])) { s with heap := h', toks := tk } := I1.kept (t' := tk) hk
  obtain ⟨its2, rv2, p2, hz2⟩ := I2.tuple (SqT.of (a := a) (xs := ys) (by rw [upd_ne had]; exact ha))
  refine wpAny_bind (wpAny_pyIter_tuple (show Heap.IsTuple h' a its2.toArray from p2) ?_)
  have hsz : s.heap.objs.size < h'.objs.size := by
    obtain ⟨_, _, _, e, _⟩ := hnew
    exact Heap.lt_size (hk _ _ e)
  refine wpAny_pure ⟨plainId_quiet F.plain_dict_update_loop _, ?_⟩
  refine pairs_loop (X := X) (pins := pins) (σ := σ) (by simp [hh]) fr hl hp ha (Nat.ne_of_gt hsz) (fun s' I' => ⟨rfl, .ref s.heap.objs.size, _, I', rfl, q _ fr⟩) rs.length 0 _ rfl (Nat.zero_le _) (I2.kept (t' := tk) fun b o e => Heap.get?_push_of_some _ e) ⟨_, Heap.get?_push_size _ rfl, rfl, rfl⟩ (I2.fpOk (Nat.le_refl _) (I2.hok.fresh (Nat.le_refl _)))
end
end L2
set_option maxRecDepth 100000
namespace L2
open PySem PySem.Spec PyProof.Rows
def Tk (H H' : Hp) : Prop := ∀ b xs, H b = some (.tup xs) → H' b = some (.tup xs)
theorem Tk.refl {H : Hp} : Tk H H := fun _ _ h => h
theorem Tk.trans {H H1 H2 : Hp} (a : Tk H H1) (b : Tk H1 H2) : Tk H H2 := fun c xs h => b c xs (a c xs h)
theorem Same.ts {H H' : Hp} (s : Same H H') : Tk H H' := fun b xs h => s b _ h
theorem PenAt.ts {H H' : Hp} {p w : Addr} {t : Nat} (h : PenAt H p w t) (s : Sm p w H H') : Tk H H' := fun b xs e => by
  obtain ⟨m, c, ws, h1, h2, _⟩ := h.ex
  exact s b _ e (ne_of e h1 (by intro z; cases z)) (ne_of e h2 (by intro z; cases z))
theorem Tk.upd {H H' : Hp} {a : Addr} {o : HO} (s : Tk H H') (h : H' a = none) : Tk H (L2.upd H' a o) := fun b xs e => by rw [upd_ne (ne_of_none (s b xs e) h)]; exact s b xs e
theorem Tk.set {H H' : Hp} {a : Addr} {o o' : HO} (s : Tk H H') (h : H' a = some o) (hn : ∀ xs, o ≠ .tup xs) : Tk H (L2.upd H' a o') := fun b xs e => by
  rw [upd_ne (fun z => by rw [z] at e; have := s a xs e; rw [h] at this; cases this; exact hn _ rfl)]; exact s b xs e
inductive TDen (H : Hp) : V → PyData → Prop
  | str (z : Str) : TDen H (.str z) (.str z)
  | tup {a : Addr} {xs : List V} {ds : List PyData} : H a = some (.tup xs) → xs.length = ds.length → (∀ i (h : i < xs.length) (h' : i < ds.length), TDen H xs[i] ds[i]) → TDen H (.ref a) (.tuple ds)
theorem TDen.ts {H H' : Hp} (s : Tk H H') {v : V} {d : PyData} (h : TDen H v d) : TDen H' v d := by
  induction h with
  | str z => exact .str z
  | tup e hl _ ih => exact .tup (s _ _ e) hl ih
theorem showableAll_of : ∀ {ds : List PyData}, (∀ d ∈ ds, d.showable = true) → PyData.showableAll ds = true
  | [], _ => by simp [PyData.showableAll]
  | d :: ds, h => by simp [PyData.showableAll, h d List.mem_cons_self, showableAll_of fun x hx => h x (List.mem_cons_of_mem _ hx)]
theorem hasDictAll_of : ∀ {ds : List PyData}, (∀ d ∈ ds, d.hasDict = false) → PyData.hasDictAll ds = false
  | [], _ => by simp [PyData.hasDictAll]
  | d :: ds, h => by simp [PyData.hasDictAll, h d List.mem_cons_self, hasDictAll_of fun x hx => h x (List.mem_cons_of_mem _ hx)]
theorem depthAll_le {k : Nat} : ∀ {ds : List PyData}, (∀ d ∈ ds, d.depth ≤ k) → PyData.depthAll ds ≤ k
  | [], _ => by simp [PyData.depthAll]
  | d :: ds, h => by
    have h1 := h d List.mem_cons_self
    have h2 := depthAll_le (ds := ds) fun x hx => h x (List.mem_cons_of_mem _ hx)
    simp [PyData.depthAll]; omega
theorem sum_le {n : Nat} : ∀ {ts : List Str}, (∀ t ∈ ts, t.length ≤ n) → (ts.map (·.length)).sum ≤ ts.length * n
  | [], _ => by simp
  | t :: ts, h => by
    have h1 := h t List.mem_cons_self
    have h2 := sum_le (ts := ts) fun x hx => h x (List.mem_cons_of_mem _ hx)
    rw [List.map_cons, List.sum_cons, List.length_cons, Nat.add_mul]; omega
def TB (H : Hp) (v : V) (k n : Nat) : Prop := ∃ d, TDen H v d ∧ d.depth ≤ k ∧ d.shown.length ≤ n ∧ d.showable = true ∧ d.hasDict = false
def Wd (z : Str) : Prop := z.length ≤ 20 ∧ ∀ c ∈ z.cps.toList, c < 128
theorem TB.mono {H : Hp} {v : V} {k n k' n' : Nat} (h : TB H v k n) (hk : k ≤ k') (hn : n ≤ n') : TB H v k' n' := by
  obtain ⟨d, h1, h2, h3, h4, h5⟩ := h
  exact ⟨d, h1, by omega, by omega, h4, h5⟩
theorem TB.ts {H H' : Hp} (s : Tk H H') {v : V} {k n : Nat} (h : TB H v k n) : TB H' v k n := by
  obtain ⟨d, h1, h2⟩ := h
  exact ⟨d, h1.ts s, h2⟩
theorem TB.str {H : Hp} {z : Str} (h : Wd z) : TB H (.str z) 0 202 := by
  refine ⟨.str z, .str z, by simp [PyData.depth], ?_, by simp [PyData.showable], by simp [PyData.hasDict]⟩
  show (PyData.str z).shown.length ≤ 202
  simp only [PyData.shown]
  have := StrLaws.reprText_len z (fun c hc => Nat.lt_of_lt_of_le (h.2 c hc) (by decide))
  have := h.1
  omega
theorem TB.tup {H : Hp} {a : Addr} {xs : List V} {k n : Nat} (e : H a = some (.tup xs)) (h : ∀ x ∈ xs, TB H x k n) : TB H (.ref a) (k + 1) (xs.length * (n + 2) + 3) := by
  have hc : ∀ i : Fin xs.length, ∃ d, TDen H xs[i.val] d ∧ d.depth ≤ k ∧ d.shown.length ≤ n ∧ d.showable = true ∧ d.hasDict = false := fun i => h _ (List.getElem_mem i.isLt)
  obtain ⟨f, hf⟩ := Classical.axiomOfChoice hc
  have hm : ∀ d ∈ List.ofFn f, d.depth ≤ k ∧ d.shown.length ≤ n ∧ d.showable = true ∧ d.hasDict = false := fun d hd => by
    obtain ⟨i, rfl⟩ := List.mem_ofFn.mp hd
    exact (hf i).2
  refine ⟨.tuple (List.ofFn f), .tup e (by simp) fun i h1 h2 => ?_, ?_, ?_, ?_, ?_⟩
  · have := (hf ⟨i, h1⟩).1
    simpa using this
  · simp only [PyData.depth]
    have := depthAll_le (fun d hd => (hm d hd).1)
    omega
  · simp only [PyData.shown]
    have h1 := tupleText_len_le (PyData.shownAll (List.ofFn f))
    have e2 : PyData.shownAll (List.ofFn f) = (List.ofFn f).map PyData.shown := shownAll_eq_map _
    have h2 : ((PyData.shownAll (List.ofFn f)).map (·.length)).sum ≤ (PyData.shownAll (List.ofFn f)).length * n := sum_le fun t ht => by
      rw [e2] at ht
      obtain ⟨d, hd, rfl⟩ := List.mem_map.mp ht
      exact (hm d hd).2.1
    have h3 : (PyData.shownAll (List.ofFn f)).length = xs.length := by rw [e2]; simp
    rw [h3] at h1 h2
    rw [Nat.mul_add]; omega
  · simp only [PyData.showable]
    exact showableAll_of fun d hd => (hm d hd).2.2.1
  · simp only [PyData.hasDict]
    exact hasDictAll_of fun d hd => (hm d hd).2.2.2
theorem valV_dictOf (rs : List (Key × V)) : (rs.map (·.1)).Nodup → ∀ i (h : i < rs.length), valV (dictOf rs) rs[i].1 = some rs[i].2 := by
  have gen : ∀ (rs : List (Key × V)) (kvs : List (Key × V)), (rs.map (·.1)).Nodup → ∀ k, valV (rs.foldl (fun kvs r => putK kvs r.1 r.2) kvs) k = ((rs.find? fun r => decide (r.1 = k)).map (·.2)).or (valV kvs k) := by
    intro rs
    induction rs with
    | nil => intro kvs _ k; simp
    | cons r rs ih =>
      intro kvs hn k
      rw [List.map_cons, List.nodup_cons] at hn
      rw [List.foldl_cons, ih _ hn.2, valV_put]
      by_cases e : r.1 = k
      · have : rs.find? (fun r => decide (r.1 = k)) = none := by
          rw [List.find?_eq_none]
          intro x hx z
          have z' := of_decide_eq_true z
          exact hn.1 (List.mem_map.mpr ⟨x, hx, by rw [z', e]⟩)
        rw [this, List.find?_cons, if_pos e.symm]
        simp [e]
      · rw [if_neg (fun z => e z.symm), List.find?_cons]
        simp [e]
  intro hn i h
  unfold dictOf
  rw [gen rs [] hn]
  have : rs.find? (fun r => decide (r.1 = rs[i].1)) = some rs[i] := by
    rw [List.find?_eq_some_iff_getElem]
    refine ⟨by simp, i, h, rfl, fun j hj => ?_⟩
    have hne : (rs.map (·.1))[j]'(by simp; omega) ≠ (rs.map (·.1))[i]'(by simpa using h) := fun z => by
      exact (List.pairwise_iff_getElem.mp hn j i (by simp; omega) (by simpa using h) hj) z
    simpa using hne
  rw [this]; rfl
abbrev rowsK (rs : List (Str × V)) : List (Key × V) := rs.map fun r => (Sum.inr r.1, r.2)
def AsV (H : Hp) (v : V) (o : Option Str) : Prop := ∃ b, v = .ref b ∧ ((∃ s ys, H b = some (.tup (.str s :: ys)) ∧ s ≠ "as" ∧ o = none) ∨ ∃ x, H b = some (.tup [.str "as", .str x]) ∧ o = some x)
theorem AsV.ts {H H' : Hp} (s : Tk H H') {v : V} {o : Option Str} (h : AsV H v o) : AsV H' v o := by
  obtain ⟨b, e, h⟩ := h
  refine ⟨b, e, ?_⟩
  rcases h with ⟨z, ys, h1, h2⟩ | ⟨x, h1, h2⟩
  · exact .inl ⟨z, ys, s _ _ h1, h2⟩
  · exact .inr ⟨x, s _ _ h1, h2⟩
structure GoodT (H : Hp) (a : Addr) (xs : List V) (rs : List (Str × V)) (nx : Str → Option Str) (ρ : Str → Nat) : Prop where
  at_ : H a = some (.tup xs)
  ps : PairsAt H xs (rowsK rs)
  nd : (rs.map (·.1)).Nodup
  len : rs.length ≤ 300
  pos : 0 < rs.length
  as : ∀ r ∈ rs, AsV H r.2 (nx r.1)
  inn : ∀ r ∈ rs, ∀ y, nx r.1 = some y → y ∈ rs.map (·.1) ∧ ρ y < ρ r.1
  rk : ∀ r ∈ rs, ρ r.1 ≤ rs.length
  tb : ∀ r ∈ rs, Wd r.1 ∧ TB H r.2 3 8273
theorem PairsAt.ts {H H' : Hp} {ys : List V} {rs : List (Key × V)} (p : PairsAt H ys rs) (s : Tk H H') : PairsAt H' ys rs := ⟨p.1, fun i h => let ⟨b, e1, e2⟩ := p.2 i h; ⟨b, e1, s _ _ e2⟩⟩
section
variable {H H' : Hp} {a : Addr} {xs : List V} {rs : List (Str × V)} {nx : Str → Option Str} {ρ : Str → Nat}
theorem GoodT.ts (g : GoodT H a xs rs nx ρ) (s : Tk H H') : GoodT H' a xs rs nx ρ :=
  ⟨s _ _ g.at_, g.ps.ts s, g.nd, g.len, g.pos, fun r hr => (g.as r hr).ts s, g.inn, g.rk, fun r hr => ⟨(g.tb r hr).1, (g.tb r hr).2.ts s⟩⟩
theorem rowsK_nd (h : (rs.map (·.1)).Nodup) : ((rowsK rs).map (·.1)).Nodup := by
  have e : (rowsK rs).map (·.1) = (rs.map (·.1)).map (Sum.inr : Str → Key) := by simp [rowsK, List.map_map, Function.comp_def]
  rw [e]
  exact List.Pairwise.map _ (fun a b hab z => hab (Sum.inr.inj z)) h
theorem GoodT.get (g : GoodT H a xs rs nx ρ) {x : Str} (hx : x ∈ rs.map (·.1)) : ∃ v, (x, v) ∈ rs ∧ valV (dictOf (rowsK rs)) (.inr x) = some v := by
  obtain ⟨r, hr, rfl⟩ := List.mem_map.mp hx
  obtain ⟨i, hi, rfl⟩ := List.getElem_of_mem hr
  refine ⟨rs[i].2, hr, ?_⟩
  have := valV_dictOf (rowsK rs) (rowsK_nd g.nd) i (by simpa using hi)
  simpa using this
def stp (nx : Str → Option Str) (x : Str) : Str := (nx x).getD x
def stps (nx : Str → Option Str) : Nat → Str → Str
  | 0, x => x
  | n + 1, x => stps nx n (stp nx x)
theorem stps_stay (n : Nat) {x : Str} (h : nx x = none) : stps nx n x = x := by
  induction n with
  | zero => rfl
  | succ n ih => rw [stps]; rw [show stp nx x = x by simp [stp, h]]; exact ih
theorem GoodT.run (g : GoodT H a xs rs nx ρ) : ∀ (n : Nat) (x : Str), x ∈ rs.map (·.1) → ρ x ≤ n → stps nx n x ∈ rs.map (·.1) ∧ nx (stps nx n x) = none ∧ stps nx (n + 1) x = stps nx n x := by
  intro n
  induction n with
  | zero =>
    intro x hx hr
    obtain ⟨r, hr', rfl⟩ := List.mem_map.mp hx
    cases e : nx r.1 with
    | none => exact ⟨hx, e, stps_stay 1 e⟩
    | some y => have := (g.inn r hr' y e).2; omega
  | succ n ih =>
    intro x hx hr
    obtain ⟨r, hr', rfl⟩ := List.mem_map.mp hx
    cases e : nx r.1 with
    | none =>
      rw [stps_stay _ e, stps_stay _ e]
      exact ⟨hx, e, rfl⟩
    | some y =>
      have e2 : stp nx r.1 = y := by simp [stp, e]
      obtain ⟨h1, h2⟩ := g.inn r hr' y e
      have := ih y h1 (by omega)
      rw [stps, stps, e2]
      exact this
def rowEnd (nx : Str → Option Str) (n : Nat) (x : Str) : Str := stps nx n x
theorem GoodT.endIn (g : GoodT H a xs rs nx ρ) {x : Str} (hx : x ∈ rs.map (·.1)) : rowEnd nx rs.length x ∈ rs.map (·.1) ∧ nx (rowEnd nx rs.length x) = none := by
  obtain ⟨r, hr, rfl⟩ := List.mem_map.mp hx
  obtain ⟨h1, h2, _⟩ := g.run rs.length r.1 hx (g.rk r hr)
  exact ⟨h1, h2⟩
theorem GoodT.endStep (g : GoodT H a xs rs nx ρ) {x y : Str} (hx : x ∈ rs.map (·.1)) (e : nx x = some y) : rowEnd nx rs.length y = rowEnd nx rs.length x := by
  obtain ⟨r, hr, rfl⟩ := List.mem_map.mp hx
  obtain ⟨h1, h2, h3⟩ := g.run rs.length r.1 hx (g.rk r hr)
  have e2 : stp nx r.1 = y := by simp [stp, e]
  rw [stps, e2] at h3
  exact h3
end
end L2
set_option maxRecDepth 100000
namespace L2
open PySem PySem.Spec PyProof.Rows
theorem mem_gluedFold (sep : Str) (c : Nat) : ∀ (rest : List Str) (acc : Array Nat), c ∈ (rest.foldl (fun acc p => acc ++ sep.cps ++ p.cps) acc).toList → c ∈ acc.toList ∨ c ∈ sep.cps.toList ∨ ∃ p ∈ rest, c ∈ p.cps.toList
  | [], acc, h => .inl h
  | p :: rest, acc, h => by
    rcases mem_gluedFold sep c rest _ h with h | h | ⟨q, h1, h2⟩
    · simp only [Array.toList_append, List.mem_append] at h
      rcases h with (h | h) | h
      · exact .inl h
      · exact .inr (.inl h)
      · exact .inr (.inr ⟨p, List.mem_cons_self, h⟩)
    · exact .inr (.inl h)
    · exact .inr (.inr ⟨q, List.mem_cons_of_mem _ h1, h2⟩)
theorem mem_join {sep : Str} {c : Nat} {ys : List Str} (h : c ∈ (Txt.join sep ys).cps.toList) : c ∈ sep.cps.toList ∨ ∃ y ∈ ys, c ∈ y.cps.toList := by
  have h' : c ∈ (Builtin.Str.glued sep ys).cps.toList := h
  cases ys with
  | nil =>
    rw [StrLaws.glued_eq_join] at h'
    simp [Str.join] at h'
    exact absurd h' (by intro z; exact nomatch z)
  | cons y ys =>
    have e : Builtin.Str.glued sep (y :: ys) = ⟨ys.foldl (fun acc p => acc ++ sep.cps ++ p.cps) y.cps⟩ := by rw [StrLaws.glued_eq_join, StrLaws.glued_cons]
    rw [e] at h'
    rcases mem_gluedFold sep c ys y.cps h' with h | h | ⟨p, h1, h2⟩
    · exact .inr ⟨y, List.mem_cons_self, h⟩
    · exact .inl h
    · exact .inr ⟨p, List.mem_cons_of_mem _ h1, h2⟩
theorem cut_from (xs : List V) (k : Nat) : cutV xs (some (k : Int)) none = xs.drop k := by
  unfold cutV
  rw [HT.sIx_nat, HT.sIx_none]
  by_cases h : k ≤ xs.length
  · rw [Nat.min_eq_left h]
    exact List.take_of_length_le (by simp)
  · rw [Nat.min_eq_right (by omega)]
    simp [List.drop_eq_nil_of_le (show xs.length ≤ k by omega)]
theorem cut_to (xs : List V) (k : Nat) : cutV xs none (some (k : Int)) = xs.take k := by
  unfold cutV
  rw [HT.sIx_nat, HT.sIx_none]
  simp
theorem nodup_get {α : Type} {l : List α} (h : l.Nodup) {i j : Nat} {x : α} (hi : l[i]? = some x) (hj : l[j]? = some x) : i = j := by
  obtain ⟨a, e1⟩ := List.getElem?_eq_some_iff.mp hi
  obtain ⟨b, e2⟩ := List.getElem?_eq_some_iff.mp hj
  rcases Nat.lt_trichotomy i j with z | z | z
  · exact ((List.pairwise_iff_getElem.mp h i j a b z) (e1.trans e2.symm)).elim
  · exact z
  · exact ((List.pairwise_iff_getElem.mp h j i b a z) (e2.trans e1.symm)).elim
theorem idxOf_get {α : Type} [BEq α] [LawfulBEq α] {l : List α} (h : l.Nodup) {i : Nat} {x : α} (hi : l[i]? = some x) : l.idxOf x = i := by
  have hm : x ∈ l := List.mem_of_getElem? hi
  have h1 : l.idxOf x < l.length := List.idxOf_lt_length_of_mem hm
  have h2 : l[l.idxOf x]? = some x := by rw [List.getElem?_eq_getElem h1, List.getElem_idxOf]
  exact nodup_get h h2 hi
open Classical in
theorem wd_ascii {z : Str} (h1 : z.length ≤ 20) (h2 : ∀ c ∈ z.cps.toList, c < 128) : Wd z := ⟨h1, h2⟩
theorem PenAt.neL {H : Hp} {p w l : Addr} {t : Nat} {ss : List Str} (h : PenAt H p w t) (e : H l = some (.lst (ss.map V.str))) (h0 : ss ≠ []) : l ≠ p ∧ l ≠ w := by
  obtain ⟨m, c, ws, h1, h2, _⟩ := h.ex
  refine ⟨ne_of e h1 (by intro z; cases z), ne_of e h2 fun z => ?_⟩
  cases ss with
  | nil => exact h0 rfl
  | cons s ss =>
    injection z with z
    cases ws with
    | nil => cases z
    | cons x ws => injection z with z; cases z
end L2
set_option maxRecDepth 100000
namespace L2
open PySem PySem.Spec PyProof.Rows
section
variable {α β : Type} {R : α → β → Prop}
theorem prd_append : ∀ {xs xs' : List α} {ys ys' : List β}, Paired R xs ys → Paired R xs' ys' → Paired R (xs ++ xs') (ys ++ ys')
  | _, _, _, _, .nil, h => h
  | _, _, _, _, .cons a r, h => .cons a (prd_append r h)
theorem prd_take : ∀ {xs : List α} {ys : List β} (k : Nat), Paired R xs ys → Paired R (xs.take k) (ys.take k)
  | _, _, 0, _ => by simp only [List.take_zero]; exact .nil
  | _, _, k + 1, .nil => .nil
  | _, _, k + 1, .cons a r => .cons a (prd_take k r)
theorem prd_drop : ∀ {xs : List α} {ys : List β} (k : Nat), Paired R xs ys → Paired R (xs.drop k) (ys.drop k)
  | _, _, 0, h => by simp only [List.drop_zero]; exact h
  | _, _, k + 1, .nil => .nil
  | _, _, k + 1, .cons a r => prd_drop k r
theorem prd_mk : ∀ {xs : List α} {ys : List β}, xs.length = ys.length → (∀ i (h : i < xs.length) (h' : i < ys.length), R xs[i] ys[i]) → Paired R xs ys
  | [], [], _, _ => .nil
  | x :: xs, y :: ys, hl, h => .cons (h 0 (by simp) (by simp)) (prd_mk (by simpa using hl) fun i a b => h (i + 1) (by simpa using a) (by simpa using b))
theorem prd_get : ∀ {xs : List α} {ys : List β}, Paired R xs ys → xs.length = ys.length ∧ ∀ i (h : i < xs.length) (h' : i < ys.length), R xs[i] ys[i]
  | _, _, .nil => ⟨rfl, fun i h => absurd h (by simp)⟩
  | _, _, .cons a r => by
    obtain ⟨h1, h2⟩ := prd_get r
    refine ⟨by simp [h1], fun i h h' => ?_⟩
    cases i with
    | zero => exact a
    | succ i => exact h2 i (by simpa using h) (by simpa using h')
end
def PR (H : Hp) (x : V) (r : Key × V) : Prop := ∃ b, x = .ref b ∧ H b = some (.tup [kV r.1, r.2])
theorem pairs_iff {H : Hp} {xs : List V} {rs : List (Key × V)} : PairsAt H xs rs ↔ Paired (PR H) xs rs := by
  constructor
  · rintro ⟨hl, h⟩
    refine prd_mk hl fun i h1 h2 => ?_
    obtain ⟨b, e1, e2⟩ := h i h2
    rw [List.getElem?_eq_getElem h1] at e1
    exact ⟨b, Option.some.inj e1, e2⟩
  · intro h
    obtain ⟨hl, h'⟩ := prd_get h
    refine ⟨hl, fun i h2 => ?_⟩
    obtain ⟨b, e1, e2⟩ := h' i (by omega) h2
    exact ⟨b, by rw [List.getElem?_eq_getElem (by omega), e1], e2⟩
section
variable {H : Hp} {xs : List V} {rs : List (Str × V)}
theorem rowsK_append (a b : List (Str × V)) : rowsK (a ++ b) = rowsK a ++ rowsK b := by simp [rowsK]
theorem rowsK_take (k : Nat) : rowsK (rs.take k) = (rowsK rs).take k := by simp [rowsK, List.map_take]
theorem rowsK_drop (k : Nat) : rowsK (rs.drop k) = (rowsK rs).drop k := by simp [rowsK, List.map_drop]
theorem pairs_nil : PairsAt H [] (rowsK []) := pairs_iff.mpr .nil
theorem pairs_rot (h : PairsAt H xs (rowsK rs)) (k : Nat) : PairsAt H (xs.drop k ++ xs.take k) (rowsK (rs.drop k ++ rs.take k)) := by
  rw [rowsK_append, rowsK_take, rowsK_drop]
  have := pairs_iff.mp h
  exact pairs_iff.mpr (prd_append (prd_drop k this) (prd_take k this))
theorem pairs_snoc (h : PairsAt H xs (rowsK rs)) {b : Addr} {n : Str} {v : V} (e : H b = some (.tup [.str n, v])) : PairsAt H (xs ++ [.ref b]) (rowsK (rs ++ [(n, v)])) := by
  rw [rowsK_append]
  exact pairs_iff.mpr (prd_append (pairs_iff.mp h) (.cons ⟨b, rfl, e⟩ .nil))
end
theorem perm_rot {α : Type} (l : List α) (k : Nat) : (l.drop k ++ l.take k).Perm l := by
  have h : (l.take k ++ l.drop k).Perm l := by rw [List.take_append_drop]
  exact List.perm_append_comm.trans h
end L2
set_option maxRecDepth 100000
namespace L2
open PySem PySem.Spec PyProof.Rows
section
variable {X : Cx} {pins : List (Addr × Obj)} {σ : St} {H : Hp} {s : Shared}
end
section
variable {X : Cx} {e1 e2 : Expr} {p pos : Pos} {k : Nat} {g1 g2 : TG}
end
def KD (w : World) (K : PySem.W.Frag) (a : Addr) (kvs : List (Key × V)) : Prop := ∀ P : Program, ∃ (o : Obj) (es : Array DictEntry) (ep : Nat) (vs : List (Key × Value)), K.lookup a = some o ∧ (a == sysModules) = false ∧ o.ExactDict ∧ o.data = .dict es ep ∧ KeysOf (mixKind P w) es ∧ Pairs (mixKind P w) es.toList vs ∧ (vs.map (·.1)).Nodup ∧ KV kvs vs
section
variable {X : Cx} {pins : List (Addr × Obj)} {σ : St} {H : Hp} {s : Shared} {a : Addr} {kvs : List (Key × V)}
theorem KD.of (h : KD X.w X.K a kvs) (I : Inv X pins σ H s) : (a == sysModules) = false ∧ ∃ vs, KV kvs vs ∧ s.heap.DictOf (mixKind X.prog X.w) a vs := by
  obtain ⟨o, es, ep, vs, h1, h2, h3, h4, h5, h6, h7, h8⟩ := h X.prog
  exact ⟨h2, vs, h8, o, es, ep, I.kIn a o h1, h3, h4, h5, h6, h7⟩
variable {x : Str} {e : Expr} {pos p : Pos} {te : TE}
def tKIn (kvs : List (Key × V)) (te : TE) : TE := fun σ H Q => te σ H fun y H1 => ∃ k, y = kV k ∧ Q (.bl (valV kvs k).isSome) H1
theorem pc_kin {w : World} {K : PySem.W.Frag} (hx : ∃ a, X.mg x = some (.ref a) ∧ KD w K a kvs) (he : PE X e te) (hw : X.w = w) (hK : X.K = K) (hg : Gl X x) (hd : (x == ("__debug__" : Str)) = false) : PC X .In e (.Name x p) (tKIn kvs te) := by
  subst hw hK
  obtain ⟨a, hm, kd⟩ := hx
  intro pins s σ H Q I h
  refine thn (he pins s σ H _ I h) ?_
  rintro iv s1 ⟨y, H1, I1, ry, k, ey, q1⟩
  subst ey
  refine thn (pe_glob (v := .ref a) hg hm rfl hd pins s1 σ H1 (fun v H' => v = .ref a ∧ H' = H1) I1 ⟨rfl, rfl⟩) fun u s2 ⟨z, H2, I2, rz, ez, eH⟩ => ?_
  subst ez eH
  cases rz
  obtain ⟨h1, vs, rel, dd⟩ := kd.of I2
  refine wpAny_in_of (kV_is ry) h1 dd.mapOf ?_
  rw [← (rel.val k).isSome_eq]
  exact ⟨.bl _, _, I2.tok _, rfl, q1⟩
theorem y_kin {w : World} {K : PySem.W.Frag} (hx : ∃ a, X.mg x = some (.ref a) ∧ KD w K a kvs) (he : SE X e te) (hw : X.w = w := by rfl) (hK : X.K = K := by rfl) (hg : Gl X x := by rfl) (hd : (x == ("__debug__" : Str)) = false := by decide) : ST X (.Compare e [.In] [.Name x p] pos) (tB (tKIn kvs te)) := ⟨pt_cmp (pc_kin hx he.h hw hK hg hd) rfl⟩
def tKGet (kvs : List (Key × V)) (te : TE) : TE := fun σ H Q => te σ H fun y H1 => ∃ k v, y = kV k ∧ valV kvs k = some v ∧ Q v H1
theorem z_kget {w : World} {K : PySem.W.Frag} (hx : ∃ a, X.mg x = some (.ref a) ∧ KD w K a kvs) (he : SE X e te) (hs : NoSl e) (hw : X.w = w := by rfl) (hK : X.K = K := by rfl) (hg : Gl X x := by rfl) (hd : (x == ("__debug__" : Str)) = false := by decide) : SE X (.Subscript (.Name x p) e pos) (tKGet kvs te) := by
  subst hw hK
  obtain ⟨a, hm, kd⟩ := hx
  constructor
  intro pins s σ H Q I h
  refine subD_of PySem.F.slot_dict_getitem.lookup hs (thn (pe_glob (v := .ref a) hg hm rfl hd pins s σ H (fun v H' => v = .ref a ∧ H' = H) I ⟨rfl, rfl⟩) fun u s2 ⟨z, H2, I2, rz, ez, eH⟩ => ?_)
  subst ez eH
  cases rz
  refine thn (he.h pins s2 σ _ _ I2 h) ?_
  rintro iv s3 ⟨y, H3, I3, ry, k, v, ey, ev, q⟩
  subst ey
  obtain ⟨h1, vs, rel, dd⟩ := kd.of I3
  obtain ⟨w', hw, rw'⟩ := RelO.some_of (v := v) (o := valueAt vs k) (by rw [← ev]; exact rel.val k)
  exact ⟨dd.typeIs, wpAny_getItem_of (kV_is ry) dd.mapOf hw ⟨v, _, I3.tok _, rw', q⟩⟩
end
end L2
set_option maxRecDepth 100000
namespace L2
open PySem PySem.Spec PyProof.Rows
def keyAt (kvs : List (Key × V)) (i : Nat) : V := ((kvs[i]?).map fun kv => kV kv.1).getD .non
def Itk (a : Addr) (o : Obj) (kvs : List (Key × V)) : It := ⟨fun i H => H a = some (.frz o (.dK kvs)) ∧ i < kvs.length, fun i H x H' => H' = H ∧ x = keyAt kvs i, fun i H => H a = some (.frz o (.dK kvs)) ∧ kvs.length = i⟩
theorem itn_keys {a : Addr} {o : Obj} (kvs : List (Key × V)) : ItN (Itk a o kvs) (fun H => H a = some (.frz o (.dK kvs))) kvs.length (keyAt kvs) := fun H ok => ⟨fun i hi => ⟨⟨ok, hi⟩, fun x H' h => h⟩, ok, rfl⟩
theorem kv_get {kvs : List (Key × V)} {vs : List (Key × Value)} (r : KV kvs vs) : ∀ {i : Nat} {p : Key × V}, kvs[i]? = some p → ∃ q, vs[i]? = some q ∧ q.1 = p.1 := by
  intro i
  induction r generalizing i with
  | nil => intro p h; simp at h
  | cons a t ih =>
    intro p h
    cases i with
    | zero => simp at h; subst h; exact ⟨_, by simp, a.1.symm⟩
    | succ i => simp at h; simpa using ih h
theorem relV_key {P : Program} {w : World} {k : Key} {u : Value} (h : (mixKind P w).is k u = true) : RelV (kV k) u := by
  rcases keyIs_shape h with ⟨i, t, rfl, rfl⟩ | ⟨x, t, rfl, rfl⟩
  · exact ⟨t, rfl⟩
  · exact ⟨t, rfl⟩
theorem KV.len {kvs : List (Key × V)} {vs : List (Key × Value)} (r : KV kvs vs) : kvs.length = vs.length := Paired.length r
theorem turn_keys {P : Program} {w : World} {K : PySem.W.Frag} {tg : Expr} {a it : Addr} {o : Obj} {kvs : List (Key × V)} {ep : Nat} (hep : ∃ es, o.data = .dict es ep) : Turn P w K tg (Itk a o kvs) [it] it (fun i h => h.IsKeyIter it a i kvs.length ep) where
  mem := by simp
  obj := fun i h st b hb => by
    have e : b = it := by simpa using hb
    subst e
    obtain ⟨o, e, c, d⟩ := st
    exact ⟨o, e, fun v z => by rw [d] at z; cases z⟩
  keep := fun i h h' st k => st.at fun o e => k it (by simp) o e
  item := by
    intro X hP hw hK hc i pins s σ H E I hf st hg
    subst hP hw hK
    obtain ⟨hq, hi⟩ := hg
    obtain ⟨e, z, hd, vs, rel, ob, es, ep', h1, h2, h3, h4⟩ := (show ObjOk X.prog X.w H s.heap a (.frz o (.dK kvs)) from I.hok a _ hq)
    obtain ⟨es', he'⟩ := hep
    rw [e] at h1; cases h1
    rw [he'] at h3; injection h3 with h3a h3b
    subst h3a h3b
    obtain ⟨q, hq1, hq2⟩ := kv_get rel (List.getElem?_eq_getElem hi)
    have hl := rel.len
    obtain ⟨f0, f1, f2, f3, f4, f5⟩ := hf it (by simp)
    obtain ⟨qk, qv⟩ := q
    refine wpAny_pyNext_dict_item (knd := mixKind X.prog X.w) (kvs := vs) (ep := ep) (by rw [← hl]; exact st) ⟨o, es', e, h2, he', h4⟩ hq1 fun key h' hk st' sb => ?_
    have I1 : Inv X pins σ H { s with heap := h' } := I.turned (t' := s.toks) (fun b o hb e => (sb.2 b hb).trans e) f0 f1 f3 f4 f5
    have st2 : h'.IsKeyIter it a (i + 1) kvs.length ep := by rw [hl]; exact st'
    obtain ⟨o3, e3, c3, d3⟩ := id st2
    refine ⟨key, rfl, go_of (s := { s with heap := h' }) e3 c3 d3 (by decide) ⟨keyAt kvs i, H, I1, ?_, ⟨rfl, rfl⟩, st2, fun b hb => (hf b hb).1⟩⟩
    unfold keyAt
    rw [List.getElem?_eq_getElem hi]
    show RelV (kV kvs[i].1) key
    have hqk : qk = kvs[i].1 := hq2
    rw [← hqk]
    exact relV_key hk
  done := by
    intro X hP hw hK hc i pins s σ H E I hf st hg
    subst hP hw hK
    obtain ⟨hq, hi⟩ := hg
    obtain ⟨e, z, hd, vs, rel, ob, es, ep', h1, h2, h3, h4⟩ := (show ObjOk X.prog X.w H s.heap a (.frz o (.dK kvs)) from I.hok a _ hq)
    obtain ⟨es', he'⟩ := hep
    rw [e] at h1; cases h1
    rw [he'] at h3; injection h3 with h3a h3b
    subst h3a h3b
    have hl := rel.len
    obtain ⟨f0, f1, f2, f3, f4, f5⟩ := hf it (by simp)
    exact wpAny_pyNext_dict_end (knd := mixKind X.prog X.w) (kvs := vs) (ep := ep) (I.ok.hd hc) (by rw [← hl]; exact st) ⟨o, es', e, h2, he', h4⟩ (by simp; omega) fun h' eb => ⟨rfl, I.turned (t' := s.toks) (fun b o hb e => eb b o hb e) f0 f1 f3 f4 f5⟩
  self := fun _ _ _ _ _ st h => wpAny_pyIter_keyiter st h
theorem upd_self {H : Hp} {a : Addr} {o : HO} (h : H a = some o) : upd H a o = H := by
  funext b
  unfold upd
  by_cases e : b = a
  · rw [if_pos e, e, h]
  · rw [if_neg e]
section
variable {X : Cx}
theorem Inv.freeze {pins : List (Addr × Obj)} {σ : St} {H : Hp} {s : Shared} {a : Addr} {kvs : List (Key × V)} (I : Inv X pins σ H s) (h : Rd H a (.dK kvs)) : ∃ o es ep, o.data = .dict es ep ∧ Inv X pins σ (upd H a (.frz o (.dK kvs))) s ∧ s.heap.get? a = some o := by
  rcases h with h | ⟨o, h⟩
  · have ok := (show ObjOk X.prog X.w H s.heap a (.dK kvs) from I.hok a _ h)
    obtain ⟨z, hd, vs, rel, o, es, ep, h1, h2, h3, h4⟩ := ok
    have I2 := I.write (x := a) (e := a) (h' := s.heap) (t' := s.toks) (o := .frz o (.dK kvs)) (by rw [h]; exact True.intro) (.inl rfl) (fun b u _ q => q) ⟨o, h1⟩ ⟨h1, z, hd, vs, rel, o, es, ep, h1, h2, h3, h4⟩
    exact ⟨o, es, ep, h3, I2, h1⟩
  · obtain ⟨e, z, hd, vs, rel, ob, es, ep, h1, h2, h3, h4⟩ := (show ObjOk X.prog X.w H s.heap a (.frz o (.dK kvs)) from I.hok a _ h)
    rw [e] at h1; cases h1
    exact ⟨o, es, ep, h3, by rw [upd_self h]; exact I, e⟩
def iKeys (te : TE) : TI := fun σ H R => te σ H fun x H1 => ∃ a kvs, x = .ref a ∧ Rd H1 a (.dK kvs) ∧ ∀ o, R (Itk a o kvs) (upd H1 a (.frz o (.dK kvs)))
theorem pi_keys {tg e : Expr} {te : TE} (he : SE X e te) : SI X tg e (iKeys te) := by
  constructor
  intro pins s σ H R I h
  refine thn (he.h pins s σ H _ I h) ?_
  rintro v s1 ⟨x, H1, I1, r1, a, kvs, ex, hr, q⟩
  subst ex
  cases r1
  obtain ⟨o, es, ep, hd, I2, ho⟩ := I1.freeze hr
  obtain ⟨e, z, hdm, vs, rel, ob, es', ep', h1, h2, h3, h4⟩ := (show ObjOk X.prog X.w _ s1.heap a (.frz o (.dK kvs)) from I2.hok a _ upd_same)
  rw [e] at h1; cases h1
  rw [hd] at h3; injection h3 with h3a h3b
  subst h3a h3b
  refine wpAny_pyIter_dict (knd := mixKind X.prog X.w) (kvs := vs) (ep := ep) hdm ⟨o, es, e, h2, hd, h4⟩ ?_
  have hl := rel.len
  refine ⟨s1.heap.objs.size, [s1.heap.objs.size], _, _, _, rfl, I2.kept (t' := s1.toks) fun b o e => Heap.get?_push_of_some _ e, turn_keys (kvs := kvs) (a := a) (o := o) ⟨es, hd⟩, by rw [hl]; exact ⟨_, Heap.get?_push_size _ rfl, rfl, rfl⟩, fun b hb => ?_, q o⟩
  have e : b = s1.heap.objs.size := by simpa using hb
  subst e
  exact I2.fpOk (Nat.le_refl _) (I2.hok.fresh (Nat.le_refl _))
def rDIn (n : Bool) : R2 := fun y x H Q => ∃ a o, x = .ref a ∧ DGet H a y o ∧ Q (.bl (n ^^ o.isSome)) H
theorem op_dIn (hu : X.A.units + 1 < cLine) : OpR X (compareOp .In) (rDIn false) := by
  intro pins s σ H x y v u Q I rx ry h
  obtain ⟨a, o, rfl, g, q⟩ := h
  cases ry
  exact d_in hu I g rx fun s' I' => ⟨.bl o.isSome, H, I', rfl, by simpa using q⟩
theorem op_dNotIn (hu : X.A.units + 1 < cLine) : OpR X (compareOp .NotIn) (rDIn true) := by
  intro pins s σ H x y v u Q I rx ry h
  obtain ⟨a, o, rfl, g, q⟩ := h
  cases ry
  exact d_notIn hu I g rx fun s' I' => ⟨.bl (!o.isSome), H, I', rfl, by simpa using q⟩
end
theorem DGet.rd {H : Hp} {a : Addr} {kvs : List (Key × V)} {k : Key} (e : Rd H a (.dK kvs)) : DGet H a (kV k) (valV kvs k) := .inl ⟨kvs, k, e, rfl, rfl⟩
end L2
set_option maxRecDepth 100000
namespace L2
open PySem PySem.Spec PyProof.Rows
section
variable {X : Cx} {tg a b c : Expr} {ta : TA} {p pos : Pos}
end
inductive Dt where
  | str (z : Str)
  | tup (ds : List Dt)
  | oth
inductive DD (H : Hp) : V → Dt → Prop
  | str {z : Str} (h : z.length ≤ 100000) : DD H (.str z) (.str z)
  | tup {a : Addr} {xs : List V} {ds : List Dt} : H a = some (.tup xs) → xs.length = ds.length → xs.length ≤ 1000 → (∀ i (h : i < xs.length) (h' : i < ds.length), DD H xs[i] ds[i]) → DD H (.ref a) (.tup ds)
  | non : DD H .non .oth
  | bl (b : Bool) : DD H (.bl b) .oth
  | int (i : Int) : DD H (.int i) .oth
  | lst {a : Addr} {xs : List V} : H a = some (.lst xs) → DD H (.ref a) .oth
  | dct {a : Addr} {kvs : List (Key × V)} : H a = some (.dK kvs) → DD H (.ref a) .oth
def nameD : Dt → Bool | .str z => isName z | _ => false
def pairD : Dt → Bool | .tup [a, b] => nameD a && nameD b | _ => false
def fstS : Dt → Str | .tup (.str z :: _) => z | _ => ""
def strLt (a b : Str) : Bool := decide (a.cps.toList < b.cps.toList)
def rising : List Str → Bool
  | a :: b :: r => strLt a b && rising (b :: r)
  | _ => true
def pairsD : Dt → Bool | .tup ps => ps.all pairD && rising (ps.map fstS) | _ => false
def worded (s : Str) : Bool := s == "box" || s == "pick"
def behindN (s : Str) : Option Nat := if s == "all" then some 0 else if s == "none" then some 0 else if s == "way" then some 2 else if s == "as" then some 1 else none
def headD : Dt → Bool
  | .tup (.str s :: rest) => if worded s then (match rest with | [p] => pairsD p | _ => false) else match behindN s with | some n => decide (rest.length = n) && rest.all nameD | none => false
  | _ => false
theorem dictOf_nodup (rs : List (Key × V)) : (rs.map (·.1)).Nodup → dictOf rs = rs := by
  have gen : ∀ (rs kvs : List (Key × V)), (rs.map (·.1)).Nodup → (∀ r ∈ rs, valV kvs r.1 = none) → rs.foldl (fun kvs r => putK kvs r.1 r.2) kvs = kvs ++ rs := by
    intro rs
    induction rs with
    | nil => intro kvs _ _; simp
    | cons r rs ih =>
      intro kvs hn hk
      rw [List.map_cons, List.nodup_cons] at hn
      rw [List.foldl_cons, putK_new _ (hk r List.mem_cons_self), ih _ hn.2 fun x hx => ?_]
      · simp
      · rw [valV_snoc _ _ _ _ (hk r List.mem_cons_self), if_neg (fun e => hn.1 (List.mem_map.mpr ⟨x, hx, e⟩))]
        exact hk x (List.mem_cons_of_mem _ hx)
  intro hn
  have := gen rs [] hn (fun _ _ => rfl)
  simpa [dictOf] using this
end L2
set_option maxRecDepth 100000
namespace L2
open PySem PySem.Spec PyProof.Rows
theorem nameD_str {H : Hp} {v : V} {d : Dt} (h : DD H v d) (hn : nameD d = true) : ∃ z, v = .str z ∧ d = .str z ∧ isName z = true := by
  cases h with
  | str _ => exact ⟨_, rfl, rfl, hn⟩
  | tup _ _ _ _ => exact Bool.noConfusion hn
  | non => exact Bool.noConfusion hn
  | bl _ => exact Bool.noConfusion hn
  | int _ => exact Bool.noConfusion hn
  | lst _ => exact Bool.noConfusion hn
  | dct _ => exact Bool.noConfusion hn
end L2
set_option maxRecDepth 100000
namespace L2
open PySem PySem.Spec PyProof.Rows
def sndD : Dt → Dt | .tup (_ :: h :: _) => h | _ => .oth
def asD : Dt → Option Str | .tup [.str s, .str x] => if s == "as" then some x else none | _ => none
def rowsD (ds : List Dt) : List (Str × Dt) := ds.map fun d => (fstS d, sndD d)
def nxD (rs : List (Str × Dt)) (n : Str) : Option Str := (rs.find? fun r => decide (r.1 = n)).bind fun r => asD r.2
theorem Rd.same {H H' : Hp} {a : Addr} {u : HO} (r : Rd H a u) (s : Same H H') : Rd H' a u := by
  rcases r with r | ⟨o, r⟩
  · exact .inl (s _ _ r)
  · exact .inr ⟨o, s _ _ r⟩
theorem headD_eq (z : Str) (ds : List Dt) : headD (.tup (.str z :: ds)) = if worded z then (match ds with | [p] => pairsD p | _ => false) else match behindN z with | some n => decide (ds.length = n) && ds.all nameD | none => false := rfl
theorem headD_at {H : Hp} {v : V} {d : Dt} (h : DD H v d) (hh : headD d = true) : ∃ a z xs ds, v = .ref a ∧ d = .tup (.str z :: ds) ∧ H a = some (.tup (.str z :: xs)) ∧ xs.length = ds.length ∧ xs.length < 1000 ∧ (∀ i (h : i < xs.length) (h' : i < ds.length), DD H xs[i] ds[i]) ∧
    ((worded z = true ∧ ∃ p, ds = [p] ∧ pairsD p = true) ∨ (worded z = false ∧ ∃ n, behindN z = some n ∧ ds.length = n ∧ ds.all nameD = true)) := by
  cases h with
  | @tup a xs ds e hl hn hds =>
    match ds, hl, hh, hds with
    | .str z :: ds, hl, hh, hds =>
      match xs, hl, e, hn, hds with
      | x0 :: xs, hl, e, hn, hds =>
        have h0 := hds 0 (by simp) (by simp)
        simp only [List.getElem_cons_zero] at h0
        cases h0
        refine ⟨a, z, xs, ds, rfl, rfl, e, by simpa using hl, by simp at hn; omega, fun i h h' => hds (i + 1) (by simpa using h) (by simpa using h'), ?_⟩
        rw [headD_eq] at hh
        cases hw : worded z with
        | true =>
          rw [hw] at hh
          simp only [if_true] at hh
          match ds, hh with
          | [p], hh => exact .inl ⟨rfl, p, rfl, hh⟩
        | false =>
          rw [hw] at hh
          simp only [Bool.false_eq_true, if_false] at hh
          cases hb : behindN z with
          | none => rw [hb] at hh; exact Bool.noConfusion hh
          | some n =>
            rw [hb] at hh
            simp only [Bool.and_eq_true, decide_eq_true_eq] at hh
            exact .inr ⟨rfl, n, rfl, hh.1, hh.2⟩
    | .tup _ :: _, _, hh, _ => exact Bool.noConfusion hh
    | .oth :: _, _, hh, _ => exact Bool.noConfusion hh
    | [], _, hh, _ => exact Bool.noConfusion hh
  | str _ => exact Bool.noConfusion hh
  | non => exact Bool.noConfusion hh
  | bl _ => exact Bool.noConfusion hh
  | int _ => exact Bool.noConfusion hh
  | lst _ => exact Bool.noConfusion hh
  | dct _ => exact Bool.noConfusion hh
theorem worded_as : worded "as" = false := by decide
theorem asD_as {H : Hp} {v : V} {d : Dt} (h : DD H v d) (hh : headD d = true) : AsV H v (asD d) := by
  obtain ⟨a, z, xs, ds, rfl, rfl, e, hl, hn, hds, hc⟩ := headD_at h hh
  refine ⟨a, rfl, ?_⟩
  by_cases hz : z = "as"
  · subst hz
    rcases hc with ⟨hw, _⟩ | ⟨_, n, hb, hdl, hda⟩
    · rw [worded_as] at hw; cases hw
    · have hn1 : n = 1 := by
        have : behindN "as" = some 1 := by decide
        rw [this] at hb; cases hb; rfl
      subst hn1
      match ds, hdl, hl, hda, hds with
      | [d1], _, hl, hda, hds =>
        match xs, hl, e, hds with
        | [x1], _, e, hds =>
          simp only [List.all_cons, List.all_nil, Bool.and_true] at hda
          obtain ⟨y, q1, q2, _⟩ := nameD_str (hds 0 (by simp) (by simp)) hda
          simp only [List.getElem_cons_zero] at q1
          subst q1 q2
          exact .inr ⟨y, e, by simp [asD]⟩
  · refine .inl ⟨z, xs, e, hz, ?_⟩
    have hz' : (z == Str.ofString "as") = false := by simpa using hz
    unfold asD
    split
    · next s x heq =>
      injection heq with heq
      injection heq with h1 _
      injection h1 with h1
      rw [← h1, if_neg (by rw [hz']; exact Bool.false_ne_true)]
    · rfl
end L2
set_option maxRecDepth 100000
namespace L2
open PySem PySem.Spec PyProof.Rows
structure RowsDt (H : Hp) (xs : List V) (ds : List Dt) (rs : List (Str × V)) (hs : List Dt) : Prop where
  l1 : rs.length = ds.length
  l2 : hs.length = ds.length
  ps : PairsAt H xs (rowsK rs)
  dd : ∀ i (h : i < ds.length) (h1 : i < rs.length) (h2 : i < hs.length), ds[i] = .tup [.str rs[i].1, hs[i]] ∧ DD H rs[i].2 hs[i] ∧ headD hs[i] = true ∧ isName rs[i].1 = true
section
variable {H : Hp} {xs : List V} {ds : List Dt} {rs : List (Str × V)} {hs : List Dt}
theorem RowsDt.rows (R : RowsDt H xs ds rs hs) {i : Nat} (h : i < ds.length) (h1 : i < rs.length) (h2 : i < hs.length) : (rowsD ds)[i]? = some (rs[i].1, hs[i]) := by
  unfold rowsD
  rw [List.getElem?_map, List.getElem?_eq_getElem h, (R.dd i h h1 h2).1]; rfl
theorem valV_rowsK_none (n : Str) (h : n ∉ rs.map (·.1)) : valV (rowsK rs) (.inr n) = none := by
  unfold valV
  rw [List.find?_eq_none.mpr]
  · rfl
  · intro p hp e
    obtain ⟨r, hr, rfl⟩ := List.mem_map.mp hp
    exact h (List.mem_map.mpr ⟨r, hr, Sum.inr.inj (of_decide_eq_true e)⟩)
theorem valV_rowsK_at (nd : (rs.map (·.1)).Nodup) {i : Nat} (h : i < rs.length) : valV (rowsK rs) (.inr rs[i].1) = some rs[i].2 := by
  have := valV_dictOf (rowsK rs) (rowsK_nd nd) i (by simpa using h)
  rw [dictOf_nodup _ (rowsK_nd nd)] at this
  simpa using this
theorem RowsDt.nx (R : RowsDt H xs ds rs hs) (nd : (rs.map (·.1)).Nodup) {i : Nat} (h1 : i < rs.length) (h2 : i < hs.length) : nxD (rowsD ds) rs[i].1 = asD hs[i] := by
  have h : i < ds.length := by have := R.l1; omega
  unfold nxD
  have : (rowsD ds).find? (fun r => decide (r.1 = rs[i].1)) = some (rs[i].1, hs[i]) := by
    rw [List.find?_eq_some_iff_getElem]
    have hl : (rowsD ds).length = ds.length := by unfold rowsD; simp
    refine ⟨by simp, i, by omega, ?_, fun j hj => ?_⟩
    · have := R.rows h h1 h2
      rw [List.getElem?_eq_getElem (by omega)] at this
      exact Option.some.inj this
    · have hj1 : j < rs.length := by omega
      have := R.rows (i := j) (by omega) hj1 (by omega)
      rw [List.getElem?_eq_getElem (by omega)] at this
      rw [Option.some.inj this]
      have hne : (rs.map (·.1))[j]'(by simp; omega) ≠ (rs.map (·.1))[i]'(by simpa using h1) := fun z => (List.pairwise_iff_getElem.mp nd j i (by simp; omega) (by simpa using h1) hj) z
      simpa using hne
  rw [this]; rfl
theorem RowsDt.has (R : RowsDt H xs ds rs hs) (nd : (rs.map (·.1)).Nodup) (n : Str) (v : V) (hv : valV (rowsK rs) (.inr n) = some v) : AsV H v (nxD (rowsD ds) n) := by
  by_cases h : n ∈ rs.map (·.1)
  · obtain ⟨r, hr, rfl⟩ := List.mem_map.mp h
    obtain ⟨i, hi, rfl⟩ := List.getElem_of_mem hr
    rw [valV_rowsK_at nd hi] at hv
    cases hv
    have h2 : i < hs.length := by have := R.l1; have := R.l2; omega
    rw [R.nx nd hi h2]
    obtain ⟨_, q1, q2, _⟩ := R.dd i (by have := R.l1; omega) hi h2
    exact asD_as q1 q2
  · rw [valV_rowsK_none n h] at hv; cases hv
end
end L2
set_option maxRecDepth 100000
namespace L2
open PySem PySem.Spec PyProof.Rows
section
variable {H : Hp} {ns : List Str} {b : Addr} {P : Option Str → Prop}
structure PrsOk (H : Hp) (ns : List Str) (xs : List V) (ps : List (Str × Str)) : Prop where
  len : xs.length = ps.length
  at_ : ∀ i (h : i < xs.length) (h' : i < ps.length), ∃ c, xs[i] = .ref c ∧ H c = some (.tup [.str ps[i].1, .str ps[i].2])
  nm : ∀ p ∈ ps, isName p.1 = true ∧ isName p.2 = true ∧ p.2 ∈ ns
  ris : rising (ps.map (·.1)) = true
end
end L2
set_option maxRecDepth 100000
namespace L2
open PySem PySem.Spec PyProof.Rows
theorem toList_inj {a b : Str} (h : a.cps.toList = b.cps.toList) : a = b := by
  cases a; cases b
  simp at h
  rw [h]
theorem strLt_trans {a b c : Str} (h1 : strLt a b = true) (h2 : strLt b c = true) : strLt a c = true := by
  unfold strLt at *
  exact decide_eq_true (List.lt_trans (of_decide_eq_true h1) (of_decide_eq_true h2))
theorem rising_of_pw : ∀ {ws : List Str}, ws.Pairwise (fun a b => strLt a b = true) → rising ws = true
  | [], _ => rfl
  | [_], _ => rfl
  | a :: b :: r, h => by
    rw [List.pairwise_cons] at h
    rw [rising, h.1 b List.mem_cons_self, rising_of_pw h.2]; rfl
theorem pw_of_sorted : ∀ {ss : List Str}, sortedS ss = true → ss.Nodup → ss.Pairwise (fun a b => strLt a b = true)
  | [], _, _ => List.Pairwise.nil
  | [a], _, _ => List.pairwise_singleton _ _
  | a :: b :: r, h, nd => by
    have h' : sortedS (b :: r) = true ∧ ltCps b.cps.toList a.cps.toList = false := by
      have : (!ltCps b.cps.toList a.cps.toList && risingS b r) = true := h
      rw [Bool.and_eq_true, Bool.not_eq_true'] at this
      exact ⟨this.2, this.1⟩
    rw [List.nodup_cons] at nd
    have ih := pw_of_sorted h'.1 nd.2
    have hab : strLt a b = true := by
      have h2 := h'.2
      rw [PyProof.Rows.ltCps_eq] at h2
      have h3 := of_decide_eq_false h2
      refine decide_eq_true (Classical.byContradiction fun h4 => ?_)
      have : a = b := toList_inj (List.le_antisymm (List.not_lt.mp h3) (List.not_lt.mp h4))
      exact nd.1 (by rw [this]; exact List.mem_cons_self)
    rw [List.pairwise_cons] at ih
    refine List.pairwise_cons.mpr ⟨fun c hc => ?_, List.pairwise_cons.mpr ih⟩
    rcases List.mem_cons.mp hc with rfl | hc
    · exact hab
    · exact strLt_trans hab (ih.1 c hc)
def strV : V → Str
  | .str z => z
  | _ => ""
theorem prs_of {H : Hp} {ns : List Str} {xs : List V} {rs : List (Str × V)} (q2 : PairsAt H xs (rowsK rs)) (hn : ∀ r ∈ rs, isName r.1 = true) (q4 : ∀ r ∈ rs, ∃ y, r.2 = .str y ∧ y ∈ ns ∧ isName y = true) (hr : rising (rs.map (·.1)) = true) : PrsOk H ns xs (rs.map fun q => (q.1, strV q.2)) := by
  have hl : xs.length = rs.length := by have := q2.1; simpa using this
  refine ⟨by simp; omega, fun i h1 h2 => ?_, fun q hq => ?_, ?_⟩
  · have h3 : i < rs.length := by omega
    obtain ⟨c', e1, e2⟩ := q2.2 i (by simpa using h3)
    rw [List.getElem?_eq_getElem h1] at e1
    refine ⟨c', Option.some.inj e1, ?_⟩
    obtain ⟨y, ey, _⟩ := q4 _ (List.getElem_mem h3)
    simp only [List.getElem_map]
    rw [ey]
    have : H c' = some (.tup [.str rs[i].1, rs[i].2]) := by simpa [rowsK, kV] using e2
    rw [ey] at this
    exact this
  · obtain ⟨q', hq', rfl⟩ := List.mem_map.mp hq
    obtain ⟨y, ey, my, ny⟩ := q4 q' hq'
    refine ⟨hn q' hq', ?_, ?_⟩
    · show isName (strV q'.2) = true
      rw [ey]; exact ny
    · show strV q'.2 ∈ ns
      rw [ey]; exact my
  · rw [List.map_map]; exact hr
theorem PrsOk.tk {H H' : Hp} {ns : List Str} {xs : List V} {ps : List (Str × Str)} (h : PrsOk H ns xs ps) (s : Tk H H') : PrsOk H' ns xs ps := ⟨h.len, fun i a b => let ⟨c, h1, h2⟩ := h.at_ i a b; ⟨c, h1, s _ _ h2⟩, h.nm, h.ris⟩
theorem pairs_mem {H : Hp} {xs : List V} {rs : List (Str × V)} (q2 : PairsAt H xs (rowsK rs)) {x : V} (hx : x ∈ xs) : ∃ b r, r ∈ rs ∧ x = .ref b ∧ H b = some (.tup [.str r.1, r.2]) := by
  obtain ⟨i, hi, rfl⟩ := List.getElem_of_mem hx
  have hl : xs.length = rs.length := by have := q2.1; simpa using this
  have h3 : i < rs.length := by omega
  obtain ⟨c', e1, e2⟩ := q2.2 i (by simpa using h3)
  rw [List.getElem?_eq_getElem hi] at e1
  exact ⟨c', rs[i], List.getElem_mem h3, Option.some.inj e1, by simpa [rowsK, kV] using e2⟩
end L2
set_option maxRecDepth 100000
namespace L2
open PySem PySem.Spec PyProof.Rows
section
variable {X : Cx}
end
end L2
set_option maxRecDepth 100000
namespace L2
open PySem PySem.Spec PyProof.Rows
section
variable {X : Cx} {pins : List (Addr × Obj)} {σ : St} {H : Hp} {s : Shared}
end
section
variable {X : Cx} {e1 e2 : Expr} {p pos : Pos} {k : Nat} {g1 g2 : TG}
def rIntB : List V → Hp → VK → Prop := fun xs H Q => ∃ b, xs = [.bl b] ∧ Q (.int (if b then 1 else 0)) H
theorem call_intB : CallR X (.type "int") rIntB := by
  intro pins s σ H xs us Q I r h
  obtain ⟨b, rfl, q⟩ := h
  obtain ⟨u, rfl, ru⟩ := r.one
  cases ru
  exact call_int_bool ⟨.int (if b then 1 else 0), H, I.tok _, ⟨_, rfl⟩, q⟩
end
end L2
set_option maxRecDepth 100000
namespace L2
open PySem PySem.Spec PyProof.Rows
section
variable {prog : Program} {w : World} {A : Around} {R : Result → Shared → Prop} {s : Shared}
end
section
variable {X : Cx} {t1 i1 t2 i2 elt : Expr} {sc : Scope} {pos : Pos} {own : List Str} {idx : List Nat} {N' : List Str} {wi wi2 : TI} {g g2 : TG} {te : TE}
end
end L2
set_option maxRecDepth 100000
namespace L2
open PySem PySem.Spec PyProof.Rows
section
variable {prog : Program} {w : World} {A : Around} {E : Value → Shared → Prop} {s : Shared}
theorem fm_congr {α β : Type} {f g : α → Option β} : ∀ {l : List α}, (∀ x ∈ l, f x = g x) → l.filterMap f = l.filterMap g
  | [], _ => rfl
  | a :: l, h => by rw [List.filterMap_cons, List.filterMap_cons, h a List.mem_cons_self, fm_congr fun x hx => h x (List.mem_cons_of_mem _ hx)]
theorem pick_rev (xs : Array Value) : ((List.range xs.size).filterMap fun (k : Nat) => xs[(((xs.size : Int) - 1) + (k : Int) * (-1)).toNat]?) = xs.toList.reverse := by
  have e : ((List.range xs.size).filterMap fun (k : Nat) => xs[(((xs.size : Int) - 1) + (k : Int) * (-1)).toNat]?) = (List.range xs.size).map fun k => xs.toList.reverse.getD k .none := by
    rw [← List.filterMap_eq_map]
    refine fm_congr fun k hk => ?_
    have hk' := List.mem_range.mp hk
    have e1 : (((xs.size : Int) - 1) + (k : Int) * (-1)).toNat = xs.size - 1 - k := by omega
    rw [e1]
    have h1 : xs.size - 1 - k < xs.size := by omega
    have h2 : k < xs.toList.reverse.length := by simp; exact hk'
    show _ = some (xs.toList.reverse.getD k .none)
    rw [List.getD_eq_getElem?_getD, List.getElem?_eq_getElem h2, List.getElem_reverse]
    simp [h1]
  rw [e]
  refine List.ext_getElem (by simp) fun i h1 h2 => ?_
  rw [List.getElem_map, List.getElem_range, List.getD_eq_getElem?_getD, List.getElem?_eq_getElem h2]; rfl
end
section
variable {X : Cx} {e st : Expr} {te ts : TE} {p2 pos : Pos}
theorem Vals.rev : ∀ {xs : List V} {us : List Value}, Vals xs us → Vals xs.reverse us.reverse
  | _, _, .nil => .nil
  | _, _, .cons r rr => by
    rw [List.reverse_cons, List.reverse_cons]
    exact (Vals.rev rr).append (.cons r .nil)
end
end L2
set_option maxRecDepth 100000
namespace L2
open PySem PySem.Spec PyProof.Rows
inductive Hd where
  | one (s : Str)
  | as (y : Str)
  | way (x y : Str)
  | prs (s : Str) (ps : List (Str × Str))
def Hd.nx : Hd → Option Str
  | .as y => some y
  | _ => none
def Hd.ok (ns : List Str) : Hd → Prop
  | .one s => s = "all" ∨ s = "none"
  | .as y => isName y = true ∧ y ∈ ns
  | .way x y => isName x = true ∧ isName y = true ∧ x ∈ ns ∧ y ∈ ns
  | .prs s ps => (s = "box" ∨ s = "pick") ∧ (∀ p ∈ ps, isName p.1 = true ∧ isName p.2 = true ∧ p.2 ∈ ns) ∧ rising (ps.map (·.1)) = true ∧ ps.length ≤ 10
structure PrsV (H : Hp) (xs : List V) (ps : List (Str × Str)) : Prop where
  len : xs.length = ps.length
  at_ : ∀ i (h : i < xs.length) (h' : i < ps.length), ∃ c, xs[i] = .ref c ∧ H c = some (.tup [.str ps[i].1, .str ps[i].2])
theorem PrsV.tk {H H' : Hp} {xs : List V} {ps : List (Str × Str)} (h : PrsV H xs ps) (s : Tk H H') : PrsV H' xs ps := ⟨h.len, fun i a b => let ⟨c, h1, h2⟩ := h.at_ i a b; ⟨c, h1, s _ _ h2⟩⟩
inductive HV (H : Hp) : V → Hd → Prop
  | one {b : Addr} {s : Str} : H b = some (.tup [.str s]) → HV H (.ref b) (.one s)
  | as {b : Addr} {y : Str} : H b = some (.tup [.str "as", .str y]) → HV H (.ref b) (.as y)
  | way {b : Addr} {x y : Str} : H b = some (.tup [.str "way", .str x, .str y]) → HV H (.ref b) (.way x y)
  | prs {b c : Addr} {s : Str} {xs : List V} {ps : List (Str × Str)} : H b = some (.tup [.str s, .ref c]) → H c = some (.tup xs) → PrsV H xs ps → HV H (.ref b) (.prs s ps)
theorem HV.tk {H H' : Hp} (s : Tk H H') {v : V} {h : Hd} (q : HV H v h) : HV H' v h := by
  cases q with
  | one e => exact .one (s _ _ e)
  | as e => exact .as (s _ _ e)
  | way e => exact .way (s _ _ e)
  | prs e e' p => exact .prs (s _ _ e) (s _ _ e') (p.tk s)
section
variable {H : Hp} {ns : List Str} {b : Addr} {v : V} {P : Option Str → Prop}
end
abbrev Rw2 := Str × Hd
structure RV (H : Hp) (xs : List V) (rows : List Rw2) : Prop where
  len : xs.length = rows.length
  at_ : ∀ i (h : i < xs.length) (h' : i < rows.length), ∃ b v, xs[i] = .ref b ∧ H b = some (.tup [.str rows[i].1, v]) ∧ HV H v rows[i].2
theorem RV.tk {H H' : Hp} {xs : List V} {rows : List Rw2} (h : RV H xs rows) (s : Tk H H') : RV H' xs rows := ⟨h.len, fun i a b => let ⟨c, v, h1, h2, h3⟩ := h.at_ i a b; ⟨c, v, h1, s _ _ h2, h3.tk s⟩⟩
def RowsK (ns : List Str) (rows : List Rw2) : Prop := ∀ r ∈ rows, isName r.1 = true ∧ r.2.ok ns
end L2
set_option maxRecDepth 100000
namespace L2
open PySem PySem.Spec PyProof.Rows
def Hd.pre : Hd → List Str
  | .one s => [s]
  | .as _ => []
  | .way _ _ => ["way"]
  | .prs s _ => [s]
end L2
set_option maxRecDepth 100000
namespace L2
open PySem PySem.Spec PyProof.Rows
section
variable {P : Program} {w : World} {A : Around} {E : Value → Shared → Prop} {s : Shared}
end
end L2
set_option maxRecDepth 100000
namespace L2
open PySem PySem.Spec PyProof.Rows
section
variable {P : Program} {w : World} {A : Around} {E : Value → Shared → Prop} {s : Shared}
end
section
variable {X : Cx}
end
end L2
set_option maxRecDepth 100000
namespace L2
open PySem PySem.Spec PyProof.Rows
section
variable {X : Cx} {pins : List (Addr × Obj)} {σ : St} {H : Hp} {s : Shared}
end
section
variable {X : Cx} {tg a b c : Expr} {ta : TA} {p pos : Pos}
theorem z_dgetD {o e f : Expr} {apos cpos : Pos} {td ty tx : TE} (hu : X.A.units + 1 < cLine) (ho : SE X o td) (he : SE X e ty) (hf : SE X f tx) (m : M2 X o "get" apos e f cpos) : SE X (.Call (.Attribute o "get" apos) [e, f] [] cpos) (tDGet2 td ty tx) := ⟨pe_dget2 hu ho.h he.h hf.h m⟩
end
end L2
set_option maxRecDepth 100000
namespace L2
open PySem PySem.Spec PyProof.Rows
def Hd.wds : Hd → List Str
  | .prs _ ps => ps.map (·.1)
  | _ => []
structure HG4 (H : Hp) (ns ws : List Str) (v : V) (P : Option Str → Prop) : Prop where
  ex : ∃ h, HV H v h ∧ h.ok ns ∧ P h.nx ∧ ∀ z ∈ h.wds, z ∈ ws
section
variable {H : Hp} {ns ws : List Str} {b : Addr} {v : V} {P : Option Str → Prop}
theorem HG4.tk {H' : Hp} (h : HG4 H ns ws v P) (s : Tk H H') : HG4 H' ns ws v P := let ⟨d, h1, h2⟩ := h.ex; ⟨d, h1.tk s, h2⟩
theorem HG4.imp {P' : Option Str → Prop} (h : HG4 H ns ws v P) (f : ∀ o, P o → P' o) : HG4 H ns ws v P' := let ⟨d, h1, h2, h3, h4⟩ := h.ex; ⟨d, h1, h2, f _ h3, h4⟩
theorem hg4_as {y : Str} (e : H b = some (.tup [.str "as", .str y])) (hy : isName y = true) (hm : y ∈ ns) (hP : P (some y)) : HG4 H ns ws (.ref b) P := ⟨.as y, .as e, ⟨hy, hm⟩, hP, (fun _ h => nomatch h)⟩
theorem hg4_none (e : H b = some (.tup [.str "none"])) (hP : P none) : HG4 H ns ws (.ref b) P := ⟨.one "none", .one e, .inr rfl, hP, (fun _ h => nomatch h)⟩
theorem hg4_all (e : H b = some (.tup [.str "all"])) (hP : P none) : HG4 H ns ws (.ref b) P := ⟨.one "all", .one e, .inl rfl, hP, (fun _ h => nomatch h)⟩
theorem hg4_way {x y : Str} (e : H b = some (.tup [.str "way", .str x, .str y])) (hx : isName x = true) (hy : isName y = true) (mx : x ∈ ns) (my : y ∈ ns) (hP : P none) : HG4 H ns ws (.ref b) P := ⟨.way x y, .way e, ⟨hx, hy, mx, my⟩, hP, (fun _ h => nomatch h)⟩
theorem hg4_worded {s : Str} {c : Addr} {xs : List V} {ps : List (Str × Str)} (hs : s = "box" ∨ s = "pick") (e : H b = some (.tup [.str s, .ref c])) (ec : H c = some (.tup xs)) (hn : xs.length ≤ 10) (h : PrsOk H ns xs ps) (hw : ∀ q ∈ ps, q.1 ∈ ws) (hP : P none) : HG4 H ns ws (.ref b) P :=
  ⟨.prs s ps, .prs e ec ⟨h.len, h.at_⟩, ⟨hs, h.nm, h.ris, by rw [← h.len]; exact hn⟩, hP, fun z hz => by obtain ⟨q, hq, rfl⟩ := List.mem_map.mp hz; exact hw q hq⟩
end
theorem tb_two {H : Hp} {b : Addr} {x y : Str} (e : H b = some (.tup [.str x, .str y])) (hx : Wd x) (hy : Wd y) : TB H (.ref b) 1 411 :=
  (TB.tup (k := 0) (n := 202) e fun v hv => by
    simp only [List.mem_cons, List.mem_nil_iff, or_false] at hv
    rcases hv with rfl | rfl
    · exact TB.str hx
    · exact TB.str hy).mono (by omega) (by simp)
theorem HV.tb {H : Hp} {ns ws : List Str} {v : V} {h : Hd} (q : HV H v h) (ok : h.ok ns) (hn : ∀ n ∈ ns, Wd n) (hw : ∀ z ∈ h.wds, Wd z) : TB H v 3 8273 := by
  cases q with
  | one e =>
    refine (TB.tup (k := 0) (n := 202) e fun v hv => ?_).mono (by omega) (by simp)
    rw [List.mem_singleton.mp hv]
    rcases ok with rfl | rfl <;> exact TB.str (wd_ascii (by decide) (by decide))
  | as e => exact (tb_two e (wd_ascii (by decide) (by decide)) (hn _ ok.2)).mono (by omega) (by omega)
  | way e =>
    refine (TB.tup (k := 0) (n := 202) e fun v hv => ?_).mono (by omega) (by simp)
    simp only [List.mem_cons, List.mem_nil_iff, or_false] at hv
    rcases hv with rfl | rfl | rfl
    · exact TB.str (wd_ascii (by decide) (by decide))
    · exact TB.str (hn _ ok.2.2.1)
    · exact TB.str (hn _ ok.2.2.2)
  | @prs b c s xs ps e e' p =>
    have h10 := ok.2.2.2
    have hl := p.len
    refine (TB.tup (k := 2) (n := 4133) e fun v hv => ?_).mono (by omega) (by simp)
    simp only [List.mem_cons, List.mem_nil_iff, or_false] at hv
    rcases hv with rfl | rfl
    · rcases ok.1 with rfl | rfl <;> exact (TB.str (wd_ascii (by decide) (by decide))).mono (by omega) (by omega)
    · refine (TB.tup (k := 1) (n := 411) e' fun x hx => ?_).mono (by omega) (by omega)
      obtain ⟨i, hi, rfl⟩ := List.getElem_of_mem hx
      have h3 : i < ps.length := by omega
      obtain ⟨c', q1, q2⟩ := p.at_ i hi h3
      rw [q1]
      have hm : ps[i] ∈ ps := List.getElem_mem h3
      exact tb_two q2 (hw _ (List.mem_map.mpr ⟨_, hm, rfl⟩)) (hn _ (ok.2.1 _ hm).2.2)
theorem strLt_irrefl (a : Str) : strLt a a = false := by
  unfold strLt
  exact decide_eq_false (List.lt_irrefl _)
end L2
set_option maxRecDepth 100000
namespace L2
open PySem PySem.Spec PyProof.Rows
def Ahd (ns : List Str) (n : Str) (o : Option Str) : Prop := ∀ y, o = some y → ∃ (i j : Nat), i < j ∧ ns[i]? = some y ∧ ns[j]? = some n
structure RowsG (H : Hp) (ns ws : List Str) (rs : List (Str × V)) : Prop where
  sub : ∀ r ∈ rs, r.1 ∈ ns
  hd : ∀ r ∈ rs, HG4 H ns ws r.2 (Ahd ns r.1)
theorem RowsG.tk {H H' : Hp} {ns ws : List Str} {rs : List (Str × V)} (h : RowsG H ns ws rs) (s : Tk H H') : RowsG H' ns ws rs := ⟨h.sub, fun r hr => (h.hd r hr).tk s⟩
theorem RowsG.perm {H : Hp} {ns ws : List Str} {rs rs' : List (Str × V)} (h : RowsG H ns ws rs) (p : ∀ r ∈ rs', r ∈ rs) : RowsG H ns ws rs' := ⟨fun r hr => h.sub r (p r hr), fun r hr => h.hd r (p r hr)⟩
theorem RowsG.add {H : Hp} {ns ws : List Str} {rs : List (Str × V)} (h : RowsG H ns ws rs) {n : Str} {v : V} (h1 : n ∈ ns) (h2 : HG4 H ns ws v (Ahd ns n)) : RowsG H ns ws ((n, v) :: rs) := by
  refine ⟨fun r hr => ?_, fun r hr => ?_⟩ <;> rcases List.mem_cons.mp hr with rfl | hr
  · exact h1
  · exact h.sub r hr
  · exact h2
  · exact h.hd r hr
structure RT (H : Hp) (a : Addr) (xs : List V) (rows : List Rw2) (ns ws : List Str) : Prop where
  at_ : H a = some (.tup xs)
  rv : RV H xs rows
  nm : (rows.map (·.1)).Perm ns
  nd : ns.Nodup
  ok : RowsK ns rows
  wd : ∀ n ∈ ns, Wd n
  ah : ∀ r ∈ rows, Ahd ns r.1 r.2.nx
  ww : ∀ r ∈ rows, ∀ z ∈ r.2.wds, z ∈ ws
  pos : 1 ≤ ns.length
  few : ns.length ≤ 10
section
variable {H H' : Hp} {a : Addr} {xs : List V} {rows : List Rw2} {ns ws : List Str}
theorem RT.tk (h : RT H a xs rows ns ws) (s : Tk H H') : RT H' a xs rows ns ws := ⟨s _ _ h.at_, h.rv.tk s, h.nm, h.nd, h.ok, h.wd, h.ah, h.ww, h.pos, h.few⟩
theorem RT.rl (h : RT H a xs rows ns ws) : rows.length = ns.length := by have := h.nm.length_eq; simpa using this
theorem RT.ndr (h : RT H a xs rows ns ws) : (rows.map (·.1)).Nodup := by rw [h.nm.nodup_iff]; exact h.nd
theorem RT.of {rs : List (Str × V)} (e : H a = some (.tup xs)) (ps : PairsAt H xs (rowsK rs)) (nm : (rs.map (·.1)).Perm ns) (nd : ns.Nodup) (okn : ∀ n ∈ ns, isName n = true ∧ Wd n) (pos : 1 ≤ ns.length) (few : ns.length ≤ 10) (g : RowsG H ns ws rs) : ∃ rows, RT H a xs rows ns ws := by
  have hc : ∀ i : Fin rs.length, ∃ hd : Hd, HV H rs[i.val].2 hd ∧ hd.ok ns ∧ Ahd ns rs[i.val].1 hd.nx ∧ ∀ z ∈ hd.wds, z ∈ ws := fun i => (g.hd _ (List.getElem_mem i.isLt)).ex
  obtain ⟨f, hf⟩ := Classical.axiomOfChoice hc
  have hxl : xs.length = rs.length := by have := ps.1; simpa using this
  have en : (List.ofFn fun i : Fin rs.length => ((rs[i.val].1, f i) : Rw2)).map (·.1) = rs.map (·.1) := by
    apply List.ext_getElem
    · simp
    · intro i h1 h2; simp
  have mem : ∀ r ∈ (List.ofFn fun i : Fin rs.length => ((rs[i.val].1, f i) : Rw2)), ∃ i : Fin rs.length, r = (rs[i.val].1, f i) := fun r hr => by
    obtain ⟨i, hi, rfl⟩ := List.getElem_of_mem hr
    exact ⟨⟨i, by simpa using hi⟩, by simp⟩
  refine ⟨List.ofFn fun i => (rs[i.val].1, f i), e, ⟨by simp [hxl], fun i h1 h2 => ?_⟩, by rw [en]; exact nm, nd, fun r hr => ?_, fun n hn => (okn n hn).2, fun r hr => ?_, fun r hr => ?_, pos, few⟩
  · have h3 : i < rs.length := by omega
    obtain ⟨b, e1, e2⟩ := ps.2 i (by simpa using h3)
    rw [List.getElem?_eq_getElem h1] at e1
    refine ⟨b, rs[i].2, Option.some.inj e1, ?_, ?_⟩
    · simpa [rowsK, kV] using e2
    · simpa using (hf ⟨i, h3⟩).1
  · obtain ⟨i, rfl⟩ := mem r hr
    exact ⟨(okn _ (g.sub _ (List.getElem_mem i.isLt))).1, (hf i).2.1⟩
  · obtain ⟨i, rfl⟩ := mem r hr
    exact (hf i).2.2.1
  · obtain ⟨i, rfl⟩ := mem r hr
    exact (hf i).2.2.2
end
section
variable {H H' : Hp} {a b : Addr} {xs ys : List V} {rows rows2 : List Rw2} {ns ws ws' : List Str} {f g : Str → Str}
theorem RT.pairs (h : RT H a xs rows ns ws) : ∃ rs : List (Str × V), PairsAt H xs (rowsK rs) ∧ rs.map (·.1) = rows.map (·.1) ∧ rs.length = rows.length ∧ ∀ i (h1 : i < rs.length) (h2 : i < rows.length), HV H rs[i].2 rows[i].2 := by
  have hl := h.rv.len
  have hc : ∀ i : Fin rows.length, ∃ v : V, (∃ b, xs[i.val]? = some (.ref b) ∧ H b = some (.tup [.str rows[i.val].1, v])) ∧ HV H v rows[i.val].2 := fun i => by
    obtain ⟨b, v, q1, q2, q3⟩ := h.rv.at_ i.val (by have := i.isLt; omega) i.isLt
    exact ⟨v, ⟨b, by rw [List.getElem?_eq_getElem (by have := i.isLt; omega), q1], q2⟩, q3⟩
  obtain ⟨f, hf⟩ := Classical.axiomOfChoice hc
  refine ⟨List.ofFn fun i => (rows[i.val].1, f i), ⟨by simp [hl], fun i hi => ?_⟩, ?_, by simp, fun i h1 h2 => ?_⟩
  · have hi' : i < rows.length := by simpa using hi
    obtain ⟨b, q1, q2⟩ := (hf ⟨i, hi'⟩).1
    exact ⟨b, q1, by simpa [rowsK, kV] using q2⟩
  · apply List.ext_getElem
    · simp
    · intro i h1 h2; simp
  · simpa using (hf ⟨i, h2⟩).2
def hdOf (rows : List Rw2) (x : Str) : Hd := ((rows.find? fun r => decide (r.1 = x)).map (·.2)).getD (.one "")
def nxOf (rows : List Rw2) (x : Str) : Option Str := (hdOf rows x).nx
theorem hdOf_mem (nd : (rows.map (·.1)).Nodup) {r : Rw2} (hr : r ∈ rows) : hdOf rows r.1 = r.2 := by
  obtain ⟨i, hi, rfl⟩ := List.getElem_of_mem hr
  have : rows.find? (fun r => decide (r.1 = rows[i].1)) = some rows[i] := by
    rw [List.find?_eq_some_iff_getElem]
    refine ⟨by simp, i, hi, rfl, fun j hj => ?_⟩
    have hne : (rows.map (·.1))[j]'(by simp; omega) ≠ (rows.map (·.1))[i]'(by simpa using hi) := List.pairwise_iff_getElem.mp nd j i (by simp; omega) (by simpa using hi) hj
    simpa using hne
  unfold hdOf
  rw [this]; rfl
theorem HV.asV {v : V} {h : Hd} (q : HV H v h) (ok : h.ok ns) : AsV H v h.nx := by
  cases q with
  | one e => exact ⟨_, rfl, .inl ⟨_, _, e, by rcases ok with rfl | rfl <;> decide, rfl⟩⟩
  | as e => exact ⟨_, rfl, .inr ⟨_, e, rfl⟩⟩
  | way e => exact ⟨_, rfl, .inl ⟨_, _, e, by decide, rfl⟩⟩
  | prs e e' p => exact ⟨_, rfl, .inl ⟨_, _, e, by rcases ok.1 with rfl | rfl <;> decide, rfl⟩⟩
theorem RT.good (h : RT H a xs rows ns ws) (hw : ∀ z ∈ ws, Wd z) : ∃ rs, GoodT H a xs rs (nxOf rows) (fun n => ns.idxOf n) ∧ rs.map (·.1) = rows.map (·.1) ∧ rs.length = rows.length ∧ ∀ x v, x ∈ ns → valV (dictOf (rowsK rs)) (.inr x) = some v → HV H v (hdOf rows x) := by
  obtain ⟨rs, ps, nm, rl, hv⟩ := h.pairs
  have hrl := h.rl
  have hf := h.few
  have hp := h.pos
  have nd : (rs.map (·.1)).Nodup := by rw [nm]; exact h.ndr
  have hmem : ∀ n, n ∈ ns ↔ n ∈ rs.map (·.1) := fun n => by rw [nm]; exact h.nm.mem_iff.symm
  have at' : ∀ r ∈ rs, ∃ r' ∈ rows, r.1 = r'.1 ∧ HV H r.2 r'.2 := fun r hr => by
    obtain ⟨i, hi, rfl⟩ := List.getElem_of_mem hr
    have hi' : i < rows.length := by omega
    refine ⟨rows[i], List.getElem_mem hi', ?_, hv i hi hi'⟩
    have : (rs.map (·.1))[i]'(by simpa using hi) = (rows.map (·.1))[i]'(by simpa using hi') := by simp only [nm]
    simpa using this
  have g : GoodT H a xs rs (nxOf rows) (fun n => ns.idxOf n) := by
    refine ⟨h.at_, ps, nd, by omega, by omega, fun r hr => ?_, fun r hr y hy => ?_, fun r hr => ?_, fun r hr => ?_⟩
    · obtain ⟨r', hr', e, v⟩ := at' r hr
      unfold nxOf
      rw [e, hdOf_mem h.ndr hr']
      exact v.asV (h.ok r' hr').2
    · obtain ⟨r', hr', e, v⟩ := at' r hr
      unfold nxOf at hy
      rw [e, hdOf_mem h.ndr hr'] at hy
      obtain ⟨i, j, hij, h1, h2⟩ := h.ah r' hr' y hy
      refine ⟨(hmem y).mp (List.mem_of_getElem? h1), ?_⟩
      show ns.idxOf y < ns.idxOf r.1
      rw [e, idxOf_get h.nd h1, idxOf_get h.nd h2]
      exact hij
    · have := List.idxOf_lt_length_of_mem ((hmem r.1).mpr (List.mem_map.mpr ⟨r, hr, rfl⟩))
      show ns.idxOf r.1 ≤ _
      omega
    · obtain ⟨r', hr', e, v⟩ := at' r hr
      refine ⟨h.wd _ ((hmem r.1).mpr (List.mem_map.mpr ⟨r, hr, rfl⟩)), v.tb (ws := ws) (h.ok r' hr').2 h.wd fun z hz => hw z (h.ww r' hr' z hz)⟩
  refine ⟨rs, g, nm, rl, fun x v hx hval => ?_⟩
  obtain ⟨v', m, e⟩ := g.get ((hmem x).mp hx)
  rw [hval] at e
  cases e
  obtain ⟨r', hr', e, q⟩ := at' _ m
  have e' : x = r'.1 := e
  rw [e', hdOf_mem h.ndr hr']
  exact q
end
end L2
set_option maxRecDepth 100000
namespace L2
open PySem PySem.Spec PyProof.Rows
section
variable {prog : Program} {w : World} {A : Around} {R : Result → Shared → Prop} {I : Addr} {fp wr : List Addr} {G : Array GenState → Array GenState → Prop} {n : Nat} {P : Nat → Value → Prop} {St : Nat → Shared → Prop}
end
section
variable {prog : Program} {w : World} {A : Around} {E : Value → Shared → Prop} {s : Shared}
end
section
variable {X : Cx}
end
end L2
set_option maxRecDepth 100000
namespace L2
open PySem PySem.Spec PyProof.Rows
section
variable {prog : Program} {w : World} {A : Around} {E : Value → Shared → Prop} {s : Shared} {I : Addr} {fp wr : List Addr} {G : Array GenState → Array GenState → Prop} {n : Nat} {P : Nat → Value → Prop} {St : Nat → Shared → Prop}
end
section
variable {X : Cx}
end
end L2
set_option maxRecDepth 100000
namespace L2
open PySem PySem.Spec PyProof.Rows
section
variable {X : Cx}
end
end L2
set_option maxRecDepth 100000
namespace L2
open PySem PySem.Spec PyProof.Rows
section
variable {H H' : Hp} {m : Bool} {v : V} {k n k' n' : Nat} {a : Addr} {xs : List V}
end
section
variable {X : Cx}
end
end L2
set_option maxRecDepth 100000
namespace L2
open PySem PySem.Spec PyProof.Rows
section
variable {m : Bool} {σ : St} {H0 : Hp} {te : TE} {ta : TA} {k c : Nat}
end
section
variable {X : Cx} {pos : Pos}
end
theorem inV_strs (y : Str) (zs : List Str) : inV (.str y) (zs.map V.str) = decide (y ∈ zs) := by
  rw [Bool.eq_iff_iff, decide_eq_true_iff]
  unfold inV
  rw [List.any_map, List.any_eq_true]
  constructor
  · rintro ⟨a, ha, e⟩
    have e' : (a == y) = true := e
    rw [← eq_of_beq e']; exact ha
  · intro h
    exact ⟨y, h, (beq_self_eq_true y : (y == y) = true)⟩
end L2
set_option maxRecDepth 100000
namespace L2
open PySem PySem.Spec PyProof.Rows
end L2
set_option maxRecDepth 100000
namespace L2
open PySem PySem.Spec PyProof.Rows
def Hd.mvs : Hd → List (List Str × Str)
  | .way x y => [(["from"], x), (["to"], y)]
  | .prs s ps => ps.map fun p => ([if s = "box" then "part" else "case", p.1], p.2)
  | _ => []
theorem mvs_in {ns : List Str} : ∀ {h : Hd}, h.ok ns → ∀ m ∈ h.mvs, m.2 ∈ ns
  | .one _, _, _, hm => nomatch hm
  | .as _, _, _, hm => nomatch hm
  | .way x y, ok, m, hm => by
    simp only [Hd.mvs, List.mem_cons, List.mem_nil_iff, or_false] at hm
    rcases hm with rfl | rfl
    · exact ok.2.2.1
    · exact ok.2.2.2
  | .prs s ps, ok, m, hm => by
    obtain ⟨p, hp, rfl⟩ := List.mem_map.mp hm
    exact (ok.2.1 p hp).2.2
def endOf (rows : List Rw2) (x : Str) : Str := rowEnd (nxOf rows) rows.length x
def onOf (rows : List Rw2) (x : Str) : List (List Str × Str) := (hdOf rows (endOf rows x)).mvs.map fun m => (m.1, endOf rows m.2)
theorem RT.endIn {H : Hp} {a : Addr} {xs : List V} {rows : List Rw2} {ns ws : List Str} (rt : RT H a xs rows ns ws) (hw : ∀ z ∈ ws, Wd z) {x : Str} (hx : x ∈ ns) : endOf rows x ∈ ns ∧ (hdOf rows (endOf rows x)).nx = none ∧ (hdOf rows (endOf rows x)).ok ns := by
  obtain ⟨rs, g, nm, rl, hv⟩ := rt.good hw
  have hm : ∀ z, z ∈ ns ↔ z ∈ rs.map (·.1) := fun z => by rw [nm]; exact rt.nm.mem_iff.symm
  obtain ⟨h1, h2⟩ := g.endIn ((hm x).mp hx)
  rw [rl] at h1 h2
  refine ⟨(hm _).mpr h1, h2, ?_⟩
  have h3 : endOf rows x ∈ rows.map (·.1) := by rw [← nm]; exact h1
  obtain ⟨r, hr, e⟩ := List.mem_map.mp h3
  rw [← e, hdOf_mem rt.ndr hr]
  exact (rt.ok r hr).2
end L2
set_option maxRecDepth 100000
namespace L2
open PySem PySem.Spec PyProof.Rows
structure KTup (K : PySem.W.Frag) (t : Addr × Obj × List V) : Prop where
  lk : K.lookup t.1 = some t.2.1
  ok : ∃ (its : List Value) (n : Nat), t.2.1.cls = .type "tuple" ∧ t.2.1.dict = none ∧ t.2.1.data = .seq its.toArray n ∧ Vals t.2.2 its ∧ t.2.2.length ≤ sizeLine
def without (K : PySem.W.Frag) (as : List Addr) : PySem.W.Frag := K.filter fun p => !as.contains p.1
theorem without_lookup {as : List Addr} {b : Addr} : ∀ {K : PySem.W.Frag}, (without K as).lookup b = if as.contains b = true then none else K.lookup b
  | [] => by unfold without; simp
  | (c, o) :: K => by
    have ih := without_lookup (as := as) (b := b) (K := K)
    unfold without at ih ⊢
    rw [List.filter_cons]
    by_cases hc : as.contains c = true
    · have h0 : ¬ (!as.contains (c, o).1) = true := by show ¬ (!as.contains c) = true; rw [hc]; decide
      rw [if_neg h0, ih]
      by_cases hb : as.contains b = true
      · rw [if_pos hb, if_pos hb]
      · have n : (b == c) = false := by
          cases e : b == c with
          | false => rfl
          | true => rw [eq_of_beq e] at hb; exact absurd hc hb
        rw [if_neg hb, if_neg hb, List.lookup_cons, n]
    · have h0 : (!as.contains (c, o).1) = true := by
        show (!as.contains c) = true
        cases q : as.contains c with
        | true => exact absurd q hc
        | false => rfl
      rw [if_pos h0, List.lookup_cons, List.lookup_cons, ih]
      cases e : b == c with
      | true =>
        have : ¬ as.contains b = true := by rw [eq_of_beq e]; exact hc
        show some o = if as.contains b = true then none else some o
        rw [if_neg this]
      | false => rfl
def Frzn (H : Hp) : Prop := ∀ b, H b = none ∨ ∃ o u, H b = some (.frz o u)
def hpOf (ts : List (Addr × Obj × List V)) (G : Hp) : Hp := fun b => match ts.find? fun t => decide (t.1 = b) with
  | some t => some (.frz t.2.1 (.tup t.2.2))
  | none => G b
theorem hpOf_mem {ts : List (Addr × Obj × List V)} {G : Hp} {t : Addr × Obj × List V} (h : t ∈ ts) (nd : (ts.map (·.1)).Nodup) : hpOf ts G t.1 = some (.frz t.2.1 (.tup t.2.2)) := by
  induction ts with
  | nil => cases h
  | cons a ts ih =>
    unfold hpOf
    rw [List.find?_cons]
    rw [List.map_cons, List.nodup_cons] at nd
    by_cases e : a.1 = t.1
    · rw [decide_eq_true e]
      rcases List.mem_cons.mp h with rfl | h
      · rfl
      · exact absurd (List.mem_map.mpr ⟨t, h, e.symm⟩) nd.1
    · rw [decide_eq_false e]
      rcases List.mem_cons.mp h with rfl | h
      · exact absurd rfl e
      · exact ih h nd.2
theorem hpOf_cases {ts : List (Addr × Obj × List V)} {G : Hp} {b : Addr} : (∃ t ∈ ts, t.1 = b ∧ hpOf ts G b = some (.frz t.2.1 (.tup t.2.2))) ∨ ((∀ t ∈ ts, t.1 ≠ b) ∧ hpOf ts G b = G b) := by
  unfold hpOf
  cases q : ts.find? fun t => decide (t.1 = b) with
  | some t =>
    have h1 := List.mem_of_find?_eq_some q
    have h2 := List.find?_some q
    exact .inl ⟨t, h1, of_decide_eq_true h2, rfl⟩
  | none =>
    refine .inr ⟨fun t ht e => ?_, rfl⟩
    have := List.find?_eq_none.mp q t ht
    simp [e] at this
theorem law_callT {P : Program} {w : World} {K : PySem.W.Frag} {mg mb : Str → Option Value} {CX : CXT} {k : Nat} {fa a : Addr} {fd : FuncData} {x : Str} {sp : Sp} {s₁ : Shared} {vs : List Value} {ns : List Int} {ts : List (Addr × Obj × List V)}
    (hts : ∀ t ∈ ts, KTup K t) (nd : (ts.map (·.1)).Nodup)
    (KX : K.In s₁.heap) (hns : s₁.heap.Ns mainGlobals mg) (hb : s₁.heap.Ns builtinsNs mb) (hbb : ∀ x : Str, x ≠ "__name__" → mb x = bootBuiltins x) (hlim : s₁.heap.NoLimit) (hg : s₁.gens = #[])
    (ha : s₁.heap.get? a = some { cls := .type "list", data := .seq vs.toArray }) (hi : IntsAre vs ns) (hl : ns.length ≤ sizeLine) (hr : Room k callerA)
    (F : ∀ base : Heap, (without K (ts.map (·.1))).In base → base.Ns mainGlobals mg → FnOk P w (without K (ts.map (·.1))) mg base CX k fa fd [x] sp) (hbind : ∀ (s : Shared) (u : Value), BindsTo s fd ⟨[u], []⟩ [(x, u)])
    (hsp : ∀ H : Hp, Frzn H → (∀ t ∈ ts, H t.1 = some (.frz t.2.1 (.tup t.2.2))) → SqL (without K (ts.map (·.1))) H a (ns.map V.int) → sp [.ref a] H (fun v _ => v = .bl true) fun _ _ _ => False)
    (hCX : ∀ H e s', CX [] H s₁ (fun _ _ _ => False) e s' → False) :
    codeAny (model P w) callerA (.call (.ref fa) ⟨[.ref a], []⟩) (fun r s' => r = .ok (.ret (.bool true)) ∧ OldK s₁.heap s'.heap ∧ s'.os = s₁.os ∧ AllBare s'.gens) s₁ := by
  have rv := vals_ints hi
  have lenV := hi.length
  have tob : ∀ t ∈ ts, s₁.heap.get? t.1 = some t.2.1 := fun t ht => KX _ _ (hts t ht).lk
  have nta : ∀ t ∈ ts, t.1 ≠ a := fun t ht e => by
    obtain ⟨its, n, h1, _⟩ := (hts t ht).ok
    have := tob t ht
    rw [e, ha] at this
    rw [← Option.some.inj this] at h1
    injection h1 with h2
    exact absurd h2 (by decide)
  have core : ∀ G : Hp, (∀ b, G b ≠ none → b = a) → (G a ≠ none → K.lookup a = none) → (∀ b, G b = none ∨ ∃ o u, G b = some (.frz o u)) → SqL (without K (ts.map (·.1))) (hpOf ts G) a (ns.map V.int) → (∀ u, G a = some u → ∀ H, ObjOk P w H s₁.heap a u) →
      codeAny (model P w) callerA (.call (.ref fa) ⟨[.ref a], []⟩) (fun r s' => r = .ok (.ret (.bool true)) ∧ OldK s₁.heap s'.heap ∧ s'.os = s₁.os ∧ AllBare s'.gens) s₁ := by
    intro G hG hK hF hS hO
    have trk : ∀ b, hpOf ts G b ≠ none → b = a ∨ ∃ t ∈ ts, t.1 = b := fun b q => by
      rcases hpOf_cases (ts := ts) (G := G) (b := b) with ⟨t, ht, e, _⟩ | ⟨_, e⟩
      · exact .inr ⟨t, ht, e⟩
      · rw [e] at q; exact .inl (hG b q)
    have frz : Frzn (hpOf ts G) := fun b => by
      rcases hpOf_cases (ts := ts) (G := G) (b := b) with ⟨t, ht, e, q⟩ | ⟨_, q⟩
      · exact .inr ⟨_, _, q⟩
      · rw [q]; exact hF b
    have hok : HOk P w (hpOf ts G) s₁.heap := fun b u q => by
      rcases hpOf_cases (ts := ts) (G := G) (b := b) with ⟨t, ht, e, q'⟩ | ⟨_, q'⟩
      · rw [q'] at q
        cases q
        obtain ⟨its, n, h1, h2, h3, h4, h5⟩ := (hts t ht).ok
        have o1 := tob t ht
        rw [e] at o1
        exact ⟨o1, ⟨h5, fun o z => by rw [o1] at z; cases z; exact h2⟩, its, h4, t.2.1, o1, h1, n, h3⟩
      · rw [q'] at q
        have e := hG b (by rw [q]; simp)
        subst e
        exact hO u q _
    have base_of : ∀ {b : Addr} {o : Obj}, s₁.heap.get? b = some o → hpOf ts G b = none → (hidT s₁.heap (hpOf ts G)).get? b = some o := fun e n => hidT_get e n
    have noA : ∀ {b : Addr} {o : Obj} {es : Array DictEntry} {ep : Nat}, s₁.heap.get? b = some o → o.data = .dict es ep → hpOf ts G b = none := fun {b o es ep} e d => by
      cases q : hpOf ts G b with
      | none => rfl
      | some u =>
        rcases trk b (by rw [q]; simp) with z | ⟨t, ht, z⟩
        · subst z
          rw [ha] at e; cases e
          cases d
        · have o1 := tob t ht
          rw [z, e] at o1
          cases o1
          obtain ⟨its, n, h1, h2, h3, _⟩ := (hts t ht).ok
          rw [d] at h3; cases h3
    have nsK : ∀ {b : Addr} {m : Str → Option Value}, s₁.heap.Ns b m → (hidT s₁.heap (hpOf ts G)).Ns b m := fun {b m} ⟨o, es, ep, e, d, r⟩ => ⟨o, es, ep, base_of e (noA e d), d, r⟩
    have hKb : (without K (ts.map (·.1))).In (hidT s₁.heap (hpOf ts G)) := fun b o e => by
      rw [without_lookup] at e
      by_cases hc : (ts.map (·.1)).contains b = true
      · rw [if_pos hc] at e; cases e
      · rw [if_neg hc] at e
        refine base_of (KX b o e) ?_
        cases q : hpOf ts G b with
        | none => rfl
        | some u =>
          rcases hpOf_cases (ts := ts) (G := G) (b := b) with ⟨t, ht, z, _⟩ | ⟨_, q'⟩
          · exact absurd (by rw [List.contains_iff_mem]; exact List.mem_map.mpr ⟨t, ht, z⟩) hc
          · rw [q'] at q
            have z := hG b (by rw [q]; simp)
            subst z
            rw [hK (by rw [q]; simp)] at e; cases e
    have hM : Mod (without K (ts.map (·.1))) mg (hidT s₁.heap (hpOf ts G)) := ⟨hKb, nsK hns, ⟨mb, nsK hb, hbb⟩, let ⟨mc, h1, h2⟩ := hlim; ⟨mc, nsK h1, h2⟩⟩
    have e0 : Env0 P w (without K (ts.map (·.1))) mg (hidT s₁.heap (hpOf ts G)) callerA [] s₁ (hpOf ts G) := ⟨rfl, hM, fun b o e => of_hidT e, Nat.le_of_eq (hidT_size _ _), trivial, fun b hb => absurd (show b ∈ ([] : List Addr) from hb) (by simp), hok, .of_eq hg⟩
    refine codeAny_mono ((F _ hKb (nsK hns)).run callerA [] s₁ (hpOf ts G) ⟨[.ref a], []⟩ [.ref a] [.ref a] _ _ hr e0 (hbind s₁ (.ref a)) (.cons rfl .nil) (hsp (hpOf ts G) frz (fun t ht => hpOf_mem ht nd) hS)) fun r s' h => ?_
    cases r with
    | error e => exact (hCX _ e s' h).elim
    | ok fl =>
      cases fl with
      | next => exact False.elim h
      | brk => exact False.elim h
      | cont => exact False.elim h
      | ret u =>
        obtain ⟨v, H', os, bare, un, hok', r', q⟩ := h
        have q' : v = .bl true := q
        subst q'
        obtain rfl : u = Value.bool true := r'
        refine ⟨rfl, OldK.of_keep fun b o e => ?_, os, bare⟩
        cases q : hpOf ts G b with
        | none => exact un.keep b o e q (by intro z; exact absurd (show b ∈ ([] : List Addr) from z) (by simp)) (by simp)
        | some u =>
          rcases frz b with z | ⟨ob, u', z⟩
          · rw [q] at z; cases z
          · have z2 := un.frzs b ob _ z
            obtain ⟨e1, _⟩ := hok b _ z
            obtain ⟨e2, _⟩ := hok' b _ z2
            rw [e] at e1; cases e1
            exact e2
  have nca : ¬ (ts.map (·.1)).contains a = true := fun h => by
    rw [List.contains_iff_mem] at h
    obtain ⟨t, ht, e⟩ := List.mem_map.mp h
    exact nta t ht e
  have hga : ∀ G : Hp, hpOf ts G a = G a := fun G => by
    rcases hpOf_cases (ts := ts) (G := G) (b := a) with ⟨t, ht, e, _⟩ | ⟨_, q⟩
    · exact absurd e (nta t ht)
    · exact q
  cases hk : K.lookup a with
  | some o =>
    have e := KX a o hk
    rw [ha] at e
    cases e
    exact core (fun _ => none) (fun b z => absurd rfl z) (fun z => absurd rfl z) (fun _ => .inl rfl) (.inr ⟨_, vs.toArray, _, by rw [without_lookup, if_neg nca]; exact hk, rfl, rfl, rfl, by rw [List.size_toArray, lenV]; exact hl, by simpa using rv⟩) fun u z => by cases z
  | none =>
    refine core (fun b => if b = a then some (.frz { cls := .type "list", data := .seq vs.toArray } (.lst (ns.map V.int))) else none) (fun b z => ?_) (fun _ => hk) (fun b => ?_) (.inl (.inr ⟨{ cls := .type "list", data := .seq vs.toArray }, by rw [hga]; exact if_pos rfl⟩)) fun u z H => ?_
    · by_cases hb : b = a
      · exact hb
      · exact absurd (if_neg hb) z
    · by_cases hb : b = a
      · exact .inr ⟨_, _, if_pos hb⟩
      · exact .inl (if_neg hb)
    · have z' := (if_pos rfl).symm.trans z
      cases z'
      exact ⟨ha, by rw [List.length_map]; exact hl, vs, _, rv, ha⟩
def adr (mg : Str → Option Value) (x : Str) : Addr := match mg x with
  | some (.ref a) => a
  | _ => 0
theorem adr_of {mg : Str → Option Value} {x : Str} {a : Addr} (h : mg x = some (.ref a)) : RelV (.ref (adr mg x)) (.ref a) := by
  unfold adr
  rw [h]
  exact rfl
def Kn (mg : Str → Option Value) (H : Hp) (x : Str) (ys : List V) : Prop := ∃ o, H (adr mg x) = some (.frz o (.tup ys))
theorem Kn.same {mg : Str → Option Value} {H H' : Hp} {x : Str} {ys : List V} (h : Kn mg H x ys) (s : Same H H') : Kn mg H' x ys := let ⟨o, e⟩ := h; ⟨o, s _ _ e⟩
theorem Kn.rd {mg : Str → Option Value} {H : Hp} {x : Str} {ys : List V} (h : Kn mg H x ys) : RdT H (adr mg x) ys := .inr h
theorem RdT.same {H H' : Hp} {b : Addr} {ys : List V} (h : RdT H b ys) (s : Same H H') : RdT H' b ys := h.imp (fun e => s _ _ e) fun ⟨o, e⟩ => ⟨o, s _ _ e⟩
structure SV (H : Hp) (xs : List V) (ss : List (List Str)) : Prop where
  len : xs.length = ss.length
  at_ : ∀ i (h : i < xs.length) (h' : i < ss.length), ∃ b, xs[i] = .ref b ∧ RdT H b (ss[i].map V.str)
theorem SV.keep {H H' : Hp} {xs : List V} {ss : List (List Str)} (h : SV H xs ss) (s : ∀ b ys, RdT H b ys → RdT H' b ys) : SV H' xs ss := ⟨h.len, fun i a b => let ⟨c, h1, h2⟩ := h.at_ i a b; ⟨c, h1, s _ _ h2⟩⟩
theorem SV.nil {H : Hp} : SV H [] [] := ⟨rfl, fun i h => absurd h (by simp)⟩
theorem SV.snoc {H : Hp} {xs : List V} {ss : List (List Str)} (h : SV H xs ss) {b : Addr} {m : List Str} (e : RdT H b (m.map V.str)) : SV H (xs ++ [.ref b]) (ss ++ [m]) := by
  have hl := h.len
  refine ⟨by simp [hl], fun i h1 h2 => ?_⟩
  by_cases hlt : i < xs.length
  · rw [List.getElem_append_left hlt, List.getElem_append_left (by omega)]
    exact h.at_ i hlt (by omega)
  · have e' : i = xs.length := by simp at h1; omega
    subst e'
    rw [List.getElem_append_right (Nat.le_refl _), List.getElem_append_right (by omega)]
    simp only [Nat.sub_self, hl, List.getElem_cons_zero]
    exact ⟨b, rfl, e⟩
end L2
set_option maxRecDepth 100000
namespace L2
open PySem PySem.Spec PyProof.Rows
section
variable {X : Cx} {tg iter kx vx : Expr} {ifs : List Expr} {sc : Scope} {pos : Pos} {own : List Str} {idx : List Nat} {N' : List Str} {wi : TI} {g : TG} {tc : TC} {tk tw : TE}
def tDCT (own : List Str) (idx : List Nat) (wi : TI) (g : TG) (tc : TC) (tk tw : TE) : TE := fun σ H Q => wi σ H fun J H1 => ∀ D, H1 D = none → ∃ W : Nat → Nat → St → Hp → Prop, (∃ m, W 0 m (stIn own idx σ) (upd H1 D (.dT []))) ∧ ∀ i m τ H, W i m τ H →
  (J.stop i H ∧ Q (.ref D) H) ∨ (J.go i H ∧ ∃ N : St → Hp → Prop, (∀ τ' H', N τ' H' → ∃ m', m' < m ∧ W (i + 1) m' τ' H') ∧ ∀ x H', J.yld i H x H' → g x τ H' fun τ2 H2 => tc τ2 H2 fun b H3 =>
    if b = true then tk τ2 H3 fun x H4 => tw τ2 H4 fun y H5 => ∃ kvs key b, x = .ref b ∧ RdT H5 b (key.map kV) ∧ H5 D = some (.dT kvs) ∧ kvs.length < sizeLine ∧ N τ2 (upd H5 D (.dT (putK kvs key y))) else N τ2 H3)
theorem comp_blockDT (S : CScope X.env.scope X.N sc own idx N') {cl : List (Str × Addr)} (c1 : ∀ x c, cl.lookup x = some c → X.env.cells.lookup x = some c) (c2 : ∀ y ∈ sc.names, y.2 = .free → ∃ c, cl.lookup y.1 = some c) (hc : X.calm = true) (hu : X.A.units < cLine)
    (hg : ∀ cl C s3 H0 fp pn, PG (cxComp X N' sc cl C s3 H0 fp pn) tg g) (ht : ∀ cl C s3 H0 fp pn, PC' (cxComp X N' sc cl C s3 H0 fp pn) ifs tc) (he : ∀ cl C s3 H0 fp pn, PE (cxComp X N' sc cl C s3 H0 fp pn) kx tk) (hv : ∀ cl C s3 H0 fp pn, PE (cxComp X N' sc cl C s3 H0 fp pn) vx tw)
    {pins : List (Addr × Obj)} {σ : St} {Q : VK} {itv : Value} {s2 : Shared} {RR : Value → Addr → Result → Shared → Prop} {E : Value → Shared → Prop}
    (hI : PIE X pins σ tg (fun J H1 => ∀ D, H1 D = none → ∃ W : Nat → Nat → St → Hp → Prop, (∃ m, W 0 m (stIn own idx σ) (upd H1 D (.dT []))) ∧ ∀ i m τ H, W i m τ H →
      (J.stop i H ∧ Q (.ref D) H) ∨ (J.go i H ∧ ∃ N : St → Hp → Prop, (∀ τ' H', N τ' H' → ∃ m', m' < m ∧ W (i + 1) m' τ' H') ∧ ∀ x H', J.yld i H x H' → g x τ H' fun τ2 H2 => tc τ2 H2 fun b H3 =>
        if b = true then tk τ2 H3 fun x H4 => tw τ2 H4 fun y H5 => ∃ kvs key b, x = .ref b ∧ RdT H5 b (key.map kV) ∧ H5 D = some (.dT kvs) ∧ kvs.length < sizeLine ∧ N τ2 (upd H5 D (.dT (putK kvs key y))) else N τ2 H3)) itv s2)
    (hRR : ∀ D C H' s', Inv X pins σ H' s' → Q (.ref D) H' → (H' C = none ∧ C ≠ X.env.locals ∧ X.s₀.heap.objs.size ≤ C ∧ (∀ x c, X.env.cells.lookup x = some c → c ≠ C) ∧ (∀ p ∈ X.pn ++ pins, p.1 ≠ C) ∧ ∃ m, s'.heap.Ns C m) → RR (.ref D) C (.ok .next) s') :
    wpAny (model X.prog X.w) X.A newDict (fun acc s₃ => wpAny (model X.prog X.w) X.A (newFunctionEnv sc X.env.globals cl [] X.env.qual none .none (some X.env)) (fun cenv s₄ =>
      codeAny (model X.prog X.w) X.A (.compStart (.DictComp kx vx [⟨tg, iter, ifs, 0⟩] sc pos) 0 itv acc { cenv with scope := relabel sc X.env }) (RR acc cenv.locals) s₄) E s₃) E s2 := by
  obtain ⟨it, fp, tn, J, H2, rfl, I, T, st2, f2, body⟩ := hI
  refine wpAny_newObj_type (wpAny_newFunctionEnv S.cell (by intro y hy; simp at hy) (fun h4 ns sb => ?_) S.kind)
  dsimp only at ns sb ⊢
  have hob : dob.isFreed = false := rfl
  have fr : H2 s2.heap.objs.size = none := I.hok.fresh (Nat.le_refl _)
  obtain ⟨W, ⟨m0, w0⟩, turn⟩ := body _ fr
  have hfo : ∀ b ∈ fp, ∃ o, s2.heap.get? b = some o := fun b hb => let ⟨o, e, _⟩ := T.obj _ _ st2 b hb; ⟨o, e⟩
  have sb' : ∀ b o, (s2.heap.push dob).get? b = some o → h4.get? b = some o := fun b o e => (sb.2 b (Nat.ne_of_lt (Heap.lt_size e))).trans (Heap.get?_push_of_some _ e)
  have hDo : ∀ (H : Hp) (h : Heap), h.get? s2.heap.objs.size = some dob → ObjOk X.prog X.w H h s2.heap.objs.size (.dT []) := fun H h e => ⟨Nat.zero_le _, beq_eq_false_iff_ne.mpr (Ne.symm (Nat.ne_of_lt I.big)), [], .nil, _, #[], 0, e, ⟨rfl, rfl, rfl⟩, rfl, rfl, List.nodup_nil⟩
  have I4 : Inv (cxComp X N' sc cl (s2.heap.push dob).objs.size { s2 with heap := s2.heap.push dob } (upd H2 s2.heap.objs.size (.dT [])) fp (X.pn ++ pins)) [] (stIn own idx σ) (upd H2 s2.heap.objs.size (.dT [])) { s2 with heap := h4, toks := s2.toks + ([] : List (Str × Value)).length } :=
    inv_comp S I f2 hfo c1 c2 hob hDo ns sb'
  -- the block's own context
  generalize hY : cxComp X N' sc cl (s2.heap.push dob).objs.size { s2 with heap := s2.heap.push dob } (upd H2 s2.heap.objs.size (.dT [])) fp (X.pn ++ pins) = Y at I4
  have hgY : PG Y tg g := by rw [← hY]; exact hg _ _ _ _ _ _
  have htY : PC' Y ifs tc := by rw [← hY]; exact ht _ _ _ _ _ _
  have heY : PE Y kx tk := by rw [← hY]; exact he _ _ _ _ _ _
  have hvY : PE Y vx tw := by rw [← hY]; exact hv _ _ _ _ _ _
  have pY : Y.prog = X.prog := by rw [← hY]
  have wY : Y.w = X.w := by rw [← hY]
  have KY : Y.K = X.K := by rw [← hY]
  have AY : Y.A = X.A := by rw [← hY]
  have cY : Y.calm = true := by rw [← hY]; exact hc
  have xY : Y.xe = fun _ _ => False := by rw [← hY]
  have eY : Y.env = compEnvC sc cl (s2.heap.push dob).objs.size X.env := by rw [← hY]
  have exY : Y.ex = fp := by rw [← hY]
  have fsY : Y.fs = frs X.stack := by rw [← hY]
  have pnY : Y.pn = X.pn ++ pins := by rw [← hY]
  have stat : ∀ {H' : Hp}, (∀ b ∈ fp, H' b = none) → ∀ b ∈ fp, FpOk Y [] H' b := fun hn b hb => by
    obtain ⟨f0, f1, f3, f4, f5, f6⟩ := f2 b hb
    refine ⟨hn b hb, ?_, ?_, .inl (by rw [exY]; exact hb), fun x c e => ?_, fun p hp => ?_⟩
    · obtain ⟨o, e⟩ := hfo b hb
      have := Heap.lt_size e
      rw [eY]
      show b ≠ (s2.heap.push dob).objs.size
      rw [Heap.size_push]; exact Nat.ne_of_lt (Nat.lt_succ_of_lt this)
    · rw [fsY]
      intro z
      rcases List.mem_cons.mp (I.stkSub b z) with z | z
      · exact f1 z
      · exact f3 z
    · rw [eY] at e
      exact f5 x c (c1 x c e)
    · rw [pnY, List.append_nil] at hp
      exact f6 p hp
  have st4 : tn 0 h4 := T.keep _ _ _ st2 fun b hb o e => sb' b o (Heap.get?_push_of_some _ e)
  have fr4 : ∀ b ∈ fp, upd H2 s2.heap.objs.size (.dT []) b = none := fun b hb => by
    obtain ⟨o, e⟩ := hfo b hb
    rw [upd_ne (Nat.ne_of_lt (Heap.lt_size e))]
    exact (f2 b hb).1
  have loop : codeAny (model X.prog X.w) X.A (.compLoop (.DictComp kx vx [⟨tg, iter, ifs, 0⟩] sc pos) 0 (.ref it) (.ref s2.heap.objs.size) (compEnvC sc cl (s2.heap.push dob).objs.size X.env))
      (RR (.ref s2.heap.objs.size) (s2.heap.push dob).objs.size) { s2 with heap := h4, toks := s2.toks + ([] : List (Str × Value)).length } := by
    refine compLoopD (fun n s' => ∃ i τ H', Inv Y [] τ H' s' ∧ tn i s'.heap ∧ (∀ b ∈ fp, H' b = none) ∧ W i n τ H') ?_ m0 ⟨0, _, _, I4, st4, fr4, w0⟩
    rintro n s3 ⟨i, τ3, H3, I3, st3, fr3, w3⟩
    rcases turn i n τ3 H3 w3 with ⟨stop, qn⟩ | ⟨go, N, hN, step⟩
    · have h := T.done Y pY wY KY cY i [] s3 τ3 H3 NoE I3 (stat fr3) st3 stop
      rw [AY] at h
      refine thn h ?_
      rintro r s4 ⟨hr, I4'⟩
      subst hr
      have J4 := I4'
      rw [← hY] at J4
      obtain ⟨b1, b2⟩ := comp_back I f2 hob J4
      exact hRR _ _ _ _ b1 qn b2
    · have h := T.item Y pY wY KY cY i [] s3 τ3 H3 NoE I3 (stat fr3) st3 go
      rw [AY] at h
      refine thn h ?_
      rintro r s4 ⟨u, hr, h4'⟩
      subst hr
      refine thn h4' ?_
      rintro _ s5 ⟨x, H5, I5, r5, y5, st5, fr5⟩
      have I5' := I5.pinned (stat fr5) (T.obj _ _ st5)
      have g5 := hgY _ s5 τ3 H5 x u _ I5' r5 (step x H5 y5)
      rw [pY, wY, AY, xY, eY] at g5
      refine thn g5 ?_
      rintro _ s6 ⟨τ6, H6, I6, q6⟩
      have t6 := htY _ s6 τ6 H6 _ I6 q6
      rw [pY, wY, AY, xY, eY] at t6
      refine thn t6 ?_
      rintro ok s7 ⟨H7, I7, q7⟩
      have again : ∀ {τ8 : St} {H8 : Hp} {s8 : Shared}, Inv Y ([] ++ pinsAt fp s5.heap) τ8 H8 s8 → N τ8 H8 → ∃ m, m < n ∧ ∃ i τ' H', Inv Y [] τ' H' s8 ∧ tn i s8.heap ∧ (∀ b ∈ fp, H' b = none) ∧ W i m τ' H' := fun {τ8 H8 s8} I8 n8 => by
        obtain ⟨m', hm, w8⟩ := hN τ8 H8 n8
        refine ⟨m', hm, i + 1, τ8, H8, I8.unpinned, T.keep _ _ _ st5 fun b hb o e => (I8.pin (b, o) (List.mem_append_right _ (List.mem_append_right _ (mem_pinsAt hb e)))).1, fun b hb => ?_, w8⟩
        obtain ⟨o, e, d⟩ := T.obj _ _ st5 b hb
        exact (I8.pin (b, o) (List.mem_append_right _ (List.mem_append_right _ (mem_pinsAt hb e)))).2.1
      cases ok with
      | false =>
        rw [if_neg (by decide)] at q7 ⊢
        exact again I7 q7
      | true =>
        rw [if_pos rfl] at q7 ⊢
        have e7 := heY _ s7 τ6 H7 _ I7 q7
        rw [pY, wY, AY, xY, eY] at e7
        refine thn e7 ?_
        rintro kv s8 ⟨x8, H8, I8, r8, q8⟩
        have v8 := hvY _ s8 τ6 H8 _ I8 q8
        rw [pY, wY, AY, xY, eY] at v8
        refine thn v8 ?_
        rintro yv s9 ⟨y9, H9, I9, r9, kvs, key, b9, ek, eb, hD9, hz, n9⟩
        subst ek
        cases (show kv = Value.ref b9 from r8)
        obtain ⟨z, hd, xs, rel, dd⟩ := dt_of I9.hok hD9
        have hzz : xs.length ≤ sizeLine := by rw [← Paired.length rel]; exact z
        have hlen : (putK kvs key y9).length ≤ sizeLine := by have := length_putK kvs key y9; omega
        have hky := key_of I9.hok eb
        rw [pY, wY] at dd hky
        refine wpAny_dictSet_heap (hsz := hzz) hu hky dd fun h' dd' hs => ?_
        rw [← pY, ← wY] at dd'
        obtain ⟨q, es, ep, hq, h2, h3, h4, _, h5⟩ := dd'
        have I10 := d_write (t' := s9.toks + (tupleKind (mixKind X.prog X.w)).draws key) (ob := .dT (putK kvs key y9)) I9 (by rw [hD9]; exact True.intro) hs ⟨q, hq⟩ ⟨hlen, hd, _, (rel.put key eb r9).keeps fun c ys ec => ec.upd fun u hu z => by subst z; rcases ec with ec | ⟨_, ec⟩ <;> (rw [hD9] at ec; cases ec), q, es, ep, hq, h2, h3, h4, h5⟩
        exact again I10 n9
  exact codeAny_compStart_dict loop (T.self _ 0 _ _ _ st4 loop)
theorem pe_dcT (S : CScope X.env.scope X.N sc own idx N') (hc : X.calm = true) (hu : X.A.units < cLine) (hi : PI X tg iter wi)
    (hg : ∀ cl C s3 H0 fp pn, PG (cxComp X N' sc cl C s3 H0 fp pn) tg g) (ht : ∀ cl C s3 H0 fp pn, PC' (cxComp X N' sc cl C s3 H0 fp pn) ifs tc) (he : ∀ cl C s3 H0 fp pn, PE (cxComp X N' sc cl C s3 H0 fp pn) kx tk) (hv : ∀ cl C s3 H0 fp pn, PE (cxComp X N' sc cl C s3 H0 fp pn) vx tw)
    (hs : ∀ x, foldedSetIterable iter X.env x = pure x := by intro _; rfl) : PE X (.DictComp kx vx [⟨tg, iter, ifs, 0⟩] sc pos) (tDCT own idx wi g tc tk tw) := by
  intro pins s σ H Q I h
  obtain ⟨cl, hcl, c1, c2⟩ := S.closure I.ok
  show wpAny _ X.A (comprehension (.DictComp kx vx [⟨tg, iter, ifs, 0⟩] sc pos) sc X.env _ newDict false (eval iter X.env)) _ _ s
  refine wpAny_comprehension_free (use := none) rfl hs hcl S.kind S.names (thn (hi pins s σ H _ I h) fun v s1 h1 => thn h1 fun itv s2 h2 => ?_)
  refine comp_blockDT (Q := Q) (pins := pins) (σ := σ) (RR := fun acc C => compPost (model X.prog X.w) X.A X.xe none (EP X pins σ Q) acc C) S c1 c2 hc hu hg ht he hv h2 ?_
  intro D C H' s' I' q ⟨a1, a2, a3, a4, a5, m, a6⟩
  exact ⟨m, a6, fun h' sb => ⟨.ref D, H', I'.turned (t' := s'.toks) (fun b o hb e => (sb.2 b hb).trans e) a1 (Ne.symm (Ne.symm a2)) (.inr a3) a4 a5, rfl, q⟩⟩
theorem z_dcT (S : CScope X.env.scope X.N sc own idx N') (hc : X.calm = true) (hu : X.A.units < cLine) (hi : SI X tg iter wi)
    (hg : ∀ cl C s3 H0 fp pn, SG (cxComp X N' sc cl C s3 H0 fp pn) tg g) (ht : ∀ cl C s3 H0 fp pn, SC (cxComp X N' sc cl C s3 H0 fp pn) ifs tc) (he : ∀ cl C s3 H0 fp pn, SE (cxComp X N' sc cl C s3 H0 fp pn) kx tk) (hv : ∀ cl C s3 H0 fp pn, SE (cxComp X N' sc cl C s3 H0 fp pn) vx tw)
    (hs : ∀ x, foldedSetIterable iter X.env x = pure x := by intro _; rfl) : SE X (.DictComp kx vx [⟨tg, iter, ifs, 0⟩] sc pos) (tDCT own idx wi g tc tk tw) :=
  ⟨pe_dcT S hc hu hi.h (fun q r s t u v => (hg q r s t u v).h) (fun q r s t u v => (ht q r s t u v).h) (fun q r s t u v => (he q r s t u v).h) (fun q r s t u v => (hv q r s t u v).h) hs⟩
end
end L2
set_option maxRecDepth 100000
namespace L2
open PySem PySem.Spec PyProof.Rows
def ClT (K : PySem.W.Frag) (mg : Str → Option Value) (x q : Str) (st : Stmt) (ps fs : List Str) (C : Addr) : Prop :=
  mg x = some (.ref C) ∧ Cls K C ∧ (∀ f ∈ fs, NoAttr K C f) ∧ ∃ (f : Addr) (fd : FuncData), Mk K C f ∧ Fun K "__init__" q st f fd ∧ Binds K fd ps []
def ClK (P : Program) (w : World) (K : PySem.W.Frag) (mg : Str → Option Value) (base : Heap) (k : Nat) (x : Str) (C : Addr) (ps : List Str) (sp : Sp) : Prop :=
  mg x = some (.ref C) ∧ ∃ (f : Addr) (fd : FuncData), Mk K C f ∧ FnOk P w K mg base CX0 k f fd ps sp ∧ Binds K fd ps []
section
variable {X : Cx} {e o value : Expr} {es : List Expr} {te ta tv : TE} {t : TA} {f x : Str} {pos pos' p : Pos} {C : Addr} {k : Nat} {ps : List Str} {sp : Sp}
theorem z_fld (K : PySem.W.Frag) (he : SE X e te) (h : X.K = K := by rfl) (hb : attributeBase e f X.env (eval e X.env) = eval e X.env := by rfl) : SE X (.Attribute e f pos) (tFld K te f) := by subst h; exact ⟨pe_fld he.h hb⟩
theorem s_fld (K : PySem.W.Frag) (ha : SE X o ta) (hv : SE X value tv) (h : X.K = K := by rfl) (hs : swapsWith value (some (.Attribute o f pos')) pos.line X.env = pure false := by rfl) : SS X (.Assign [.Attribute o f pos'] value pos) (sFld K ta tv f) := by subst h; exact ⟨ps_fld ha.h hv.h hs⟩
theorem z_make (F : ClK X.prog X.w X.K X.mg X.base k x C ps sp) (hr : Room (k + 1) X.A) (ha : SA X (e :: es) t) (hg : Gl X x := by rfl) (hdb : (x == ("__debug__" : Str)) = false := by decide)
    (he : starEach (e :: es) X.env = (false, eval e X.env) :: starEach es X.env := by rfl) (hpl : (backTo pos (starEach es X.env)).any (·.1) = false := by rfl) :
    SE X (.Call (.Name x p) (e :: es) [] pos) (tMake C sp [] E0 t) := by
  obtain ⟨m, f, fd, M, G, b⟩ := F
  exact ⟨pe_make M G hr hg m b .nil pass0 ha.h hdb he hpl⟩
end
theorem ClT.okS {P : Program} {w : World} {K : PySem.W.Frag} {mg : Str → Option Value} {base : Heap} {x q : Str} {st : Stmt} {N ps fs : List Str} {k : Nat} {sp : Sp} {C : Addr} (F : ClT K mg x q st ps fs C) (S : FnScope N ps (defScope st)) (len : ∀ vs H Q E, sp vs H Q E → vs.length = ps.length)
    (hbody : ∀ (f : Addr) (cdv : Value) (A : Around) (outer : List Env) (s : Shared) (H : Hp) (vs : List V) (Q : VK) (E : XK), Room k (A.deeper (envOfC q (defScope st) s.heap.objs.size f cdv)) → sp vs H Q E →
      ∃ t, SB (cxOf CX0 P w K mg base N q (defScope st) f cdv A outer s H E).nox (defBody st) t ∧ t { nx := fun _ H' => Q .non H', rt := Q } (start N vs) H) : ClK P w K mg base (k + 1) x C ps sp := by
  obtain ⟨m, _, _, f, fd, M, Fu, b⟩ := F
  exact ⟨m, f, fd, M, Fu.ok S len fun cdv A outer s H vs Q E hr h => let ⟨t, h1, h2⟩ := hbody f cdv A outer s H vs Q E hr h; ⟨t, h1.h, h2⟩, b⟩
section
variable {X : Cx}
theorem Inv.freezeT {pins : List (Addr × Obj)} {σ : St} {H : Hp} {s : Shared} {a : Addr} {kvs : List (List Key × V)} (I : Inv X pins σ H s) (h : Rd H a (.dT kvs)) : ∃ o, Inv X pins σ (upd H a (.frz o (.dT kvs))) s := by
  rcases h with h | ⟨o, h⟩
  · have ok := (show ObjOk X.prog X.w H s.heap a (.dT kvs) from I.hok a _ h)
    obtain ⟨z, hd, xs, rel, o, es, ep, h1, h2, h3, h4, h5⟩ := ok
    refine ⟨o, I.write (x := a) (e := a) (h' := s.heap) (t' := s.toks) (o := .frz o (.dT kvs)) (by rw [h]; exact True.intro) (.inl rfl) (fun b u _ q => q) ⟨o, h1⟩ ⟨h1, z, hd, xs, ?_, o, es, ep, h1, h2, h3, h4, h5⟩⟩
    exact (show KT H kvs xs from rel).keeps fun c ys ec => ec.upd fun u hu z => by subst z; rcases ec with ec | ⟨_, ec⟩ <;> (rw [h] at ec; cases ec)
  · exact ⟨o, by rw [upd_self h]; exact I⟩
def tFrz (te : TE) : TE := fun σ H Q => te σ H fun x H1 => ∃ a, x = .ref a ∧ ((∃ kvs, Rd H1 a (.dK kvs) ∧ ∀ o, Q x (upd H1 a (.frz o (.dK kvs)))) ∨ ∃ kvs, Rd H1 a (.dT kvs) ∧ ∀ o, Q x (upd H1 a (.frz o (.dT kvs))))
theorem z_frz {e : Expr} {te : TE} (he : SE X e te) : SE X e (tFrz te) := by
  constructor
  intro pins s σ H Q I h
  refine thn (he.h pins s σ H _ I h) ?_
  rintro v s1 ⟨x, H1, I1, r1, a, ex, q⟩
  rcases q with ⟨kvs, hr, q⟩ | ⟨kvs, hr, q⟩
  · obtain ⟨o, es, ep, hd, I2, ho⟩ := I1.freeze hr
    exact ⟨x, _, I2, r1, q o⟩
  · obtain ⟨o, I2⟩ := I1.freezeT hr
    exact ⟨x, _, I2, r1, q o⟩
end
def valAt (kvs : List (Key × V)) (i : Nat) : V := ((kvs[i]?).map fun kv => kv.2).getD .non
def Iti (a : Addr) (o : Obj) (kvs : List (Key × V)) : It := ⟨fun i H => H a = some (.frz o (.dK kvs)) ∧ i < kvs.length, fun i H x H' => pairY (keyAt kvs i) (valAt kvs i) H x H', fun i H => H a = some (.frz o (.dK kvs)) ∧ kvs.length = i⟩
theorem itp_items {a : Addr} {o : Obj} (kvs : List (Key × V)) : ItP (Iti a o kvs) (fun H => H a = some (.frz o (.dK kvs))) kvs.length (keyAt kvs) (valAt kvs) := fun H ok => ⟨fun i hi => ⟨⟨ok, hi⟩, fun x H' h => h⟩, ok, rfl⟩
theorem kv_get2 {kvs : List (Key × V)} {vs : List (Key × Value)} (r : KV kvs vs) : ∀ {i : Nat} {p : Key × V}, kvs[i]? = some p → ∃ q, vs[i]? = some q ∧ q.1 = p.1 ∧ RelV p.2 q.2 := by
  intro i
  induction r generalizing i with
  | nil => intro p h; simp at h
  | cons a t ih =>
    intro p h
    cases i with
    | zero => simp at h; subst h; exact ⟨_, by simp, a.1.symm, a.2⟩
    | succ i => simp at h; simpa using ih h
theorem turn_items {P : Program} {w : World} {K : PySem.W.Frag} {elts : List Expr} {k : Nat} {pos : Pos} {a it : Addr} {o : Obj} {kvs : List (Key × V)} {ep : Nat} (hai : a ≠ it) (hep : ∃ es, o.data = .dict es ep) :
    Turn P w K (.Tuple elts k pos) (Iti a o kvs) [it] it (fun i h => ∃ ok ov, IsItemIter h it a i kvs.length ep ok ov) where
  mem := by simp
  obj := fun i h st b hb => by
    have e : b = it := by simpa using hb
    subst e
    obtain ⟨ok, ov, he⟩ := st
    exact ⟨_, he, fun v z => by
      have z' : Data.fields _ = Data.cell v := z
      cases z'⟩
  keep := fun i h h' st k => let ⟨ok, ov, he⟩ := st; ⟨ok, ov, k it (by simp) _ he⟩
  item := by
    intro X hP hw hK hc i pins s σ H E I hf st hg
    subst hP hw hK
    obtain ⟨ok, ov, he⟩ := st
    obtain ⟨hq, hi⟩ := hg
    obtain ⟨e, z, hd, vs, rel, ob, es, ep', h1, h2, h3, h4⟩ := (show ObjOk X.prog X.w H s.heap a (.frz o (.dK kvs)) from I.hok a _ hq)
    obtain ⟨es', he'⟩ := hep
    rw [e] at h1; cases h1
    rw [he'] at h3; injection h3 with h3a h3b
    subst h3a h3b
    obtain ⟨q, hq1, hq2, hq3⟩ := kv_get2 rel (List.getElem?_eq_getElem hi)
    have hl := rel.len
    obtain ⟨qk, qv⟩ := q
    refine wpAny_pyNext_items_item (knd := mixKind X.prog X.w) (kvs := vs) (ep := ep) (ok := ok) (ov := ov) (by rw [← hl]; exact he) ⟨o, es', e, h2, he', h4⟩ hq1 fun key h' hk ho hT hsz hkp => ?_
    have rk : RelV (keyAt kvs i) key := by
      unfold keyAt
      rw [List.getElem?_eq_getElem hi]
      show RelV (kV kvs[i].1) key
      have hqk : qk = kvs[i].1 := hq2
      rw [← hqk]
      exact relV_key hk
    have rv : RelV (valAt kvs i) qv := by
      unfold valAt
      rw [List.getElem?_eq_getElem hi]
      exact hq3
    have I1 : Inv X pins σ (upd H s.heap.objs.size (.tup [keyAt kvs i, valAt kvs i])) { s with heap := h' } := I.turnedT (t' := s.toks) hf (fun b o hb e => hkp b o (fun z => hb (by simp [z])) e) (Nat.le_refl _) (tup2_ok rk rv hT)
    refine ⟨_, rfl, wpAny_letOwnedTupleGo_items (s := { s with heap := h' }) ho fun h'' he'' sb => ?_⟩
    have hlt : it ≠ s.heap.objs.size := Nat.ne_of_lt (Heap.lt_size he)
    obtain ⟨f0, f1, f2, f3, f4, f5⟩ := hf it (by simp)
    have f0' : upd H s.heap.objs.size (.tup [keyAt kvs i, valAt kvs i]) it = none := by rw [upd_ne hlt]; exact f0
    refine ⟨.ref s.heap.objs.size, _, I1.turned (t' := s.toks) (fun b o hb q => (sb.2 b hb).trans q) f0' f1 f3 f4 f5, rfl, ⟨_, rfl, I.hok.fresh (Nat.le_refl _), rfl⟩, ⟨_, _, by rw [hl]; exact he''⟩, fun b hb => ?_⟩
    have e : b = it := by simpa using hb
    subst e
    exact f0'
  done := by
    intro X hP hw hK hc i pins s σ H E I hf st hg
    subst hP hw hK
    obtain ⟨ok, ov, he⟩ := st
    obtain ⟨hq, hi⟩ := hg
    obtain ⟨e, z, hd, vs, rel, ob, es, ep', h1, h2, h3, h4⟩ := (show ObjOk X.prog X.w H s.heap a (.frz o (.dK kvs)) from I.hok a _ hq)
    obtain ⟨es', he'⟩ := hep
    rw [e] at h1; cases h1
    rw [he'] at h3; injection h3 with h3a h3b
    subst h3a h3b
    have hl := rel.len
    obtain ⟨f0, f1, f2, f3, f4, f5⟩ := hf it (by simp)
    exact wpAny_pyNext_items_end (knd := mixKind X.prog X.w) (kvs := vs) (ep := ep) (ok := ok) (ov := ov) (I.ok.hd hc) (by rw [← hl]; exact he) ⟨o, es', e, h2, he', h4⟩ (by simp; omega) fun h' eb => ⟨rfl, I.turned (t' := s.toks) (fun b o hb e => eb b o hb e) f0 f1 f3 f4 f5⟩
  self := fun _ _ _ _ _ st h => let ⟨_, _, he⟩ := st; PySem.W.kcp_self he h
section
variable {X : Cx} {elts : List Expr} {k : Nat} {tpos apos cpos : Pos} {o : Expr} {to : TE}
def iItems (te : TE) : TI := fun σ H R => te σ H fun x H1 => ∃ a kvs, x = .ref a ∧ ((∃ o, H1 a = some (.frz o (.dK kvs)) ∧ R (Iti a o kvs) H1) ∨ (H1 a = some (.dK kvs) ∧ ∀ o, R (Iti a o kvs) (upd H1 a (.frz o (.dK kvs)))))
theorem pi_items (ho : SE X o to) (hbase : attributeBase o "items" X.env (eval o X.env) = eval o X.env := by rfl) (hline : (apos.endLine == cpos.line) = true := by rfl) :
    SI X (.Tuple elts k tpos) (.Call (.Attribute o "items" apos) [] [] cpos) (iItems to) := by
  constructor
  intro pins s σ H R I h
  refine wpAny_Call_method0_late hbase hline (thn (ho.h pins s σ H _ I h) ?_)
  rintro v s1 ⟨x, H1, I1, r1, a, kvs, ex, hr⟩
  subst ex
  cases r1
  obtain ⟨o, H2, I2, hH2, q⟩ : ∃ (o : Obj) (H2 : Hp), Inv X pins σ H2 s1 ∧ H2 a = some (.frz o (.dK kvs)) ∧ R (Iti a o kvs) H2 := by
    rcases hr with ⟨o, e, q⟩ | ⟨e, q⟩
    · exact ⟨o, H1, I1, e, q⟩
    · obtain ⟨o, _, _, _, I2, _⟩ := I1.freeze (.inl e)
      exact ⟨o, _, I2, upd_same, q o⟩
  obtain ⟨e, z, hdm, vs, rel, ob, es, ep, h1, h2, hd, h4⟩ := (show ObjOk X.prog X.w _ s1.heap a (.frz o (.dK kvs)) from I2.hok a _ hH2)
  rw [e] at h1; cases h1
  have hl := rel.len
  have hT : s1.TypeIs (.ref a) "dict" := ⟨o, e, h2.1⟩
  refine ⟨"dict", "dict.items", PySem.F.plainAttrs_dict, PySem.F.slot_dict_items, PySem.F.type_dict_items, hT, fun b hb => by cases hb; exact ⟨o, e, h2.2.1⟩, Calls.callWith_builtin rfl (PySem.evalArgs_none ?_)⟩
  refine call_meetsIn PySem.F.slot_dict_items hT PySem.F.entry_dict_items (PySem.F.args_dict_items_1 _) (meets_dict_items (mixKind X.prog X.w) a hdm) ⟨⟨vs, o, es, ep, e, h2, hd, h4⟩, ?_⟩
  have I3 : Inv X pins σ H2 { s1 with heap := s1.heap.push { cls := .type "dict_items", data := .fields #[.ref a] } } := I2.kept (t' := s1.toks) fun b o e => Heap.get?_push_of_some _ e
  refine wpAny_pyIter_items (knd := mixKind X.prog X.w) (kvs := vs) (ep := ep) ⟨_, Heap.get?_push_size _ rfl, rfl, rfl⟩ ⟨o, es, Heap.get?_push_of_some _ e, h2, hd, h4⟩ ?_
  have hne : a ≠ (s1.heap.push { cls := .type "dict_items", data := .fields #[.ref a] }).objs.size := by
    rw [Heap.size_push]; exact Nat.ne_of_lt (Nat.lt_succ_of_lt (Heap.lt_size e))
  refine ⟨_, [(s1.heap.push { cls := .type "dict_items", data := .fields #[.ref a] }).objs.size], _, _, _, rfl, I3.kept (t' := s1.toks) fun b o e => Heap.get?_push_of_some _ e, turn_items (kvs := kvs) (a := a) (o := o) hne ⟨es, hd⟩, ⟨.none, .none, by rw [hl]; exact Heap.get?_push_size _ rfl⟩, fun b hb => ?_, q⟩
  have e : b = (s1.heap.push { cls := .type "dict_items", data := .fields #[.ref a] }).objs.size := by simpa using hb
  subst e
  exact I3.fpOk (Nat.le_refl _) (I3.hok.fresh (Nat.le_refl _))
end
end L2
set_option maxRecDepth 100000
namespace PySem
theorem ask_keys_list {prog : Program} {w : World} {A : Around} {E : Value → Shared → Prop} {s : Shared} {a : Addr} {o : Obj} {xs : Array Value} {k : Nat} {Q : Option Value → Shared → Prop}
    (hx : s.heap.get? a = some o) (hc : o.cls = .type "list") (hdat : o.data = .seq xs k) (hd : o.dict = none) (hA : A.handled = none)
    (h : ∀ h' tk, (∀ b ob, s.heap.get? b = some ob → h'.get? b = some ob) → Q none { s with heap := h', toks := tk }) :
    wpAny (model prog w) A (getAttr? (.ref a) "keys") Q E s := by
  obtain ⟨c, dct, dat, sl⟩ := o
  simp only at hc hdat hd
  subst hc hdat hd
  obtain ⟨hp, g, d, tk, os⟩ := s
  have hT : ∀ tk', (⟨hp, g, d, tk', os⟩ : Shared).TypeIs (.ref a) "list" := fun _ => ⟨_, hx, rfl⟩
  have hmiss : typeLookup (.type "list") "keys" = pure none := am_miss_of_fast (by kernel_rfl)
  have f1 := sub_AttributeError
  have f3 := F.slot_list_getattribute.lookup
  have f4 := F.slot_list_getattribute.bind (.ref a)
  have f5 := am_list_getattr_none
  unfold getAttr? getAttrBy? getAttrBy
  repeat (any_goals (first | assumption | exact hT _ | ((with_reducible show wpAny _ _ (call (Value.builtin "list.__getattribute__") _ _) _ _ _); refine call_meets F.slot_list_getattribute (hT _) am_entry_list_getattribute (F.args_list_getattribute_2 _ _) (meets_getattribute_miss_list a xs k sl _ _ hmiss (by decide) (by decide)) ⟨hx, hA, fun h' tk' e hx' => ?_⟩) | wp_step))
  obtain ⟨t', u', he⟩ := hx'.there
  show wpAny _ _ (getattributeRaised _ _ _ _ _ _ _) _ _ _
  unfold getattributeRaised
  repeat (any_goals (first | assumption | wp_step))
  exact h _ _ hx'.keeps
end PySem
namespace L2
open PySem PySem.Spec PyProof.Rows
section
variable {X : Cx}
end
end L2
set_option maxRecDepth 100000
namespace L2
open PySem PySem.Spec PyProof.Rows
section
variable {X : Cx} {pins : List (Addr × Obj)} {σ : St} {H : Hp} {s : Shared}
end
section
variable {X : Cx} {o e : Expr} {es : List Expr} {apos cpos : Pos} {to : TE} {t : TA}
end
end L2
set_option maxRecDepth 100000
namespace L2
open PySem PySem.Spec PyProof.Rows
theorem sa_Attribute {X : Cx} {a0 : Expr} {n : Str} {pos0 : Pos} {es : List Expr} {te : TE} {t : TA} (ha : SE X (.Attribute a0 n pos0) te) (hr : SA X es t) : SA X (.Attribute a0 n pos0 :: es) (tCons te t) := ⟨pa_cons ha.h hr.h⟩
theorem ktup_mk {K : PySem.W.Frag} {a : Addr} {it : Array Value} {n : Nat} {sq : Array (Option Value)} {xs : List V} (gl : K.lookup a = some ⟨.type "tuple", none, .seq it n, sq⟩) (gv : Vals xs it.toList) (gz : xs.length ≤ sizeLine) : KTup K (a, ⟨.type "tuple", none, .seq it n, sq⟩, xs) :=
  ⟨gl, it.toList, n, rfl, rfl, by simp, gv, gz⟩
theorem walk_ofT2 {l : PySem.W.OpenLaw} {n k : Nat} {q : Program} {loose : List Str} {XP : (Str → Option Value) → Heap → Prop} {YP : World → Heap → Prop} {d : DefRec} {K : Params → PySem.W.Frag} {x : Str}
    (hn : l.most = some n) (hn2 : n ≤ sizeLine) (hdf : d.params.defaults = []) (hr : Room k callerA)
    (hY : ∀ (w : World) (h : Heap), YP w h → (K w.params).In h)
    (F : ∀ (w : World) (mg : Str → Option Value) (fa : Addr) (h : Heap), (K w.params).In h → h.Ns mainGlobals mg → mg d.name = some (.ref fa) →
      ∃ (ts : List (Addr × Obj × List V)) (fd : FuncData) (sp : Sp), (∀ t ∈ ts, KTup (K w.params) t) ∧ (ts.map (·.1)).Nodup ∧ (∀ (s : Shared) (u : Value), BindsTo s fd ⟨[u], []⟩ [(x, u)]) ∧
        (∀ base : Heap, (without (K w.params) (ts.map (·.1))).In base → base.Ns mainGlobals mg → FnOk l.prog w (without (K w.params) (ts.map (·.1))) mg base CX0 k fa fd [x] sp) ∧
        (∀ (H : Hp) (a : Addr) (ns : List Int), ns.length ≤ n → (∀ t ∈ ts, H t.1 = some (.frz t.2.1 (.tup t.2.2))) → SqL (without (K w.params) (ts.map (·.1))) H a (ns.map V.int) → sp [.ref a] H (fun v _ => v = .bl true) fun _ _ _ => False)) :
    PySem.W.WalkO q loose XP YP l.row.toRowW d [] (fun f vs => PySem.call f vs) := by
  refine Att.attach_call hn hdf fun w s₀ s₁ mg mb fa o pm cd doc a vs ns G Y ho hd hcd hmg hobj hints hlen hg => ?_
  have KX := hY w _ Y
  obtain ⟨ts, fd, sp, hts, nd, hb, hF, hsp⟩ := F w mg fa _ KX G.T.g hmg
  exact law_callT hts nd KX G.T.g G.T.b G.T.builtins G.T.nolimit hg hobj hints (Nat.le_trans hlen hn2) hr hF hb (fun H _ ht hS => hsp H a ns hlen ht hS) fun _ _ _ z => z
theorem without_of {K : PySem.W.Frag} {as : List Addr} {b : Addr} {o : Obj} (h : K.lookup b = some o) (n : as.contains b = false) : (without K as).lookup b = some o := by
  rw [without_lookup, if_neg (by rw [n]; decide)]; exact h
end L2
set_option maxRecDepth 100000
namespace L2
open PySem PySem.Spec PyProof.Rows
theorem dc_by {J : It} {ok : Hp → Prop} {n : Nat} {item : Nat → V} {g : TG} {tc : TC} {tk tw : TE} {τ0 : St} {H0 : Hp} {D : Addr} {Q : Hp → Prop} (hJ : ItN J ok n item) (Pv : Nat → St → Hp → Prop) (h0 : Pv 0 τ0 H0)
    (hok : ∀ i τ H, i ≤ n → Pv i τ H → ok H)
    (hs : ∀ i τ H, i < n → Pv i τ H → g (item i) τ H fun τ2 H2 => tc τ2 H2 fun b H3 => if b = true then tk τ2 H3 fun x H4 => tw τ2 H4 fun y H5 => ∃ kvs key, x = kV key ∧ H5 D = some (.dK kvs) ∧ kvs.length < sizeLine ∧ Pv (i + 1) τ2 (upd H5 D (.dK (putK kvs key y))) else Pv (i + 1) τ2 H3)
    (hd : ∀ τ H, Pv n τ H → Q H) : ∃ W : Nat → Nat → St → Hp → Prop, (∃ m, W 0 m τ0 H0) ∧ ∀ i m τ H, W i m τ H →
      (J.stop i H ∧ Q H) ∨ (J.go i H ∧ ∃ N : St → Hp → Prop, (∀ τ' H', N τ' H' → ∃ m', m' < m ∧ W (i + 1) m' τ' H') ∧ ∀ x H', J.yld i H x H' → g x τ H' fun τ2 H2 => tc τ2 H2 fun b H3 =>
        if b = true then tk τ2 H3 fun x H4 => tw τ2 H4 fun y H5 => ∃ kvs key, x = kV key ∧ H5 D = some (.dK kvs) ∧ kvs.length < sizeLine ∧ N τ2 (upd H5 D (.dK (putK kvs key y))) else N τ2 H3) := by
  refine ⟨fun i m τ H => m = n - i ∧ i ≤ n ∧ Pv i τ H, ⟨n, by simp, Nat.zero_le _, h0⟩, ?_⟩
  rintro i m τ H ⟨rfl, hi, p⟩
  obtain ⟨k1, k2⟩ := hJ H (hok i τ H hi p)
  by_cases hlt : i < n
  · refine .inr ⟨(k1 i hlt).1, Pv (i + 1), fun σ' H' p' => ⟨n - (i + 1), by omega, rfl, hlt, p'⟩, fun x H' y => ?_⟩
    obtain ⟨e, e2⟩ := (k1 i hlt).2 x H' y
    subst e e2
    exact hs i τ _ hlt p
  · have e : i = n := by omega
    subst e
    exact .inl ⟨k2, hd τ H p⟩
theorem dc_pair {K : PySem.W.Frag} {J : It} {ok : Hp → Prop} {n : Nat} {f1 f2 : Nat → V} {a b : Nat} {tc : TC} {tk tw : TE} {τ0 : St} {H0 : Hp} {D : Addr} {Q : Hp → Prop} (hJ : ItP J ok n f1 f2) (Pv : Nat → St → Hp → Prop) (h0 : Pv 0 τ0 H0)
    (hok : ∀ i τ H, i ≤ n → Pv i τ H → ok H)
    (hs : ∀ i τ H T, i < n → Pv i τ H → H T = none → tc ((τ.set a (some (f1 i))).set b (some (f2 i))) (upd H T (.tup [f1 i, f2 i])) fun c H3 => if c = true then tk ((τ.set a (some (f1 i))).set b (some (f2 i))) H3 fun x H4 => tw ((τ.set a (some (f1 i))).set b (some (f2 i))) H4 fun y H5 =>
      ∃ kvs key, x = kV key ∧ H5 D = some (.dK kvs) ∧ kvs.length < sizeLine ∧ Pv (i + 1) ((τ.set a (some (f1 i))).set b (some (f2 i))) (upd H5 D (.dK (putK kvs key y))) else Pv (i + 1) ((τ.set a (some (f1 i))).set b (some (f2 i))) H3)
    (hd : ∀ τ H, Pv n τ H → Q H) : ∃ W : Nat → Nat → St → Hp → Prop, (∃ m, W 0 m τ0 H0) ∧ ∀ i m τ H, W i m τ H →
      (J.stop i H ∧ Q H) ∨ (J.go i H ∧ ∃ N : St → Hp → Prop, (∀ τ' H', N τ' H' → ∃ m', m' < m ∧ W (i + 1) m' τ' H') ∧ ∀ x H', J.yld i H x H' → g2 K a b x τ H' fun τ2 H2 => tc τ2 H2 fun b H3 =>
        if b = true then tk τ2 H3 fun x H4 => tw τ2 H4 fun y H5 => ∃ kvs key, x = kV key ∧ H5 D = some (.dK kvs) ∧ kvs.length < sizeLine ∧ N τ2 (upd H5 D (.dK (putK kvs key y))) else N τ2 H3) := by
  refine ⟨fun i m σ H => m = n - i ∧ i ≤ n ∧ Pv i σ H, ⟨n, by simp, Nat.zero_le _, h0⟩, ?_⟩
  rintro i m σ H ⟨rfl, hi, p⟩
  obtain ⟨k1, k2⟩ := hJ H (hok i σ H hi p)
  by_cases hlt : i < n
  · refine .inr ⟨(k1 i hlt).1, Pv (i + 1), fun σ' H' p' => ⟨n - (i + 1), by omega, rfl, hlt, p'⟩, fun x H' y => ?_⟩
    obtain ⟨T, rfl, hT, rfl⟩ := (k1 i hlt).2 x H' y
    exact g2_at upd_same (hs i σ _ T hlt p hT)
  · have e : i = n := by omega
    subst e
    exact .inl ⟨k2, hd σ H p⟩
theorem dcT_pair {K : PySem.W.Frag} {J : It} {ok : Hp → Prop} {n : Nat} {f1 f2 : Nat → V} {a b : Nat} {tc : TC} {tk tw : TE} {τ0 : St} {H0 : Hp} {D : Addr} {Q : Hp → Prop} (hJ : ItP J ok n f1 f2) (Pv : Nat → St → Hp → Prop) (h0 : Pv 0 τ0 H0)
    (hok : ∀ i τ H, i ≤ n → Pv i τ H → ok H)
    (hs : ∀ i τ H T, i < n → Pv i τ H → H T = none → tc ((τ.set a (some (f1 i))).set b (some (f2 i))) (upd H T (.tup [f1 i, f2 i])) fun c H3 => if c = true then tk ((τ.set a (some (f1 i))).set b (some (f2 i))) H3 fun x H4 => tw ((τ.set a (some (f1 i))).set b (some (f2 i))) H4 fun y H5 =>
      ∃ kvs key b', x = .ref b' ∧ RdT H5 b' (key.map kV) ∧ H5 D = some (.dT kvs) ∧ kvs.length < sizeLine ∧ Pv (i + 1) ((τ.set a (some (f1 i))).set b (some (f2 i))) (upd H5 D (.dT (putK kvs key y))) else Pv (i + 1) ((τ.set a (some (f1 i))).set b (some (f2 i))) H3)
    (hd : ∀ τ H, Pv n τ H → Q H) : ∃ W : Nat → Nat → St → Hp → Prop, (∃ m, W 0 m τ0 H0) ∧ ∀ i m τ H, W i m τ H →
      (J.stop i H ∧ Q H) ∨ (J.go i H ∧ ∃ N : St → Hp → Prop, (∀ τ' H', N τ' H' → ∃ m', m' < m ∧ W (i + 1) m' τ' H') ∧ ∀ x H', J.yld i H x H' → g2 K a b x τ H' fun τ2 H2 => tc τ2 H2 fun b H3 =>
        if b = true then tk τ2 H3 fun x H4 => tw τ2 H4 fun y H5 => ∃ kvs key b, x = .ref b ∧ RdT H5 b (key.map kV) ∧ H5 D = some (.dT kvs) ∧ kvs.length < sizeLine ∧ N τ2 (upd H5 D (.dT (putK kvs key y))) else N τ2 H3) := by
  refine ⟨fun i m σ H => m = n - i ∧ i ≤ n ∧ Pv i σ H, ⟨n, by simp, Nat.zero_le _, h0⟩, ?_⟩
  rintro i m σ H ⟨rfl, hi, p⟩
  obtain ⟨k1, k2⟩ := hJ H (hok i σ H hi p)
  by_cases hlt : i < n
  · refine .inr ⟨(k1 i hlt).1, Pv (i + 1), fun σ' H' p' => ⟨n - (i + 1), by omega, rfl, hlt, p'⟩, fun x H' y => ?_⟩
    obtain ⟨T, rfl, hT, rfl⟩ := (k1 i hlt).2 x H' y
    exact g2_at upd_same (hs i σ _ T hlt p hT)
  · have e : i = n := by omega
    subst e
    exact .inl ⟨k2, hd σ H p⟩
theorem putK_at {κ : Type} [DecidableEq κ] {kvs : List (κ × V)} (nd : (kvs.map (·.1)).Nodup) {i : Nat} (h : i < kvs.length) : putK (kvs.take i) kvs[i].1 kvs[i].2 = kvs.take (i + 1) := by
  rw [L2.putK_new _ (by
    cases e : valV (kvs.take i) kvs[i].1 with
    | none => rfl
    | some v =>
      have := valV_in e
      obtain ⟨p, hp, q⟩ := List.mem_map.mp this
      obtain ⟨j, hj, rfl⟩ := List.getElem_of_mem hp
      have hj' : j < i := by simp at hj; omega
      rw [List.getElem_take] at q
      have := List.pairwise_iff_getElem.mp nd j i (by simp; omega) (by simpa using h) hj'
      simp only [List.getElem_map] at this
      exact absurd q this), List.take_add_one, List.getElem?_eq_getElem h]
  rfl
theorem valV_at {κ : Type} [DecidableEq κ] {kvs : List (κ × V)} (nd : (kvs.map (·.1)).Nodup) {k : κ} {v : V} (h : (k, v) ∈ kvs) : valV kvs k = some v := by
  induction kvs with
  | nil => cases h
  | cons p r ih =>
    rw [List.map_cons, List.nodup_cons] at nd
    rcases List.mem_cons.mp h with e | h
    · rw [← e, valV_pos rfl]
    · have ne : ¬ p.1 = k := fun e => nd.1 (List.mem_map.mpr ⟨_, h, e.symm⟩)
      rw [valV_neg ne]; exact ih nd.2 h
theorem RdT.put {H : Hp} {b D : Addr} {ys : List V} {o u : HO} (r : RdT H b ys) (hD : H D = some o) (n1 : ∀ xs, o ≠ .tup xs) (n2 : ∀ q xs, o ≠ .frz q (.tup xs)) : RdT (L2.upd H D u) b ys := r.upd fun v hv z => by
  subst z
  rcases r with r | ⟨q, r⟩
  · rw [hD] at r; cases r; exact n1 _ rfl
  · rw [hD] at r; cases r; exact n2 _ _ rfl
end L2
set_option maxRecDepth 100000
namespace L2
open PySem PySem.Spec PyProof.Rows
def rowsE (rows : List Rw2) : List (Key × V) := rows.map fun r => (.inr r.1, .str (endOf rows r.1))
def nmsH : Hd → List Str
  | .as y => [y]
  | .way x y => [x, y]
  | .prs _ ps => ps.map (·.2)
  | _ => []
def movesE (rows : List Rw2) (h : Hd) : List (List Key × V) := h.mvs.map fun m => (m.1.map (Sum.inr : Str → Key), .str (endOf rows m.2))
theorem keys_inj {xs ys : List Str} (h : xs.map (Sum.inr : Str → Key) = ys.map Sum.inr) : xs = ys := by
  induction xs generalizing ys with
  | nil => cases ys with
    | nil => rfl
    | cons y ys => simp at h
  | cons x xs ih => cases ys with
    | nil => simp at h
    | cons y ys =>
      simp only [List.map_cons, List.cons.injEq, Sum.inr.injEq] at h
      rw [h.1, ih h.2]
theorem movesE_nodup {rows : List Rw2} {h : Hd} (nd : (h.mvs.map (·.1)).Nodup) : ((movesE rows h).map (·.1)).Nodup := by
  have e : (movesE rows h).map (·.1) = (h.mvs.map (·.1)).map fun m => m.map (Sum.inr : Str → Key) := by simp [movesE, List.map_map, Function.comp_def]
  rw [e]
  exact List.pairwise_map.mpr (nd.imp fun h e => h (keys_inj e))
theorem mvs_nms {h : Hd} (i : Nat) (hi : i < h.mvs.length) : (nmsH h)[i]? = some h.mvs[i].2 := by
  cases h with
  | one s => cases hi
  | as y => cases hi
  | way x y =>
    match i, hi with
    | 0, _ => rfl
    | 1, _ => rfl
  | prs s ps =>
    have hi' : i < ps.length := by simpa [Hd.mvs] using hi
    simp [nmsH, Hd.mvs, List.getElem?_eq_getElem hi']
theorem nms_le {h : Hd} : h.mvs.length ≤ (nmsH h).length := by
  cases h <;> simp [nmsH, Hd.mvs]
theorem mvs_few {h : Hd} {ns : List Str} (ok : h.ok ns) : h.mvs.length ≤ 10 := by
  cases h with
  | one s => simp [Hd.mvs]
  | as y => simp [Hd.mvs]
  | way x y => simp [Hd.mvs]
  | prs s ps => simpa [Hd.mvs] using ok.2.2.2
theorem rising_pw : ∀ {ws : List Str}, rising ws = true → ws.Pairwise (fun a b => strLt a b = true)
  | [], _ => .nil
  | [_], _ => List.pairwise_singleton _ _
  | a :: b :: r, h => by
    have h' : strLt a b = true ∧ rising (b :: r) = true := by simpa [rising] using h
    have ih := rising_pw h'.2
    refine List.pairwise_cons.mpr ⟨fun c hc => ?_, ih⟩
    rcases List.mem_cons.mp hc with rfl | hc
    · exact h'.1
    · exact strLt_trans h'.1 ((List.pairwise_cons.mp ih).1 c hc)
theorem rising_nodup {ws : List Str} (h : rising ws = true) : ws.Nodup := (rising_pw h).imp fun {x y} h e => by rw [e, strLt_irrefl] at h; cases h
theorem mvs_nd {h : Hd} {ns : List Str} (ok : h.ok ns) : (h.mvs.map (·.1)).Nodup := by
  cases h with
  | one s => exact List.nodup_nil
  | as y => exact List.nodup_nil
  | way x y => exact (by decide +kernel : (([["from"], ["to"]] : List (List Str))).Nodup)
  | prs s ps =>
    have hr := rising_nodup ok.2.2.1
    have e : (Hd.prs s ps).mvs.map (·.1) = (ps.map (·.1)).map fun w => ([if s = "box" then "part" else "case", w] : List Str) := by simp [Hd.mvs, List.map_map, Function.comp_def]
    rw [e]
    exact List.pairwise_map.mpr (hr.imp fun h e => h (by simpa using e))
theorem rowsE_get {rows : List Rw2} (nd : (rows.map (·.1)).Nodup) {x : Str} (hx : x ∈ rows.map (·.1)) : valV (rowsE rows) (.inr x) = some (.str (endOf rows x)) := by
  obtain ⟨r, hr, rfl⟩ := List.mem_map.mp hx
  refine valV_at ?_ (List.mem_map.mpr ⟨r, hr, rfl⟩)
  have e : (rowsE rows).map (·.1) = (rows.map (·.1)).map (Sum.inr : Str → Key) := by simp [rowsE, List.map_map, Function.comp_def]
  rw [e]
  exact List.pairwise_map.mpr (nd.imp fun h e => h (Sum.inr.inj e))
theorem kstr (m : List Str) : (m.map (Sum.inr : Str → Key)).map kV = m.map V.str := by simp [List.map_map, Function.comp_def, kV]
def nonAs (rows : List Rw2) : List Rw2 := rows.filter fun r => r.2.nx.isNone
structure DV (R : Hp → V → Rw2 → Prop) (H : Hp) (kvs : List (Key × V)) (rs : List Rw2) : Prop where
  len : kvs.length = rs.length
  at_ : ∀ i (h : i < kvs.length) (h' : i < rs.length), kvs[i].1 = .inr rs[i].1 ∧ R H kvs[i].2 rs[i]
theorem DV.keep {R : Hp → V → Rw2 → Prop} {H H' : Hp} {kvs : List (Key × V)} {rs : List Rw2} (h : DV R H kvs rs) (s : ∀ v r, R H v r → R H' v r) : DV R H' kvs rs := ⟨h.len, fun i a b => ⟨(h.at_ i a b).1, s _ _ (h.at_ i a b).2⟩⟩
theorem DV.nil {R : Hp → V → Rw2 → Prop} {H : Hp} : DV R H [] [] := ⟨rfl, fun i h => absurd h (by simp)⟩
theorem DV.snoc {R : Hp → V → Rw2 → Prop} {H : Hp} {kvs : List (Key × V)} {rs : List Rw2} (h : DV R H kvs rs) {v : V} {r : Rw2} (e : R H v r) : DV R H (kvs ++ [((Sum.inr r.1 : Key), v)]) (rs ++ [r]) := by
  have hl := h.len
  refine ⟨by simp [hl], fun i h1 h2 => ?_⟩
  by_cases hlt : i < kvs.length
  · rw [List.getElem_append_left hlt, List.getElem_append_left (by omega)]
    exact h.at_ i hlt (by omega)
  · have e' : i = kvs.length := by simp at h1; omega
    subst e'
    rw [List.getElem_append_right (Nat.le_refl _), List.getElem_append_right (by omega)]
    simp only [Nat.sub_self, hl, List.getElem_cons_zero, true_and]
    exact e
theorem DV.keys {R : Hp → V → Rw2 → Prop} {H : Hp} {kvs : List (Key × V)} {rs : List Rw2} (h : DV R H kvs rs) : kvs.map (·.1) = rs.map fun r => (.inr r.1 : Key) := by
  have hl := h.len
  refine List.ext_getElem (by simpa using hl) fun i h1 h2 => ?_
  simp only [List.getElem_map]
  exact (h.at_ i (by simpa using h1) (by simpa using h2)).1
theorem DV.put {R : Hp → V → Rw2 → Prop} {H : Hp} {kvs : List (Key × V)} {rs : List Rw2} (h : DV R H kvs rs) {r : Rw2} {v : V} (n : r.1 ∉ rs.map (·.1)) : putK kvs (.inr r.1) v = kvs ++ [(.inr r.1, v)] := by
  refine L2.putK_new _ ?_
  cases e : valV kvs (.inr r.1) with
  | none => rfl
  | some u =>
    have := valV_in e
    rw [h.keys] at this
    obtain ⟨r', hr', e'⟩ := List.mem_map.mp this
    exact absurd (List.mem_map.mpr ⟨r', hr', Sum.inr.inj e'⟩) n
theorem DV.get {R : Hp → V → Rw2 → Prop} {H : Hp} {kvs : List (Key × V)} {rs : List Rw2} (h : DV R H kvs rs) (nd : (rs.map (·.1)).Nodup) {r : Rw2} (hr : r ∈ rs) : ∃ v, valV kvs (.inr r.1) = some v ∧ R H v r := by
  obtain ⟨i, hi, rfl⟩ := List.getElem_of_mem hr
  have hl := h.len
  obtain ⟨h1, h2⟩ := h.at_ i (by omega) hi
  refine ⟨kvs[i].2, valV_at ?_ (k := (Sum.inr rs[i].1 : Key)) (v := kvs[i].2) ?_, h2⟩
  · rw [h.keys]
    exact List.pairwise_map.mpr ((List.pairwise_map.mp nd).imp fun h e => h (Sum.inr.inj e))
  · rw [← h1]; exact List.getElem_mem (by omega)
def Hd.srt : Hd → Str
  | .one s => s
  | .as _ => "as"
  | .way _ _ => "way"
  | .prs s _ => s
theorem HV.srt {H : Hp} {v : V} {h : Hd} (q : HV H v h) : ∃ b ys, v = .ref b ∧ H b = some (.tup (.str h.srt :: ys)) := by
  cases q with
  | one e => exact ⟨_, _, rfl, e⟩
  | as e => exact ⟨_, _, rfl, e⟩
  | way e => exact ⟨_, _, rfl, e⟩
  | prs e _ _ => exact ⟨_, _, rfl, e⟩
theorem srt_as {h : Hd} {ns : List Str} (ok : h.ok ns) : (h.srt = "as") = (h.nx.isNone = false) := by
  cases h with
  | one s => rcases ok with rfl | rfl <;> simp [Hd.srt, Hd.nx] <;> decide +kernel
  | as y => simp [Hd.srt, Hd.nx]
  | way x y => simp [Hd.srt, Hd.nx]; decide +kernel
  | prs s ps => rcases ok.1 with rfl | rfl <;> simp [Hd.srt, Hd.nx] <;> decide +kernel
def RH : Hp → V → Rw2 → Prop := fun H v r => HV H v r.2
def RM : Hp → V → Rw2 → Prop := fun H v r => ∃ b c us, v = .ref b ∧ H b = some (.tup [.str r.2.srt, .ref c]) ∧ H c = some (.tup us) ∧ SV H us (r.2.mvs.map (·.1))
def RO (rows : List Rw2) : Hp → V → Rw2 → Prop := fun H v r => ∃ m o, v = .ref m ∧ H m = some (.frz o (.dT (movesE rows r.2)))
structure NetF (H : Hp) (rows : List Rw2) (fs : List (Str × V)) : Prop where
  rws : ∃ d o, fs.lookup ("rows" : Str) = some (V.ref d) ∧ H d = some (.frz o (.dK (rowsE rows)))
  hds : ∃ d o k, fs.lookup ("heads" : Str) = some (V.ref d) ∧ H d = some (.frz o (.dK k)) ∧ DV RH H k (nonAs rows)
  mks : ∃ d o k, fs.lookup ("marks" : Str) = some (V.ref d) ∧ H d = some (.frz o (.dK k)) ∧ DV RM H k (nonAs rows)
  mvs : ∃ d o k, fs.lookup ("moves" : Str) = some (V.ref d) ∧ H d = some (.frz o (.dK k)) ∧ DV (RO rows) H k (nonAs rows)
def NetAt (H : Hp) (C x : Addr) (rows : List Rw2) : Prop := ∃ dx fs, H x = some (.ins C dx fs) ∧ NetF H rows fs
def Sx (x : Addr) (H H' : Hp) : Prop := ∀ b o, b ≠ x → H b = some o → H' b = some o
theorem Sx.trans {x : Addr} {H H1 H2 : Hp} (a : Sx x H H1) (b : Sx x H1 H2) : Sx x H H2 := fun c o n h => b c o n (a c o n h)
theorem Same.sx {x : Addr} {H H1 : Hp} (a : Same H H1) : Sx x H H1 := fun c o _ h => a c o h
theorem Sx.upd {x : Addr} {H : Hp} {o : HO} : Sx x H (upd H x o) := fun c u n h => by rw [upd_ne n]; exact h
theorem Sx.tk {x : Addr} {H H' : Hp} (s : Sx x H H') (n : ∀ ys, H x ≠ some (.tup ys)) : Tk H H' := fun b ys e => s b _ (fun z => n ys (by rw [← z]; exact e)) e
theorem Sx.frz {x b : Addr} {H H' : Hp} {q : Obj} {u : HO} (s : Sx x H H') (n : ∀ q u, H x ≠ some (.frz q u)) (e : H b = some (.frz q u)) : H' b = some (.frz q u) := s b _ (fun z => n q u (by rw [← z]; exact e)) e
theorem HV.same {H H' : Hp} {v : V} {h : Hd} (q : HV H v h) (s : Same H H') : HV H' v h := q.tk s.ts
theorem tSeq_fld {K : PySem.W.Frag} {ta tv : TE} {f : Str} {v : TS} {D : Ends} {σ : St} {H : Hp} (h : tv σ H fun y H1 => ta σ H1 fun x H2 => ∃ a C dx fs, x = .ref a ∧ H2 a = some (.ins C dx fs) ∧ Cls K C ∧ NoAttr K C f ∧ fs.length < 1000 ∧ v D σ (upd H2 a (.ins C dx (putF f y fs)))) : tSeq (sFld K ta tv f) v D σ H := h
end L2
set_option maxRecDepth 100000
namespace L2
open PySem PySem.Spec PyProof.Rows
def EndN (rows : List Rw2) (ns : List Str) (e : Str) : Prop := e ∈ ns ∧ endOf rows e = e
def onE (rows : List Rw2) (e : Str) : List (List Key × V) := (onOf rows e).map fun m => (m.1.map Sum.inr, .str m.2)
section
variable {H : Hp} {a : Addr} {xs : List V} {rows : List Rw2} {ns ws : List Str}
theorem RT.stay (rt : RT H a xs rows ns ws) (hw : ∀ z ∈ ws, Wd z) {x : Str} (hx : x ∈ ns) : EndN rows ns (endOf rows x) := by
  obtain ⟨h1, h2, _⟩ := rt.endIn hw hx
  exact ⟨h1, stps_stay _ h2⟩
theorem RT.endRow (rt : RT H a xs rows ns ws) (hw : ∀ z ∈ ws, Wd z) {e : Str} (h : EndN rows ns e) : (e, hdOf rows e) ∈ nonAs rows ∧ (hdOf rows e).ok ns := by
  obtain ⟨h1, h2, h3⟩ := rt.endIn hw h.1
  rw [h.2] at h1 h2 h3
  have h4 : e ∈ rows.map (·.1) := rt.nm.mem_iff.mpr h1
  obtain ⟨r, hr, rfl⟩ := List.mem_map.mp h4
  have e' := hdOf_mem rt.ndr hr
  refine ⟨List.mem_filter.mpr ⟨?_, ?_⟩, h3⟩
  · rw [e']; exact hr
  · show (hdOf rows r.1).nx.isNone = true
    rw [h2]; rfl
theorem RT.ndn (rt : RT H a xs rows ns ws) : ((nonAs rows).map (·.1)).Nodup := rt.ndr.sublist (List.filter_sublist.map _)
end
theorem NetF.same {H H' : Hp} {rows : List Rw2} {fs : List (Str × V)} (n : NetF H rows fs) (s : Same H H') : NetF H' rows fs := by
  obtain ⟨⟨d1, o1, a1, a2⟩, ⟨d2, o2, k2, b1, b2, b3⟩, ⟨d3, o3, k3, c1, c2, c3⟩, ⟨d4, o4, k4, e1, e2, e3⟩⟩ := n
  exact ⟨⟨d1, o1, a1, s _ _ a2⟩, ⟨d2, o2, k2, b1, s _ _ b2, b3.keep fun v r h => HV.tk s.ts h⟩, ⟨d3, o3, k3, c1, s _ _ c2, c3.keep fun v r ⟨b, c, us, h1, h2, h3, h4⟩ => ⟨b, c, us, h1, s _ _ h2, s _ _ h3, h4.keep fun b ys r => r.same s⟩⟩, ⟨d4, o4, k4, e1, s _ _ e2, e3.keep fun v r ⟨m, o, h1, h2⟩ => ⟨m, o, h1, s _ _ h2⟩⟩⟩
theorem NetAt.same {H H' : Hp} {C x : Addr} {rows : List Rw2} (n : NetAt H C x rows) (s : Same H H') : NetAt H' C x rows := let ⟨dx, fs, e, f⟩ := n; ⟨dx, fs, s _ _ e, f.same s⟩
section
variable {X : Cx}
def rCatA (K : PySem.W.Frag) : R2 := fun x y H Q => ∃ a b xs ys, x = .ref a ∧ y = .ref b ∧ SqT K H a xs ∧ SqT K H b ys ∧ xs.length + ys.length ≤ sizeLine ∧ (xs = [] → Q (.ref b) H) ∧
  (xs ≠ [] → ys = [] → Q (.ref a) H) ∧ (xs ≠ [] → ys ≠ [] → ∀ p, H p = none → Q (.ref p) (upd H p (.tup (xs ++ ys))))
theorem op_catA (K : PySem.W.Frag) (h : X.K = K := by rfl) : OpR X (binaryOp .Add) (rCatA K) := by
  subst h
  intro pins s σ H x y v u Q I rx ry h
  obtain ⟨a, b, xs, ys, rfl, rfl, ha, hb, hz, q0, q1, q2⟩ := h
  by_cases hx : xs = []
  · cases rx
    cases ry
    obtain ⟨its, r1, p1, _⟩ := I.tuple ha
    obtain ⟨its2, r2, p2, _⟩ := I.tuple hb
    have hi : its = [] := r1.nil_iff.mpr hx
    obtain ⟨⟨cls, dd, data, sl⟩, ho, hc, n, hd⟩ := id p1
    obtain ⟨⟨cls2, dd2, data2, sl2⟩, ho2, hc2, n2, hd2⟩ := id p2
    simp only at hc hd hc2 hd2
    subst hc hd hc2 hd2
    exact concat_meets ⟨_, ho, rfl⟩ ⟨_, ho2, rfl⟩ noFill_tuple_add seq_tuple_add PySem.F.slot_tuple_add PySem.F.entry_tuple_add (PySem.F.args_tuple_add_2 _ _)
      (tuple_addW0 a b its.toArray its2.toArray n n2 dd dd2 sl sl2 (by simp [hi])) ⟨ho, ho2, ⟨.ref b, H, I, rfl, q0 hx⟩⟩
  · exact op_catT pins s σ H _ _ v u Q I rx ry ⟨a, b, xs, ys, rfl, rfl, ha, hb, hx, hz, q1 hx, q2 hx⟩
theorem catA {K : PySem.W.Frag} {H : Hp} {a b : Addr} {xs ys : List V} {Q : VK} (ha : H a = some (.tup xs)) (hb : H b = some (.tup ys)) (hz : xs.length + ys.length ≤ sizeLine) (h : ∀ p H', Same H H' → H' p = some (.tup (xs ++ ys)) → Q (.ref p) H') : rCatA K (.ref a) (.ref b) H Q := by
  refine ⟨a, b, xs, ys, rfl, rfl, SqT.of ha, SqT.of hb, hz, fun e => ?_, fun _ e => ?_, fun _ _ p hp => ?_⟩
  · subst e; exact h b H (Same.refl _) hb
  · subst e; exact h a H (Same.refl _) (by rw [List.append_nil]; exact ha)
  · exact h p _ (Same.upd hp _) upd_same
end
theorem hu20_of {A : Around} {k : Nat} (hr : Room k A) : A.units + 20 < cLine := by have := hr.un; omega
end L2
set_option maxRecDepth 100000
namespace L2
open PySem PySem.Spec PyProof.Rows
section
variable {P : Program} {w : World} {A : Around} {E : Value → Shared → Prop} {s : Shared} {it d : Addr} {i n ep : Nat} {od : Obj} {es : Array DictEntry} {ok ov : Value} {Q : Option Value → Shared → Prop}
end
theorem kt_get {H : Hp} {kvs : List (List Key × V)} {xs : List (List Key × Addr × Value)} (r : KT H kvs xs) : ∀ {i : Nat} {p : List Key × V}, kvs[i]? = some p → ∃ q, xs[i]? = some q ∧ RdT H q.2.1 (p.1.map kV) ∧ RelV p.2 q.2.2 := by
  intro i
  induction r generalizing i with
  | nil => intro p h; simp at h
  | cons a t ih =>
    intro p h
    cases i with
    | zero => simp at h; subst h; exact ⟨_, by simp, a.2.1, a.2.2⟩
    | succ i => simp at h; simpa using ih h
section
variable {X : Cx} {elts : List Expr} {k : Nat} {tpos apos cpos : Pos} {o : Expr} {to : TE}
end
end L2
set_option maxRecDepth 100000
namespace L2
open PySem PySem.Spec PyProof.Rows
section
variable {X : Cx} {tg : Expr} {apos cpos : Pos} {o : Expr} {to : TE}
end
section
variable {X : Cx}
theorem pairs_loopL {pins : List (Addr × Obj)} {σ : St} {A : Around} {R : Result → Shared → Prop} {d it a : Addr} {ys : List V} {rs : List (Key × V)} (hA : A.handled = none) {H : Hp} (hH : H d = none) (hlen : rs.length ≤ sizeLine) (hp : PairsAt H ys rs) (ha : H a = some (.lst ys)) (hit : it ≠ d)
    (hR : ∀ s, Inv X pins σ (upd H d (.dK (dictOf rs))) s → R (.ok (.ret .none)) s) :
    ∀ (k i : Nat) (s : Shared), rs.length - i = k → i ≤ rs.length → Inv X pins σ (upd H d (.dK (dictOf (rs.take i)))) s → s.heap.IsListIter it a i → FpOk X pins (upd H d (.dK (dictOf (rs.take i)))) it →
      codeAny (model X.prog X.w) A (.builtin "dict.update.loop" ⟨[.ref d, .ref it, rawInt i, .none], []⟩) R s := by
  have had : a ≠ d := ne_of_none ha hH
  intro k
  induction k with
  | zero =>
    intro i s hk hi I st f
    have hin : i = rs.length := by omega
    subst hin
    refine codeAny_builtin F.entry_dict_update_loop ?_
    rw [Around.under_plainId F.plain_dict_update_loop _]
    show wpAny _ A.in1 (pyNext (.ref it) >>= _) _ _ s
    obtain ⟨its, rv, p, hz⟩ := I.list (SqL.of (a := a) (xs := ys) (by rw [upd_ne had]; exact ha))
    have hl := rv.length
    have hl2 := hp.1
    obtain ⟨f0, f1, f2, f3, f4, f5⟩ := f
    refine wpAny_bind (wpAny_pyNext_list_end (by simp [hA]) st p.isList (by simp; omega) fun h' eb => ?_)
    have I1 := I.turned (t' := s.toks) (h' := h') (fun b o hb e => eb b o hb e) f0 f1 f3 f4 f5
    rw [List.take_length] at I1
    show wpAny _ _ (Builtin.Dict.addKeywords d [] >>= fun _ => ret .none) _ _ _
    exact wpAny_bind (wpAny_pure (wpAny_pure (hR _ I1)))
  | succ k ih =>
    intro i s hk hi I st f
    have hlt : i < rs.length := by omega
    refine codeAny_builtin F.entry_dict_update_loop ?_
    rw [Around.under_plainId F.plain_dict_update_loop _]
    show wpAny _ A.in1 (pyNext (.ref it) >>= _) _ _ s
    obtain ⟨its, rv, p, hz⟩ := I.list (SqL.of (a := a) (xs := ys) (by rw [upd_ne had]; exact ha))
    obtain ⟨b, hb1, hb2⟩ := hp.2 i hlt
    obtain ⟨u, hu, ru⟩ := rv.get hb1
    cases ru
    obtain ⟨f0, f1, f2, f3, f4, f5⟩ := id f
    refine wpAny_bind (wpAny_pyNext_list_item st p.isList (x := .ref b) (by simpa using hu) fun h' st' sb => ?_)
    have I1 : Inv X pins σ (upd H d (.dK (dictOf (rs.take i)))) { s with heap := h' } := I.turned (t' := s.toks) (fun b o hb e => (sb.2 b hb).trans e) f0 f1 f3 f4 f5
    have hbd : b ≠ d := ne_of_none hb2 hH
    obtain ⟨its2, rv2, ⟨ob, ho, hc, n, hd2⟩, hz2⟩ := I1.tuple (SqT.of (a := b) (by rw [upd_ne hbd]; exact hb2))
    obtain ⟨u1, u2, rfl, r1, r2⟩ := rv2.two
    show wpAny _ A.in1 (holding [Value.ref b] _ >>= _) _ _ _
    refine wpAny_bind (wpAny_holding (wpAny_bind (wpAny_tryCatch ?_)))
    unfold Builtin.Dict.pairItems
    refine wpAny_bind (wpAny_typeOf (T := "tuple") ⟨ob, ho, hc⟩ ?_)
    rw [if_pos (by decide)]
    refine wpAny_bind (wpAny_seqItems ho hd2 (wpAny_pure ?_))
    show wpAny _ A.in1 (holding [u1, u2] (dictSet d u1 u2)) _ _ _
    refine wpAny_holding ?_
    obtain ⟨z, hd, vs, rel, dd⟩ := dk_of I1.hok (upd_same : upd H d (.dK (dictOf (rs.take i))) d = _)
    have hl0 := dictOf_len (rs.take i)
    rw [List.length_take] at hl0
    have hl1 : (dictOf (rs.take i)).length < sizeLine := by omega
    have hzz : vs.length ≤ sizeLine := by rw [← rel.length]; exact z
    have hlen' : (putK (dictOf (rs.take i)) rs[i].1 rs[i].2).length ≤ sizeLine := by have := length_putK (dictOf (rs.take i)) rs[i].1 rs[i].2; omega
    refine wpAny_dictSet_pairs (hsz := hzz) (kV_is r1) dd fun h2 dd' hs => ?_
    have he9 : ∃ q, h2.get? d = some q := let ⟨q, _, _, hq, _⟩ := dd'; ⟨q, hq⟩
    have I10 := d_write (t' := s.toks + 1) (ob := .dK (putK (dictOf (rs.take i)) rs[i].1 rs[i].2)) I1 (by rw [upd_same]; exact True.intro) hs he9 (dk_new hlen' hd (rel.put _ r2) dd')
    rw [upd_upd, ← dictOf_take rs i hlt] at I10
    refine wpAny_pure ⟨plainId_quiet F.plain_dict_update_loop _, ?_⟩
    exact ih (i + 1) _ (by omega) hlt I10 (st'.at fun o q => (hs.2 it hit).trans q) ⟨by rw [upd_ne hit] at f0 ⊢; exact f0, f1, f2, f3, f4, f5⟩
def rDictL : List V → Hp → VK → Prop := fun xs H Q => ∃ a ys rs, xs = [.ref a] ∧ H a = some (.lst ys) ∧ PairsAt H ys rs ∧ rs.length ≤ sizeLine ∧ ∀ d, H d = none → Q (.ref d) (upd H d (.dK (dictOf rs)))
theorem call_dict_L (hc : X.calm = true) : CallR X (.type "dict") rDictL := by
  intro pins s σ H xs us Q I r h
  obtain ⟨a, ys, rs, rfl, ha, hp, hl, q⟩ := h
  obtain ⟨u, rfl, ru⟩ := r.one
  cases ru
  refine callType_codes (Q₁ := fun obj s₁ => obj = .ref s.heap.objs.size ∧ s₁ = { s with heap := s.heap.push { cls := .type "dict", data := .dict #[] } }) F.kt_called_dict (F.kt_typeCall_dict_1 _) F.entry_dict_init (kt_code_dict_new _ ⟨rfl, rfl⟩) ?_
  rintro obj s₁ ⟨rfl, rfl⟩
  have fr : H s.heap.objs.size = none := I.hok.fresh (Nat.le_refl _)
  have hnew : (s.heap.push { cls := .type "dict", data := .dict #[] }).DictOf (mixKind X.prog X.w) s.heap.objs.size [] := Heap.DictOf.new s.heap
  have I1 : Inv X pins σ (upd H s.heap.objs.size (.dK [])) { s with heap := s.heap.push { cls := .type "dict", data := .dict #[] } } := I.laid (t' := s.toks) (fun b u e => Heap.get?_push_of_some _ e) (Nat.le_refl _)
    ⟨Nat.zero_le _, beq_eq_false_iff_ne.mpr (Ne.symm (Nat.ne_of_lt I.big)), [], .nil, hnew⟩
  have had : a ≠ s.heap.objs.size := ne_of_none ha fr
  obtain ⟨z, its, n, rv, ho⟩ := (show ObjOk X.prog X.w _ _ a (.lst ys) from I1.hok a _ (by rw [upd_ne had]; exact ha))
  refine ⟨hnew.typeIs, F.args_dict_init_2 _ _, ?_⟩
  unfold Builtin.«dict.__init__»
  refine wpAny_bind ?_
  unfold Builtin.Dict.selfAndRest
  refine wpAny_bind (wpAny_notOrdered_dict hnew.typeIs ?_)
  show wpAny _ _ (pure (s.heap.objs.size, [Value.ref a])) _ _ _
  refine wpAny_pure ?_
  show wpAny _ _ (Builtin.Dict.updateFrom "dict.__init__" s.heap.objs.size (.ref a) [] .none) _ _ _
  unfold Builtin.Dict.updateFrom
  refine wpAny_bind (wpAny_typeOf (T := "list") ⟨_, ho, rfl⟩ ?_)
  rw [if_pos (by decide)]
  have hh : X.A.handled = none := I.ok.hd hc
  refine wpAny_bind (ask_keys_list ho rfl rfl rfl (by simp [hh]) fun h' tk hk => ?_)
  rw [if_pos (by rfl)]
  refine wpAny_bind (wpAny_rule ?_)
  have I2 : Inv X pins σ (upd H s.heap.objs.size (.dK [])) { s with heap := h', toks := tk } := I1.kept (t' := tk) hk
  obtain ⟨its2, rv2, p2, hz2⟩ := I2.list (SqL.of (a := a) (xs := ys) (by rw [upd_ne had]; exact ha))
  refine wpAny_bind (wpAny_pyIter_list p2.isList ?_)
  have hsz : s.heap.objs.size < h'.objs.size := by
    obtain ⟨_, _, _, e, _⟩ := hnew
    exact Heap.lt_size (hk _ _ e)
  refine wpAny_pure ⟨plainId_quiet F.plain_dict_update_loop _, ?_⟩
  refine pairs_loopL (X := X) (pins := pins) (σ := σ) (by simp [hh]) fr hl hp ha (Nat.ne_of_gt hsz) (fun s' I' => ⟨rfl, .ref s.heap.objs.size, _, I', rfl, q _ fr⟩) rs.length 0 _ rfl (Nat.zero_le _) (I2.kept (t' := tk) fun b o e => Heap.get?_push_of_some _ e) ⟨_, Heap.get?_push_size _ rfl, rfl, rfl⟩ (I2.fpOk (Nat.le_refl _) (I2.hok.fresh (Nat.le_refl _)))
end
end L2
set_option maxRecDepth 100000
namespace L2
open PySem PySem.Spec PyProof.Rows
end L2
set_option maxRecDepth 100000
namespace L2
open PySem PySem.Spec PyProof.Rows
theorem movesE_on {rows : List Rw2} {e : Str} (h : endOf rows e = e) : movesE rows (hdOf rows e) = onE rows e := by
  unfold movesE onE onOf
  rw [h, List.map_map]; rfl
theorem Paired.at {α β : Type} {R : α → β → Prop} {xs : List α} {ys : List β} (h : Paired R xs ys) : ∀ i (h1 : i < xs.length) (h2 : i < ys.length), R xs[i] ys[i] := by
  induction h with
  | nil => intro i h1; exact absurd h1 (by simp)
  | cons a _ ih =>
    intro i h1 h2
    cases i with
    | zero => exact a
    | succ i => exact ih i (by simpa using h1) (by simpa using h2)
theorem DGet.same {H H' : Hp} {a : Addr} {y : V} {r : Option V} (g : DGet H a y r) (s : Same H H') : DGet H' a y r := by
  rcases g with ⟨kvs, k, h1, h2, h3⟩ | ⟨kvs, k, b, h1, h2, h3, h4⟩
  · exact .inl ⟨kvs, k, h1.same s, h2, h3⟩
  · exact .inr ⟨kvs, k, b, h1.same s, h2, h3.same s, h4⟩
end L2
set_option maxRecDepth 100000
namespace L2
open PySem PySem.Spec PyProof.Rows
end L2
set_option maxRecDepth 100000
namespace L2
open PySem PySem.Spec PyProof.Rows HT
section
variable {prog : Program} {w : World} {A : Around} {E : Value → Shared → Prop} {s : Shared}
end
section
variable {X : Cx}
end
end L2
set_option maxRecDepth 100000
namespace L2
open PySem PySem.Spec PyProof.Rows
section
variable {prog : Program} {w : World} {A : Around} {R : Result → Shared → Prop} {s : Shared}
end
section
variable {X : Cx} {t1 i1 t2 i2 elt : Expr} {ifs : List Expr} {tc : TC} {sc : Scope} {pos : Pos} {own : List Str} {idx : List Nat} {N' : List Str} {wi wi2 : TI} {g g2 : TG} {te : TE}
end
end L2
set_option maxRecDepth 100000
namespace L2
open PySem PySem.Spec PyProof.Rows
section
variable {X : Cx} {tg e : Expr} {te : TE}
end
section
variable {P : Program} {w : World} {A : Around} {E : Value → Shared → Prop} {s : Shared} {it d : Addr} {i n ep : Nat} {od : Obj} {es : Array DictEntry} {Q : Option Value → Shared → Prop}
end
section
variable {X : Cx} {tg : Expr} {apos cpos : Pos} {o : Expr} {to : TE}
end
end L2
set_option maxRecDepth 100000
namespace L2
open PySem PySem.Spec PyProof.Rows
section
variable {P : Program} {w : World} {A : Around} {E : Value → Shared → Prop} {s : Shared}
end
section
variable {X : Cx} {tg a : Expr} {ta : TA} {p p2 pos pos2 : Pos}
end
section
variable {X : Cx}
end
end L2
set_option maxRecDepth 100000
namespace L2
open PySem PySem.Spec PyProof.Rows
section
variable {H : Hp} {a : Addr} {xs : List V} {rows : List Rw2} {ns ws : List Str}
end
end L2
set_option maxRecDepth 100000
namespace L2
open PySem PySem.Spec PyProof.Rows
end L2
set_option maxRecDepth 100000
namespace L2
open PySem PySem.Spec PyProof.Rows
section
variable {X : Cx} {pos : Pos}
theorem z_bm0 (K : PySem.W.Frag) {o : Expr} {T : String} {name : Str} {id : String} {r : V → List V → Hp → VK → Prop} {to : TE} {apos cpos : Pos} (pa : PlainAttrs T) (slot : Slot T name id) (hty : typeOf (.builtin id) = pure (.type "method_descriptor")) (hm : MtM X id r) (ho : SE X o to) (h : X.K = K := by rfl)
    (hbase : attributeBase o name X.env (eval o X.env) = eval o X.env := by rfl) (hline : (apos.endLine == cpos.line) = true := by rfl) : SE X (.Call (.Attribute o name apos) [] [] cpos) (tBM0 K T r to) := by
  subst h; exact ⟨pe_bm0 pa slot hty hm ho.h hbase hline⟩
def tTru (K : PySem.W.Frag) (ta : TE) : TT := fun σ H Q => ta σ H fun x H' => ∃ k, TruV K x H' k ∧ Q k H'
theorem y_truth (K : PySem.W.Frag) {a : Expr} {ta : TE} (ha : SE X a ta) (h : X.K = K := by rfl) (he : ∀ whole, isTrue a X.env whole = (do let v ← whole; standAt a.pos; holding [v] (truthy v)) := by intro _; rfl) : ST X a (tTru K ta) := by
  subst h; exact ⟨pt_truth ha.h he⟩
theorem paired_idx {α β : Type} {R : α → β → Prop} : ∀ {l : List α} {m : List β}, l.length = m.length → (∀ i (h : i < l.length) (h' : i < m.length), R l[i] m[i]) → Paired R l m
  | [], [], _, _ => .nil
  | a :: l, b :: m, hl, h => .cons (h 0 (by simp) (by simp)) (paired_idx (by simpa using hl) fun i h1 h2 => by
      have := h (i + 1) (by simpa using h1) (by simpa using h2)
      simpa using this)
  | [], _ :: _, hl, _ => absurd hl (by simp)
  | _ :: _, [], hl, _ => absurd hl (by simp)
end
end L2
set_option maxRecDepth 100000
namespace L2
open PySem PySem.Spec PyProof.Rows
theorem nodup_sub : ∀ {l m : List Str}, l.Nodup → (∀ x ∈ l, x ∈ m) → l.length ≤ m.length
  | [], m, _, _ => Nat.zero_le _
  | a :: l, m, nd, h => by
    have ha := h a List.mem_cons_self
    have h1 := nodup_sub (l := l) (m := m.erase a) (List.nodup_cons.mp nd).2 fun x hx => (List.mem_erase_of_ne (show x ≠ a from fun z => (List.nodup_cons.mp nd).1 (by rw [← z]; exact hx))).mpr (h x (List.mem_cons_of_mem _ hx))
    rw [List.length_erase_of_mem ha] at h1
    have hp := List.length_pos_of_mem ha
    rw [List.length_cons]
    omega
end L2
set_option maxRecDepth 100000
namespace L2
open PySem PySem.Spec PyProof.Rows
def lays : Hp → List (Addr × HO) → Hp
  | H, [] => H
  | H, (a, o) :: r => lays (upd H a o) r
section
variable {P : Program} {w : World} {H : Hp} {h h' : Heap}
theorem HOk.add {a : Addr} {o : HO} (x : HOk P w H h) (hn : H a = none) (new : ObjOk P w (upd H a o) h a o) : HOk P w (upd H a o) h := fun b u e => by
  by_cases hb : b = a
  · subst hb; rw [upd_same] at e; cases e; exact new
  · rw [upd_ne hb] at e
    exact (x b u e).stay (fun c v _ q => q) (fun c q => by rw [upd_ne (ne_of_none q hn)]; exact q) fun c xs q => q.upd fun u hu => ne_of_none hu hn
theorem lays_same : ∀ (r : List (Addr × HO)) (H : Hp), (∀ q ∈ r, H q.1 = none) → (r.map (·.1)).Nodup → Same H (lays H r)
  | [], H, _, _ => Same.refl _
  | (a, o) :: r, H, hn, nd => by
    have h1 : H a = none := hn _ List.mem_cons_self
    rw [List.map_cons, List.nodup_cons] at nd
    refine (Same.upd h1 o).trans (lays_same r _ (fun q hq => ?_) nd.2)
    rw [upd_ne fun z => nd.1 (List.mem_map.mpr ⟨q, hq, z⟩)]
    exact hn q (List.mem_cons_of_mem _ hq)
theorem lays_off : ∀ (r : List (Addr × HO)) (H : Hp) (b : Addr), b ∉ r.map (·.1) → lays H r b = H b
  | [], H, b, _ => rfl
  | (a, o) :: r, H, b, hb => by
    rw [List.map_cons, List.mem_cons, not_or] at hb
    show lays (upd H a o) r b = _
    rw [lays_off r _ b hb.2, upd_ne hb.1]
theorem lays_on : ∀ (r : List (Addr × HO)) (H : Hp), (r.map (·.1)).Nodup → ∀ q ∈ r, lays H r q.1 = some q.2
  | (a, o) :: r, H, nd, q, hq => by
    rw [List.map_cons, List.nodup_cons] at nd
    show lays (upd H a o) r q.1 = _
    rcases List.mem_cons.mp hq with rfl | hq
    · rw [lays_off r _ _ nd.1, upd_same]
    · exact lays_on r _ nd.2 q hq
theorem HOk.lays : ∀ (r : List (Addr × HO)) (H : Hp), HOk P w H h → (∀ q ∈ r, H q.1 = none) → (r.map (·.1)).Nodup → (∀ q ∈ r, ∀ H', ObjOk P w H' h q.1 q.2) → HOk P w (lays H r) h
  | [], H, x, _, _, _ => x
  | (a, o) :: r, H, x, hn, nd, new => by
    rw [List.map_cons, List.nodup_cons] at nd
    refine HOk.lays r _ (x.add (hn _ List.mem_cons_self) (new _ List.mem_cons_self _)) (fun q hq => ?_) nd.2 fun q hq => new q (List.mem_cons_of_mem _ hq)
    rw [upd_ne fun z => nd.1 (List.mem_map.mpr ⟨q, hq, z⟩)]
    exact hn q (List.mem_cons_of_mem _ hq)
end
section
variable {X : Cx} {pins : List (Addr × Obj)} {σ : St} {H : Hp} {s : Shared} {h' : Heap}
theorem Inv.lays {t' : Nat} (I : Inv X pins σ H s) (k : ∀ b u, s.heap.get? b = some u → h'.get? b = some u) (r : List (Addr × HO)) (hp : ∀ q ∈ r, s.heap.objs.size ≤ q.1) (nd : (r.map (·.1)).Nodup) (new : ∀ q ∈ r, ∀ H', ObjOk X.prog X.w H' h' q.1 q.2) :
    Inv X pins σ (L2.lays H r) { s with heap := h', toks := t' } := by
  have hn : ∀ q ∈ r, H q.1 = none := fun q hq => I.hok.fresh (hp q hq)
  have hs := lays_same r H hn nd
  refine I.un ⟨fun b u q _ _ _ => k b u q, fun b u q _ _ _ => ⟨u.slots, k b u q⟩, fun b u q n _ => ?_, fun b u q _ => ⟨u, k b u q⟩, fun b xs q => hs _ _ q, fun b u xs q => hs _ _ q, fun b ps q => ⟨#[], by rw [hs _ _ q]; simp⟩⟩ (HOk.lays r H (I.hok.kept k) hn nd new)
  rw [lays_off r H b fun z => ?_]
  · exact n
  · obtain ⟨q', h1, h2⟩ := List.mem_map.mp z
    have := hp q' h1
    rw [h2] at this
    exact Nat.lt_irrefl _ (Nat.lt_of_lt_of_le (Heap.lt_size q) this)
end
section
variable {X : Cx} {o : Expr} {to : TE} {p apos ipos cpos : Pos}
end
end L2
set_option maxRecDepth 100000
namespace L2
open PySem PySem.Spec PyProof.Rows
section
variable {X : Cx} {o e f : Expr} {td ty tx : TE} {apos cpos : Pos}
end
end L2
set_option maxRecDepth 100000
namespace L2
open PySem PySem.Spec PyProof.Rows
section
variable {X : Cx}
end
end L2
set_option maxRecDepth 100000
namespace L2
open PySem PySem.Spec PyProof.Rows
section
variable {A : Around} {s : Shared}
end
section
variable {X : Cx} {pins : List (Addr × Obj)} {σ : St} {H : Hp} {s : Shared}
end
end L2
set_option maxRecDepth 100000
namespace L2
open PySem PySem.Spec PyProof.Rows PySem.W
section
variable {prog : Program} {w : World} {A : Around} {E : Value → Shared → Prop} {s : Shared}
end
theorem ex_paired {R : Value → Value → Prop} : ∀ its : List Value, (∀ v ∈ its, ∃ f, R v f) → ∃ fs, Paired R its fs
  | [], _ => ⟨[], .nil⟩
  | v :: its, h => by
    obtain ⟨f, hf⟩ := h v List.mem_cons_self
    obtain ⟨fs, hfs⟩ := ex_paired its fun v' hv => h v' (List.mem_cons_of_mem _ hv)
    exact ⟨f :: fs, .cons hf hfs⟩
theorem katTups_of {h : Heap} {vs fs : List Value} (p : Paired (fun v f => ∃ a o xs n, v = Value.ref a ∧ h.get? a = some o ∧ o.cls = Value.type "tuple" ∧ o.data = .seq xs n ∧ xs[0]? = some f) vs fs) : KatTups h vs fs := by
  induction p with
  | nil => trivial
  | cons a _ ih => exact ⟨a, ih⟩
theorem paired_imp {α β : Type} {R R' : α → β → Prop} (h : ∀ a b, R a b → R' a b) {l : List α} {m : List β} (p : Paired R l m) : Paired R' l m := by
  induction p with
  | nil => exact .nil
  | cons a _ ih => exact .cons (h _ _ a) ih
theorem paired_right {α β : Type} {R : α → β → Prop} {P : β → Prop} (h : ∀ a b, R a b → P b) {l : List α} {m : List β} (p : Paired R l m) : ∀ b ∈ m, P b := by
  induction p with
  | nil => intro b hb; cases hb
  | cons a _ ih =>
    intro b hb
    rcases List.mem_cons.mp hb with rfl | hb
    · exact h _ _ a
    · exact ih b hb
section
variable {X : Cx}
end
end L2
set_option maxRecDepth 100000
namespace L2
open PySem PySem.Spec PyProof.Rows PySem.W
def kLeaves {α : Type} : KasT α → List α
  | .ret a => [a]
  | .ask _ _ k => kLeaves (k true) ++ kLeaves (k false)
def kOkT {α : Type} (N : Nat) : KasT α → Bool
  | .ret _ => true
  | .ask i j k => decide (i < N) && decide (j < N) && decide (i ≠ j) && kOkT N (k true) && kOkT N (k false)
theorem any_wp {α : Type} {cmp : Nat → Nat → (Bool → Shared → Prop) → Shared → Prop} {N : Nat} {s : Shared} {G : α → Shared → Prop} (hc : ∀ i j, i < N → j < N → i ≠ j → ∀ C : Bool → Shared → Prop, (∀ b, C b s) → cmp i j C s) :
    ∀ t : KasT α, kOkT N t = true → (∀ p ∈ kLeaves t, G p s) → t.kasWp cmp G s
  | .ret a, _, hG => hG a (by simp [kLeaves])
  | .ask i j k, ho, hG => by
    simp only [kOkT, Bool.and_eq_true, decide_eq_true_eq] at ho
    obtain ⟨⟨⟨⟨h1, h2⟩, h3⟩, h4⟩, h5⟩ := ho
    refine hc i j h1 h2 h3 _ fun b => ?_
    cases b
    · exact any_wp hc (k false) h5 fun p hp => hG p (by simp only [kLeaves]; exact List.mem_append.mpr (.inr hp))
    · exact any_wp hc (k true) h4 fun p hp => hG p (by simp only [kLeaves]; exact List.mem_append.mpr (.inl hp))
theorem any_ok : ∀ N, 2 ≤ N → N ≤ 3 → kOkT N (kas_sort N) = true ∧ ∀ p ∈ kLeaves (kas_sort N), p.toList.Perm (List.range N) := by
  intro N h2 h3
  have hN : N = 2 ∨ N = 3 := by omega
  have e2 : kOkT 2 (kas_sort 2) = true := by decide +kernel
  have e3 : kOkT 3 (kas_sort 3) = true := by decide +kernel
  have f2 : (kLeaves (kas_sort 2)).all (fun p => p.toList.isPerm (List.range 2)) = true := by decide +kernel
  have f3 : (kLeaves (kas_sort 3)).all (fun p => p.toList.isPerm (List.range 3)) = true := by decide +kernel
  rcases hN with rfl | rfl
  · exact ⟨e2, fun p hp => List.isPerm_iff.mp (List.all_eq_true.mp f2 p hp)⟩
  · exact ⟨e3, fun p hp => List.isPerm_iff.mp (List.all_eq_true.mp f3 p hp)⟩
theorem getD_perm {α : Type} {d : α} {vs : List α} {l : List Nat} (h : l.Perm (List.range vs.length)) : (l.map fun i => vs.getD i d).Perm vs := by
  have h1 := h.map fun i => vs.getD i d
  have e : (List.range vs.length).map (fun i => vs.getD i d) = vs := by
    refine List.ext_getElem (by simp) fun i h1 h2 => ?_
    simp [List.getD_eq_getElem?_getD, List.getElem?_eq_getElem h2]
  rw [e] at h1
  exact h1
section
variable {prog : Program} {w : World} {A : Around} {E : Value → Shared → Prop} {s : Shared}
theorem pm_list_sort {a : Addr} {vs : List Value} {n : Nat} {κ : SortKind} {P : PySem.Fin → Shared → Prop} (ho : s.heap.get? a = some (seqObj "list" vs.toArray n)) (h3 : vs.length ≤ 3)
    (hkk : 2 ≤ vs.length → ∀ h' : Heap, (∀ b o, b ≠ a → s.heap.get? b = some o → h'.get? b = some o) → ∀ Q : SortKind → Shared → Prop, Q κ { s with heap := h' } → wpAny (model prog w) A (keyKind' vs.toArray) Q (fun _ _ => False) { s with heap := h' })
    (hask : ∀ h' : Heap, (∀ b o, b ≠ a → s.heap.get? b = some o → h'.get? b = some o) → ∀ i j, i < vs.length → j < vs.length → i ≠ j → ∀ C : Bool → Shared → Prop, (∀ b, C b { s with heap := h' }) → wpAny (model prog w) A (keyLt' κ (vs.getD i Value.none) (vs.getD j Value.none)) C (fun _ _ => False) { s with heap := h' })
    (h : ∀ l : List Nat, l.Perm (List.range vs.length) → P (.done (.ret .none)) { s with heap := sortedHeap s.heap a vs (List.toArray (l.map fun i => vs.getD i Value.none)) }) :
    wpAny (model prog w) A (Builtin.«list.sort» ⟨[.ref a], []⟩) P E s := by
  rw [list_sort_plain]
  have ha : a < s.heap.objs.size := Heap.lt_size ho
  refine wpAny_bind (listItems_at ho rfl ?_)
  refine wpAny_bind (listUpdate_at ho rfl ?_)
  obtain ⟨e1, ho1⟩ : ∃ e1, (s.heap.update a (Obj.mapSeq fun _ => #[])).get? a = some (seqObj "list" #[] e1) := ⟨_, get?_update_seq ho (fun _ => #[])⟩
  refine wpAny_bind (seqEpoch_at ho1 rfl ?_)
  refine wpAny_bind (wpAny_newTuple ?_)
  refine wpAny_bind (wpAny_newList ?_)
  refine wpAny_holding ?_
  have ho6 : (((s.heap.update a (Obj.mapSeq fun _ => #[])).push (seqObj "tuple" vs.toArray 0)).push (seqObj "list" #[] 0)).get? a = some (seqObj "list" #[] e1) := by
    rw [Heap.get?_push_ne _ _ _ (by rw [size_push', Heap.size_update]; exact Nat.ne_of_lt (Nat.lt_succ_of_lt ha)), Heap.get?_push_ne _ _ _ (by rw [Heap.size_update]; exact Nat.ne_of_lt ha)]
    exact ho1
  have keep : ∀ b o, b ≠ a → s.heap.get? b = some o → (((s.heap.update a (Obj.mapSeq fun _ => #[])).push (seqObj "tuple" vs.toArray 0)).push (seqObj "list" #[] 0)).get? b = some o := fun b o hb e =>
    Heap.get?_push_of_some _ (Heap.get?_push_of_some _ ((Heap.get?_update_other _ _ (Ne.symm hb)).trans e))
  show wpAny (model prog w) A _ P E { s with heap := ((s.heap.update a (Obj.mapSeq fun _ => #[])).push (seqObj "tuple" vs.toArray 0)).push (seqObj "list" #[] 0) }
  dsimp only
  have hsz : vs.toArray.size = vs.length := by simp
  by_cases h2 : vs.toArray.size < 2
  · rw [if_pos h2, if_pos h2]
    refine wpAny_bind (wpAny_pure ?_)
    rw [StateT.run_pure]
    refine wpAny_bind (wpAny_pure ?_)
    dsimp only
    refine wpAny_bind (seqEpoch_at ho6 rfl ?_)
    refine wpAny_bind (listUpdate_at ho6 rfl ?_ (hsz2 := by rw [Array.size_map]; show (pairsOf vs).size ≤ _; rw [pairsOf_size, sizeLine_eq]; omega))
    simp only [bne_self_eq_false, Bool.false_eq_true, if_false]
    refine wpAny_pure ?_
    have ez : (vs.toArray.zip vs.toArray).map (·.2) = vs.toArray := by
      apply Array.toList_inj.mp
      simp [Array.toList_zip, List.map_snd_zip]
    show P (.done (.ret .none)) { s with heap := sortedHeap s.heap a vs ((vs.toArray.zip vs.toArray).map (·.2)) }
    rw [ez]
    have e := h (List.range vs.length) (List.Perm.refl _)
    have ee : (List.range vs.length).map (fun i => vs.getD i Value.none) = vs := by
      refine List.ext_getElem (by simp) fun i h1 h2 => ?_
      simp [List.getD_eq_getElem?_getD, List.getElem?_eq_getElem h2]
    rw [ee] at e
    exact e
  · rw [if_neg h2, if_neg h2]
    have h2' : 2 ≤ vs.length := by omega
    obtain ⟨ok1, ok2⟩ := any_ok vs.length h2' h3
    refine wpAny_bind (wpAny_mono (hkk h2' _ keep (fun κ' s' => κ' = κ ∧ s' = { s with heap := ((s.heap.update a (Obj.mapSeq fun _ => #[])).push (seqObj "tuple" vs.toArray 0)).push (seqObj "list" #[] 0) }) ⟨rfl, rfl⟩) (fun κ' s0 hk => ?_) fun _ _ x => x.elim)
    obtain ⟨rfl, rfl⟩ := hk
    refine wpAny_bind (wpAny_mono (kat_run (ks := vs) (vs := vs) (κ := κ') (Q := fun st' s' => ∃ p : Array Nat, p.toList.Perm (List.range vs.length) ∧ arrOf st' = p.map (kas_item (vs.toArray.zip vs.toArray)) ∧ failedOf st' = none ∧ s' = { s with heap := ((s.heap.update a (Obj.mapSeq fun _ => #[])).push (seqObj "tuple" vs.toArray 0)).push (seqObj "list" #[] 0) })
      (G := fun p s' => p.toList.Perm (List.range vs.length) ∧ s' = { s with heap := ((s.heap.update a (Obj.mapSeq fun _ => #[])).push (seqObj "tuple" vs.toArray 0)).push (seqObj "list" #[] 0) }) rfl h2' (by omega) (fun p' st' s' a1 a2 a3 a4 => ⟨p', a4.1, a2, a3, a4.2⟩) (any_wp (N := vs.length) (fun i j hi hj hij C hC => hask _ keep i j hi hj hij C hC) _ ok1 fun p hp => ⟨ok2 p hp, rfl⟩)) ?_ fun _ _ e => e)
    rintro ⟨⟨⟩, st'⟩ s' ⟨p, hp, har, hf, rfl⟩
    dsimp only
    have hout : (arrOf st').map (·.2) = List.toArray (p.toList.map fun i => vs.getD i Value.none) := kat_snds rfl har
    have hpm := getD_perm (d := Value.none) hp
    refine wpAny_bind (seqEpoch_at ho6 rfl ?_)
    refine wpAny_bind (listUpdate_at ho6 rfl ?_ (hsz2 := by rw [hout, List.size_toArray, hpm.length_eq, sizeLine_eq]; omega))
    rw [hf, hout]
    simp only [bne_self_eq_false, Bool.false_eq_true, if_false]
    exact wpAny_pure (h _ hp)
end
section
variable {X : Cx} {o : Expr} {to : TE} {p apos ipos cpos : Pos}
def tSrtI (te : TE) : TE := fun σ H Q => te σ H fun x H1 => ∃ a kvs, x = .ref a ∧ Rd H1 a (.dK kvs) ∧ kvs.length ≤ 3 ∧ (∀ q ∈ kvs, ∃ z : Str, q.1 = .inr z) ∧ (kvs.map (·.1)).Nodup ∧
  ∀ l us kvs' H', H1 l = none → Same H1 H' → H' l = some (.lst us) → kvs'.Perm kvs → PairsAt H' us kvs' → Q (.ref l) H'
theorem z_srtItems (hc : X.calm = true) (hg : Gl X "sorted") (hm : X.mg "sorted" = none) (ho : SE X o to) (hbase : attributeBase o "items" X.env (eval o X.env) = eval o X.env := by rfl) (hline : (apos.endLine == ipos.line) = true := by rfl)
    (hs3 : starEach [Expr.Call (.Attribute o "items" apos) [] [] ipos] X.env = [(false, eval (.Call (.Attribute o "items" apos) [] [] ipos) X.env)] := by rfl) :
    SE X (.Call (.Name "sorted" p) [.Call (.Attribute o "items" apos) [] [] ipos] [] cpos) (tSrtI to) := by
  constructor
  intro pins s σ H Q I h
  refine wpAny_Call_Name_kw (ld_blt I hg hm boot_sorted ?_)
  refine PyProof.Rows.callWith_builtin1 ?_ hs3 rfl
  rw [hs3]
  refine Calls.spliced_cons (wpAny_Call_method0_late hbase hline (thn (ho.h pins s σ H _ I h) ?_))
  rintro v s1 ⟨x, H1, I1, r1, a, kvs, ex, hr, h3, hks, hnd, q⟩
  subst ex
  cases r1
  obtain ⟨z, hdm, vs, rel, dd⟩ := dk_rd I1.hok hr
  obtain ⟨ob, es, ep, e, h2, hdat, h4⟩ := id dd
  have hlen := rel.length
  have hT : s1.TypeIs (.ref a) "dict" := ⟨ob, e, h2.1⟩
  refine ⟨"dict", "dict.items", PySem.F.plainAttrs_dict, PySem.F.slot_dict_items, PySem.F.type_dict_items, hT, fun b hb => by cases hb; exact ⟨ob, e, h2.2.1⟩, Calls.callWith_builtin rfl (PySem.evalArgs_none ?_)⟩
  refine call_meetsIn PySem.F.slot_dict_items hT PySem.F.entry_dict_items (PySem.F.args_dict_items_1 _) (meets_dict_items (mixKind X.prog X.w) a hdm) ⟨⟨vs, ob, es, ep, e, h2, hdat, h4⟩, ?_⟩
  refine Calls.spliced_nil ?_
  have I3 : Inv X pins σ H1 { s1 with heap := s1.heap.push { cls := .type "dict_items", data := .fields #[.ref a] } } := I1.kept (t' := s1.toks) fun b o e => Heap.get?_push_of_some _ e
  refine Calls.call_function_entry kind_sorted plain_sorted entry_sorted (args_sorted1 _) ?_
  unfold Builtin.«sorted»
  refine wpAny_bind (m := checkCount "sorted" 1 1 _) (wpAny_pure ?_)
  refine wpAny_bind (kdx_collect (A := X.A.in1) (knd := mixKind X.prog X.w) (kvs := vs) (ep := ep) (I.ok.hd hc) ⟨_, Heap.get?_push_size _ rfl, rfl, rfl⟩ ⟨ob, es, Heap.get?_push_of_some _ e, h2, hdat, h4⟩ (by omega) fun h' tk as hk hl hG => ?_)
  generalize hS0 : (s1.heap.push { cls := .type "dict_items", data := .fields #[.ref a] }) = hp0 at I3 hk hG ⊢
  have hln : as.length = kvs.length := by omega
  have nda : as.Nodup := hG.rise.imp fun h => Nat.ne_of_lt h
  have hab : ∀ b ∈ as, hp0.objs.size < b := hG.above
  have pairs : ∀ i (hi : i < as.length) (hk' : i < kvs.length), ∃ z t x, kvs[i].1 = .inr z ∧ RelV kvs[i].2 x ∧ h'.get? as[i] = some { cls := .type "tuple", data := .seq #[.str z t, x] } := fun i hi hk' => by
    obtain ⟨key, k, x, g1, g2, g3⟩ := hG.pairs i as[i] (List.getElem?_eq_getElem hi)
    obtain ⟨q', e1, e2, e3⟩ := kv_get2 rel (i := i) (p := kvs[i]) (List.getElem?_eq_getElem hk')
    rw [g1] at e1
    cases e1
    have e2' : k = kvs[i].1 := e2
    obtain ⟨z, hz⟩ := hks _ (List.getElem_mem hk')
    rcases keyIs_shape g2 with ⟨j, t, rfl, e⟩ | ⟨y, t, rfl, e⟩
    · rw [hz] at e2'; cases e2'
    · rw [hz] at e2'; cases e2'; subst e
      exact ⟨_, t, x, hz, e3, g3⟩
  refine wpAny_bind (wpAny_newList ?_ (by rw [List.length_map, hl]; omega))
  have hoL : (h'.push { cls := .type "list", data := .seq (as.map Value.ref).toArray }).get? h'.objs.size = some (seqObj "list" (as.map Value.ref).toArray 0) := Heap.get?_push_size _ rfl
  have keep : ∀ b o, h'.get? b = some o → b ≠ h'.objs.size ∧ (h'.push { cls := .type "list", data := .seq (as.map Value.ref).toArray }).get? b = some o := fun b o q => ⟨Nat.ne_of_lt (Heap.lt_size q), Heap.get?_push_of_some _ q⟩
  have gd : ∀ i (hi : i < as.length), (as.map Value.ref).getD i Value.none = .ref as[i] := fun i hi => by rw [List.getD_eq_getElem?_getD, List.getElem?_map, List.getElem?_eq_getElem hi]; rfl
  refine wpAny_bind (wpAny_holding (wpAny_call_entry slot_list_sort ⟨_, hoL, rfl⟩ entry_list_sort (pm_list_sort (κ := tuples' true) hoL (by rw [List.length_map]; omega) (fun h2 h'' hk2 Q' hq => ?_) (fun h'' hk2 i j hi hj hij C hC => ?_) (fun l hpm => ⟨_, rfl, ?_⟩)) (args_list_sort _)))
  · obtain ⟨fs, pfs⟩ := ex_paired (R := fun v f => (∃ a o xs n, v = Value.ref a ∧ h''.get? a = some o ∧ o.cls = Value.type "tuple" ∧ o.data = .seq xs n ∧ xs[0]? = some f) ∧ ∃ z t, f = Value.str z t) (as.map Value.ref) fun v hv => by
      obtain ⟨b, hb, rfl⟩ := List.mem_map.mp hv
      obtain ⟨i, hi, rfl⟩ := List.getElem_of_mem hb
      obtain ⟨z, t, x, g1, g2, g3⟩ := pairs i hi (by omega)
      exact ⟨.str z t, ⟨as[i], _, _, _, rfl, hk2 _ _ (keep _ _ g3).1 (keep _ _ g3).2, rfl, rfl, rfl⟩, z, t, rfl⟩
    have hfl := Paired.length pfs
    rw [List.length_map] at hfl h2
    refine kat_kind (T := .type "str") (katTups_of (paired_imp (fun _ _ h => h.1) pfs)) (by omega) (fun v hv => ?_) (by decide) hq
    obtain ⟨z, t, rfl⟩ := paired_right (P := fun f => ∃ z t, f = Value.str z t) (fun _ _ h => h.2) pfs v hv
    exact fun A' Q'' E' s' k' q' => wpAny_typeOf (typeIs_str _ _ _) q'
  · rw [List.length_map] at hi hj
    rw [gd i hi, gd j hj]
    obtain ⟨z, t, x, g1, g2, g3⟩ := pairs i hi (by omega)
    obtain ⟨z', t', x', g1', g2', g3'⟩ := pairs j hj (by omega)
    have hne : z ≠ z' := fun ez => by
      subst ez
      have h1 : (kvs.map (·.1))[i]'(by rw [List.length_map]; omega) = (kvs.map (·.1))[j]'(by rw [List.length_map]; omega) := by
        rw [List.getElem_map, List.getElem_map, g1, g1']
      exact hij ((List.getElem_inj hnd).mp h1)
    refine kat_lt (hk2 _ _ (keep _ _ g3).1 (keep _ _ g3).2) rfl (hk2 _ _ (keep _ _ g3').1 (keep _ _ g3').2) rfl ?_
    refine kat_cons (wpAny_eqBool_str ?_)
    rw [decide_eq_false hne]
    exact kat_no (oneLt_str (hC _))
  · refine wpAny_pure ⟨_, rfl, ?_⟩
    rw [List.length_map] at hpm
    have hlm : ∀ i ∈ l, i < as.length := fun i hi => List.mem_range.mp (hpm.mem_iff.mp hi)
    have el : l.map (fun i => (as.map Value.ref).getD i Value.none) = l.map (fun i => Value.ref (as.getD i 0)) := List.map_congr_left fun i hi => by
      rw [gd i (hlm i hi), List.getD_eq_getElem?_getD, List.getElem?_eq_getElem (hlm i hi)]; rfl
    obtain ⟨ee, hL⟩ := sortedHeap_at (out := List.toArray (l.map fun i => (as.map Value.ref).getD i Value.none)) hoL
    have hold : ∀ b o, h'.get? b = some o → (sortedHeap (h'.push { cls := .type "list", data := .seq (as.map Value.ref).toArray }) h'.objs.size (as.map Value.ref) (List.toArray (l.map fun i => (as.map Value.ref).getD i Value.none))).get? b = some o := fun b o q => by
      rw [sortedHeap_old (keep b o q).1 (Heap.lt_size (keep b o q).2)]; exact (keep b o q).2
    generalize sortedHeap (h'.push { cls := .type "list", data := .seq (as.map Value.ref).toArray }) h'.objs.size (as.map Value.ref) (List.toArray (l.map fun i => (as.map Value.ref).getD i Value.none)) = h2' at hL hold ⊢
    have asl : ∀ b ∈ as, b < h'.objs.size := fun b hb => by
      obtain ⟨i, hi, rfl⟩ := List.getElem_of_mem hb
      obtain ⟨z, t, x, g1, g2, g3⟩ := pairs i hi (by omega)
      exact Heap.lt_size g3
    have hza : (as.zip (kvs.map fun kv => HO.tup [kV kv.1, kv.2])).map (·.1) = as := by rw [List.map_fst_zip]; rw [List.length_map]; omega
    have nd : (((h'.objs.size, HO.lst (l.map fun i => V.ref (as.getD i 0))) :: as.zip (kvs.map fun kv => HO.tup [kV kv.1, kv.2])).map (·.1)).Nodup := by
      rw [List.map_cons, hza, List.nodup_cons]
      exact ⟨fun z => Nat.lt_irrefl _ (asl _ z), nda⟩
    have hp0' : hp0.objs.size ≤ h'.objs.size := by
      have hT0 : ∃ o, hp0.get? (s1.heap.objs.size) = some o := ⟨_, by rw [← hS0]; exact Heap.get?_push_size _ rfl⟩
      obtain ⟨o0, e0⟩ := hT0
      have h1 : s1.heap.objs.size < h'.objs.size := Heap.lt_size (hk _ _ e0)
      have h2 : hp0.objs.size = s1.heap.objs.size + 1 := by rw [← hS0]; exact Heap.size_push _ _
      omega
    have above : ∀ q ∈ (h'.objs.size, HO.lst (l.map fun i => V.ref (as.getD i 0))) :: as.zip (kvs.map fun kv => HO.tup [kV kv.1, kv.2]), hp0.objs.size ≤ q.1 := fun q hq => by
      rcases List.mem_cons.mp hq with rfl | hq
      · exact hp0'
      · have : q.1 ∈ as := by rw [← hza]; exact List.mem_map.mpr ⟨q, hq, rfl⟩
        exact Nat.le_of_lt (hab _ this)
    have I4 := Inv.lays (t' := tk) (h' := h2') I3 (fun b o e => hold b o (hk b o e)) _ above nd (fun q hq H' => by
      rcases List.mem_cons.mp hq with rfl | hq
      · refine (show ObjOk X.prog X.w H' h2' _ (.lst _) from ⟨?_, l.map (fun i => Value.ref (as.getD i 0)), ee, ?_, ?_⟩)
        · have := hpm.length_eq; rw [List.length_range] at this; rw [List.length_map]; omega
        · exact paired_idx (by simp) fun i h1 h2 => by simp only [List.getElem_map]; rfl
        · rw [← el]; exact hL
      · obtain ⟨i, hi, rfl⟩ := List.getElem_of_mem hq
        have hi' : i < as.length ∧ i < kvs.length := by
          rw [List.length_zip, List.length_map] at hi; omega
        obtain ⟨z, t, x, g1, g2, g3⟩ := pairs i hi'.1 hi'.2
        rw [List.getElem_zip, List.getElem_map]
        exact tup2_ok (by rw [g1]; exact ⟨t, rfl⟩) g2 (hold _ _ g3))
    refine ⟨.ref h'.objs.size, _, I4, rfl, q h'.objs.size (l.map fun i => V.ref (as.getD i 0)) (l.map fun i => kvs.getD i (.inr "", .non)) _ ?_ ?_ ?_ ?_ ?_⟩
    · exact I3.hok.fresh hp0'
    · exact lays_same _ _ (fun q hq => I3.hok.fresh (above q hq)) nd
    · exact lays_on _ _ nd (h'.objs.size, .lst _) List.mem_cons_self
    · exact getD_perm (by rw [← hln]; exact hpm)
    · refine ⟨by simp, fun i hi => ?_⟩
      rw [List.length_map] at hi
      have hia : l[i] < as.length := hlm _ (List.getElem_mem hi)
      refine ⟨as[l[i]], ?_, ?_⟩
      · rw [List.getElem?_map, List.getElem?_eq_getElem hi]
        simp [List.getD_eq_getElem?_getD, List.getElem?_eq_getElem hia]
      · have eg : (l.map fun i => kvs.getD i ((.inr "", .non) : Key × V))[i]'(by simpa using hi) = kvs[l[i]]'(by omega) := by
          rw [List.getElem_map, List.getD_eq_getElem?_getD, List.getElem?_eq_getElem (show l[i] < kvs.length by omega)]; rfl
        rw [eg]
        refine lays_on _ _ nd (as[l[i]], .tup [kV (kvs[l[i]]'(by omega)).1, (kvs[l[i]]'(by omega)).2]) (List.mem_cons_of_mem _ ?_)
        refine List.mem_iff_getElem.mpr ⟨l[i], by rw [List.length_zip, List.length_map]; omega, ?_⟩
        rw [List.getElem_zip, List.getElem_map]
end
end L2
set_option maxRecDepth 100000
namespace L2
open PySem PySem.Spec PyProof.Rows
section
variable {P : Program} {w : World} {A : Around} {E : Value → Shared → Prop} {s : Shared} {it d : Addr} {i n ep : Nat} {od : Obj} {es : Array DictEntry} {Q : Option Value → Shared → Prop}
theorem keyT_item {en : DictEntry} (a0 : s.heap.IsKeyIter it d i n ep) (hod : s.heap.get? d = some od) (hdd : od.data = .dict es ep) (hn : es.size = n) (hx : es[i]? = some en)
    (hQ : ∀ h', h'.IsKeyIter it d (i + 1) n ep → Heap.SameBut it s.heap h' → Q (some en.key) { s with heap := h' }) : wpAny (model P w) A (pyNext (.ref it)) Q E s := by
  obtain ⟨o, ho, hc, hd⟩ := id a0
  have own : Builtin.Dict_items.ownsTuple "dict_keyiterator" = false := by decide
  have hdn : ¬ (Value.ref d == Value.none) = true := fun hz => Bool.false_ne_true hz
  unfold pyNext
  refine wpAny_bind (wpAny_attempt (wpAny_callSpecial?_slot (name := Str.ofString "__next__") a0.typeIs F.slot_dict_keyiterator_next (wpAny_call_entry F.slot_dict_keyiterator_next a0.typeIs F.entry_dict_keyiterator_next ?_ (F.args_dict_keyiterator_next_1 _))))
  refine wpAny_bind (wpAny_pure (wpAny_bind (wpAny_bind ?_)))
  first
    | refine wpAny_bind (wpAny_typeNameOfWhole_keyiter a0.typeIs (wpAny_pure (wpAny_bind (wpAny_fieldsOf ho hd ?_))))
    | refine wpAny_bind (wpAny_typeNameOf_keyiter a0.typeIs (wpAny_pure (wpAny_bind (wpAny_fieldsOf ho hd ?_))))
  simp only [own, Bool.false_eq_true, if_false]
  show wpAny _ _ (if (Value.ref d == Value.none) = true then _ else _) _ _ s
  rw [if_neg hdn]
  refine wpAny_bind (wpAny_pure (wpAny_bind (wpAny_dictEntries hod hdd ?_)))
  rw [if_neg (by rw [hn]; simp)]
  refine wpAny_bind (wpAny_pure (wpAny_bind (wpAny_dictEpoch hod hdd ?_)))
  rw [if_neg (by simp)]
  refine wpAny_pure ?_
  simp only [show ¬ ((i : Int) < 0) by omega, if_false, Int.toNat_natCast, hx]
  refine wpAny_bind ?_
  first
    | refine wpAny_bind (wpAny_typeNameOfWhole_keyiter a0.typeIs (wpAny_pure (wpAny_bind (wpAny_isOneOf_keyiter a0.typeIs ?_))))
    | refine wpAny_bind (wpAny_typeNameOf_keyiter a0.typeIs (wpAny_pure (wpAny_bind (wpAny_isOneOf_keyiter a0.typeIs ?_))))
  show wpAny _ _ (setField (.ref it) 1 (rawInt ((i : Int) + 1)) >>= _) _ _ s
  refine wpAny_bind (wpAny_setField ho hd (by simp) ?_)
  have b1 : (s.heap.update it (Obj.mapFields (·.setIfInBounds 1 (rawInt ((i : Int) + 1))))).IsKeyIter it d (i + 1) n ep := ⟨_, Heap.get?_update_self _ ho (Obj.isFreed_of_fields (Obj.data_mapFields hd _)), (Obj.cls_mapFields ..).trans hc, by rw [Obj.data_mapFields hd]; simp [rawInt]⟩
  have c1 : Heap.SameBut it s.heap (s.heap.update it (Obj.mapFields (·.setIfInBounds 1 (rawInt ((i : Int) + 1))))) := Heap.SameBut.update ..
  generalize s.heap.update it (Obj.mapFields (·.setIfInBounds 1 (rawInt ((i : Int) + 1)))) = k1 at b1 c1
  refine wpAny_bind (wpAny_holding (wpAny_bind (wpAny_isOneOf_keyiter (s := { s with heap := k1 }) b1.typeIs ?_)))
  show wpAny _ _ (pure en.key) _ _ _
  exact wpAny_pure (wpAny_pure ⟨_, rfl, wpAny_pure (hQ _ b1 c1)⟩)
theorem keyT_end (hh : A.handled = none) (a0 : s.heap.IsKeyIter it d i n ep) (hod : s.heap.get? d = some od) (hdd : od.data = .dict es ep) (hn : es.size = n) (hx : n ≤ i)
    (hQ : ∀ h', Heap.ExtBut it s.heap h' → Q none { s with heap := h' }) : wpAny (model P w) A (pyNext (.ref it)) Q E s := by
  obtain ⟨o, ho, hc, hd⟩ := id a0
  have own : Builtin.Dict_items.ownsTuple "dict_keyiterator" = false := by decide
  have hdn : ¬ (Value.ref d == Value.none) = true := fun hz => Bool.false_ne_true hz
  have hge : es.size ≤ i := by omega
  unfold pyNext
  refine wpAny_bind (wpAny_attempt (wpAny_callSpecial?_slot (name := Str.ofString "__next__") a0.typeIs F.slot_dict_keyiterator_next (wpAny_call_entry F.slot_dict_keyiterator_next a0.typeIs F.entry_dict_keyiterator_next ?_ (F.args_dict_keyiterator_next_1 _))))
  refine wpAny_bind (wpAny_pure (wpAny_bind (wpAny_bind ?_)))
  first
    | refine wpAny_bind (wpAny_typeNameOfWhole_keyiter a0.typeIs (wpAny_pure (wpAny_bind (wpAny_fieldsOf ho hd ?_))))
    | refine wpAny_bind (wpAny_typeNameOf_keyiter a0.typeIs (wpAny_pure (wpAny_bind (wpAny_fieldsOf ho hd ?_))))
  simp only [own, Bool.false_eq_true, if_false]
  show wpAny _ _ (if (Value.ref d == Value.none) = true then _ else _) _ _ s
  rw [if_neg hdn]
  refine wpAny_bind (wpAny_pure (wpAny_bind (wpAny_dictEntries hod hdd ?_)))
  rw [if_neg (by rw [hn]; simp)]
  refine wpAny_bind (wpAny_pure (wpAny_bind (wpAny_dictEpoch hod hdd ?_)))
  rw [if_neg (by simp)]
  refine wpAny_pure ?_
  simp only [show ¬ ((i : Int) < 0) by omega, if_false, Int.toNat_natCast, Array.getElem?_eq_none hge]
  refine wpAny_bind ?_
  first
    | refine wpAny_bind (wpAny_typeNameOfWhole_keyiter a0.typeIs (wpAny_pure ?_))
    | refine wpAny_bind (wpAny_typeNameOf_keyiter a0.typeIs (wpAny_pure ?_))
  show wpAny _ _ (setField (.ref it) 0 .none >>= _) _ _ s
  refine wpAny_bind (wpAny_setField ho hd (by simp) ?_)
  show wpAny _ _ (newExc (.type "StopIteration") [] >>= _) _ _ _
  refine wpAny_bind ?_
  simp only [newExc, newTuple]
  refine wpAny_bind (wpAny_newObj_type (wpAny_bind (m := firstArgMember _ _) (wpAny_of_eq (a := Value.none) (by first | rfl | (simp only [firstArgMember]; rfl)) (wpAny_newObj_type ?_ (by size_fits)))) (by size_fits))
  simp only [raiseNew]
  refine wpAny_bind (wpAny_handled ?_)
  rw [show A.in1.handled = none from hh]
  refine wpAny_bind (wpAny_pure (wpAny_throw ?_))
  refine wpAny_bind (wpAny_isInstance (T := "StopIteration") (b := true) ⟨_, Heap.get?_push_size _ rfl, rfl⟩ isSubtype_stop ?_)
  exact wpAny_pure (hQ _ (((Heap.SameBut.update ..).extBut.push _).push _))
theorem pyIter_keysRaw {Q : Value → Shared → Prop} (hT : s.TypeIs (.ref d) "dict") (hd : (d == sysModules) = false) (hod : s.heap.get? d = some od) (hdd : od.data = .dict es ep)
    (hQ : Q (.ref s.heap.objs.size) { s with heap := s.heap.push { cls := .type "dict_keyiterator", data := .fields #[.ref d, .int 0 0, .int es.size 0, .int ep 0] } }) : wpAny (model P w) A (pyIter (.ref d)) Q E s := by
  refine wpAny_pyIter_slot hT F.slot_dict_iter (wpAny_call_entry F.slot_dict_iter hT F.entry_dict_iter ?_ (F.args_dict_iter_1 _))
  unfold Builtin.«dict.__iter__»
  refine wpAny_bind ?_
  unfold Builtin.Dict.dictSlotNone
  refine wpAny_bind (wpAny_notOrdered_dict hT ?_)
  show wpAny _ _ (pure (Value.ref d)) _ _ s
  refine wpAny_pure ?_
  show wpAny _ _ (Builtin.Dict.showsAll d >>= _) _ _ s
  unfold Builtin.Dict.showsAll
  rw [if_neg (fun hz => Bool.false_ne_true (hd.symm.trans hz))]
  refine wpAny_bind (wpAny_pure (wpAny_bind (wpAny_dictEntries hod hdd (wpAny_bind (wpAny_dictEpoch hod hdd ?_)))))
  refine wpAny_bind (wpAny_newObj_type (wpAny_pure ⟨_, rfl, "dict_keyiterator", _, ⟨_, Heap.get?_push_size _ rfl, rfl⟩, F.slot_dict_keyiterator_next.lookup, ?_⟩))
  simpa [rawInt] using hQ
end
def ItkT (a : Addr) (o : Obj) (kvs : List (List Key × V)) : It := ⟨fun i H => H a = some (.frz o (.dT kvs)) ∧ i < kvs.length, fun i H x H' => H' = H ∧ ∃ b kv, kvs[i]? = some kv ∧ RdT H b (kv.1.map kV) ∧ x = .ref b, fun i H => H a = some (.frz o (.dT kvs)) ∧ kvs.length = i⟩
theorem turn_keysT {P : Program} {w : World} {K : PySem.W.Frag} {tg : Expr} {a it : Addr} {o : Obj} {kvs : List (List Key × V)} {ep : Nat} (hep : ∃ es, o.data = .dict es ep) : Turn P w K tg (ItkT a o kvs) [it] it (fun i h => h.IsKeyIter it a i kvs.length ep) where
  mem := by simp
  obj := fun i h st b hb => by
    have e : b = it := by simpa using hb
    subst e
    obtain ⟨o, e, c, d⟩ := st
    exact ⟨o, e, fun v z => by rw [d] at z; cases z⟩
  keep := fun i h h' st k => let ⟨o, e, r⟩ := st; ⟨o, k it (by simp) o e, r⟩
  item := by
    intro X hP hw hK hc i pins s σ H E I hf st hg
    subst hP hw hK
    obtain ⟨hq, hi⟩ := hg
    obtain ⟨e, z, hd, xs, rel, ob, es, ep', h1, h2, h3, h4, h5⟩ := (show ObjOk X.prog X.w H s.heap a (.frz o (.dT kvs)) from I.hok a _ hq)
    obtain ⟨es', he'⟩ := hep
    rw [e] at h1; cases h1
    rw [he'] at h3; injection h3 with h3a h3b
    subst h3a h3b
    obtain ⟨q, hq1, hq2, hq3⟩ := kt_get rel (List.getElem?_eq_getElem hi)
    have hl := Paired.length rel
    have hsz : es'.size = kvs.length := by rw [← Array.length_toList, h4, List.length_map]; exact hl.symm
    have hx : es'[i]? = some (entryOfKey (tupleKind (mixKind X.prog X.w)) q) := by rw [← Array.getElem?_toList, h4, List.getElem?_map, hq1]; rfl
    obtain ⟨f0, f1, f2, f3, f4, f5⟩ := hf it (by simp)
    refine keyT_item (n := kvs.length) st e he' hsz hx fun h' st' sb => ?_
    have I1 : Inv X pins σ H { s with heap := h' } := I.turned (t' := s.toks) (fun b o hb e => (sb.2 b hb).trans e) f0 f1 f3 f4 f5
    obtain ⟨o3, e3, c3, d3⟩ := id st'
    exact ⟨_, rfl, go_of (s := { s with heap := h' }) e3 c3 d3 (by decide) ⟨.ref q.2.1, H, I1, rfl, ⟨rfl, q.2.1, kvs[i], List.getElem?_eq_getElem hi, hq2, rfl⟩, st', fun b hb => (hf b hb).1⟩⟩
  done := by
    intro X hP hw hK hc i pins s σ H E I hf st hg
    subst hP hw hK
    obtain ⟨hq, hi⟩ := hg
    obtain ⟨e, z, hd, xs, rel, ob, es, ep', h1, h2, h3, h4, h5⟩ := (show ObjOk X.prog X.w H s.heap a (.frz o (.dT kvs)) from I.hok a _ hq)
    obtain ⟨es', he'⟩ := hep
    rw [e] at h1; cases h1
    rw [he'] at h3; injection h3 with h3a h3b
    subst h3a h3b
    have hl := Paired.length rel
    have hsz : es'.size = kvs.length := by rw [← Array.length_toList, h4, List.length_map]; exact hl.symm
    obtain ⟨f0, f1, f2, f3, f4, f5⟩ := hf it (by simp)
    exact keyT_end (n := kvs.length) (I.ok.hd hc) st e he' hsz (by omega) fun h' eb => ⟨rfl, I.turned (t' := s.toks) (fun b o hb e => eb b o hb e) f0 f1 f3 f4 f5⟩
  self := fun _ _ _ _ _ st h => wpAny_pyIter_keyiter st h
section
variable {X : Cx} {tg e : Expr} {te : TE}
def iKeysT (te : TE) : TI := fun σ H R => te σ H fun x H1 => ∃ a kvs o, x = .ref a ∧ H1 a = some (.frz o (.dT kvs)) ∧ R (ItkT a o kvs) H1
theorem pi_keysT (he : SE X e te) : SI X tg e (iKeysT te) := by
  constructor
  intro pins s σ H R I h
  refine thn (he.h pins s σ H _ I h) ?_
  rintro v s1 ⟨x, H1, I1, r1, a, kvs, o, ex, hH, q⟩
  subst ex
  cases r1
  obtain ⟨e, z, hdm, xs, rel, ob, es, ep, h1, h2, hd, h4, h5⟩ := (show ObjOk X.prog X.w _ s1.heap a (.frz o (.dT kvs)) from I1.hok a _ hH)
  rw [e] at h1; cases h1
  have hl := Paired.length rel
  have hsz : es.size = kvs.length := by rw [← Array.length_toList, h4, List.length_map]; exact hl.symm
  refine pyIter_keysRaw (es := es) (ep := ep) ⟨o, e, h2.1⟩ hdm e hd ?_
  refine ⟨s1.heap.objs.size, [s1.heap.objs.size], _, _, _, rfl, I1.kept (t' := s1.toks) fun b o e => Heap.get?_push_of_some _ e, turn_keysT (kvs := kvs) (a := a) (o := o) ⟨es, hd⟩, by rw [← hsz]; exact ⟨_, Heap.get?_push_size _ rfl, rfl, rfl⟩, fun b hb => ?_, q⟩
  have e : b = s1.heap.objs.size := by simpa using hb
  subst e
  exact I1.fpOk (Nat.le_refl _) (I1.hok.fresh (Nat.le_refl _))
end
theorem lc_keysT {ad : Addr} {o : Obj} {kvs : List (List Key × V)} {g : TG} {tc : TC} {te : TE} {τ0 : St} {H0 : Hp} {D : Addr} {Q : Hp → Prop} (Pv : Nat → St → Hp → Prop) (h0 : Pv 0 τ0 H0)
    (hok : ∀ i τ H, i ≤ kvs.length → Pv i τ H → H ad = some (.frz o (.dT kvs)))
    (hs : ∀ i τ H b (hi : i < kvs.length), Pv i τ H → RdT H b (kvs[i].1.map kV) → g (.ref b) τ H fun τ2 H2 => tc τ2 H2 fun c H3 => if c = true then te τ2 H3 fun y H4 => ∃ xs, H4 D = some (.lst xs) ∧ xs.length < sizeLine ∧ Pv (i + 1) τ2 (upd H4 D (.lst (xs ++ [y]))) else Pv (i + 1) τ2 H3)
    (hd : ∀ τ H, Pv kvs.length τ H → Q H) : ∃ W : Nat → Nat → St → Hp → Prop, (∃ m, W 0 m τ0 H0) ∧ ∀ i m τ H, W i m τ H →
      ((ItkT ad o kvs).stop i H ∧ Q H) ∨ ((ItkT ad o kvs).go i H ∧ ∃ N : St → Hp → Prop, (∀ τ' H', N τ' H' → ∃ m', m' < m ∧ W (i + 1) m' τ' H') ∧ ∀ x H', (ItkT ad o kvs).yld i H x H' → g x τ H' fun τ2 H2 => tc τ2 H2 fun b H3 =>
        if b = true then te τ2 H3 fun y H4 => ∃ xs, H4 D = some (.lst xs) ∧ xs.length < sizeLine ∧ N τ2 (upd H4 D (.lst (xs ++ [y]))) else N τ2 H3) := by
  refine ⟨fun i m τ H => m = kvs.length - i ∧ i ≤ kvs.length ∧ Pv i τ H, ⟨kvs.length, by simp, Nat.zero_le _, h0⟩, ?_⟩
  rintro i m τ H ⟨rfl, hi, p⟩
  have hk := hok i τ H hi p
  by_cases hlt : i < kvs.length
  · refine .inr ⟨⟨hk, hlt⟩, Pv (i + 1), fun σ' H' p' => ⟨kvs.length - (i + 1), by omega, rfl, hlt, p'⟩, fun x H' y => ?_⟩
    obtain ⟨rfl, b, kv, hkv, rd, rfl⟩ := y
    have e : kv = kvs[i] := by rw [List.getElem?_eq_getElem hlt] at hkv; exact (Option.some.inj hkv).symm
    subst e
    exact hs i τ _ b hlt p rd
  · have e : i = kvs.length := by omega
    subst e
    exact .inl ⟨⟨hk, rfl⟩, hd τ H p⟩
section
variable {X : Cx} {a b : Expr} {ta tb : TE} {pos : Pos}
def tDisp1 (ta tb : TE) : TE := fun σ H Q => ∀ p, H p = none → ta σ (upd H p (.dT [])) fun x H1 => tb σ H1 fun y H2 => ∃ c k, x = .ref c ∧ RdT H2 c (k.map kV) ∧ H2 p = some (.dT []) ∧ Q (.ref p) (upd H2 p (.dT [(k, y)]))
theorem z_disp1 (hu : X.A.units + 1 < cLine) (ha : SE X a ta) (hb : SE X b tb) : SE X (.Dict [some a] [b] pos) (tDisp1 ta tb) := by
  constructor
  intro pins s σ H Q I q
  have hn := I.hok.fresh (Nat.le_refl s.heap.objs.size)
  have I1 := I.laid (a := s.heap.objs.size) (o := .dT []) (h' := s.heap.push { cls := .type "dict", data := .dict #[] }) (t' := s.toks) (fun _ _ q => Heap.get?_push_of_some _ q) (Nat.le_refl _) (dt_empty s.heap I.big)
  have hsh := zip_pairTrees [some a] [b] X.env pos rfl rfl
  rw [arm_eval_Dict, hsh, dictDisplay_pairs _ (by simp [pairTrees]) (by simp [pairTrees])]
  refine wpAny_bind (wpAny_standAt (wpAny_bind ?_))
  unfold subDict
  refine wpAny_bind (wpAny_alloc ?_)
  refine wpAny_bind (wpAny_holding ?_)
  rw [if_pos (by simp [pairTrees])]
  refine wpAny_bind (pairTrees_cons_walk (thn (ha.h pins _ σ _ _ I1 (q _ hn)) fun u s1 ⟨x, H1, J1, r1, q1⟩ => thn (hb.h pins s1 σ H1 _ J1 q1) fun v s2 ⟨y, H2, J2, r2, c, k, ex, rd, hd, q2⟩ => pairTrees_nil_walk ?_))
  subst ex
  cases r1
  refine wpAny_holding ?_
  rw [List.forIn_cons]
  obtain ⟨z, hdm, xs, rel, dd⟩ := dt_of J2.hok hd
  cases rel
  refine wpAny_bind (wpAny_bind (wpAny_bind (wpAny_dictSet_heap (hsz := by simp) (by show X.A.units < cLine; omega) (key_of J2.hok rd) dd fun h2 dd' hs => wpAny_pure ?_)))
  dsimp only
  rw [List.forIn_nil]
  obtain ⟨q', es, ep, hq, k2, k3, k4, _, k5⟩ := dd'
  have I10 := d_write (t' := s2.toks + (tupleKind (mixKind X.prog X.w)).draws k) (ob := .dT (putK [] k y)) J2 (by rw [hd]; exact True.intro) hs ⟨q', hq⟩
    ⟨by rw [sizeLine_eq]; show 1 ≤ 16777216; decide, hdm, _, (KT.put (kvs := []) (xs := []) .nil k rd r2).keeps fun c ys ec => ec.upd fun u hu z => by subst z; rcases ec with ec | ⟨_, ec⟩ <;> (rw [hd] at ec; cases ec), q', es, ep, hq, k2, k3, k4, k5⟩
  exact wpAny_pure (wpAny_pure (wpAny_pure (wpAny_pure ⟨.ref _, _, I10, rfl, q2⟩)))
end
end L2
set_option maxRecDepth 100000
namespace L2
open PySem PySem.Spec PyProof.Rows
theorem pick_revL (xs : Array Value) : slicePick xs none none (some (-1)) = xs.toList.reverse.toArray := by
  unfold slicePick
  congr 1
  rw [← pick_rev xs]
  show (sliceRange ((xs.size : Int) - 1) (-1) (-1)).filterMap (xs[·]?) = _
  unfold sliceRange
  simp only [show ¬ ((-1 : Int) > 0) by decide, if_false]
  rw [List.filterMap_map]
  have e : (if (xs.size : Int) - 1 > -1 then (((xs.size : Int) - 1) - (-1) - (-1) - 1) / (- -1) else 0).toNat = xs.size := by
    have h1 : (- -1 : Int) = 1 := rfl
    rw [h1, Int.ediv_one]
    split <;> omega
  rw [e]
  refine fm_congr fun k hk => ?_
  show xs[((xs.size : Int) - 1 + -1 * (k : Int)).toNat]? = _
  have h2 : ((xs.size : Int) - 1 + -1 * (k : Int)) = ((xs.size : Int) - 1 + (k : Int) * -1) := by omega
  rw [h2]
section
variable {X : Cx} {e st : Expr} {te ts : TE} {p2 pos : Pos}
def tRevL (K : PySem.W.Frag) (te ts : TE) : TE := fun σ H Q => te σ H fun x H1 => ts σ H1 fun y H2 => y = .int (-1) ∧ ∃ a xs, x = .ref a ∧ SqL K H2 a xs ∧ ∀ p, H2 p = none → Q (.ref p) (upd H2 p (.lst xs.reverse))
theorem z_revL (K : PySem.W.Frag) (he : SE X e te) (hs : SE X st ts) (hK : X.K = K := by rfl) : SE X (.Subscript e (.Slice none none (some st) p2) pos) (tRevL K te ts) := by
  subst hK
  constructor
  intro pins s σ H Q I h
  refine Subscript_ (thn (he.h pins s σ H _ I h) ?_)
  rintro v s1 ⟨x, H1, I1, r1, q1⟩
  refine wpAny_Slice ?_
  rw [evalPart_none]
  refine wpAny_pure ?_
  refine wpAny_pure ?_
  rw [evalPart_some]
  refine thn (hs.h pins s1 σ H1 _ I1 q1) ?_
  rintro u s3 ⟨y, H3, I3, ry, ey, a, xs, ex, hq, q⟩
  subst ey ex
  obtain ⟨tk, rfl⟩ := (show ∃ t, u = Value.int (-1) t from ry)
  cases r1
  have I4 : Inv X pins σ H3 { s3 with heap := s3.heap.push { cls := .type "slice", data := .fields #[.none, .none, .int (-1) tk] } } := I3.kept (t' := s3.toks) fun b ob q => Heap.get?_push_of_some _ q
  obtain ⟨its, r, pl, hz⟩ := I4.list hq
  have hl := pl.isList
  show wpAny (model X.prog X.w) X.A (subscriptTail e (.Slice none none (some st) p2) (.ref a) (.ref s3.heap.objs.size)) (EP X pins σ Q) X.xe { s3 with heap := s3.heap.push { cls := .type "slice", data := .fields #[.none, .none, .int (-1) tk] } }
  refine tail_any (ops := [.ref a, .ref s3.heap.objs.size]) hl.typeIs list_getitem_lookup (wpAny_getItem_list_slice (lo := none) (hi := none) (st := some (-1)) hl (Heap.IsSliceOf.new ..) .none .none (.int _ _) (by simp) ?_ (by have := r.length; simp; omega)) (by with_unfolding_all rfl)
  rw [pick_revL]
  refine ⟨.ref _, _, I4.laid (t' := s3.toks) (o := .lst xs.reverse) (fun b ob q => Heap.get?_push_of_some _ q) (Nat.le_refl _) ?_, rfl, q _ (I4.hok.fresh (Nat.le_refl _))⟩
  exact ⟨by simpa using hz, its.reverse, 0, Vals.rev r, Heap.get?_push_size _ rfl⟩
def rEqTE : R2 := fun x y H Q => ∃ a b xs, x = .ref a ∧ y = .ref b ∧ H a = some (.tup xs) ∧ H b = some (.tup []) ∧ Q (.bl xs.isEmpty) H
theorem op_eqTE (hu : X.A.units + 20 < cLine) : OpR X (compareOp .Eq) rEqTE := by
  intro pins s σ H x y v u Q I rx ry h
  obtain ⟨a, b, xs, rfl, rfl, ha, hb, q⟩ := h
  cases rx
  cases ry
  obtain ⟨i1, r1, p1, _⟩ := I.tuple (SqT.of ha)
  obtain ⟨i2, r2, p2, _⟩ := I.tuple (SqT.of hb)
  cases r2
  refine SeqAt.eq_tupleAt (e := fun _ => true) p1 p2 (by omega) (fun j h1 h2 => absurd h2 (by simp)) ?_
  have e : ((List.range (min i1.toArray.size ([] : List Value).toArray.size)).all (fun _ => true) && i1.toArray.size == ([] : List Value).toArray.size) = xs.isEmpty := by
    have hl := r1.length
    cases xs with
    | nil => simp at hl; simp [← hl]
    | cons x xs => cases i1 with
      | nil => simp at hl
      | cons u us => simp
  rw [e]
  exact ⟨.bl xs.isEmpty, H, I, rfl, q⟩
end
end L2
set_option maxRecDepth 100000
namespace L2
open PySem PySem.Spec PyProof.Rows
inductive Th where
  | pick (w : Str) (t : Th)
  | box (ps : List (Str × Th))
structure BoxV (R : V → Th → Prop) (H : Hp) (xs : List V) (ps : List (Str × Th)) : Prop where
  len : xs.length = ps.length
  at_ : ∀ i (h : i < xs.length) (h' : i < ps.length), ∃ d u, xs[i] = .ref d ∧ H d = some (.tup [.str ps[i].1, u]) ∧ R u ps[i].2
def ThV (H : Hp) : Nat → V → Th → Prop
  | 0, _, _ => False
  | n + 1, v, .pick w t => ∃ a u, v = .ref a ∧ H a = some (.tup [.str "pick", .str w, u]) ∧ ThV H n u t
  | n + 1, v, .box ps => ∃ a c xs, v = .ref a ∧ H a = some (.tup [.str "box", .ref c]) ∧ H c = some (.tup xs) ∧ (ps.map (·.1)).Nodup ∧ ps.length ≤ 10 ∧ BoxV (ThV H n) H xs ps
theorem BoxV.imp {R R' : V → Th → Prop} {H H' : Hp} {xs : List V} {ps : List (Str × Th)} (h : BoxV R H xs ps) (s : Tk H H') (f : ∀ v t, R v t → R' v t) : BoxV R' H' xs ps :=
  ⟨h.len, fun i a b => let ⟨d, u, e1, e2, e3⟩ := h.at_ i a b; ⟨d, u, e1, s _ _ e2, f _ _ e3⟩⟩
theorem ThV.tk {H H' : Hp} (s : Tk H H') : ∀ {n : Nat} {v : V} {t : Th}, ThV H n v t → ThV H' n v t
  | 0, _, _, h => h
  | n + 1, v, .pick w t, h => by
    obtain ⟨a, u, h1, h2, h3⟩ := h
    exact ⟨a, u, h1, s _ _ h2, ThV.tk s h3⟩
  | n + 1, v, .box ps, h => by
    obtain ⟨a, c, xs, h1, h2, h3, h4, h5, h6⟩ := h
    exact ⟨a, c, xs, h1, s _ _ h2, s _ _ h3, h4, h5, h6.imp s fun v t => ThV.tk s⟩
theorem ThV.up {H : Hp} : ∀ {n : Nat} {v : V} {t : Th}, ThV H n v t → ThV H (n + 1) v t
  | 0, _, _, h => h.elim
  | n + 1, v, .pick w t, h => by
    obtain ⟨a, u, h1, h2, h3⟩ := h
    exact ⟨a, u, h1, h2, ThV.up h3⟩
  | n + 1, v, .box ps, h => by
    obtain ⟨a, c, xs, h1, h2, h3, h4, h5, h6⟩ := h
    exact ⟨a, c, xs, h1, h2, h3, h4, h5, h6.imp Tk.refl fun v t => ThV.up⟩
theorem ThV.mono {H : Hp} {n m : Nat} {v : V} {t : Th} (h : ThV H n v t) (hl : n ≤ m) : ThV H m v t := by
  induction hl with
  | refl => exact h
  | step _ ih => exact ih.up
theorem BoxV.nil {R : V → Th → Prop} {H : Hp} : BoxV R H [] [] := ⟨rfl, fun i h => absurd h (by simp)⟩
theorem BoxV.snoc {R : V → Th → Prop} {H : Hp} {xs : List V} {ps : List (Str × Th)} (h : BoxV R H xs ps) {d : Addr} {u : V} {p : Str × Th} (e : H d = some (.tup [.str p.1, u])) (r : R u p.2) : BoxV R H (xs ++ [.ref d]) (ps ++ [p]) := by
  have hl := h.len
  refine ⟨by simp [hl], fun i h1 h2 => ?_⟩
  by_cases hlt : i < xs.length
  · rw [List.getElem_append_left hlt, List.getElem_append_left (by omega)]
    exact h.at_ i hlt (by omega)
  · have e' : i = xs.length := by simp at h1; omega
    subst e'
    rw [List.getElem_append_right (Nat.le_refl _), List.getElem_append_right (by omega)]
    simp only [Nat.sub_self, hl, List.getElem_cons_zero]
    exact ⟨d, u, rfl, e, r⟩
inductive OfT (rows : List Rw2) : Str → Th → Prop where
  | all {e : Str} {t : Th} (h : hdOf rows e = .one "all") : OfT rows e t
  | pick {e w y : Str} {t : Th} {ps : List (Str × Str)} (h : hdOf rows e = .prs "pick" ps) (m : (w, y) ∈ ps) (o : OfT rows (endOf rows y) t) : OfT rows e (.pick w t)
  | box {e : Str} {ps : List (Str × Str)} {qs : List (Str × Th)} (f : Str × Str → Th) (h : hdOf rows e = .prs "box" ps) (m : ∀ p ∈ ps, (p.1, f p) ∈ qs) (o : ∀ p ∈ ps, OfT rows (endOf rows p.2) (f p)) : OfT rows e (.box qs)
structure AskV (R : V → Th → Prop) (H : Hp) (us : List V) (ps : List (Str × Th)) : Prop where
  len : us.length = ps.length
  at_ : ∀ i (h : i < us.length) (h' : i < ps.length), ∃ c u, us[i] = .ref c ∧ H c = some (.tup [.str ps[i].1, u]) ∧ R u ps[i].2
section
variable {rows : List Rw2} {e : Str}
theorem not_of_one {s : Str} (h : hdOf rows e = .one s) (hs : s ≠ "all") (t : Th) : ¬ OfT rows e t := fun o => by
  cases o with
  | all h' => rw [h] at h'; cases h'; exact hs rfl
  | pick h' => rw [h] at h'; cases h'
  | box _ h' => rw [h] at h'; cases h'
theorem not_of_way {x y : Str} (h : hdOf rows e = .way x y) (t : Th) : ¬ OfT rows e t := fun o => by
  cases o with
  | all h' => rw [h] at h'; cases h'
  | pick h' => rw [h] at h'; cases h'
  | box _ h' => rw [h] at h'; cases h'
theorem of_pick {ps : List (Str × Str)} (h : hdOf rows e = .prs "pick" ps) {w : Str} {t : Th} : OfT rows e (.pick w t) ↔ ∃ y, (w, y) ∈ ps ∧ OfT rows (endOf rows y) t := by
  constructor
  · intro o
    cases o with
    | all h' => rw [h] at h'; cases h'
    | pick h' m o => rw [h] at h'; cases h'; exact ⟨_, m, o⟩
  · rintro ⟨y, m, o⟩
    exact .pick h m o
theorem pick_box {ps : List (Str × Str)} (h : hdOf rows e = .prs "pick" ps) {qs : List (Str × Th)} : ¬ OfT rows e (.box qs) := fun o => by
  cases o with
  | all h' => rw [h] at h'; cases h'
  | box _ h' => rw [h] at h'; injection h' with h1 _; exact absurd h1 (by decide +kernel)
theorem box_pick {ps : List (Str × Str)} (h : hdOf rows e = .prs "box" ps) {w : Str} {t : Th} : ¬ OfT rows e (.pick w t) := fun o => by
  cases o with
  | all h' => rw [h] at h'; cases h'
  | pick h' => rw [h] at h'; injection h' with h1 _; exact absurd h1 (by decide +kernel)
theorem of_box {ps : List (Str × Str)} (h : hdOf rows e = .prs "box" ps) {qs : List (Str × Th)} : OfT rows e (.box qs) ↔ ∀ p ∈ ps, ∃ t, (p.1, t) ∈ qs ∧ OfT rows (endOf rows p.2) t := by
  constructor
  · intro o
    cases o with
    | all h' => rw [h] at h'; cases h'
    | box f h' m o => rw [h] at h'; cases h'; exact fun p hp => ⟨f p, m p hp, o p hp⟩
  · intro a
    have : ∃ f : Str × Str → Th, ∀ p ∈ ps, (p.1, f p) ∈ qs ∧ OfT rows (endOf rows p.2) (f p) := by
      have hc : ∀ p : Str × Str, ∃ t : Th, p ∈ ps → (p.1, t) ∈ qs ∧ OfT rows (endOf rows p.2) t := fun p => by
        by_cases hp : p ∈ ps
        · obtain ⟨t, ht⟩ := a p hp; exact ⟨t, fun _ => ht⟩
        · exact ⟨.box [], fun z => absurd z hp⟩
      obtain ⟨f, hf⟩ := Classical.axiomOfChoice hc
      exact ⟨f, fun p hp => hf p hp⟩
    obtain ⟨f, hf⟩ := this
    exact .box f h (fun p hp => (hf p hp).1) fun p hp => (hf p hp).2
end
theorem BoxV.pairs {R : V → Th → Prop} {H : Hp} {xs : List V} {ps : List (Str × Th)} (h : BoxV R H xs ps) : ∃ rs : List (Str × V), PairsAt H xs (rowsK rs) ∧ rs.map (·.1) = ps.map (·.1) ∧ rs.length = ps.length ∧ ∀ i (h1 : i < rs.length) (h2 : i < ps.length), R rs[i].2 ps[i].2 := by
  have hl := h.len
  have hc : ∀ i : Fin ps.length, ∃ v : V, (∃ b, xs[i.val]? = some (.ref b) ∧ H b = some (.tup [.str ps[i.val].1, v])) ∧ R v ps[i.val].2 := fun i => by
    obtain ⟨b, v, q1, q2, q3⟩ := h.at_ i.val (by have := i.isLt; omega) i.isLt
    exact ⟨v, ⟨b, by rw [List.getElem?_eq_getElem (by have := i.isLt; omega), q1], q2⟩, q3⟩
  obtain ⟨f, hf⟩ := Classical.axiomOfChoice hc
  refine ⟨List.ofFn fun i => (ps[i.val].1, f i), ⟨by simp [hl], fun i hi => ?_⟩, ?_, by simp, fun i h1 h2 => ?_⟩
  · have hi' : i < ps.length := by simpa using hi
    obtain ⟨b, q1, q2⟩ := (hf ⟨i, hi'⟩).1
    exact ⟨b, q1, by simpa [rowsK, kV] using q2⟩
  · apply List.ext_getElem
    · simp
    · intro i h1 h2; simp
  · simpa using (hf ⟨i, h2⟩).2
theorem eqS_t {s : Str} {A B : Prop} (h : A) : if (false ^^ decide (V.str s = V.str s)) = true then A else B := by rw [Bool.false_xor, decide_eq_true rfl]; exact h
theorem eqS_f {s z : Str} {A B : Prop} (n : (s == z) = false) (h : B) : if (false ^^ decide (V.str s = V.str z)) = true then A else B := by rw [Bool.false_xor, decV_str, n]; exact h
theorem neS_f {s : Str} {A B : Prop} (h : B) : if (true ^^ decide (V.str s = V.str s)) = true then A else B := by rw [decide_eq_true rfl]; exact h
theorem neS_t {s z : Str} {A B : Prop} (n : (s == z) = false) (h : A) : if (true ^^ decide (V.str s = V.str z)) = true then A else B := by rw [decV_str, n]; exact h
theorem BoxV.look {R : V → Th → Prop} {ps : List (Str × Th)} {rs : List (Str × V)} (nd : (ps.map (·.1)).Nodup) (nm : rs.map (·.1) = ps.map (·.1)) (rl : rs.length = ps.length) (h : ∀ i (h1 : i < rs.length) (h2 : i < ps.length), R rs[i].2 ps[i].2) (z : Str) :
    (z ∉ ps.map (·.1) ∧ valV (dictOf (rowsK rs)) (.inr z) = none) ∨ ∃ u t, valV (dictOf (rowsK rs)) (.inr z) = some u ∧ (z, t) ∈ ps ∧ R u t := by
  have ndk : ((rowsK rs).map (·.1)).Nodup := rowsK_nd (by rw [nm]; exact nd)
  by_cases hz : z ∈ ps.map (·.1)
  · obtain ⟨q, hq, rfl⟩ := List.mem_map.mp hz
    obtain ⟨i, hi, rfl⟩ := List.getElem_of_mem hq
    have hi' : i < rs.length := by omega
    have e : rs[i].1 = ps[i].1 := by
      have : (rs.map (·.1))[i]'(by simpa using hi') = (ps.map (·.1))[i]'(by simpa using hi) := by simp only [nm]
      simpa using this
    refine .inr ⟨rs[i].2, ps[i].2, ?_, List.getElem_mem hi, h i hi' hi⟩
    have := valV_dictOf (rowsK rs) ndk i (by simpa using hi')
    simp only [List.getElem_map] at this
    rw [e] at this
    exact this
  · refine .inl ⟨hz, ?_⟩
    rw [dictOf_nodup _ ndk]
    cases e : valV (rowsK rs) (.inr z) with
    | none => rfl
    | some u =>
      have := valV_in e
      obtain ⟨q, hq, e'⟩ := List.mem_map.mp this
      obtain ⟨r, hr, rfl⟩ := List.mem_map.mp hq
      refine absurd ?_ hz
      rw [← nm, ← Sum.inr.inj e']
      exact List.mem_map.mpr ⟨r, hr, rfl⟩
theorem nd_uniq {α β : Type} {ps : List (α × β)} (nd : (ps.map (·.1)).Nodup) {z : α} {t t' : β} (h : (z, t) ∈ ps) (h' : (z, t') ∈ ps) : t = t' := by
  obtain ⟨i, hi, e⟩ := List.getElem_of_mem h
  obtain ⟨j, hj, e'⟩ := List.getElem_of_mem h'
  have hij : i = j := by
    refine (List.getElem_inj (h₀ := by simpa using hi) (h₁ := by simpa using hj) nd).mp ?_
    simp [e, e']
  subst hij
  rw [e] at e'
  exact (Prod.mk.inj e').2
theorem filt_mem {ps : List (Str × Str)} (nd : (ps.map (·.1)).Nodup) (w : Str) : (∀ y, (w, y) ∈ ps → ps.filter (fun p => decide (p.1 = w)) = [(w, y)]) ∧ ((∀ y, (w, y) ∉ ps) → ps.filter (fun p => decide (p.1 = w)) = []) := by
  induction ps with
  | nil => exact ⟨(fun y h => nomatch h), fun _ => rfl⟩
  | cons p ps ih =>
    rw [List.map_cons, List.nodup_cons] at nd
    obtain ⟨i1, i2⟩ := ih nd.2
    by_cases hp : p.1 = w
    · have hno : ∀ y, (w, y) ∉ ps := fun y hy => nd.1 (by rw [hp]; exact List.mem_map.mpr ⟨_, hy, rfl⟩)
      have e : (p :: ps).filter (fun p => decide (p.1 = w)) = [p] := by rw [List.filter_cons, if_pos (by simpa using hp), i2 hno]
      rw [e]
      refine ⟨fun y hy => ?_, fun h => ?_⟩
      · rcases List.mem_cons.mp hy with h | h
        · rw [h]
        · exact absurd h (hno y)
      · exact absurd (show (w, p.2) ∈ p :: ps by rw [← hp]; simp) (h p.2)
    · have e : (p :: ps).filter (fun p => decide (p.1 = w)) = ps.filter (fun p => decide (p.1 = w)) := by rw [List.filter_cons, if_neg (by simpa using hp)]
      rw [e]
      refine ⟨fun y hy => ?_, fun h => i2 fun y hy => h y (List.mem_cons_of_mem _ hy)⟩
      rcases List.mem_cons.mp hy with h | h
      · exact absurd (by rw [← h]) hp
      · exact i1 y h
structure PD (R : V → Th → Prop) (ws : List Str) (kvs : List (Key × V)) : Prop where
  all : ∀ q ∈ kvs, ∃ z t, q.1 = .inr z ∧ z ∈ ws ∧ R q.2 t
  nd : (kvs.map (·.1)).Nodup
section
variable {R R' : V → Th → Prop} {ws : List Str} {kvs kvs' : List (Key × V)}
theorem PD.imp (h : PD R ws kvs) (f : ∀ v t, R v t → R' v t) : PD R' ws kvs := ⟨fun q hq => let ⟨z, t, h1, h2, h3⟩ := h.all q hq; ⟨z, t, h1, h2, f _ _ h3⟩, h.nd⟩
theorem PD.perm (h : PD R ws kvs) (p : kvs'.Perm kvs) : PD R ws kvs' := ⟨fun q hq => h.all q (p.mem_iff.mp hq), (p.map _).nodup_iff.mpr h.nd⟩
theorem PD.len (h : PD R ws kvs) : kvs.length ≤ ws.length := by
  have hc : ∀ q : Key × V, ∃ z : Str, q ∈ kvs → q.1 = .inr z ∧ z ∈ ws := fun q => by
    by_cases hq : q ∈ kvs
    · obtain ⟨z, t, h1, h2, _⟩ := h.all q hq; exact ⟨z, fun _ => ⟨h1, h2⟩⟩
    · exact ⟨"", fun z => absurd z hq⟩
  obtain ⟨f, hf⟩ := Classical.axiomOfChoice hc
  have := nodup_sub (l := kvs.map f) (m := ws) ?_ ?_
  · simpa using this
  · refine List.pairwise_map.mpr ((List.pairwise_map.mp h.nd).imp_of_mem fun {a b} ha hb hab e => hab ?_)
    rw [(hf a ha).1, (hf b hb).1, e]
  · intro z hz
    obtain ⟨q, hq, rfl⟩ := List.mem_map.mp hz
    exact (hf q hq).2
theorem PD.put (h : PD R ws kvs) {z : Str} {v : V} {t : Th} (hz : z ∈ ws) (hv : R v t) : PD R ws (putK kvs (.inr z) v) := by
  cases e : valV kvs (.inr z) with
  | none =>
    refine ⟨fun q hq => ?_, nd_putK _ h.nd e⟩
    rw [L2.putK_new _ e] at hq
    rcases List.mem_append.mp hq with hq | hq
    · exact h.all q hq
    · rw [List.mem_singleton.mp hq]; exact ⟨z, t, rfl, hz, hv⟩
  | some u =>
    have ha : (kvs.any fun kv => decide (kv.1 = .inr z)) = true := by rw [valV_any, e]; rfl
    unfold putK
    rw [if_pos ha]
    refine ⟨fun q hq => ?_, ?_⟩
    · obtain ⟨q', h1, rfl⟩ := List.mem_map.mp hq
      by_cases hk : q'.1 = .inr z
      · rw [if_pos hk]; exact ⟨z, t, hk, hz, hv⟩
      · rw [if_neg hk]; exact h.all q' h1
    · have ee : (kvs.map fun kv => if kv.1 = .inr z then (kv.1, v) else kv).map (·.1) = kvs.map (·.1) := by
        rw [List.map_map]
        refine List.map_congr_left fun q _ => ?_
        show (if q.1 = .inr z then (q.1, v) else q).1 = q.1
        split <;> rfl
      rw [ee]; exact h.nd
theorem PD.get (h : PD R ws kvs) {z : Str} {v : V} (e : valV kvs (.inr z) = some v) : ∃ t, R v t := by
  obtain ⟨q, hq, e1⟩ := List.mem_map.mp (valV_in e)
  have := valV_at h.nd (k := q.1) (v := q.2) hq
  rw [e1, e] at this
  cases this
  obtain ⟨z, t, _, _, h3⟩ := h.all q hq
  exact ⟨t, h3⟩
theorem PD.box {H : Hp} {us : List V} (h : PD R ws kvs) (p : PairsAt H us kvs) : ∃ ps : List (Str × Th), BoxV R H us ps ∧ (ps.map (·.1)).Nodup ∧ ps.length = kvs.length := by
  have hc : ∀ q : Key × V, ∃ zt : Str × Th, q ∈ kvs → q.1 = .inr zt.1 ∧ R q.2 zt.2 := fun q => by
    by_cases hq : q ∈ kvs
    · obtain ⟨z, t, h1, _, h2⟩ := h.all q hq; exact ⟨(z, t), fun _ => ⟨h1, h2⟩⟩
    · exact ⟨("", .box []), fun z => absurd z hq⟩
  obtain ⟨f, hf⟩ := Classical.axiomOfChoice hc
  refine ⟨kvs.map f, ⟨by rw [List.length_map]; exact p.1, fun i h1 h2 => ?_⟩, ?_, by simp⟩
  · have hi : i < kvs.length := by simpa using h2
    obtain ⟨b, e1, e2⟩ := p.2 i hi
    obtain ⟨g1, g2⟩ := hf _ (List.getElem_mem hi)
    rw [List.getElem?_eq_getElem h1] at e1
    refine ⟨b, kvs[i].2, Option.some.inj e1, ?_, by simpa using g2⟩
    rw [g1] at e2
    simpa [kV] using e2
  · rw [List.map_map]
    refine List.pairwise_map.mpr ((List.pairwise_map.mp h.nd).imp_of_mem fun {a b} ha hb hab e => hab ?_)
    rw [(hf a ha).1, (hf b hb).1]
    exact congrArg Sum.inr e
end
theorem pairs_snocK {H : Hp} {xs : List V} {kvs : List (Key × V)} (h : PairsAt H xs kvs) {b : Addr} {k : Key} {v : V} (e : H b = some (.tup [kV k, v])) : PairsAt H (xs ++ [.ref b]) (kvs ++ [(k, v)]) := by
  obtain ⟨h1, h2⟩ := h
  refine ⟨by simp [h1], fun i hi => ?_⟩
  by_cases hlt : i < kvs.length
  · obtain ⟨c, g1, g2⟩ := h2 i hlt
    refine ⟨c, by rw [List.getElem?_append_left (by omega)]; exact g1, ?_⟩
    rw [List.getElem_append_left hlt]
    exact g2
  · have e' : i = kvs.length := by simp at hi; omega
    subst e'
    refine ⟨b, by rw [List.getElem?_append_right (by omega), h1]; simp, ?_⟩
    rw [List.getElem_append_right (Nat.le_refl _)]
    simpa using e
theorem dcT_by {J : It} {ok : Hp → Prop} {n : Nat} {item : Nat → V} {g : TG} {tc : TC} {tk tw : TE} {τ0 : St} {H0 : Hp} {D : Addr} {Q : Hp → Prop} (hJ : ItN J ok n item) (Pv : Nat → St → Hp → Prop) (h0 : Pv 0 τ0 H0)
    (hok : ∀ i τ H, i ≤ n → Pv i τ H → ok H)
    (hs : ∀ i τ H, i < n → Pv i τ H → g (item i) τ H fun τ2 H2 => tc τ2 H2 fun b H3 => if b = true then tk τ2 H3 fun x H4 => tw τ2 H4 fun y H5 => ∃ kvs key b', x = .ref b' ∧ RdT H5 b' (key.map kV) ∧ H5 D = some (.dT kvs) ∧ kvs.length < sizeLine ∧ Pv (i + 1) τ2 (upd H5 D (.dT (putK kvs key y))) else Pv (i + 1) τ2 H3)
    (hd : ∀ τ H, Pv n τ H → Q H) : ∃ W : Nat → Nat → St → Hp → Prop, (∃ m, W 0 m τ0 H0) ∧ ∀ i m τ H, W i m τ H →
      (J.stop i H ∧ Q H) ∨ (J.go i H ∧ ∃ N : St → Hp → Prop, (∀ τ' H', N τ' H' → ∃ m', m' < m ∧ W (i + 1) m' τ' H') ∧ ∀ x H', J.yld i H x H' → g x τ H' fun τ2 H2 => tc τ2 H2 fun b H3 =>
        if b = true then tk τ2 H3 fun x H4 => tw τ2 H4 fun y H5 => ∃ kvs key b, x = .ref b ∧ RdT H5 b (key.map kV) ∧ H5 D = some (.dT kvs) ∧ kvs.length < sizeLine ∧ N τ2 (upd H5 D (.dT (putK kvs key y))) else N τ2 H3) := by
  refine ⟨fun i m τ H => m = n - i ∧ i ≤ n ∧ Pv i τ H, ⟨n, by simp, Nat.zero_le _, h0⟩, ?_⟩
  rintro i m τ H ⟨rfl, hi, p⟩
  obtain ⟨k1, k2⟩ := hJ H (hok i τ H hi p)
  by_cases hlt : i < n
  · refine .inr ⟨(k1 i hlt).1, Pv (i + 1), fun σ' H' p' => ⟨n - (i + 1), by omega, rfl, hlt, p'⟩, fun x H' y => ?_⟩
    obtain ⟨e, e2⟩ := (k1 i hlt).2 x H' y
    subst e e2
    exact hs i τ _ hlt p
  · have e : i = n := by omega
    subst e
    exact .inl ⟨k2, hd τ H p⟩
def pE (wd : Str) (rs : List (Str × V)) : List (List Key × V) := rs.map fun r => ([.inr wd, .inr r.1], r.2)
theorem pE_nd {wd : Str} {rs : List (Str × V)} (nd : (rs.map (·.1)).Nodup) : ((pE wd rs).map (·.1)).Nodup := by
  unfold pE
  rw [List.map_map]
  exact List.pairwise_map.mpr ((List.pairwise_map.mp nd).imp fun h e => h (by simpa using e))
theorem pE_look {R : V → Th → Prop} {ps : List (Str × Th)} {rs : List (Str × V)} (nd : (ps.map (·.1)).Nodup) (nm : rs.map (·.1) = ps.map (·.1)) (rl : rs.length = ps.length) (h : ∀ i (h1 : i < rs.length) (h2 : i < ps.length), R rs[i].2 ps[i].2) (wd z : Str) :
    (z ∉ ps.map (·.1) ∧ valV (pE wd rs) [.inr wd, .inr z] = none) ∨ ∃ u t, valV (pE wd rs) [.inr wd, .inr z] = some u ∧ (z, t) ∈ ps ∧ R u t := by
  have ndk := pE_nd (wd := wd) (show (rs.map (·.1)).Nodup by rw [nm]; exact nd)
  by_cases hz : z ∈ ps.map (·.1)
  · obtain ⟨q, hq, rfl⟩ := List.mem_map.mp hz
    obtain ⟨i, hi, rfl⟩ := List.getElem_of_mem hq
    have hi' : i < rs.length := by omega
    have e : rs[i].1 = ps[i].1 := by
      have : (rs.map (·.1))[i]'(by simpa using hi') = (ps.map (·.1))[i]'(by simpa using hi) := by simp only [nm]
      simpa using this
    refine .inr ⟨rs[i].2, ps[i].2, valV_at ndk ?_, List.getElem_mem hi, h i hi' hi⟩
    rw [← e]
    exact List.mem_map.mpr ⟨rs[i], List.getElem_mem hi', rfl⟩
  · refine .inl ⟨hz, ?_⟩
    cases e : valV (pE wd rs) [.inr wd, .inr z] with
    | none => rfl
    | some u =>
      obtain ⟨q, hq, e'⟩ := List.mem_map.mp (valV_in e)
      obtain ⟨r, hr, rfl⟩ := List.mem_map.mp hq
      refine absurd ?_ hz
      rw [← nm]
      have e2 : r.1 = z := by simpa using e'
      rw [← e2]
      exact List.mem_map.mpr ⟨r, hr, rfl⟩
theorem onE_prs {rows : List Rw2} {e s : Str} {ps : List (Str × Str)} (he : endOf rows e = e) (h : hdOf rows e = .prs s ps) : onE rows e = ps.map fun p => ([.inr (if s = "box" then "part" else "case"), .inr p.1], .str (endOf rows p.2)) := by
  unfold onE onOf
  rw [he, h]
  simp [Hd.mvs, List.map_map, Function.comp_def]
theorem onP_get {rows : List Rw2} {ps : List (Str × Str)} (nd : (ps.map (·.1)).Nodup) (wd z : Str) :
    (∀ y, (z, y) ∈ ps → valV (ps.map fun p => (([.inr wd, .inr p.1] : List Key), V.str (endOf rows p.2))) [.inr wd, .inr z] = some (.str (endOf rows y))) ∧ ((∀ y, (z, y) ∉ ps) → valV (ps.map fun p => (([.inr wd, .inr p.1] : List Key), V.str (endOf rows p.2))) [.inr wd, .inr z] = none) := by
  have ndk : ((ps.map fun p => (([.inr wd, .inr p.1] : List Key), V.str (endOf rows p.2))).map (·.1)).Nodup := by
    rw [List.map_map]
    exact List.pairwise_map.mpr ((List.pairwise_map.mp nd).imp fun h e => h (by simpa using e))
  refine ⟨fun y hy => valV_at ndk (List.mem_map.mpr ⟨_, hy, rfl⟩), fun hn => ?_⟩
  cases e : valV (ps.map fun p => (([.inr wd, .inr p.1] : List Key), V.str (endOf rows p.2))) [.inr wd, .inr z] with
  | none => rfl
  | some u =>
    obtain ⟨q, hq, e'⟩ := List.mem_map.mp (valV_in e)
    obtain ⟨r, hr, rfl⟩ := List.mem_map.mp hq
    have e2 : r.1 = z := by simpa using e'
    exact absurd (show (z, r.2) ∈ ps by rw [← e2]; exact hr) (hn r.2)
theorem AskV.nil {R : V → Th → Prop} {H : Hp} : AskV R H [] [] := ⟨rfl, fun i h => absurd h (by simp)⟩
theorem AskV.imp {R R' : V → Th → Prop} {H H' : Hp} {us : List V} {ps : List (Str × Th)} (h : AskV R H us ps) (s : Tk H H') (f : ∀ v t, R v t → R' v t) : AskV R' H' us ps := ⟨h.len, fun i a b => let ⟨d, u, e1, e2, e3⟩ := h.at_ i a b; ⟨d, u, e1, s _ _ e2, f _ _ e3⟩⟩
theorem AskV.snoc {R : V → Th → Prop} {H : Hp} {us : List V} {ps : List (Str × Th)} (h : AskV R H us ps) {d : Addr} {u : V} {p : Str × Th} (e : H d = some (.tup [.str p.1, u])) (r : R u p.2) : AskV R H (us ++ [.ref d]) (ps ++ [p]) := by
  have hl := h.len
  refine ⟨by simp [hl], fun i h1 h2 => ?_⟩
  by_cases hlt : i < us.length
  · rw [List.getElem_append_left hlt, List.getElem_append_left (by omega)]
    exact h.at_ i hlt (by omega)
  · have e' : i = us.length := by simp at h1; omega
    subst e'
    rw [List.getElem_append_right (Nat.le_refl _), List.getElem_append_right (by omega)]
    simp only [Nat.sub_self, hl, List.getElem_cons_zero]
    exact ⟨d, u, rfl, e, r⟩
end L2
set_option maxRecDepth 100000
set_option maxHeartbeats 400000
--LEVEL 100
namespace T1
open PySem L2
def top (i : Nat) : Stmt := PySem.Challenge.pw_coilkind_k56_things_of_kinds.main.body.getD i (.Pass ⟨0, 0, 0, 0⟩)
abbrev s_heads_of : Stmt := top 2
abbrev s_rows_of : Stmt := top 3
abbrev s_names_in : Stmt := top 4
abbrev s_steps_in : Stmt := top 10
abbrev s_moves_in : Stmt := top 11
abbrev s_is_of : Stmt := top 13
abbrev s_asked_behind : Stmt := top 14
abbrev s_law_tpen : Stmt := top 16
abbrev s_law_tdraw : Stmt := top 17
abbrev s_law_tnames : Stmt := top 18
abbrev s_law_tpairs : Stmt := top 19
abbrev s_law_thead : Stmt := top 20
abbrev s_law_ttelling : Stmt := top 21
abbrev s_law_tthing : Stmt := top 22
abbrev s_law_tof : Stmt := top 23
abbrev s_law_tfit : Stmt := top 24
abbrev s_law : Stmt := top 25
abbrev s_Net_init : Stmt := inClass (top 9) 0
structure Txt (K : PySem.W.Frag) (mg : Str → Option Value) (w : World) : Prop where
  n_len : mg "len" = none
  n_isinstance : mg "isinstance" = none
  n_all : mg "all" = none
  n_range : mg "range" = none
  n_bool : mg "bool" = none
  n_int : mg "int" = none
  n_list : mg "list" = none
  n_tuple : mg "tuple" = none
  n_dict : mg "dict" = none
  n_sorted : mg "sorted" = none
  n_enumerate : mg "enumerate" = none
  n_zip : mg "zip" = none
  n_min : mg "min" = none
  c_WORDED : ∃ a, mg "WORDED" = some (.ref a) ∧ ∀ H, SqT K H a [.str "box", .str "pick"]
  c_FROM : ∃ u, mg "FROM" = some u ∧ RelV (.ref (adr mg "FROM")) u
  c_TO : ∃ u, mg "TO" = some u ∧ RelV (.ref (adr mg "TO")) u
  c_STEP_WORDS : ∃ a, mg "STEP_WORDS" = some (.ref a) ∧ KD w K a [(.inr "box", .str "part"), (.inr "pick", .str "case")]
  t_heads_of : FnT K mg "heads_of" s_heads_of ["T"]
  t_rows_of : FnT K mg "rows_of" s_rows_of ["T"]
  t_names_in : FnT K mg "names_in" s_names_in ["head"]
  t_steps_in : FnT K mg "steps_in" s_steps_in ["head"]
  t_moves_in : FnT K mg "moves_in" s_moves_in ["head", "rows"]
  t_is_of : FnT K mg "is_of" s_is_of ["T", "x", "thing"]
  t_asked_behind : FnT K mg "asked_behind" s_asked_behind ["net", "row", "thing"]
  t_law_tpen : FnT K mg "_law_tpen" s_law_tpen ["script"]
  t_law_tdraw : FnT K mg "_law_tdraw" s_law_tdraw ["pen", "many"]
  t_law_tnames : FnT K mg "_law_tnames" s_law_tnames ["pen", "many"]
  t_law_tpairs : FnT K mg "_law_tpairs" s_law_tpairs ["pen", "words", "names"]
  t_law_thead : FnT K mg "_law_thead" s_law_thead ["pen", "sort", "words", "names"]
  t_law_ttelling : FnT K mg "_law_ttelling" s_law_ttelling ["pen", "most", "words", "sorts"]
  t_law_tthing : FnT K mg "_law_tthing" s_law_tthing ["pen", "words", "left"]
  t_law_tof : FnT K mg "_law_tof" s_law_tof ["told", "x", "thing"]
  t_law_tfit : FnT K mg "_law_tfit" s_law_tfit ["pen", "told", "x", "words", "left"]
  t_law : FnT K mg "law" s_law ["script"]
  k_Net : ClT K mg "Net" "Net.__init__" s_Net_init ["self", "T"] ["rows", "heads", "marks", "moves"] (adr mg "Net")
theorem sc_Net_init : FnScope ["self", "T"] ["self", "T"] (defScope s_Net_init) := ⟨rfl, rfl, rfl, by decide +kernel, rfl, by decide +kernel, by decide +kernel⟩
theorem sc_heads_of : FnScope ["T"] ["T"] (defScope s_heads_of) := ⟨rfl, rfl, rfl, by decide +kernel, rfl, by decide +kernel, by decide +kernel⟩
theorem sc_rows_of : FnScope ["T", "heads", "rows", "name", "row"] ["T"] (defScope s_rows_of) := ⟨rfl, rfl, rfl, by decide +kernel, rfl, by decide +kernel, by decide +kernel⟩
theorem sc_names_in : FnScope ["head"] ["head"] (defScope s_names_in) := ⟨rfl, rfl, rfl, by decide +kernel, rfl, by decide +kernel, by decide +kernel⟩
theorem sc_steps_in : FnScope ["head"] ["head"] (defScope s_steps_in) := ⟨rfl, rfl, rfl, by decide +kernel, rfl, by decide +kernel, by decide +kernel⟩
theorem sc_moves_in : FnScope ["head", "rows"] ["head", "rows"] (defScope s_moves_in) := ⟨rfl, rfl, rfl, by decide +kernel, rfl, by decide +kernel, by decide +kernel⟩
theorem sc_is_of : FnScope ["T", "x", "thing", "net", "waiting", "row", "one", "behind"] ["T", "x", "thing"] (defScope s_is_of) := ⟨rfl, rfl, rfl, by decide +kernel, rfl, by decide +kernel, by decide +kernel⟩
theorem sc_asked_behind : FnScope ["net", "row", "thing", "sort", "parts", "moves", "fewer", "more"] ["net", "row", "thing"] (defScope s_asked_behind) := ⟨rfl, rfl, rfl, by decide +kernel, rfl, by decide +kernel, by decide +kernel⟩
theorem sc_law_tpen : FnScope ["script", "mixed", "cell"] ["script"] (defScope s_law_tpen) := ⟨rfl, rfl, rfl, by decide +kernel, rfl, by decide +kernel, by decide +kernel⟩
theorem sc_law_tdraw : FnScope ["pen", "many", "found", "one", "two"] ["pen", "many"] (defScope s_law_tdraw) := ⟨rfl, rfl, rfl, by decide +kernel, rfl, by decide +kernel, by decide +kernel⟩
theorem sc_law_tnames : FnScope ["pen", "many", "letters", "ahead", "first", "found", "k", "name"] ["pen", "many"] (defScope s_law_tnames) := ⟨rfl, rfl, rfl, by decide +kernel, rfl, by decide +kernel, by decide +kernel⟩
theorem sc_law_tpairs : FnScope ["pen", "words", "names", "some"] ["pen", "words", "names"] (defScope s_law_tpairs) := ⟨rfl, rfl, rfl, by decide +kernel, rfl, by decide +kernel, by decide +kernel⟩
theorem sc_law_thead : FnScope ["pen", "sort", "words", "names"] ["pen", "sort", "words", "names"] (defScope s_law_thead) := ⟨rfl, rfl, rfl, by decide +kernel, rfl, by decide +kernel, by decide +kernel⟩
theorem sc_law_ttelling : FnScope ["pen", "most", "words", "sorts", "names", "rows", "k", "name", "sort", "head", "turn"] ["pen", "most", "words", "sorts"] (defScope s_law_ttelling) := ⟨rfl, rfl, rfl, by decide +kernel, rfl, by decide +kernel, by decide +kernel⟩
theorem sc_law_tthing : FnScope ["pen", "words", "left", "some"] ["pen", "words", "left"] (defScope s_law_tthing) := ⟨rfl, rfl, rfl, by decide +kernel, rfl, by decide +kernel, by decide +kernel⟩
theorem sc_law_tof : FnScope ["told", "x", "thing", "head", "some", "there"] ["told", "x", "thing"] (defScope s_law_tof) := ⟨rfl, rfl, rfl, by decide +kernel, rfl, by decide +kernel, by decide +kernel⟩
theorem sc_law_tfit : FnScope ["pen", "told", "x", "words", "left", "head", "word", "name", "parts"] ["pen", "told", "x", "words", "left"] (defScope s_law_tfit) := ⟨rfl, rfl, rfl, by decide +kernel, rfl, by decide +kernel, by decide +kernel⟩
theorem sc_law : FnScope ["script", "pen", "words", "told", "asked", "name", "head", "thing", "found"] ["script"] (defScope s_law) := ⟨rfl, rfl, rfl, by decide +kernel, rfl, by decide +kernel, by decide +kernel⟩
def TxtT (K : PySem.W.Frag) (mg : Str → Option Value) (w : World) : Prop := ∃ ts : List (Addr × Obj × List V), (∀ t ∈ ts, KTup K t) ∧ (ts.map (·.1)).Nodup ∧ Txt (without K (ts.map (·.1))) mg w ∧ ∀ H : Hp, (∀ t ∈ ts, H t.1 = some (.frz t.2.1 (.tup t.2.2))) → Kn mg H "FROM" [.str "from"] ∧ Kn mg H "TO" [.str "to"]
section
variable {P : Program} {w : World} {K : PySem.W.Frag} {mg : Str → Option Value} {base : Heap}
theorem ok_law_tdraw (T : Txt K mg w) : FnK P w K mg base 1 "_law_tdraw" ["pen", "many"] spDraw := by
  refine T.t_law_tdraw.okS sc_law_tdraw (fun vs H Q E h => ?_) (fun f cdv A outer s H vs Q E hr h => ?_)
  · obtain ⟨p, w', m, t, rfl, _⟩ := h
    rfl
  · obtain ⟨p, w', m, t, rfl, hp, ⟨hm0, hm1⟩, ht, k⟩ := h
    have hu := hu_of hr
    have npw := hp.ne
    have htm : t < 1000000000000 := ht
    refine ⟨_, (sb_cons (s_if (w_and (y_cmpR op_gtD (z_callB (call_lenK K) (by rfl) T.n_len PySem.boot_len (sa_Subscript (z_dget hu (zv 0) z_str (fun _ _ => rfl)) sa_nil)) z_int (nomark _)) (w_and1 (y_cmpR op_ltD (z_ix (ix_K K) (z_dget hu (zv 0) z_str (fun _ _ => rfl)) z_int (fun _ _ => rfl)) (zv 1) (nomark _)))).pt (sb_one (s_expr (z_bm K PySem.F.plainAttrs_list PySem.F.slot_list_pop PySem.F.type_list_pop mt_popAt (z_dget hu (zv 0) z_str (fun _ _ => rfl)) (sa_Constant z_int sa_nil)))) sb_nil)
      (sb_cons (s_if (y_cmpR op_gtD (z_callB (call_lenK K) (by rfl) T.n_len PySem.boot_len (sa_Subscript (z_dget hu (zv 0) z_str (fun _ _ => rfl)) sa_nil)) z_int (nomark _)) (sb_cons (s_set (i := 2) sc_law_tdraw.nd rfl (Or.inl rfl) (z_op op_modD (z_ix (ix_K K) (z_dget hu (zv 0) z_str (fun _ _ => rfl)) z_int (fun _ _ => rfl)) (zv 1)))
      (sb_cons (s_asg (z_op op_divD (z_ix (ix_K K) (z_dget hu (zv 0) z_str (fun _ _ => rfl)) z_int (fun _ _ => rfl)) (zv 1)) (g_sub (z_dget hu (zv 0) z_str (fun _ _ => rfl)) z_int set_list))
      (sb_one (s_ret (zv 2))))) sb_nil)
      (sb_cons (s_dput hu (zv 0) z_str (z_op op_addD (z_dget hu (zv 0) z_str (fun _ _ => rfl)) z_int) rfl)
      (sb_cons (s_set (i := 3) sc_law_tdraw.nd rfl (Or.inl rfl) (z_op op_modD (z_op op_addD (z_dget hu (zv 0) z_str (fun _ _ => rfl)) (z_op op_mulD (z_op op_mulD z_int (z_dget hu (zv 0) z_str (fun _ _ => rfl))) (z_dget hu (zv 0) z_str (fun _ _ => rfl)))) z_int))
      (sb_cons (s_set (i := 4) sc_law_tdraw.nd rfl (Or.inl rfl) (z_op op_modD (z_op op_addD (z_op op_addD (z_op op_mulD (zv 3) (zv 3)) (z_op op_mulD z_int (z_dget hu (zv 0) z_str (fun _ _ => rfl)))) z_int) z_int))
      (sb_one (s_ret (z_op op_modD (z_op op_divD (z_op op_modD (z_op op_addD (z_op op_mulD (zv 4) (zv 4)) (zv 3)) z_int) z_int) (zv 1))))))))), ?_⟩
    obtain ⟨mx, c, ws, h1, h2, ⟨hx0, hx1⟩, hc0, hc1⟩ := hp.ex
    have gW : ∀ {H1 : Hp} {c1 : Int}, H1 p = some (.dK (penD w' mx c1)) → DGet H1 p (.str "wide") (some (.ref w')) := fun h => DGet.k (k := Sum.inr "wide") h
    have gT : ∀ {H1 : Hp} {c1 : Int}, H1 p = some (.dK (penD w' mx c1)) → DGet H1 p (.str "turn") (some (.int c1)) := fun h => DGet.k (k := Sum.inr "turn") h
    have gM : ∀ {H1 : Hp} {c1 : Int}, H1 p = some (.dK (penD w' mx c1)) → DGet H1 p (.str "mixed") (some (.int mx)) := fun h => DGet.k (k := Sum.inr "mixed") h
    refine tSeq_by (fun σ' H1 => σ' = [some (.ref p), some (.int m), none, none, none] ∧ ∃ ws1 : List Int, H1 p = some (.dK (penD w' mx c)) ∧ H1 w' = some (.lst (ws1.map V.int)) ∧ Sm p w' H H1) ?_ ?_
    · intro nx hnx
      refine ⟨p, .ref w', rfl, gW h1, .inl ⟨_, .inl (SqL.of h2), _, rfl, ?_⟩⟩
      refine ite2 (fun hl => ?_) (fun hl => ?_)
      · cases ws with
        | nil => simp at hl
        | cons x0 ws =>
          refine ⟨p, .ref w', rfl, gW h1, _, .int x0, .inl (SqL.of h2), atI_zero _ _, _, rfl, ?_⟩
          refine ite2 (fun hl2 => ?_) (fun hl2 => ?_)
          · refine ⟨p, .ref w', rfl, gW h1, ?_, w', _, 0, 0, .int x0, rfl, rfl, h2, by decide, by decide, (by rw [List.length_map]; exact (ixN_seq (ixN_zero _)).1), rfl, ?_⟩
            · exact .inl ⟨rfl, _, SqL.of h2⟩
            · exact hnx _ _ ⟨rfl, ws, by rw [upd_ne npw]; exact h1, upd_same, fun b o hb h3 h4 => by rw [upd_ne h4]; exact hb⟩
          · exact hnx _ _ ⟨rfl, x0 :: ws, h1, h2, Sm.refl⟩
      · exact hnx _ _ ⟨rfl, ws, h1, h2, Sm.refl⟩
    · rintro σ' H1 ⟨rfl, ws1, g1, g2, sm⟩
      refine tSeq_by (fun σ' H2 => σ' = [some (.ref p), some (.int m), none, none, none] ∧ H2 = H1) ?_ ?_
      · intro nx hnx
        refine ⟨p, .ref w', rfl, gW g1, .inl ⟨_, .inl (SqL.of g2), _, rfl, ?_⟩⟩
        refine ite2 (fun hl => ?_) (fun hl => ?_)
        · cases ws1 with
          | nil => simp at hl
          | cons x0 ws1 =>
            refine ⟨p, .ref w', rfl, gW g1, _, .int x0, .inl (SqL.of g2), atI_zero _ _, hm0, ?_⟩
            refine ⟨p, .ref w', rfl, gW g1, _, .int x0, .inl (SqL.of g2), atI_zero _ _, ⟨hm0, hm1⟩, ?_⟩
            refine ⟨p, .ref w', rfl, gW g1, w', _, 0, 0, rfl, rfl, g2, ixN_zero _, ?_⟩
            refine k _ _ (Int.emod_nonneg _ (by omega)) (Int.emod_lt_of_pos _ hm0) ⟨mx, c, x0 / m :: ws1, ?_, upd_same, ⟨hx0, hx1⟩, hc0, by omega⟩ (sm.trans fun b o hb h3 h4 => by rw [upd_ne h4]; exact hb)
            rw [upd_ne npw]; exact g1
        · exact hnx _ _ ⟨rfl, rfl⟩
      · rintro σ' H2 ⟨rfl, rfl⟩
        have g3 : upd H2 p (.dK (penD w' mx (c + 1))) p = some (.dK (penD w' mx (c + 1))) := upd_same
        have b1 : (0 : Int) ≤ c + 1 ∧ c + 1 ≤ 1000000000000 := by omega
        refine ⟨p, .int c, rfl, gT g1, p, _, rfl, DPut.k (k := Sum.inr "turn") g1 (show 3 < sizeLine by decide), ?_⟩
        show tSeq _ _ _ _ (upd H2 p (.dK (penD w' mx (c + 1))))
        refine ⟨p, _, rfl, gM g3, p, _, rfl, gT g3, .inl ⟨by omega, by omega⟩, p, _, rfl, gT g3, .inl ⟨?_, ?_⟩, by decide, ?_⟩
        · show -(2 ^ 64) < 7919 * (c + 1); omega
        · show 7919 * (c + 1) < 2 ^ 64; omega
        generalize ho : (mx + 7919 * (c + 1) * (c + 1)) % 2147483629 = one
        have ho0 : 0 ≤ one := by rw [← ho]; exact Int.emod_nonneg _ (by decide)
        have ho1 : one < 2147483629 := by rw [← ho]; exact Int.emod_lt_of_pos _ (by decide)
        refine ⟨.inl ⟨by omega, by omega⟩, p, _, rfl, gT g3, .inl ⟨by decide, by decide⟩, by decide, ?_⟩
        generalize ht' : (one * one + 40692 * (c + 1) + 3) % 998244353 = two
        have ht0 : 0 ≤ two := by rw [← ht']; exact Int.emod_nonneg _ (by decide)
        have ht1 : two < 998244353 := by rw [← ht']; exact Int.emod_lt_of_pos _ (by decide)
        refine ⟨.inl ⟨by omega, by omega⟩, by decide, ⟨by decide, by decide⟩, hm0, ?_⟩
        refine k _ _ (Int.emod_nonneg _ (by omega)) (Int.emod_lt_of_pos _ hm0) ⟨mx, c + 1, ws1, g3, ?_, ⟨hx0, hx1⟩, by omega, by omega⟩ (sm.trans fun b o hb h3 h4 => by rw [upd_ne h3]; exact hb)
        rw [upd_ne npw.symm]; exact g2
theorem ok_law_tpen (T : Txt K mg w) : FnK P w K mg base 1 "_law_tpen" ["script"] (spPen K) := by
  refine T.t_law_tpen.okS sc_law_tpen (fun vs H Q E h => ?_) (fun f cdv A outer s H vs Q E hr h => ?_)
  · obtain ⟨a, ns, rfl, _⟩ := h
    rfl
  · obtain ⟨a, ns, rfl, hS, hl, k⟩ := h
    refine ⟨_, (sb_cons (s_set (i := 1) sc_law_tpen.nd rfl (Or.inl rfl) z_int)
      (sb_cons (s_for PassesOwn.never rfl (i_K K (zv 0)) (g_name (i := 2) sc_law_tpen.nd rfl (Or.inl rfl)) (sb_one (s_set (i := 1) sc_law_tpen.nd rfl (Or.inl rfl) (z_op op_modD (z_op op_addD (z_op op_addD (z_op op_mulD (zv 1) z_int) (z_op op_modD (zv 2) z_int)) z_int) z_int))))
      (sb_one (s_ret (z_disp (zz_cons z_str (zv 1) (zz_cons z_str z_int (zz_cons z_str (z_lc (own := ["cell"]) (idx := []) (N' := ["cell"]) (⟨rfl, by decide +kernel, by decide +kernel, (show ∀ y ∈ Scope.names _, y.2 = NameKind.free → ((defScope s_law_tpen).names.lookup y.1 = some NameKind.cell ∨ (defScope s_law_tpen).names.lookup y.1 = some NameKind.free) by decide +kernel), (show ∀ j ∈ ([] : List Nat), (Scope.names _).lookup ((["script", "mixed", "cell"] : List Str).getD j "") = some NameKind.free ∧ j < (["script", "mixed", "cell"] : List Str).length by decide +kernel), rfl⟩) rfl (i_K K (zv 0)) (fun _ _ _ _ _ _ => (g_name (i := 0) (show List.Nodup (["cell"] : List Str) by decide +kernel) rfl (Or.inl rfl))) (fun _ _ _ _ _ _ => (c_one (y_cmpR op_geD (zv 0) (z_op op_powD z_int z_int) (nomark _)))) (fun _ _ _ _ _ _ => (zv 0))) zz_nil))) rfl rfl (by simp) (by decide)))))), ?_⟩
    refine .inl ⟨⟨_, hS⟩, for_by (itn_list (ns.map V.int)) (fun i σ H' => H' = H ∧ ∃ (m : Int) (v : Option V), σ = [some (.ref a), some (.int m), v] ∧ 0 ≤ m ∧ m < 2147483629) ⟨rfl, 7, none, rfl, by decide, by decide⟩ (fun i τ H' _ h => by rw [h.1]; exact hS) ?_ ?_⟩
    · rintro i σ H' hi ⟨rfl, m, v, rfl, hm0, hm1⟩
      rw [List.length_map] at hi
      rw [mapInt_getD ns i hi]
      exact ⟨.inl ⟨by omega, by omega⟩, by decide, by decide, rfl, _, _, rfl, Int.emod_nonneg _ (by decide), Int.emod_lt_of_pos _ (by decide)⟩
    · rintro σ H' ⟨rfl, m, v, rfl, hm0, hm1⟩
      intro p hp
      have hS2 : ∀ o, SqL K (upd H' p o) a (ns.map V.int) := fun o => (Same.upd hp o).seq hS
      refine .inl ⟨⟨_, hS2 _⟩, fun D hD => ?_⟩
      have npD : D ≠ p := fun e => by rw [e, upd_same] at hD; cases hD
      have hD0 : H' D = none := by rw [upd_ne npD] at hD; exact hD
      have sD : ∀ o, Same (upd H' p (.dK [])) (upd (upd H' p (.dK [])) D o) := fun o => Same.upd hD o
      refine lc_pure (itn_list (ns.map V.int)) (fun i => decide ((10 : Int) ^ 15 ≤ ns.getD i 0)) (fun i => .int (ns.getD i 0)) (by rw [List.length_map]; exact small1000 (by omega)) (fun ys => (sD _).seq (hS2 _)) (fun i hi ys k' hk => ?_) (fun i hi _ ys k' hk => ?_) ?_
      · rw [List.length_map] at hi
        rw [mapInt_getD ns i hi]
        exact ⟨⟨by decide, by decide, by decide⟩, _, rfl, hk⟩
      · rw [List.length_map] at hi
        rw [mapInt_getD ns i hi]
        exact hk
      · refine ⟨by rw [upd_ne npD.symm, upd_same], penD D m 0, rfl, (show 3 ≤ 15 by decide), ?_⟩
        refine k p D _ hp hD0 ⟨m, 0, ((List.range (ns.map V.int).length).filter fun i => decide ((10 : Int) ^ 15 ≤ ns.getD i 0)).map (fun i => ns.getD i 0), upd_same, ?_, ⟨hm0, hm1⟩, by decide, by decide⟩ ?_
        · rw [upd_ne npD, upd_same, List.map_map]; rfl
        · intro b o hb
          rw [upd_ne (ne_of_none hb hp), upd_ne (ne_of_none hb hD0), upd_ne (ne_of_none hb hp)]
          exact hb
def Abc (z : Str) : Prop := ∀ c ∈ z.cps.toList, 97 ≤ c ∧ c < 123
theorem abc_lt : ∀ c ∈ ABC.cps.toList, 97 ≤ c ∧ c < 123 := by decide
theorem abcI (n : Nat) : atI ABC.cps.toList ((n : Int) % 26) = some (97 + n % 26) := by
  have h := abc_at (97 + n % 26) (by omega)
  rw [show 97 + n % 26 - 97 = n % 26 by omega] at h
  have := atI_nat h
  rw [show ((n : Int) % 26) = ((n % 26 : Nat) : Int) by omega]
  exact this
theorem inAbc_t {c : Nat} (h : 97 ≤ c ∧ c < 123) : inAbc c = true := by
  unfold inAbc
  rw [abc_find c h]; rfl
structure NmOf (ah : Str) (c : Nat) (z : Str) : Prop where
  nm : isName z = true
  pl : z.cps.toList[ah.cps.toList.length]? = some c
  wd : Wd z
theorem str_app_toList (a b : Str) : (a ++ b).cps.toList = a.cps.toList ++ b.cps.toList := by
  show (a.cps ++ b.cps).toList = _
  simp
theorem nm_plain {ah : Str} {c : Nat} (h1 : ah.length ≤ 7) (h2 : Abc ah) (hc : 97 ≤ c ∧ c < 123) (hn : (NON.any fun y => y == (ah ++ ⟨#[c]⟩ : Str)) = false) : NmOf ah c (ah ++ ⟨#[c]⟩) := by
  have hl : (ah ++ ⟨#[c]⟩ : Str).cps.toList = ah.cps.toList ++ [c] := str_app_toList _ _
  have el : (ah ++ ⟨#[c]⟩ : Str).length = ah.length + 1 := by rw [Str.length_append]; rfl
  refine ⟨?_, by rw [hl]; simp, by omega, fun d hd => ?_⟩
  rotate_left
  · rw [hl] at hd
    rcases List.mem_append.mp hd with hd | hd
    · have := h2 d hd; omega
    · rw [List.mem_singleton.mp hd]; omega
  unfold isName
  simp only [Bool.and_eq_true, decide_eq_true_eq]
  refine ⟨⟨⟨by omega, by omega⟩, by rw [hn]; rfl⟩, ?_⟩
  rw [hl, List.all_append, Bool.and_eq_true]
  refine ⟨List.all_eq_true.mpr fun d hd => inAbc_t (h2 d hd), ?_⟩
  rw [List.all_cons, inAbc_t hc]; rfl
theorem nm_q {ah : Str} {c : Nat} (hn : (NON.any fun y => y == (ah ++ ⟨#[c]⟩ : Str)) = true) : NmOf ah c (ah ++ ⟨#[c]⟩ ++ ("q" : Str)) := by
  have hl : (ah ++ ⟨#[c]⟩ : Str).cps.toList = ah.cps.toList ++ [c] := str_app_toList _ _
  have at0 : (ah ++ ⟨#[c]⟩ ++ ("q" : Str)).cps.toList[ah.cps.toList.length]? = some c := by
    rw [str_app_toList, hl, List.append_assoc]; simp
  rw [List.any_eq_true] at hn
  obtain ⟨y, hy, e⟩ := hn
  rw [← (eq_of_beq e : y = _)] at at0 ⊢
  simp only [NON, List.mem_cons, List.mem_nil_iff, or_false] at hy
  rcases hy with rfl | rfl | rfl | rfl | rfl <;> exact ⟨by decide +kernel, at0, wd_ascii (by decide) (by decide)⟩
theorem inV_non (z : Str) : inV (V.str z) [V.str "all", V.str "none", V.str "way", V.str "box", V.str "pick"] = NON.any fun y => y == z := by
  unfold inV
  rfl
def spNames : Sp := fun vs H Q _ => ∃ (p w : Addr) (m : Int) (t : Nat), vs = [.ref p, .int m] ∧ PenAt H p w t ∧ (1 ≤ m ∧ m ≤ 26) ∧ t + 20 < TMAX ∧
  ∀ (L : Addr) (ns : List Str) (H' : Hp), H L = none → H' L = some (.lst (ns.map V.str)) → (ns.length : Int) = m → ns.Nodup → (∀ n ∈ ns, isName n = true ∧ Wd n) → PenAt H' p w (t + 20) → Sm p w H H' → Q (.ref L) H'
theorem ok_law_tnames (T : Txt K mg w) : FnK P w K mg base 2 "_law_tnames" ["pen", "many"] spNames := by
  have F_law_tdraw : FnK P w K mg base 1 "_law_tdraw" ["pen", "many"] spDraw := ok_law_tdraw T
  refine T.t_law_tnames.okS sc_law_tnames (fun vs H Q E h => ?_) (fun f cdv A outer s H vs Q E hr h => ?_)
  · obtain ⟨p, w', m, t, rfl, _⟩ := h
    rfl
  · obtain ⟨p, w', m, t, rfl, hp, ⟨hm1, hm2⟩, ht, k⟩ := h
    have ht' : t + 20 < 1000000000000 := ht
    have hsz : sizeLine = 16777216 := sizeLine_eq
    refine ⟨_, (sb_cons (s_set (i := 2) sc_law_tnames.nd rfl (Or.inr rfl) z_str)
      (sb_cons (s_set (i := 3) sc_law_tnames.nd rfl (Or.inl rfl) (z_bm K PySem.F.plainAttrs_str PySem.F.slot_str_join PySem.F.type_str_join (mt_joinK K) z_str (sa_ListComp (z_lc (own := ["k"]) (idx := [0, 2]) (N' := ["k", "pen", "letters"]) (⟨rfl, by decide +kernel, by decide +kernel, (show ∀ y ∈ Scope.names _, y.2 = NameKind.free → ((defScope s_law_tnames).names.lookup y.1 = some NameKind.cell ∨ (defScope s_law_tnames).names.lookup y.1 = some NameKind.free) by decide +kernel), (show ∀ j ∈ ([0, 2] : List Nat), (Scope.names _).lookup ((["pen", "many", "letters", "ahead", "first", "found", "k", "name"] : List Str).getD j "") = some NameKind.free ∧ j < (["pen", "many", "letters", "ahead", "first", "found", "k", "name"] : List Str).length by decide +kernel), rfl⟩) rfl (i_range1 (by rfl) T.n_range (sa_Subscript (z_ix (ix_K K) (z_lst (sa_Constant z_int (sa_Constant z_int (sa_Constant z_int (sa_Constant z_int (sa_Constant z_int (sa_Constant z_int sa_nil))))))) (z_fn F_law_tdraw (hr.mono (by decide)) (sa_Name (zv 0) (sa_Constant z_int sa_nil))) (fun _ _ => rfl)) sa_nil)) (fun _ _ _ _ _ _ => (g_name (i := 0) (show List.Nodup (["k", "pen", "letters"] : List Str) by decide +kernel) rfl (Or.inl rfl))) (fun _ _ _ _ _ _ => c_nil) (fun _ _ _ _ _ _ => (z_ix (ix_K K) (zv 2) (z_fn F_law_tdraw (hr.mono (by decide)) (sa_Name (zv 1) (sa_Constant z_int sa_nil))) (fun _ _ => rfl)))) sa_nil)))
      (sb_cons (s_set (i := 4) sc_law_tnames.nd rfl (Or.inl rfl) (z_fn F_law_tdraw (hr.mono (by decide)) (sa_Name (zv 0) (sa_Constant z_int sa_nil))))
      (sb_cons (s_set (i := 5) sc_law_tnames.nd rfl (Or.inl rfl) (z_lst sa_nil))
      (sb_cons (s_for PassesOwn.never rfl (i_range1 (by rfl) T.n_range (sa_Name (zv 1) sa_nil)) (g_name (i := 6) sc_law_tnames.nd rfl (Or.inl rfl)) (sb_cons (s_set (i := 7) sc_law_tnames.nd rfl (Or.inl rfl) (z_op op_addD (zv 3) (z_ix (ix_K K) (zv 2) (z_op op_modD (z_op op_addD (zv 4) (z_op op_mulD z_int (zv 6))) z_int) (fun _ _ => rfl))))
      (sb_cons (s_if (y_cmpR (op_inK K) (zv 7) (z_tup (sa_Constant z_str (sa_Constant z_str (sa_Constant z_str (sa_Constant z_str (sa_Constant z_str sa_nil)))))) rfl) (sb_one (s_set (i := 7) sc_law_tnames.nd rfl (Or.inl rfl) (z_op op_addD (zv 7) z_str))) sb_nil)
      (sb_one (s_expr (z_bm K PySem.F.plainAttrs_list PySem.F.slot_list_append PySem.F.type_list_append mt_append (zv 5) (sa_Name (zv 7) sa_nil)))))))
      (sb_one (s_ret (zv 5)))))))), ?_⟩
    refine tSeq_setC ?_
    refine tSeq_set ⟨rfl, (show 6 ≤ sizeLine by decide), fun L0 hL0 => ⟨p, w', 6, t, rfl, hp.same (Same.upd hL0 _), ⟨by decide, by decide⟩, by show t < 1000000000000; omega, fun r H1 r0 r1 hp1 sm1 => ?_⟩⟩
    have nL0 := hp.ne1 hL0
    have nL0' := hp.ne2 hL0
    have hl0 := sm1 _ _ upd_same nL0 nL0'
    obtain ⟨c, hc1, hc2⟩ := atI_some ([.int 0, .int 0, .int 1, .int 2, .int 3, .int 7] : List V) r r0 (by show r < 6; omega)
    have hcj : ∃ j : Int, c = .int j ∧ 0 ≤ j ∧ j ≤ 7 := by
      have hm := List.mem_of_getElem? hc1
      simp only [List.mem_cons, List.mem_nil_iff, or_false] at hm
      rcases hm with rfl | rfl | rfl | rfl | rfl | rfl <;> exact ⟨_, rfl, by decide, by decide⟩
    obtain ⟨j, rfl, j0, j7⟩ := hcj
    have smA : Sm p w' H H1 := (Same.upd hL0 _).sm.trans sm1
    refine ⟨_, _, .inl (SqL.of hl0), hc2, j, rfl, by omega, by omega, fun D hD => ?_⟩
    have nDp : D ≠ p := hp1.ne1 hD
    have nDw : D ≠ w' := hp1.ne2 hD
    have hD0 : H D = none := smA.free hD nDp nDw
    refine lc_by (itn_range 0 j.toNat) (fun i τ H2 => ∃ (v : Option V) (ys : List Str), τ = [v, some (.ref p), some (.str ABC)] ∧ H2 D = some (.lst (ys.map V.str)) ∧ ys.length = i ∧ (∀ y ∈ ys, y.length = 1 ∧ Abc y) ∧ PenAt H2 p w' (t + 1 + i) ∧ Sm p w' H H2)
      ⟨none, [], rfl, upd_same, rfl, (fun _ h => nomatch h), hp1.same (Same.upd hD _), smA.upd hD0⟩ (fun _ _ _ _ _ => True.intro) ?_ ?_
    · rintro i τ H2 hi ⟨v, ys, rfl, h1, h2, h3, h4, h5⟩
      refine ⟨p, w', 26, t + 1 + i, rfl, h4, ⟨by decide, by decide⟩, by show t + 1 + i < 1000000000000; omega, fun r2 H3 a0 a1 hp3 sm3 => ?_⟩
      obtain ⟨c, hc1, hc⟩ := atI_some ABC.cps.toList r2 a0 (by have : ABC.cps.toList.length = 26 := rfl; omega)
      refine ⟨by decide, c, hc, ys.map V.str, sm3 _ _ h1 nDp nDw, by rw [List.length_map]; exact small1000 (by omega), ?_⟩
      refine ⟨_, ys ++ [⟨#[c]⟩], rfl, ?_, by simp [h2], fun y hy => ?_, hp3.upd nDp nDw, (h5.trans sm3).upd hD0⟩
      · rw [upd_same, List.map_append]; rfl
      · rcases List.mem_append.mp hy with hy | hy
        · exact h3 y hy
        · rw [List.mem_singleton.mp hy]
          refine ⟨rfl, fun d hd => ?_⟩
          have hd' : d = c := by simpa using hd
          rw [hd']
          exact abc_lt c (List.mem_of_getElem? hc1)
    · rintro τ H2 ⟨v, ys, rfl, h1, h2, h3, h4, h5⟩
      refine ⟨ys, SqL.of h1, ?_, ?_⟩
      · rw [PyProof.Rows.sumLen_of_ones ys (fun y hy => (h3 y hy).1), h2]
        show j.toNat + j.toNat * 0 ≤ 16777216
        omega
      have ahl : (Txt.join (Str.ofString "") ys).length ≤ 7 := by rw [join0_length ys _ rfl (fun y hy => (h3 y hy).1)]; omega
      have aha : Abc (Txt.join (Str.ofString "") ys) := fun c hc => by
        rcases mem_join hc with hc | ⟨y, hy, hc⟩
        · exact nomatch hc
        · exact (h3 y hy).2 c hc
      generalize Txt.join (Str.ofString "") ys = ah at ahl aha
      refine tSeq_set ⟨p, w', 26, _, rfl, h4, ⟨by decide, by decide⟩, by show t + 1 + j.toNat < 1000000000000; omega, fun f0 H3 f00 f01 hp3 sm3 => ?_⟩
      refine tSeq_set ⟨(show 0 ≤ sizeLine by decide), fun L hL => ?_⟩
      have nLp : L ≠ p := hp3.ne1 hL
      have nLw : L ≠ w' := hp3.ne2 hL
      have sm4 : Sm p w' H H3 := h5.trans sm3
      have hL0' : H L = none := sm4.free hL nLp nLw
      refine tSeq_by (fun σ' H' => ∃ (v6 v7 : Option V) (ns : List Str), σ' = [some (.ref p), some (.int m), some (.str ABC), some (.str ah), some (.int f0), some (.ref L), v6, v7] ∧ H' L = some (.lst (ns.map V.str)) ∧ ns.length = m.toNat ∧ (∀ i (h : i < ns.length), NmOf ah (97 + (f0.toNat + 7 * i) % 26) ns[i]) ∧ PenAt H' p w' (t + 1 + j.toNat + 1) ∧ Sm p w' H H') ?_ ?_
      · intro nx hnx
        refine ⟨m, rfl, by omega, by omega, for_by (itn_range 0 m.toNat) (fun i σ' H' => ∃ (v6 v7 : Option V) (ns : List Str), σ' = [some (.ref p), some (.int m), some (.str ABC), some (.str ah), some (.int f0), some (.ref L), v6, v7] ∧ H' L = some (.lst (ns.map V.str)) ∧ ns.length = i ∧ (∀ i (h : i < ns.length), NmOf ah (97 + (f0.toNat + 7 * i) % 26) ns[i]) ∧ PenAt H' p w' (t + 1 + j.toNat + 1) ∧ Sm p w' H H')
          ⟨none, none, [], rfl, upd_same, rfl, (fun i h => absurd h (by simp)), hp3.same (Same.upd hL _), sm4.upd hL0'⟩ (fun _ _ _ _ _ => True.intro) ?_ ?_⟩
        · rintro i σ' H' hi ⟨v6, v7, ns, rfl, q1, q2, q3, q4, q5⟩
          have hi26 : i < 26 := by omega
          have ea : atI ABC.cps.toList ((f0 + 7 * (0 + (i : Int))) % 26) = some (97 + (f0.toNat + 7 * i) % 26) := by
            have := abcI (f0.toNat + 7 * i)
            rw [show ((f0.toNat + 7 * i : Nat) : Int) = f0 + 7 * (0 + (i : Int)) by omega] at this
            exact this
          refine tSeq_set ⟨.inl ⟨by decide, by decide⟩, (by decide), (by decide), _, ea, (show ah.length + 1 ≤ sizeLine by omega), ?_⟩
          refine tSeq_by (fun σ2 H2 => ∃ z, σ2 = [some (.ref p), some (.int m), some (.str ABC), some (.str ah), some (.int f0), some (.ref L), some (.int (0 + (i : Int))), some (.str z)] ∧ NmOf ah (97 + (f0.toNat + 7 * i) % 26) z ∧ Same H' H2) ?_ ?_
          · intro nx' hnx'
            refine ⟨(show 5 ≤ sizeLine by decide), fun tt htt => ⟨_, .inr (SqT.of upd_same), rfl, rfl, _, rfl, ite2 (fun hh => ?_) (fun hh => ?_)⟩⟩
            · refine ⟨(show (ah ++ ⟨#[97 + (f0.toNat + 7 * i) % 26]⟩ : Str).length + 1 ≤ sizeLine by rw [Str.length_append]; show ah.length + 1 + 1 ≤ _; omega), ?_⟩
              refine hnx' _ _ ⟨_, rfl, nm_q ?_, Same.upd htt _⟩
              rw [Bool.false_xor, inV_non] at hh
              exact hh
            · refine hnx' _ _ ⟨_, rfl, nm_plain ahl aha (by omega) ?_, Same.upd htt _⟩
              rw [Bool.false_xor, inV_non] at hh
              exact Bool.eq_false_iff.mpr hh
          · rintro σ2 H2 ⟨z, rfl, hz, s2⟩
            refine ⟨.inl ⟨rfl, _, SqL.of (s2 _ _ q1)⟩, L, _, .str z, rfl, rfl, s2 _ _ q1, by rw [List.length_map]; exact small1000 (by omega), ?_⟩
            refine ⟨_, _, ns ++ [z], rfl, by rw [upd_same, List.map_append]; rfl, by simp [q2], fun i' h' => ?_, (q4.same s2).upd nLp nLw, (q5.trans s2.sm).upd hL0'⟩
            by_cases hlt : i' < ns.length
            · rw [List.getElem_append_left hlt]; exact q3 i' hlt
            · have e : i' = ns.length := by simp at h'; omega
              subst e
              rw [List.getElem_append_right (Nat.le_refl _)]
              simp only [Nat.sub_self, List.getElem_cons_zero]
              rw [q2]; exact hz
        · rintro σ' H' ⟨v6, v7, ns, rfl, q⟩
          exact hnx _ _ ⟨v6, v7, ns, rfl, q⟩
      · rintro σ' H' ⟨v6, v7, ns, rfl, q1, q2, q3, q4, q5⟩
        refine k L ns H' hL0' q1 (by omega) ?_ ?_ (q4.mono (by omega)) q5
        · refine List.pairwise_iff_getElem.mpr fun a b ha hb hab z => ?_
          have h1 := (q3 a ha).pl
          have h2 := (q3 b hb).pl
          rw [z, h2] at h1
          have h3 := Option.some.inj h1
          omega
        · intro n hn
          obtain ⟨i, hi, rfl⟩ := List.getElem_of_mem hn
          exact ⟨(q3 i hi).nm, (q3 i hi).wd⟩
structure TxtsAt (H : Hp) (l : Addr) (ss : List Str) : Prop where
  e : H l = some (.lst (ss.map V.str))
  ne : ss ≠ []
  few : ss.length ≤ 60
  wd : ∀ z ∈ ss, Wd z
theorem TxtsAt.sm {H H' : Hp} {p w l : Addr} {t : Nat} {ss : List Str} (h : TxtsAt H l ss) (hp : PenAt H p w t) (s : Sm p w H H') : TxtsAt H' l ss := ⟨s _ _ h.e (hp.neL h.e h.ne).1 (hp.neL h.e h.ne).2, h.ne, h.few, h.wd⟩
theorem TxtsAt.same {H H' : Hp} {l : Addr} {ss : List Str} (h : TxtsAt H l ss) (s : Same H H') : TxtsAt H' l ss := ⟨s _ _ h.e, h.ne, h.few, h.wd⟩
theorem TxtsAt.at {H : Hp} {l : Addr} {ss : List Str} (h : TxtsAt H l ss) (r : Int) (h0 : 0 ≤ r) (h1 : r < ss.length) : ∃ z, atI (ss.map V.str) r = some (.str z) ∧ ss[r.toNat]? = some z ∧ Wd z := by
  obtain ⟨c, hc1, hc2⟩ := atI_some (ss.map V.str) r h0 (by rw [List.length_map]; exact h1)
  rw [List.getElem?_map] at hc1
  cases e : ss[r.toNat]? with
  | none => rw [e] at hc1; cases hc1
  | some z =>
    rw [e] at hc1
    cases hc1
    exact ⟨z, hc2, rfl, h.wd z (List.mem_of_getElem? e)⟩
theorem TxtsAt.pos {H : Hp} {l : Addr} {ss : List Str} (h : TxtsAt H l ss) : 0 < ss.length := List.length_pos_iff.mpr h.ne
theorem tb2 {H : Hp} {b : Addr} {x y : Str} (e : H b = some (.tup [.str x, .str y])) (hx : Wd x) (hy : Wd y) : TB H (.ref b) 1 411 :=
  (TB.tup (k := 0) (n := 202) e fun v hv => by
    simp only [List.mem_cons, List.mem_nil_iff, or_false] at hv
    rcases hv with rfl | rfl
    · exact TB.str hx
    · exact TB.str hy).mono (by omega) (by simp)
def spPairs : Sp := fun vs H Q _ => ∃ (p w wd nm : Addr) (t : Nat) (ws ns : List Str), vs = [.ref p, .ref wd, .ref nm] ∧ PenAt H p w t ∧ t + 30 < TMAX ∧ TxtsAt H wd ws ∧ ws.length ≤ 10 ∧ (ws.Nodup ∧ ∀ z ∈ ws, isName z = true) ∧ TxtsAt H nm ns ∧ (∀ z ∈ ns, isName z = true) ∧
  ∀ (b : Addr) (xs : List V) (ps : List (Str × Str)) (H' : Hp), H' b = some (.tup xs) → PrsOk H' ns xs ps → (∀ q ∈ ps, q.1 ∈ ws) → xs.length ≤ 10 → TB H' (.ref b) 2 4133 → PenAt H' p w (t + 30) → Sm p w H H' → Q (.ref b) H'
theorem ok_law_tpairs (T : Txt K mg w) : FnK P w K mg base 2 "_law_tpairs" ["pen", "words", "names"] spPairs := by
  have F_law_tdraw : FnK P w K mg base 1 "_law_tdraw" ["pen", "many"] spDraw := ok_law_tdraw T
  refine T.t_law_tpairs.okS sc_law_tpairs (fun vs H Q E h => ?_) (fun f cdv A outer s H vs Q E hr h => ?_)
  · obtain ⟨p, w', wd, nm, t, ws, ns, rfl, _⟩ := h
    rfl
  · obtain ⟨p, w', wd, nm, t, ws, ns, rfl, hp, ht, hw, hw10, ⟨hwd, hwn⟩, hn, hnn, k⟩ := h
    have ht' : t + 30 < 1000000000000 := ht
    have hsz : sizeLine = 16777216 := sizeLine_eq
    have hu0 := Nat.lt_of_succ_lt (hu_of hr)
    refine ⟨_, (sb_cons (s_lc (i := 3) (own := ["word"]) (idx := [0]) (N' := ["word", "pen"]) (⟨rfl, by decide +kernel, by decide +kernel, (show ∀ y ∈ Scope.names _, y.2 = NameKind.free → ((defScope s_law_tpairs).names.lookup y.1 = some NameKind.cell ∨ (defScope s_law_tpairs).names.lookup y.1 = some NameKind.free) by decide +kernel), (show ∀ j ∈ ([0] : List Nat), (Scope.names _).lookup ((["pen", "words", "names", "some"] : List Str).getD j "") = some NameKind.free ∧ j < (["pen", "words", "names", "some"] : List Str).length by decide +kernel), rfl⟩) rfl (i_K K (z_callB (call_sortedK K) (by rfl) T.n_sorted PyProof.Rows.boot_sorted (sa_Name (zv 1) sa_nil))) (fun _ _ _ _ _ _ => (g_name (i := 0) (show List.Nodup (["word", "pen"] : List Str) by decide +kernel) rfl (Or.inl rfl))) (fun _ _ _ _ _ _ => (c_one (y_cmpR (op_eqD hu0) (z_fn F_law_tdraw (hr.mono (by decide)) (sa_Name (zv 1) (sa_Constant z_int sa_nil))) z_int (nomark _)))) (fun _ _ _ _ _ _ => (zv 0)) sc_law_tpairs.nd rfl rfl)
      (sb_one (s_ret (z_callTy (call_tupK K) (by rfl) T.n_tuple PyProof.Rows.boot_tuple (sa_ListComp (z_lc (own := ["word"]) (idx := [0, 2]) (N' := ["word", "pen", "names"]) (⟨rfl, by decide +kernel, by decide +kernel, (show ∀ y ∈ Scope.names _, y.2 = NameKind.free → ((defScope s_law_tpairs).names.lookup y.1 = some NameKind.cell ∨ (defScope s_law_tpairs).names.lookup y.1 = some NameKind.free) by decide +kernel), (show ∀ j ∈ ([0, 2] : List Nat), (Scope.names _).lookup ((["pen", "words", "names", "some"] : List Str).getD j "") = some NameKind.free ∧ j < (["pen", "words", "names", "some"] : List Str).length by decide +kernel), rfl⟩) rfl (i_K K (zv 3)) (fun _ _ _ _ _ _ => (g_name (i := 0) (show List.Nodup (["word", "pen", "names"] : List Str) by decide +kernel) rfl (Or.inl rfl))) (fun _ _ _ _ _ _ => c_nil) (fun _ _ _ _ _ _ => (z_tup (sa_Name (zv 0) (sa_Subscript (z_ix (ix_K K) (zv 2) (z_fn F_law_tdraw (hr.mono (by decide)) (sa_Name (zv 1) (sa_Call (z_callB (call_lenK K) (by rfl) T.n_len PySem.boot_len (sa_Name (zv 2) sa_nil)) sa_nil))) (fun _ _ => rfl)) sa_nil))))) sa_nil))))), ?_⟩
    refine tSeq_set ⟨wd, ws, rfl, SqL.of hw.e, by omega, fun l ss hl hperm hsorted => ?_⟩
    have hsl : ss.length = ws.length := hperm.length_eq
    have wds : ∀ z ∈ ss, Wd z := fun z hz => hw.wd z (hperm.mem_iff.mp hz)
    have wns : ∀ z ∈ ss, isName z = true := fun z hz => hwn z (hperm.mem_iff.mp hz)
    have pws := pw_of_sorted hsorted (hperm.nodup_iff.mpr hwd)
    refine Or.inl ⟨⟨_, SqL.of upd_same⟩, fun D hD => ?_⟩
    have s1 : Same H (upd H l (.lst (ss.map V.str))) := Same.upd hl _
    have hp1 := hp.same s1
    have nDp : D ≠ p := hp1.ne1 hD
    have nDw : D ≠ w' := hp1.ne2 hD
    have nDl : D ≠ l := fun e => by rw [e, upd_same] at hD; cases hD
    have nlp : l ≠ p := hp.ne1 hl
    have nlw : l ≠ w' := hp.ne2 hl
    have hD0 : H D = none := s1.free hD
    refine lc_by (itn_list (ss.map V.str)) (fun i τ H2 => ∃ (v : Option V) (os : List Str), τ = [v, some (.ref p)] ∧ H2 D = some (.lst (os.map V.str)) ∧ os.Sublist (ss.take i) ∧ H2 l = some (.lst (ss.map V.str)) ∧ PenAt H2 p w' (t + i) ∧ Sm p w' H H2)
      ⟨none, [], rfl, upd_same, List.Sublist.refl _, by rw [upd_ne nDl.symm]; exact upd_same, hp1.same (Same.upd hD _), s1.sm.upd hD0⟩ (by rintro i τ H2 _ ⟨_, _, _, _, _, q, _⟩; exact SqL.of q) ?_ ?_
    · rintro i τ H2 hi ⟨v, os, rfl, q1, q2, q4, q5, q6⟩
      rw [List.length_map] at hi
      rw [mapStr_getD ss i hi]
      have hti : ss.take (i + 1) = ss.take i ++ [ss.getD i ""] := by
        rw [List.take_add_one, List.getD_eq_getElem?_getD, List.getElem?_eq_getElem hi]; rfl
      generalize ss.getD i "" = z at hti
      have hol : os.length ≤ i := by have := q2.length_le; simp at this; omega
      refine ⟨p, w', 2, t + i, rfl, q5, ⟨by decide, by decide⟩, by show t + i < 1000000000000; omega, fun r H3 r0 r1 hp3 sm3 => ?_⟩
      refine ⟨rfl, _, rfl, ?_⟩
      have g4 := sm3 _ _ q4 nlp nlw
      have g1 := sm3 _ _ q1 nDp nDw
      refine iteB (fun _ => ?_) (fun _ => ?_)
      · refine ⟨_, g1, by rw [List.length_map]; exact small1000 (by omega), _, os ++ [z], rfl, by rw [upd_same, List.map_append]; rfl, by rw [hti]; exact q2.append (List.Sublist.refl _), by rw [upd_ne nDl.symm]; exact g4, hp3.upd nDp nDw, (q6.trans sm3).upd hD0⟩
      · exact ⟨_, os, rfl, g1, by rw [hti]; exact q2.trans (List.sublist_append_left _ _), g4, hp3, q6.trans sm3⟩
    · rintro τ H2 ⟨v, os, rfl, q1, q2', q4, q5, q6⟩
      rw [List.length_map] at q2' q5
      rw [List.take_length] at q2'
      have q2 : os.length ≤ ss.length := q2'.length_le
      have q3 : ∀ z ∈ os, Wd z := fun z hz => wds z (q2'.subset hz)
      have q3n : ∀ z ∈ os, isName z = true := fun z hz => wns z (q2'.subset hz)
      have q3r : rising os = true := rising_of_pw (pws.sublist q2')
      refine Or.inl ⟨⟨_, SqL.of q1⟩, fun D2 hD2 => ?_⟩
      have n2p : D2 ≠ p := q5.ne1 hD2
      have n2w : D2 ≠ w' := q5.ne2 hD2
      have n2D : D2 ≠ D := fun e => by rw [e, q1] at hD2; cases hD2
      have hD20 : H D2 = none := q6.free hD2 n2p n2w
      refine lc_by (itn_list (os.map V.str)) (fun i τ H3 => ∃ (v : Option V) (xs : List V) (rs : List (Str × V)), τ = [v, some (.ref p), some (.ref nm)] ∧ H3 D2 = some (.lst xs) ∧ PairsAt H3 xs (rowsK rs) ∧ rs.map (·.1) = os.take i ∧ (∀ r ∈ rs, ∃ y, r.2 = .str y ∧ y ∈ ns ∧ Wd y) ∧ H3 D = some (.lst (os.map V.str)) ∧ PenAt H3 p w' (t + ws.length + i) ∧ Sm p w' H H3)
        ⟨none, [], [], rfl, upd_same, pairs_nil, rfl, (fun _ h => nomatch h), by rw [upd_ne n2D.symm]; exact q1, (q5.same (Same.upd hD2 _)).mono (by omega), q6.upd hD20⟩ (by rintro i τ H2 _ ⟨_, _, _, _, _, _, _, _, q, _⟩; exact SqL.of q) ?_ ?_
      · rintro i τ H3 hi ⟨v, xs, rs, rfl, r1, r2, r2n, r3, r4, r5, r6⟩
        rw [List.length_map] at hi
        rw [mapStr_getD os i hi]
        have hti : os.take (i + 1) = os.take i ++ [os.getD i ""] := by
          rw [List.take_add_one, List.getD_eq_getElem?_getD, List.getElem?_eq_getElem hi]; rfl
        generalize os.getD i "" = z at hti
        have hrl : rs.length = i := by have := congrArg List.length r2n; simp at this; omega
        have hxl : xs.length = i := by have := r2.1; simp at this; omega
        have hn3 := hn.sm hp r6
        have hnpos := hn3.pos
        have hnfew := hn3.few
        refine .inl ⟨_, .inl (SqL.of hn3.e), p, w', _, t + ws.length + i, rfl, r5, ⟨by rw [List.length_map]; omega, by rw [List.length_map]; omega⟩, by show t + ws.length + i < 1000000000000; omega, fun r H4 a0 a1 hp4 sm4 => ?_⟩
        rw [List.length_map] at a1
        have hn4 := hn3.sm r5 sm4
        obtain ⟨n, hna, hni, hnw⟩ := hn4.at r a0 a1
        refine ⟨_, _, .inl (SqL.of hn4.e), hna, (show 2 ≤ sizeLine by decide), fun b hb => ?_⟩
        have g1 := sm4 _ _ r1 n2p n2w
        have g4 := sm4 _ _ r4 nDp nDw
        have nbD : D2 ≠ b := ne_of_none g1 hb
        have nbD' : D ≠ b := ne_of_none g4 hb
        have tk4 : Tk H3 H4 := r5.ts sm4
        have tk5 : Tk H3 (upd (upd H4 b (.tup [.str z, .str n])) D2 (.lst (xs ++ [.ref b]))) := (tk4.trans (Same.upd hb _).ts).set (by rw [upd_ne nbD]; exact g1) (by intro _ z; cases z)
        have hb5 : upd (upd H4 b (.tup [.str z, .str n])) D2 (.lst (xs ++ [.ref b])) b = some (.tup [.str z, .str n]) := by rw [upd_ne nbD.symm]; exact upd_same
        refine ⟨xs, by rw [upd_ne nbD]; exact g1, by omega, _, xs ++ [.ref b], rs ++ [(z, .str n)], rfl, upd_same, pairs_snoc (r2.ts tk5) hb5, by rw [List.map_append, r2n, hti]; rfl, fun r' hr' => ?_, by rw [upd_ne n2D.symm, upd_ne nbD']; exact g4, ((hp4.same (Same.upd hb _)).upd n2p n2w), ((r6.trans sm4).trans (Same.upd hb _).sm).upd hD20⟩
        rcases List.mem_append.mp hr' with hx | hx
        · exact r3 r' hx
        · rw [List.mem_singleton.mp hx]
          exact ⟨n, rfl, List.mem_of_getElem? hni, hnw⟩
      · rintro τ H3 ⟨v, xs, rs, rfl, r1, r2, r2n, r3, r4, r5, r6⟩
        rw [List.length_map] at r2n r5
        rw [List.take_length] at r2n
        have hrl : rs.length = os.length := by rw [← r2n, List.length_map]
        have hxl : xs.length = os.length := by have := r2.1; simp at this; omega
        refine ⟨D2, xs, rfl, .inl ⟨SqL.of r1, fun b hb => ?_⟩⟩
        have tk : Tk H3 (upd H3 b (.tup xs)) := (Same.upd hb _).ts
        have hmem : ∀ r' ∈ rs, r'.1 ∈ os := fun r' hr' => by rw [← r2n]; exact List.mem_map.mpr ⟨r', hr', rfl⟩
        refine k b xs _ _ upd_same (prs_of (r2.ts tk) (fun r' hr' => q3n _ (hmem r' hr')) (fun r' hr' => by obtain ⟨y, e1, e2, _⟩ := r3 r' hr'; exact ⟨y, e1, e2, hnn y e2⟩) (by rw [r2n]; exact q3r)) (fun q hq => by obtain ⟨q', hq', rfl⟩ := List.mem_map.mp hq; exact hperm.mem_iff.mp (q2'.subset (hmem q' hq'))) (by omega) ((TB.tup (k := 1) (n := 411) upd_same fun x hx => ?_).mono (by omega) (by rw [hxl]; omega)) ((r5.same (Same.upd hb _)).mono (by omega)) (r6.trans (Same.upd hb _).sm)
        obtain ⟨c, r', hr', rfl, e⟩ := pairs_mem r2 hx
        obtain ⟨y, e1, e2, e3⟩ := r3 r' hr'
        rw [e1] at e
        exact tb2 (tk _ _ e) (q3 _ (hmem r' hr')) e3
def spHead : Sp := fun vs H Q _ => ∃ (p w wd nm : Addr) (sort : Str) (t : Nat) (ws ns : List Str), vs = [.ref p, .str sort, .ref wd, .ref nm] ∧ PenAt H p w t ∧ t + 40 < TMAX ∧ TxtsAt H wd ws ∧ ws.length ≤ 10 ∧ (ws.Nodup ∧ ∀ z ∈ ws, isName z = true) ∧ TxtsAt H nm ns ∧ (∀ z ∈ ns, isName z = true) ∧ (sort ∈ (["all", "none", "way", "box", "pick", "as"] : List Str)) ∧
  ∀ (b : Addr) (ys : List V) (H' : Hp), H' b = some (.tup (.str sort :: ys)) → (sort ≠ "as" → HG4 H' ns ws (.ref b) (fun o => o = none)) → TB H' (.ref b) 3 8273 → PenAt H' p w (t + 40) → Sm p w H H' → Q (.ref b) H'
theorem ok_law_thead (T : Txt K mg w) : FnK P w K mg base 3 "_law_thead" ["pen", "sort", "words", "names"] spHead := by
  have F_law_tdraw : FnK P w K mg base 1 "_law_tdraw" ["pen", "many"] spDraw := ok_law_tdraw T
  have F_law_tpairs : FnK P w K mg base 2 "_law_tpairs" ["pen", "words", "names"] spPairs := ok_law_tpairs T
  refine T.t_law_thead.okS sc_law_thead (fun vs H Q E h => ?_) (fun f cdv A outer s H vs Q E hr h => ?_)
  · obtain ⟨p, w', wd, nm, sort, t, ws, ns, rfl, _⟩ := h
    rfl
  · obtain ⟨p, w', wd, nm, sort, t, ws, ns, rfl, hp, ht, hw, hw10, hwn, hn, hnn, hsort, k⟩ := h
    have hso : Wd sort := by
      simp only [List.mem_cons, List.mem_nil_iff, or_false] at hsort
      rcases hsort with rfl | rfl | rfl | rfl | rfl | rfl <;> exact wd_ascii (by decide) (by decide)
    have ht' : t + 40 < 1000000000000 := ht
    have hsz : sizeLine = 16777216 := sizeLine_eq
    have hu0 := Nat.lt_of_succ_lt (hu_of hr)
    have hnpos := hn.pos
    have hnfew := hn.few
    refine ⟨_, (sb_cons (s_if (y_cmpR (op_eqD hu0) (zv 1) z_str (nomark _)) (sb_one (s_ret (z_tup (sa_Constant z_str (sa_Subscript (z_ix (ix_K K) (zv 3) (z_fn F_law_tdraw (hr.mono (by decide)) (sa_Name (zv 0) (sa_Call (z_callB (call_lenK K) (by rfl) T.n_len PySem.boot_len (sa_Name (zv 3) sa_nil)) sa_nil))) (fun _ _ => rfl)) (sa_Subscript (z_ix (ix_K K) (zv 3) (z_fn F_law_tdraw (hr.mono (by decide)) (sa_Name (zv 0) (sa_Call (z_callB (call_lenK K) (by rfl) T.n_len PySem.boot_len (sa_Name (zv 3) sa_nil)) sa_nil))) (fun _ _ => rfl)) sa_nil)))))) sb_nil)
      (sb_cons (s_if (w_or (y_cmpR (op_eqD hu0) (zv 1) z_str (nomark _)) (w_or1 (y_cmpR (op_eqD hu0) (zv 1) z_str (nomark _)))).pt (sb_one (s_ret (z_tup (sa_Name (zv 1) (sa_Call (z_fn F_law_tpairs (hr.mono (by decide)) (sa_Name (zv 0) (sa_Name (zv 2) (sa_Name (zv 3) sa_nil)))) sa_nil))))) sb_nil)
      (sb_one (s_ret (z_tup (sa_Name (zv 1) sa_nil)))))), ?_⟩
    refine ⟨rfl, _, rfl, iteB (fun h1 => ?_) (fun h1 => ?_)⟩
    · rw [Bool.false_xor, decV_str] at h1
      have e1 : sort = "way" := eq_of_beq h1
      refine .inl ⟨_, .inl (SqL.of hn.e), p, w', _, t, rfl, hp, ⟨by rw [List.length_map]; omega, by rw [List.length_map]; omega⟩, by show t < 1000000000000; omega, fun r H1 a0 a1 hp1 sm1 => ?_⟩
      rw [List.length_map] at a1
      have hn1 := hn.sm hp sm1
      obtain ⟨x, hxa, hxi, hxw⟩ := hn1.at r a0 a1
      refine ⟨_, _, .inl (SqL.of hn1.e), hxa, .inl ⟨_, .inl (SqL.of hn1.e), p, w', _, t + 1, rfl, hp1, ⟨by rw [List.length_map]; omega, by rw [List.length_map]; omega⟩, by show t + 1 < 1000000000000; omega, fun r2 H2 b0 b1 hp2 sm2 => ?_⟩⟩
      rw [List.length_map] at b1
      have hn2 := hn1.sm hp1 sm2
      obtain ⟨y, hya, hyi, hyw⟩ := hn2.at r2 b0 b1
      refine ⟨_, _, .inl (SqL.of hn2.e), hya, (show 3 ≤ sizeLine by decide), fun b hb => ?_⟩
      rw [e1] at k
      refine k b [.str x, .str y] _ upd_same (fun _ => hg4_way upd_same (hnn _ (List.mem_of_getElem? hxi)) (hnn _ (List.mem_of_getElem? hyi)) (List.mem_of_getElem? hxi) (List.mem_of_getElem? hyi) rfl) ((TB.tup (k := 0) (n := 202) upd_same fun v hv => ?_).mono (by omega) (by simp)) ((hp2.same (Same.upd hb _)).mono (by omega)) ((sm1.trans sm2).trans (Same.upd hb _).sm)
      simp only [List.mem_cons, List.mem_nil_iff, or_false] at hv
      rcases hv with rfl | rfl | rfl
      · rw [← e1]; exact TB.str hso
      · exact TB.str hxw
      · exact TB.str hyw
    · rw [Bool.false_xor, decV_str] at h1
      have fin : sort ∈ (["all", "none", "as"] : List Str) → tRet (tTup (tCons (tV 1) tNil)) { nx := fun x H' => Q V.non H', rt := Q } [some (.ref p), some (.str sort), some (.ref wd), some (.ref nm)] H := by
        intro hs3
        refine ⟨(show 1 ≤ sizeLine by decide), fun b hb => ?_⟩
        refine k b [] _ upd_same (fun hne => by
          simp only [List.mem_cons, List.mem_nil_iff, or_false] at hs3
          rcases hs3 with rfl | rfl | rfl
          · exact hg4_all upd_same rfl
          · exact hg4_none upd_same rfl
          · exact (hne rfl).elim) ((TB.tup (k := 0) (n := 202) upd_same fun v hv => ?_).mono (by omega) (by simp)) ((hp.same (Same.upd hb _)).mono (by omega)) ((Same.upd hb _).sm)
        rw [List.mem_singleton.mp hv]; exact TB.str hso
      have prs : (sort = "box" ∨ sort = "pick") → tRet (tTup (tCons (tV 1) (tCons (tCall spPairs [] E0 (tCons (tV 0) (tCons (tV 2) (tCons (tV 3) tNil)))) tNil))) { nx := fun x H' => Q V.non H', rt := Q } [some (.ref p), some (.str sort), some (.ref wd), some (.ref nm)] H := by
        intro hs2
        refine ⟨p, w', wd, nm, t, ws, ns, rfl, hp, by show t + 30 < 1000000000000; omega, hw, hw10, hwn, hn, hnn, fun c xs ps H1 hc hprs hpw hxl htb hp1 sm1 => ?_⟩
        refine ⟨(show 2 ≤ sizeLine by decide), fun b hb => ?_⟩
        have s5 := Same.upd hb (.tup [.str sort, .ref c])
        refine k b [.ref c] _ upd_same (fun _ => hg4_worded hs2 upd_same (s5 _ _ hc) (by omega) (hprs.tk s5.ts) hpw rfl) ((TB.tup (k := 2) (n := 4133) upd_same fun v hv => ?_).mono (by omega) (by simp)) ((hp1.same (Same.upd hb _)).mono (by omega)) (sm1.trans (Same.upd hb _).sm)
        simp only [List.mem_cons, List.mem_nil_iff, or_false] at hv
        rcases hv with rfl | rfl
        · exact (TB.str hso).mono (by omega) (by omega)
        · exact htb.ts (Same.upd hb _).ts
      refine ⟨rfl, _, rfl, iteB (fun h2 => ?_) (fun h2 => ?_)⟩
      · rw [Bool.false_xor, decV_str] at h2
        exact iteT (prs (.inl (eq_of_beq h2)))
      · rw [Bool.false_xor, decV_str] at h2
        refine ⟨rfl, _, rfl, iteB (fun h3 => ?_) (fun h3 => ?_)⟩
        · rw [Bool.false_xor, decV_str] at h3
          exact prs (.inr (eq_of_beq h3))
        · rw [Bool.false_xor, decV_str] at h3
          refine fin ?_
          simp only [List.mem_cons, List.mem_nil_iff, or_false] at hsort ⊢
          rcases hsort with rfl | rfl | rfl | rfl | rfl | rfl
          · exact .inl rfl
          · exact .inr (.inl rfl)
          · exact absurd h1 (by decide)
          · exact absurd h2 (by decide)
          · exact absurd h3 (by decide)
          · exact .inr (.inr rfl)
def spTelling : Sp := fun vs H Q _ => ∃ (p w wd so : Addr) (most : Int) (t : Nat) (ws ss : List Str), vs = [.ref p, .int most, .ref wd, .ref so] ∧ PenAt H p w t ∧ t + 1000 < TMAX ∧ (1 ≤ most ∧ most ≤ 10) ∧ TxtsAt H wd ws ∧ ws.length ≤ 10 ∧ (ws.Nodup ∧ ∀ z ∈ ws, isName z = true) ∧ TxtsAt H so ss ∧ (∀ z ∈ ss, z ∈ (["all", "none", "way", "box", "pick", "as"] : List Str)) ∧
  ∀ (a : Addr) (xs : List V) (rows : List Rw2) (ns : List Str) (H' : Hp), RT H' a xs rows ns ws → (ns.length : Int) ≤ most → PenAt H' p w (t + 1000) → Sm p w H H' → Q (.ref a) H'
theorem ok_law_ttelling (T : Txt K mg w) : FnK P w K mg base 4 "_law_ttelling" ["pen", "most", "words", "sorts"] spTelling := by
  have F_law_tdraw : FnK P w K mg base 1 "_law_tdraw" ["pen", "many"] spDraw := ok_law_tdraw T
  have F_law_tnames : FnK P w K mg base 2 "_law_tnames" ["pen", "many"] spNames := ok_law_tnames T
  have F_law_thead : FnK P w K mg base 3 "_law_thead" ["pen", "sort", "words", "names"] spHead := ok_law_thead T
  refine T.t_law_ttelling.okS sc_law_ttelling (fun vs H Q E h => ?_) (fun f cdv A outer s H vs Q E hr h => ?_)
  · obtain ⟨p, w', wd, so, most, t, ws, ss, rfl, _⟩ := h
    rfl
  · obtain ⟨p, w', wd, so, most, t, ws, ss, rfl, hp, ht, ⟨hm1, hm2⟩, hw, hw10, hwn, hso, hson, k⟩ := h
    have ht' : t + 1000 < 1000000000000 := ht
    have hsz : sizeLine = 16777216 := sizeLine_eq
    have hu0 := Nat.lt_of_succ_lt (hu_of hr)
    refine ⟨_, (sb_cons (s_set (i := 4) sc_law_ttelling.nd rfl (Or.inl rfl) (z_fn F_law_tnames (hr.mono (by decide)) (sa_Name (zv 0) (sa_BinOp (z_op op_addD z_int (z_fn F_law_tdraw (hr.mono (by decide)) (sa_Name (zv 0) (sa_Name (zv 1) sa_nil)))) sa_nil))))
      (sb_cons (s_set (i := 5) sc_law_ttelling.nd rfl (Or.inl rfl) (z_lst sa_nil))
      (sb_cons (s_for PassesOwn.never rfl (pi_enumK K (by rfl) T.n_enumerate (sa_Name (zv 4) sa_nil)) (g_tup K (n := 2) rfl (gs_cons (g_name (i := 6) sc_law_ttelling.nd rfl (Or.inl rfl)) (gs_cons (g_name (i := 7) sc_law_ttelling.nd rfl (Or.inl rfl)) gs_nil))) (sb_cons (s_set (i := 8) sc_law_ttelling.nd rfl (Or.inl rfl) (z_ix (ix_K K) (zv 3) (z_fn F_law_tdraw (hr.mono (by decide)) (sa_Name (zv 0) (sa_Call (z_callB (call_lenK K) (by rfl) T.n_len PySem.boot_len (sa_Name (zv 3) sa_nil)) sa_nil))) (fun _ _ => rfl)))
      (sb_cons (s_set (i := 9) sc_law_ttelling.nd rfl (Or.inl rfl) (z_fn F_law_thead (hr.mono (by decide)) (sa_Name (zv 0) (sa_Name (zv 8) (sa_Name (zv 2) (sa_Name (zv 4) sa_nil))))))
      (sb_cons (s_if (y_cmpR (op_eqD hu0) (zv 8) z_str (nomark _)) (sb_one (s_set (i := 9) sc_law_ttelling.nd rfl (Or.inl rfl) (z_ifExp (y_cmpR (op_eqD hu0) (zv 6) z_int (nomark _)) (z_tup (sa_Constant z_str sa_nil)) (z_tup (sa_Constant z_str (sa_Subscript (z_ix (ix_K K) (zv 4) (z_fn F_law_tdraw (hr.mono (by decide)) (sa_Name (zv 0) (sa_Name (zv 6) sa_nil))) (fun _ _ => rfl)) sa_nil)))))) sb_nil)
      (sb_one (s_expr (z_bm K PySem.F.plainAttrs_list PySem.F.slot_list_append PySem.F.type_list_append mt_append (zv 5) (sa_Tuple (z_tup (sa_Name (zv 7) (sa_Name (zv 9) sa_nil))) sa_nil))))))))
      (sb_cons (s_set (i := 10) sc_law_ttelling.nd rfl (Or.inl rfl) (z_fn F_law_tdraw (hr.mono (by decide)) (sa_Name (zv 0) (sa_Call (z_callB (call_lenK K) (by rfl) T.n_len PySem.boot_len (sa_Name (zv 5) sa_nil)) sa_nil))))
      (sb_one (s_ret (z_callTy (call_tupK K) (by rfl) T.n_tuple PyProof.Rows.boot_tuple (sa_BinOp (z_op op_addD (z_slice (sl_K K) (zv 5) (zo_some (zv 10)) zo_none) (z_slice (sl_K K) (zv 5) zo_none (zo_some (zv 10)))) sa_nil)))))))), ?_⟩
    refine tSeq_set ⟨p, w', most, t, rfl, hp, ⟨by omega, by omega⟩, by show t < 1000000000000; omega, fun r0 H1 ra rb hp1 sm1 => ⟨p, w', 1 + r0, t + 1, rfl, hp1, ⟨by omega, by omega⟩, by show t + 1 + 20 < 1000000000000; omega, fun L ns H2 hL0 hL hnl hnd hwd hp2 sm2 => ?_⟩⟩
    have hnl' : ns.length ≤ 10 ∧ 1 ≤ ns.length := by omega
    have tL : TxtsAt H2 L ns := ⟨hL, by intro e; rw [e] at hnl'; simp at hnl', by omega, fun n hn => (hwd n hn).2⟩
    have sm02 : Sm p w' H H2 := sm1.trans sm2
    refine tSeq_set ⟨(show 0 ≤ sizeLine by decide), fun R hR => ?_⟩
    have nRp : R ≠ p := hp2.ne1 hR
    have nRw : R ≠ w' := hp2.ne2 hR
    have hR0 : H R = none := sm02.free hR nRp nRw
    have nRL : R ≠ L := fun e => by rw [e, hL] at hR; cases hR
    refine tSeq_by (fun σ' H' => ∃ (v6 v7 v8 v9 : Option V) (xs : List V) (rs : List (Str × V)), σ' = [some (.ref p), some (.int most), some (.ref wd), some (.ref so), some (.ref L), some (.ref R), v6, v7, v8, v9, none] ∧ H' R = some (.lst xs) ∧ PairsAt H' xs (rowsK rs) ∧ rs.map (·.1) = ns ∧ RowsG H' ns ws rs ∧ PenAt H' p w' (t + 21 + 60 * 10) ∧ Sm p w' H H') ?_ ?_
    · intro nx hnx
      refine ⟨L, _, rfl, SqL.of (by rw [upd_ne nRL.symm]; exact hL), for_pair (itp_enum (ns.map V.str)) (fun i σ' H' => ∃ (v6 v7 v8 v9 : Option V) (xs : List V) (rs : List (Str × V)), σ' = [some (.ref p), some (.int most), some (.ref wd), some (.ref so), some (.ref L), some (.ref R), v6, v7, v8, v9, none] ∧ H' R = some (.lst xs) ∧ PairsAt H' xs (rowsK rs) ∧ rs.map (·.1) = ns.take i ∧ RowsG H' ns ws rs ∧ TxtsAt H' L ns ∧ PenAt H' p w' (t + 21 + 60 * i) ∧ Sm p w' H H')
        ⟨none, none, none, none, [], [], rfl, upd_same, pairs_nil, rfl, ⟨(fun _ h => nomatch h), (fun _ h => nomatch h)⟩, tL.same (Same.upd hR _), hp2.same (Same.upd hR _), sm02.upd hR0⟩ (by rintro i τ H' _ ⟨_, _, _, _, _, _, _, _, _, _, _, tl, _⟩; exact SqL.of tl.e) ?_ ?_⟩
      · rintro i σ' H3 T0 hi ⟨v6, v7, v8, v9, xs, rs, rfl, q1, q2, q3, q4, q5, q6, q7⟩ hT0
        rw [List.length_map] at hi
        rw [mapStr_getD ns i hi]
        have hni : ns[i]? = some (ns.getD i "") := by rw [List.getD_eq_getElem?_getD, List.getElem?_eq_getElem hi]; rfl
        generalize ns.getD i "" = nm at hni
        generalize hH4 : upd H3 T0 (.tup [.int (i : Int), .str nm]) = H4
        have s4 : Same H3 H4 := by rw [← hH4]; exact Same.upd hT0 _
        have hp4 := q6.same s4
        have sm4 : Sm p w' H H4 := q7.trans s4.sm
        have so4 := hso.sm hp sm4
        have hspos := so4.pos
        have hsfew := so4.few
        have hi10 : i < 10 := by omega
        refine tSeq_set (.inl ⟨_, .inl (SqL.of so4.e), p, w', _, t + 21 + 60 * i, rfl, hp4, ⟨by rw [List.length_map]; omega, by rw [List.length_map]; omega⟩, by show t + 21 + 60 * i < 1000000000000; omega, fun r H5 a0 a1 hp5 sm5 => ?_⟩)
        rw [List.length_map] at a1
        have sm05 : Sm p w' H H5 := sm4.trans sm5
        have so5 := hso.sm hp sm05
        obtain ⟨sort, hsa, hsi, hsw⟩ := so5.at r a0 a1
        refine ⟨_, _, .inl (SqL.of so5.e), hsa, ?_⟩
        have tL5 := (q5.same s4).sm hp4 sm5
        refine tSeq_set ⟨p, w', wd, L, sort, t + 21 + 60 * i + 1, ws, ns, rfl, hp5, by show t + 21 + 60 * i + 1 + 40 < 1000000000000; omega, hw.sm hp sm05, hw10, hwn, tL5, fun z hz => (hwd z hz).1, hson _ (List.mem_of_getElem? hsi), fun b ys H6 hb hhd htb hp6 sm6 => ?_⟩
        have sm06 : Sm p w' H H6 := sm05.trans sm6
        have tk56 : Tk H3 H6 := (s4.ts.trans (hp4.ts sm5)).trans (hp5.ts sm6)
        have tL6 := tL5.sm hp5 sm6
        have qR6 : H6 R = some (.lst xs) := sm6 _ _ (sm5 _ _ (s4 _ _ q1) nRp nRw) nRp nRw
        refine tSeq_by (fun σ' H7 => ∃ (hv : V) (v8' : Option V), σ' = [some (.ref p), some (.int most), some (.ref wd), some (.ref so), some (.ref L), some (.ref R), some (.int (i : Int)), some (.str nm), v8', some hv, none] ∧ HG4 H7 ns ws hv (Ahd ns nm) ∧ Tk H6 H7 ∧ H7 R = some (.lst xs) ∧ TxtsAt H7 L ns ∧ PenAt H7 p w' (t + 21 + 60 * i + 50) ∧ Sm p w' H H7) ?_ ?_
        · intro nx' hnx'
          refine ⟨rfl, _, rfl, iteB (fun h1 => ?_) (fun h1 => ?_)⟩
          · refine ⟨rfl, _, rfl, iteB (fun h2 => ?_) (fun h2 => ?_)⟩
            · refine ⟨(show 1 ≤ sizeLine by decide), fun c hc => ?_⟩
              refine hnx' _ _ ⟨.ref c, _, rfl, hg4_all upd_same (fun _ h => nomatch h), (Same.upd hc _).ts, (Same.upd hc _) _ _ qR6, tL6.same (Same.upd hc _), (hp6.same (Same.upd hc _)).mono (by omega), sm06.trans (Same.upd hc _).sm⟩
            · rw [Bool.false_xor, decV_int] at h2
              have hi0 : 0 < i := by have := of_decide_eq_false h2; omega
              refine ⟨p, w', (i : Int), _, rfl, hp6, ⟨by omega, by omega⟩, by show t + 21 + 60 * i + 1 + 40 < 1000000000000; omega, fun r2 H7 b0 b1 hp7 sm7 => ?_⟩
              have tL7 := tL6.sm hp6 sm7
              obtain ⟨y, hya, hyi, hyw⟩ := tL7.at r2 b0 (by omega)
              refine ⟨_, _, .inl (SqL.of tL7.e), hya, (show 2 ≤ sizeLine by decide), fun c hc => ?_⟩
              refine hnx' _ _ ⟨.ref c, _, rfl, hg4_as upd_same (hwd _ (List.mem_of_getElem? hyi)).1 (List.mem_of_getElem? hyi) (fun y' e => ?_), (hp6.ts sm7).trans (Same.upd hc _).ts, (Same.upd hc _) _ _ (sm7 _ _ qR6 nRp nRw), tL7.same (Same.upd hc _), (hp7.same (Same.upd hc _)).mono (by omega), (sm06.trans sm7).trans (Same.upd hc _).sm⟩
              · cases e
                exact ⟨r2.toNat, i, by omega, hyi, hni⟩
          · rw [Bool.false_xor, decV_str] at h1
            have hne : sort ≠ "as" := fun e => by rw [e] at h1; simp at h1
            exact hnx' _ _ ⟨.ref b, _, rfl, (hhd hne).imp (fun o e y e' => by rw [e] at e'; cases e'), Tk.refl, qR6, tL6, hp6.mono (by omega), sm06⟩
        · rintro σ' H7 ⟨hv, v8', rfl, g1, g3, g4, g5, g6, g7⟩
          refine ⟨.inl ⟨rfl, _, SqL.of g4⟩, (show 2 ≤ sizeLine by decide), fun c hc => ?_⟩
          have ncR : R ≠ c := ne_of_none g4 hc
          have hxl : xs.length = i := by
            have h1 := q2.1
            have h2 := congrArg List.length q3
            simp at h1 h2
            omega
          refine ⟨R, xs, .ref c, rfl, rfl, by rw [upd_ne ncR]; exact g4, by omega, ?_⟩
          have tk8 : Tk H7 (upd (upd H7 c (.tup [.str nm, hv])) R (.lst (xs ++ [.ref c]))) := ((Same.upd hc _).ts).set (by rw [upd_ne ncR]; exact g4) (by intro _ z; cases z)
          have hc8 : upd (upd H7 c (.tup [.str nm, hv])) R (.lst (xs ++ [.ref c])) c = some (.tup [.str nm, hv]) := by rw [upd_ne ncR.symm]; exact upd_same
          have tk38 : Tk H3 (upd (upd H7 c (.tup [.str nm, hv])) R (.lst (xs ++ [.ref c]))) := (tk56.trans g3).trans tk8
          have nLR : L ≠ R := nRL.symm
          refine ⟨_, _, _, _, xs ++ [.ref c], rs ++ [(nm, hv)], rfl, upd_same, pairs_snoc (q2.ts tk38) hc8, ?_, ?_, ⟨by rw [upd_ne nLR, upd_ne (ne_of_none g5.e hc)]; exact g5.e, g5.ne, g5.few, g5.wd⟩, ((g6.same (Same.upd hc _)).upd nRp nRw).mono (by omega), (g7.trans (Same.upd hc _).sm).upd hR0⟩
          · rw [List.map_append, q3, List.take_add_one, hni]; rfl
          · have := ((q4.tk tk38).add (n := nm) (v := hv) (List.mem_of_getElem? hni) (g1.tk tk8))
            exact this.perm fun r hr => by
              rcases List.mem_append.mp hr with hr | hr
              · exact List.mem_cons_of_mem _ hr
              · rw [List.mem_singleton.mp hr]; exact List.mem_cons_self
      · rintro σ' H' ⟨v6, v7, v8, v9, xs, rs, rfl, q1, q2, q3, q4, q5, q6, q7⟩
        rw [List.length_map, List.take_length] at q3
        rw [List.length_map] at q6
        exact hnx _ _ ⟨v6, v7, v8, v9, xs, rs, rfl, q1, q2, q3, q4, q6.mono (by omega), q7⟩
    · rintro σ' H3 ⟨v6, v7, v8, v9, xs, rs, rfl, q1, q2, q3, q4, q6, q7⟩
      have hrl : rs.length = ns.length := by rw [← q3, List.length_map]
      have hxl : xs.length = rs.length := by have := q2.1; simpa using this
      refine tSeq_set (.inl ⟨_, .inl (SqL.of q1), p, w', _, _, rfl, q6, ⟨by omega, by omega⟩, by show t + 21 + 60 * 10 < 1000000000000; omega, fun r H4 a0 a1 hp4 sm4 => ?_⟩)
      have g1 : H4 R = some (.lst xs) := sm4 _ _ q1 nRp nRw
      have er : r = ((r.toNat : Nat) : Int) := by omega
      refine ⟨r, rfl, Or.inr (Or.inl ⟨R, xs, rfl, SqL.of g1, fun p1 hp1' => ?_⟩)⟩
      have n1R : R ≠ p1 := ne_of_none g1 hp1'
      refine ⟨r, rfl, Or.inr (Or.inl ⟨R, xs, rfl, SqL.of (by rw [upd_ne n1R]; exact g1), fun p2 hp2' => ?_⟩)⟩
      have n12 : p1 ≠ p2 := fun e => by rw [← e, upd_same] at hp2'; cases hp2'
      refine ⟨_, _, by rw [upd_ne n12]; exact upd_same, upd_same, ?_, fun p3 hp3' => ⟨p3, _, rfl, .inl ⟨SqL.of upd_same, fun a ha => ?_⟩⟩⟩
      · have h1 := cutV_length xs (some r) none
        have h2 := cutV_length xs none (some r)
        omega
      · have e1 : cutV xs (some r) none = xs.drop r.toNat := by rw [er]; exact cut_from xs r.toNat
        have e2 : cutV xs none (some r) = xs.take r.toNat := by rw [er]; exact cut_to xs r.toNat
        rw [e1, e2] at ha ⊢
        have s5 := (((Same.upd hp1' (.lst (xs.drop r.toNat))).trans (Same.upd (by rw [e1] at hp2'; exact hp2') (.lst (xs.take r.toNat)))).trans (Same.upd (by rw [e1, e2] at hp3'; exact hp3') (.lst (xs.drop r.toNat ++ xs.take r.toNat)))).trans (Same.upd ha (.tup (xs.drop r.toNat ++ xs.take r.toNat)))
        have tk5 := (q6.ts sm4).trans s5.ts
        have pm := perm_rot rs r.toNat
        have pmn : ((rs.drop r.toNat ++ rs.take r.toNat).map (·.1)).Perm (rs.map (·.1)) := pm.map _
        have rok := (q4.tk tk5).perm (fun r' hr' => pm.mem_iff.mp hr')
        obtain ⟨rows, rt⟩ := RT.of upd_same (pairs_rot (q2.ts tk5) r.toNat) (by rw [← q3]; exact pmn) hnd hwd (by omega) (by omega) rok
        exact k a _ rows ns _ rt (by omega) ((hp4.same s5).mono (by omega)) ((q7.trans sm4).trans s5.sm)
theorem rowEq {rs : List (Str × V)} (i : Nat) (h : i < (rowsK rs).length) (h' : i < rs.length) : (rowsK rs)[i] = (Sum.inr rs[i].1, rs[i].2) := by simp [rowsK]
def TelAt (H : Hp) (a : Addr) (xs : List V) (rs : List (Str × V)) : Prop := H a = some (.tup xs) ∧ PairsAt H xs (rowsK rs) ∧ rs.length ≤ 1000
def spHeads : Sp := fun vs H Q _ => ∃ (a : Addr) (xs : List V) (rs : List (Str × V)), vs = [.ref a] ∧ TelAt H a xs rs ∧ ∀ d, H d = none → Q (.ref d) (upd H d (.dK (dictOf (rowsK rs))))
theorem ok_heads_of (T : Txt K mg w) : FnK P w K mg base 1 "heads_of" ["T"] spHeads := by
  refine T.t_heads_of.okS sc_heads_of (fun vs H Q E h => ?_) (fun f cdv A outer s H vs Q E hr h => ?_)
  · obtain ⟨a, xs, rs, rfl, _⟩ := h
    rfl
  · obtain ⟨a, xs, rs, rfl, ⟨hx, hp, hlen⟩, k⟩ := h
    refine ⟨_, (sb_one (s_ret (z_dc (own := ["name", "head"]) (idx := []) (N' := ["name", "head"]) (⟨rfl, by decide +kernel, by decide +kernel, (show ∀ y ∈ Scope.names _, y.2 = NameKind.free → ((defScope s_heads_of).names.lookup y.1 = some NameKind.cell ∨ (defScope s_heads_of).names.lookup y.1 = some NameKind.free) by decide +kernel), (show ∀ j ∈ ([] : List Nat), (Scope.names _).lookup ((["T"] : List Str).getD j "") = some NameKind.free ∧ j < (["T"] : List Str).length by decide +kernel), rfl⟩) rfl (i_K K (zv 0)) (fun _ _ _ _ _ _ => (g_tup K (n := 2) rfl (gs_cons (g_name (i := 0) (show List.Nodup (["name", "head"] : List Str) by decide +kernel) rfl (Or.inl rfl)) (gs_cons (g_name (i := 1) (show List.Nodup (["name", "head"] : List Str) by decide +kernel) rfl (Or.inl rfl)) gs_nil)))) (fun _ _ _ _ _ _ => c_nil) (fun _ _ _ _ _ _ => (zv 0)) (fun _ _ _ _ _ _ => (zv 1))))), ?_⟩
    refine Or.inr ⟨⟨xs, SqT.of hx⟩, fun D hD => ?_⟩
    have J := itn_tup (K := K) (a := a) xs
    have hsz : sizeLine = 16777216 := sizeLine_eq
    have hxl : xs.length = rs.length := by have := hp.1; simpa using this
    have sD : ∀ o, Same H (upd H D o) := fun o => Same.upd hD o
    refine ⟨fun i m τ H' => m = xs.length - i ∧ i ≤ xs.length ∧ (∃ v1 v2, τ = [v1, v2]) ∧ H' = upd H D (.dK (dictOf ((rowsK rs).take i))), ⟨_, rfl, Nat.zero_le _, ⟨none, none, rfl⟩, rfl⟩, ?_⟩
    rintro i m τ H' ⟨rfl, hi, ⟨v1, v2, rfl⟩, rfl⟩
    obtain ⟨k1, k2⟩ := J _ (show SqT K (upd H D _) a xs from SqT.of (sD _ _ _ hx))
    by_cases hlt : i < xs.length
    · have hir : i < rs.length := by omega
      have hik : i < (rowsK rs).length := by simpa using hir
      refine .inr ⟨(k1 i hlt).1, fun τ' H' => (∃ v1 v2, τ' = [v1, v2]) ∧ H' = upd H D (.dK (dictOf ((rowsK rs).take (i + 1)))), fun τ' H' ⟨h1, h2⟩ => ⟨xs.length - (i + 1), by omega, rfl, hlt, h1, h2⟩, fun x H' y => ?_⟩
      obtain ⟨e, e2⟩ := (k1 i hlt).2 x H' y
      subst e e2
      obtain ⟨b, hb1, hb2⟩ := hp.2 i hik
      rw [rowEq i hik hir] at hb2
      have eb : xs.getD i .non = .ref b := by rw [List.getD_eq_getElem?_getD, hb1]; rfl
      show gTup K 2 _ (xs.getD i .non) _ _ _
      rw [eb]
      refine ⟨b, _, rfl, SqT.of (sD _ _ _ hb2), rfl, _, _, rfl, _, _, rfl, rfl, ?_⟩
      refine ⟨dictOf ((rowsK rs).take i), .inr rs[i].1, rfl, upd_same, ?_, ⟨_, _, rfl⟩, ?_⟩
      · have := dictOf_len ((rowsK rs).take i)
        rw [List.length_take] at this
        omega
      · rw [upd_upd, dictOf_take (rowsK rs) i hik, rowEq i hik hir]
    · have e : i = xs.length := by omega
      subst e
      refine .inl ⟨k2, ?_⟩
      rw [List.take_of_length_le (by simp; omega)]
      exact k D hD
theorem telOf {H : Hp} {a : Addr} {xs : List V} {rs : List (Str × V)} {nx : Str → Option Str} {ρ : Str → Nat} (g : GoodT H a xs rs nx ρ) : TelAt H a xs rs := ⟨g.at_, g.ps, by have := g.len; omega⟩
theorem tV_at {i : Nat} {σ : St} {H : Hp} {Q : VK} {v : V} (e : σ[i]? = some (some v)) (h : Q v H) : tV i σ H Q := by
  unfold tV
  rw [e]
  exact h
theorem putK_new {kvs : List (Key × V)} {k : Key} {v : V} (h : ∀ kv ∈ kvs, kv.1 ≠ k) : putK kvs k v = kvs ++ [(k, v)] := by
  unfold putK
  rw [if_neg]
  intro e
  rw [List.any_eq_true] at e
  obtain ⟨kv, hk, e⟩ := e
  exact h kv hk (of_decide_eq_true e)
def spRowsOf : Sp := fun vs H Q _ => ∃ (a : Addr) (xs : List V) (rows : List Rw2) (ns ws : List Str), vs = [.ref a] ∧ RT H a xs rows ns ws ∧ (∀ z ∈ ws, Wd z) ∧
  ∀ (d : Addr) (H' : Hp), H d = none → Same H H' → H' d = some (.dK (rowsE rows)) → Q (.ref d) H'
theorem ok_rows_of (T : Txt K mg w) : FnK P w K mg base 2 "rows_of" ["T"] spRowsOf := by
  have F_heads_of : FnK P w K mg base 1 "heads_of" ["T"] spHeads := ok_heads_of T
  refine T.t_rows_of.okS sc_rows_of (fun vs H Q E h => ?_) (fun f cdv A outer s H vs Q E hr h => ?_)
  · obtain ⟨a, xs, rows, ns, ws, rfl, _⟩ := h
    rfl
  · obtain ⟨a, xs, rows, ns, ws, rfl, rt, hw, k⟩ := h
    have hu := hu_of hr
    have hu0 := Nat.lt_of_succ_lt (hu_of hr)
    have hsz : sizeLine = 16777216 := sizeLine_eq
    obtain ⟨rs, g, nm, rl, hval⟩ := rt.good hw
    refine ⟨_, (sb_cons (s_set (i := 1) sc_rows_of.nd rfl (Or.inl rfl) (z_fn F_heads_of (hr.mono (by decide)) (sa_Name (zv 0) sa_nil)))
      (sb_cons (s_set (i := 2) sc_rows_of.nd rfl (Or.inl rfl) z_dnew)
      (sb_cons (s_for PassesOwn.never rfl (pi_keys (zv 1)) (g_name (i := 3) sc_rows_of.nd rfl (Or.inl rfl)) (sb_cons (s_set (i := 4) sc_rows_of.nd rfl (Or.inl rfl) (zv 3))
      (sb_cons (s_while PassesOwn.never (y_cmpR (op_eqD hu0) (z_ix (ix_K K) (z_dget hu (zv 1) (zv 4) (fun _ _ => rfl)) z_int (fun _ _ => rfl)) z_str (nomark _)) (sb_one (s_set (i := 4) sc_rows_of.nd rfl (Or.inl rfl) (z_ix (ix_K K) (z_dget hu (zv 1) (zv 4) (fun _ _ => rfl)) z_int (fun _ _ => rfl)))))
      (sb_one (s_dput hu (zv 2) (zv 3) (zv 4) rfl)))))
      (sb_one (s_ret (zv 2)))))), ?_⟩
    refine tSeq_set ⟨a, xs, rs, rfl, telOf g, fun d hd => ?_⟩
    have knd : ((rowsK rs).map (·.1)).Nodup := by
      have e : (rowsK rs).map (·.1) = (rs.map (·.1)).map (Sum.inr : Str → Key) := by simp [rowsK, List.map_map, Function.comp_def]
      rw [e]
      exact List.pairwise_map.mpr (g.nd.imp fun h e => h (Sum.inr.inj e))
    have hgl := g.len
    have ed := dictOf_nodup _ knd
    dsimp only
    have s1 : Same H (upd H d (.dK (dictOf (rowsK rs)))) := Same.upd hd _
    refine tSeq_set fun R hR => ?_
    have nRd : R ≠ d := fun e => by rw [e, upd_same] at hR; cases hR
    have hR0 : H R = none := s1.free hR
    refine tSeq_by (fun σ' H' => ∃ v3 v4 : Option V, σ' = [some (.ref a), some (.ref d), some (.ref R), v3, v4] ∧ H' R = some (.dK (rowsE rows)) ∧ Same H H') ?_ ?_
    · intro nx hnx
      refine ⟨d, dictOf (rowsK rs), rfl, .inl (by rw [upd_ne nRd.symm]; exact upd_same), fun o => ?_⟩
      refine for_by (itn_keys (dictOf (rowsK rs))) (fun i σ' H' => ∃ v3 v4 : Option V, σ' = [some (.ref a), some (.ref d), some (.ref R), v3, v4] ∧ H' d = some (.frz o (.dK (dictOf (rowsK rs)))) ∧ H' R = some (.dK ((rowsE rows).take i)) ∧ Same H H')
        ⟨none, none, rfl, upd_same, by rw [upd_ne nRd, upd_same]; rfl, (((s1.put hR0)).put hd)⟩ (by rintro i σ' H' _ ⟨_, _, _, h, _⟩; exact h) ?_ ?_
      · rintro i σ' H3 hi ⟨v3, v4, rfl, q1, q2, q3⟩
        have hir : i < rs.length := by have := dictOf_len (rowsK rs); simp at this; omega
        have hirw : i < rows.length := by omega
        have ek : keyAt (dictOf (rowsK rs)) i = .str rs[i].1 := by
          unfold keyAt
          rw [ed, List.getElem?_eq_getElem (by simpa using hir), rowEq i (by simpa using hir) hir]; rfl
        have en : rs[i].1 = rows[i].1 := by
          have : (rs.map (·.1))[i]'(by simpa using hir) = (rows.map (·.1))[i]'(by simpa using hirw) := by simp only [nm]
          simpa using this
        rw [ek]
        have hx : rs[i].1 ∈ rs.map (·.1) := List.mem_map.mpr ⟨_, List.getElem_mem hir, rfl⟩
        generalize rs[i].1 = x at en hx
        have g3 := g.ts q3.ts
        refine tSeq_set (tV_at (v := .str x) rfl ?_)
        refine tSeq_by (fun σ' H' => H' = H3 ∧ σ' = [some (.ref a), some (.ref d), some (.ref R), some (.str x), some (.str (rowEnd (nxOf rows) rs.length x))]) ?_ ?_
        · intro nx' hnx'
          refine ⟨fun m σ H' => H' = H3 ∧ ∃ y, σ = [some (.ref a), some (.ref d), some (.ref R), some (.str x), some (.str y)] ∧ y ∈ rs.map (·.1) ∧ rowEnd (nxOf rows) rs.length y = rowEnd (nxOf rows) rs.length x ∧ m = ns.idxOf y, ⟨_, rfl, x, rfl, hx, rfl, rfl⟩, ?_⟩
          rintro m σ H' ⟨rfl, y, rfl, hy, he, rfl⟩
          obtain ⟨v, hv, hval⟩ := g3.get hy
          have hdg : DGet H' d (.str y) (some v) := by
            rw [← hval]; exact DGet.rd (k := Sum.inr y) (.inr ⟨o, q1⟩)
          obtain ⟨b, rfl, hb⟩ := g3.as _ hv
          rcases hb with ⟨z, ys, h1, h2, h3⟩ | ⟨z, h1, h3⟩
          · refine ⟨d, _, rfl, hdg, _, .str z, .inr (SqT.of h1), atI_zero _ _, rfl, _, rfl, ?_⟩
            rw [Bool.false_xor, decide_eq_false (fun e => h2 (V.str.inj e))]
            refine iteF ?_
            have e2 : rowEnd (nxOf rows) rs.length y = y := stps_stay _ h3
            refine hnx' _ _ ⟨rfl, ?_⟩
            rw [← he, e2]
          · refine ⟨d, _, rfl, hdg, _, .str "as", .inr (SqT.of h1), atI_zero _ _, rfl, _, rfl, ?_⟩
            refine iteT ?_
            obtain ⟨i1, i2⟩ := g3.inn _ hv z h3
            refine ⟨fun σ' H'' => ∃ m', m' < ns.idxOf y ∧ H'' = H' ∧ ∃ y, σ' = [some (.ref a), some (.ref d), some (.ref R), some (.str x), some (.str y)] ∧ y ∈ rs.map (·.1) ∧ rowEnd (nxOf rows) rs.length y = rowEnd (nxOf rows) rs.length x ∧ m' = ns.idxOf y, fun _ _ h => h, ?_⟩
            refine ⟨d, _, rfl, hdg, _, .str z, .inr (SqT.of h1), rfl, _, i2, rfl, z, rfl, i1, ?_, rfl⟩
            rw [← he]
            exact g3.endStep hy h3
        · rintro σ' H' ⟨rfl, rfl⟩
          have hlen : ((rowsE rows).take i).length ≤ 10 := by have := rt.few; have := rt.rl; simp [rowsE]; omega
          have hput : putK ((rowsE rows).take i) (.inr x) (.str (rowEnd (nxOf rows) rs.length x)) = (rowsE rows).take (i + 1) := by
            rw [putK_new, List.take_add_one, List.getElem?_eq_getElem (by simpa [rowsE] using hirw)]
            · simp [rowsE, en, endOf, rl]
            · intro kv hkv e
              obtain ⟨j, hj, rfl⟩ := List.getElem_of_mem hkv
              have hj' : j < i := by simp at hj; omega
              rw [List.getElem_take] at e
              simp only [rowsE, List.getElem_map] at e
              have e' : rows[j].1 = rows[i].1 := by rw [← en]; exact Sum.inr.inj e
              have nd := rt.ndr
              have := List.pairwise_iff_getElem.mp nd j i (by simp; omega) (by simpa using hirw) hj'
              simp at this
              exact this e'
          refine ⟨R, _, rfl, DPut.k (k := Sum.inr x) q2 (by omega), ?_⟩
          rw [hput]
          exact ⟨_, _, rfl, by rw [upd_ne nRd.symm]; exact q1, upd_same, q3.put hR0⟩
      · rintro σ' H' ⟨v3, v4, rfl, q1, q2, q3⟩
        have e : (dictOf (rowsK rs)).length = (rowsE rows).length := by rw [ed]; simp [rowsE, rl]
        rw [e, List.take_length] at q2
        exact hnx _ _ ⟨v3, v4, rfl, q2, q3⟩
    · rintro σ' H' ⟨v3, v4, rfl, q2, q3⟩
      exact k R H' hR0 q3 q2
def spNamesH : Sp := fun vs H Q _ => ∃ (x : V) (h : Hd) (ns : List Str), vs = [x] ∧ HV H x h ∧ h.ok ns ∧ ∀ L H', H L = none → H' L = some (.lst ((nmsH h).map V.str)) → Same H H' → Q (.ref L) H'
theorem ok_names_inH (T : Txt K mg w) : FnK P w K mg base 1 "names_in" ["head"] spNamesH := by
  refine T.t_names_in.okS sc_names_in (fun vs H Q E h => ?_) (fun f cdv A outer s H vs Q E hr h => ?_)
  · obtain ⟨x, h, ns, rfl, _⟩ := h
    rfl
  · obtain ⟨x, h, ns, rfl, hv, hok, k⟩ := h
    have hsz : sizeLine = 16777216 := sizeLine_eq
    refine ⟨_, (sb_cons (s_if (y_cmpR (op_inK K) (z_ix (ix_K K) (zv 0) z_int (fun _ _ => rfl)) (z_glK K T.c_WORDED) rfl) (sb_one (s_ret (z_lc (own := ["word", "x"]) (idx := []) (N' := ["word", "x"]) (⟨rfl, by decide +kernel, by decide +kernel, (show ∀ y ∈ Scope.names _, y.2 = NameKind.free → ((defScope s_names_in).names.lookup y.1 = some NameKind.cell ∨ (defScope s_names_in).names.lookup y.1 = some NameKind.free) by decide +kernel), (show ∀ j ∈ ([] : List Nat), (Scope.names _).lookup ((["head"] : List Str).getD j "") = some NameKind.free ∧ j < (["head"] : List Str).length by decide +kernel), rfl⟩) rfl (i_K K (z_ix (ix_K K) (zv 0) z_int (fun _ _ => rfl))) (fun _ _ _ _ _ _ => (g_tup K (n := 2) rfl (gs_cons (g_name (i := 0) (show List.Nodup (["word", "x"] : List Str) by decide +kernel) rfl (Or.inl rfl)) (gs_cons (g_name (i := 1) (show List.Nodup (["word", "x"] : List Str) by decide +kernel) rfl (Or.inl rfl)) gs_nil)))) (fun _ _ _ _ _ _ => c_nil) (fun _ _ _ _ _ _ => (zv 1))))) sb_nil)
      (sb_one (s_ret (z_callTy (call_lstK K) (by rfl) T.n_list PyProof.Rows.boot_list (sa_Subscript (z_slice (sl_K K) (zv 0) (zo_some z_int) zo_none) sa_nil))))), ?_⟩
    have fin : ∀ (b : Addr) (z : Str) (ys : List Str), H b = some (.tup (.str z :: ys.map V.str)) → nmsH h = ys → ∀ D : Ends, D.rt = Q → tRet (tCB (rLstOf K) (tCons (tSl (fun x lo hi H Q => rSlS x lo hi H Q ∨ rSlL K x lo hi H Q ∨ rSlT K x lo hi H Q) (tV 0) (tPart (tC (V.int 1))) tNoPart) tNil)) D [some (.ref b)] H := by
      intro b z ys e en D hD
      refine ⟨1, rfl, Or.inr (Or.inr ⟨b, _, rfl, SqT.of e, ?_, fun p1 hp1 => ⟨p1, _, rfl, .inr (SqT.of upd_same), fun L hL => ?_⟩⟩)⟩
      · intro ⟨h1, _⟩
        have : HT.sIx (V.str z :: ys.map V.str).length 0 (some ((1 : Nat) : Int)) = 0 := h1
        rw [HT.sIx_nat] at this
        simp at this
      · have s1 := (Same.upd hp1 (.tup (cutV (V.str z :: ys.map V.str) (some 1) none))).trans (Same.upd hL (.lst (cutV (V.str z :: ys.map V.str) (some 1) none)))
        rw [hD]
        refine k L _ ((Same.upd hp1 _).free hL) ?_ s1
        rw [upd_same]
        have ec : cutV (V.str z :: ys.map V.str) (some 1) none = ys.map V.str := by
          have := cut_from (V.str z :: ys.map V.str) 1
          exact this
        rw [ec, en]
    have notw : ∀ (b : Addr) (z : Str) (ys : List Str), H b = some (.tup (.str z :: ys.map V.str)) → (z == "box") = false → (z == "pick") = false → nmsH h = ys → tSeq (tIfS (tTest (tOp (rInD K false) (tOp (rIxD K) (tV 0) (tC (V.int 0))) (tGlT K [V.str "box", V.str "pick"]))) (tRet (tLC ["word", "x"] [] (iD K (tOp (rIxD K) (tV 0) (tC (V.int 1)))) (gTup K 2 (gCons (gName 0) (gCons (gName 1) gNil))) tcNil (tV 1))) tNext) (tRet (tCB (rLstOf K) (tCons (tSl (fun x lo hi H Q => rSlS x lo hi H Q ∨ rSlL K x lo hi H Q ∨ rSlT K x lo hi H Q) (tV 0) (tPart (tC (V.int 1))) tNoPart) tNil))) { nx := fun x H' => Q V.non H', rt := Q } [some (.ref b)] H := fun b z ys e n1 n2 en => by
      refine ⟨_, .str z, .inr (SqT.of e), atI_zero _ _, ?_⟩
      intro aW hW
      refine ⟨_, .inr hW, rfl, rfl, _, rfl, ?_⟩
      have ew : (false ^^ inV (.str z) [V.str "box", V.str "pick"]) = false := by
        rw [Bool.false_xor, show ([V.str "box", V.str "pick"] : List V) = (["box", "pick"] : List Str).map V.str from rfl, inV_strs]
        refine decide_eq_false fun hm => ?_
        simp only [List.mem_cons, List.mem_nil_iff, or_false] at hm
        rcases hm with rfl | rfl
        · simp at n1
        · simp at n2
      rw [ew]
      exact iteF (fin b z ys e en _ rfl)
    cases hv with
    | @one b s e => exact notw b s [] e (by rcases hok with rfl | rfl <;> decide +kernel) (by rcases hok with rfl | rfl <;> decide +kernel) rfl
    | @as b y e => exact notw b "as" [y] e (by decide +kernel) (by decide +kernel) rfl
    | @way b y z e => exact notw b "way" [y, z] e (by decide +kernel) (by decide +kernel) rfl
    | @prs b c s ys ps e ec hp =>
      refine ⟨_, .str s, .inr (SqT.of e), atI_zero _ _, ?_⟩
      intro aW hW
      refine ⟨_, .inr hW, rfl, rfl, _, rfl, ?_⟩
      have ew : (false ^^ inV (.str s) [V.str "box", V.str "pick"]) = true := by
        rw [Bool.false_xor, show ([V.str "box", V.str "pick"] : List V) = (["box", "pick"] : List Str).map V.str from rfl, inV_strs]
        refine decide_eq_true ?_
        rcases hok.1 with rfl | rfl <;> simp
      rw [ew]
      refine iteT ?_
      have hpl := hp.len
      have h10 := hok.2.2.2
      refine ⟨_, .ref c, .inr (SqT.of e), rfl, Or.inr ⟨⟨ys, SqT.of ec⟩, fun D hD => ?_⟩⟩
      refine lc_by (itn_tup ys) (fun i τ H3 => H3 D = some (.lst (((ps.take i).map (·.2)).map V.str)) ∧ Same H H3 ∧ ∃ v1 v2, τ = [v1, v2]) ⟨upd_same, Same.upd hD _, none, none, rfl⟩ (fun i τ H3 _ h => SqT.of (h.2.1 _ _ ec)) ?_ ?_
      · rintro i τ H3 hi ⟨q1, q2, v1, v2, rfl⟩
        have hip : i < ps.length := by omega
        obtain ⟨d, e1, e2⟩ := hp.at_ i hi hip
        have eg : ys.getD i .non = .ref d := by rw [List.getD_eq_getElem?_getD, List.getElem?_eq_getElem hi, e1]; rfl
        rw [eg]
        refine g2_at (q2 _ _ e2) ?_
        refine ⟨_, q1, by simp; omega, ?_, (q2.put hD), _, _, rfl⟩
        rw [upd_same, List.take_add_one, List.getElem?_eq_getElem hip, List.map_append, List.map_append]
        rfl
      · rintro τ H3 ⟨q1, q2, v1, v2, rfl⟩
        rw [hpl, List.take_length] at q1
        exact k D H3 hD q1 q2
def wdOf (s : Str) : Str := if s = "box" then "part" else "case"
def spStepsIn (mg : Str → Option Value) : Sp := fun vs H Q _ => ∃ (x : V) (h : Hd) (ns : List Str), vs = [x] ∧ HV H x h ∧ h.ok ns ∧ Kn mg H "FROM" [.str "from"] ∧ Kn mg H "TO" [.str "to"] ∧
  ∀ (L : Addr) (us : List V) (H' : Hp), H L = none → H' L = some (.lst us) → SV H' us (h.mvs.map (·.1)) → Same H H' → Q (.ref L) H'
theorem ok_steps_in (T : Txt K mg w) : FnK P w K mg base 1 "steps_in" ["head"] (spStepsIn mg) := by
  refine T.t_steps_in.okS sc_steps_in (fun vs H Q E h => ?_) (fun f cdv A outer s H vs Q E hr h => ?_)
  · obtain ⟨x, h, ns, rfl, _⟩ := h
    rfl
  · obtain ⟨x, h, ns, rfl, hv, hok, kf, kt, k⟩ := h
    have hu0 := Nat.lt_of_succ_lt (hu_of hr)
    have hsz : sizeLine = 16777216 := sizeLine_eq
    refine ⟨_, (sb_cons (s_if (y_cmpR (op_eqD hu0) (z_ix (ix_K K) (zv 0) z_int (fun _ _ => rfl)) z_str (nomark _)) (sb_one (s_ret (z_lst (sa_Name (z_gl T.c_FROM) (sa_Name (z_gl T.c_TO) sa_nil))))) sb_nil)
      (sb_cons (s_if (y_kin T.c_STEP_WORDS (z_ix (ix_K K) (zv 0) z_int (fun _ _ => rfl))) (sb_one (s_ret (z_lc (own := ["word", "x"]) (idx := [0]) (N' := ["word", "x", "head"]) (⟨rfl, by decide +kernel, by decide +kernel, (show ∀ y ∈ Scope.names _, y.2 = NameKind.free → ((defScope s_steps_in).names.lookup y.1 = some NameKind.cell ∨ (defScope s_steps_in).names.lookup y.1 = some NameKind.free) by decide +kernel), (show ∀ j ∈ ([0] : List Nat), (Scope.names _).lookup ((["head"] : List Str).getD j "") = some NameKind.free ∧ j < (["head"] : List Str).length by decide +kernel), rfl⟩) rfl (i_K K (z_ix (ix_K K) (zv 0) z_int (fun _ _ => rfl))) (fun _ _ _ _ _ _ => (g_tup K (n := 2) rfl (gs_cons (g_name (i := 0) (show List.Nodup (["word", "x", "head"] : List Str) by decide +kernel) rfl (Or.inl rfl)) (gs_cons (g_name (i := 1) (show List.Nodup (["word", "x", "head"] : List Str) by decide +kernel) rfl (Or.inl rfl)) gs_nil)))) (fun _ _ _ _ _ _ => c_nil) (fun _ _ _ _ _ _ => (z_tup (sa_Subscript (z_kget T.c_STEP_WORDS (z_ix (ix_K K) (zv 2) z_int (fun _ _ => rfl)) (fun _ _ => rfl)) (sa_Name (zv 0) sa_nil))))))) sb_nil)
      (sb_one (s_ret (z_lst sa_nil))))), ?_⟩
    cases hv with
    | @one b s e =>
      refine ⟨_, .str s, .inr (SqT.of e), atI_zero _ _, rfl, _, rfl, iteB (fun c => ?_) (fun _ => ⟨_, .str s, .inr (SqT.of e), atI_zero _ _, Sum.inr s, rfl, _, rfl, iteB (fun c => ?_) (fun _ => ⟨(show 0 ≤ sizeLine by decide), fun L hL => k L [] _ hL upd_same SV.nil (Same.upd hL _)⟩)⟩)⟩
      · rw [Bool.false_xor, decV_str] at c
        rcases hok with rfl | rfl <;> exact absurd c (by decide +kernel)
      · rcases hok with rfl | rfl <;> exact absurd c (by decide +kernel)
    | @as b y e =>
      refine ⟨_, .str "as", .inr (SqT.of e), atI_zero _ _, rfl, _, rfl, iteB (fun c => ?_) (fun _ => ⟨_, .str "as", .inr (SqT.of e), atI_zero _ _, Sum.inr "as", rfl, _, rfl, iteB (fun c => ?_) (fun _ => ⟨(show 0 ≤ sizeLine by decide), fun L hL => k L [] _ hL upd_same SV.nil (Same.upd hL _)⟩)⟩)⟩
      · rw [Bool.false_xor, decV_str] at c
        exact absurd c (by decide +kernel)
      · exact absurd c (by decide +kernel)
    | @way b y z e =>
      refine ⟨_, .str "way", .inr (SqT.of e), atI_zero _ _, rfl, _, rfl, iteB (fun _ => ?_) (fun c => absurd c (by simp))⟩
      refine ⟨(show 2 ≤ sizeLine by decide), fun L hL => k L _ _ hL upd_same ?_ (Same.upd hL _)⟩
      exact (SV.nil.snoc (m := ["from"]) (kf.same (Same.upd hL _)).rd).snoc (m := ["to"]) (kt.same (Same.upd hL _)).rd
    | @prs b c s ys ps e ec hp =>
      have hpl := hp.len
      have h10 := hok.2.2.2
      obtain ⟨n1, n2, n3⟩ : (s == "way") = false ∧ (valV [((Sum.inr "box" : Key), V.str "part"), (Sum.inr "pick", V.str "case")] (Sum.inr s)).isSome = true ∧ valV [((Sum.inr "box" : Key), V.str "part"), (Sum.inr "pick", V.str "case")] (Sum.inr s) = some (.str (wdOf s)) := by
        rcases hok.1 with rfl | rfl <;> exact ⟨by decide +kernel, by decide +kernel, by decide +kernel⟩
      refine ⟨_, .str s, .inr (SqT.of e), atI_zero _ _, rfl, _, rfl, iteB (fun c => ?_) (fun _ => ⟨_, .str s, .inr (SqT.of e), atI_zero _ _, Sum.inr s, rfl, _, rfl, iteB (fun _ => ?_) (fun c => ?_)⟩)⟩
      · rw [Bool.false_xor, decV_str, n1] at c; cases c
      · refine ⟨_, .ref c, .inr (SqT.of e), rfl, Or.inr ⟨⟨ys, SqT.of ec⟩, fun D hD => ?_⟩⟩
        refine lc_by (itn_tup ys) (fun i τ H3 => ∃ (v0 v1 : Option V) (zs : List V), τ = [v0, v1, some (.ref b)] ∧ H3 D = some (.lst zs) ∧ SV H3 zs ((ps.take i).map fun p => [wdOf s, p.1]) ∧ Same H H3) ⟨none, none, [], rfl, upd_same, SV.nil, Same.upd hD _⟩ (by rintro i τ H3 _ ⟨_, _, _, _, _, _, s⟩; exact SqT.of (s _ _ ec)) ?_ ?_
        · rintro i τ H3 hi ⟨v0, v1, zs, rfl, q1, q2, q3⟩
          have hip : i < ps.length := by omega
          obtain ⟨d, r1, r2⟩ := hp.at_ i hi hip
          have eg : ys.getD i .non = .ref d := by rw [List.getD_eq_getElem?_getD, List.getElem?_eq_getElem hi, r1]; rfl
          rw [eg]
          refine g2_at (q3 _ _ r2) ?_
          have hzl : zs.length = i := by have := q2.len; simp at this; omega
          refine ⟨_, .str s, .inr (SqT.of (q3 _ _ e)), atI_zero _ _, Sum.inr s, _, rfl, n3, (show 2 ≤ sizeLine by decide), fun c1 h1 => ?_⟩
          have t1 := Same.upd h1 (.tup [.str (wdOf s), .str ps[i].1])
          have g1 : upd H3 c1 (.tup [.str (wdOf s), .str ps[i].1]) c1 = some (.tup [.str (wdOf s), .str ps[i].1]) := upd_same
          dsimp only
          generalize upd H3 c1 (.tup [.str (wdOf s), .str ps[i].1]) = H5 at t1 g1
          have gD := t1 _ _ q1
          have kp : ∀ b ys, RdT H5 b ys → RdT (upd H5 D (.lst (zs ++ [.ref c1]))) b ys := fun b ys r => r.upd fun u hu z => by
            subst z
            rcases r with r | ⟨_, r⟩ <;> (rw [gD] at r; cases r)
          refine ⟨zs, gD, by omega, _, _, zs ++ [.ref c1], rfl, upd_same, ?_, (q3.trans t1).put hD⟩
          have et : (ps.take (i + 1)).map (fun p => ([wdOf s, p.1] : List Str)) = (ps.take i).map (fun p => ([wdOf s, p.1] : List Str)) ++ [[wdOf s, ps[i].1]] := by
            rw [List.take_add_one, List.getElem?_eq_getElem hip, List.map_append]; rfl
          rw [et]
          exact ((q2.keep fun b ys r => r.same t1).keep kp).snoc (m := [wdOf s, ps[i].1]) (kp _ _ (.inl g1))
        · rintro τ H3 ⟨v0, v1, zs, rfl, q1, q2, q3⟩
          rw [hpl, List.take_length] at q2
          refine k D zs H3 hD q1 ?_ q3
          have em : (Hd.prs s ps).mvs.map (·.1) = ps.map fun p => ([wdOf s, p.1] : List Str) := by
            simp [Hd.mvs, wdOf, List.map_map, Function.comp_def]
          rw [em]
          exact q2
      · rw [n2] at c; cases c
def spMovesIn (mg : Str → Option Value) : Sp := fun vs H Q _ => ∃ (x : V) (h : Hd) (ns : List Str) (rows : List Rw2) (d : Addr), vs = [x, .ref d] ∧ HV H x h ∧ h.ok ns ∧ Kn mg H "FROM" [.str "from"] ∧ Kn mg H "TO" [.str "to"] ∧ Rd H d (.dK (rowsE rows)) ∧ (∀ z ∈ ns, z ∈ rows.map (·.1)) ∧ (rows.map (·.1)).Nodup ∧
  ∀ (m : Addr) (H' : Hp), H m = none → H' m = some (.dT (movesE rows h)) → Same H H' → Q (.ref m) H'
theorem ok_moves_in (T : Txt K mg w) : FnK P w K mg base 2 "moves_in" ["head", "rows"] (spMovesIn mg) := by
  have F_steps_in : FnK P w K mg base 1 "steps_in" ["head"] (spStepsIn mg) := ok_steps_in T
  have F_names_in : FnK P w K mg base 1 "names_in" ["head"] spNamesH := ok_names_inH T
  refine T.t_moves_in.okS sc_moves_in (fun vs H Q E h => ?_) (fun f cdv A outer s H vs Q E hr h => ?_)
  · obtain ⟨x, h, ns, rows, d, rfl, _⟩ := h
    rfl
  · obtain ⟨x, h, ns, rows, d, rfl, hv, hok, kf, kt, hd, hin, nd, k⟩ := h
    have hu := hu_of hr
    have hu0 := Nat.lt_of_succ_lt (hu_of hr)
    have hsz : sizeLine = 16777216 := sizeLine_eq
    have few := mvs_few hok
    refine ⟨_, (sb_one (s_ret (z_dcT (own := ["step", "x"]) (idx := [1]) (N' := ["step", "x", "rows"]) (⟨rfl, by decide +kernel, by decide +kernel, (show ∀ y ∈ Scope.names _, y.2 = NameKind.free → ((defScope s_moves_in).names.lookup y.1 = some NameKind.cell ∨ (defScope s_moves_in).names.lookup y.1 = some NameKind.free) by decide +kernel), (show ∀ j ∈ ([1] : List Nat), (Scope.names _).lookup ((["head", "rows"] : List Str).getD j "") = some NameKind.free ∧ j < (["head", "rows"] : List Str).length by decide +kernel), rfl⟩) rfl hu0 (pi_zipK K (by rfl) T.n_zip (sa_Call (z_fn F_steps_in (hr.mono (by decide)) (sa_Name (zv 0) sa_nil)) (sa_Call (z_fn F_names_in (hr.mono (by decide)) (sa_Name (zv 0) sa_nil)) sa_nil))) (fun _ _ _ _ _ _ => (g_tup K (n := 2) rfl (gs_cons (g_name (i := 0) (show List.Nodup (["step", "x", "rows"] : List Str) by decide +kernel) rfl (Or.inl rfl)) (gs_cons (g_name (i := 1) (show List.Nodup (["step", "x", "rows"] : List Str) by decide +kernel) rfl (Or.inl rfl)) gs_nil)))) (fun _ _ _ _ _ _ => c_nil) (fun _ _ _ _ _ _ => (zv 0)) (fun _ _ _ _ _ _ => (z_dget hu (zv 2) (zv 1) (fun _ _ => rfl)))))), ?_⟩
    refine ⟨x, h, ns, rfl, hv, hok, kf, kt, fun L us H1 hL eL sv s1 => ⟨x, h, ns, rfl, hv.tk s1.ts, hok, fun M H2 hM eM s2 => ?_⟩⟩
    have hlu := sv.len
    rw [List.length_map] at hlu
    refine ⟨L, M, us, (nmsH h).map V.str, rfl, SqL.of (s2 _ _ eL), SqL.of eM, fun D hD => ?_⟩
    have hD0 : H D = none := (s1.trans s2).free hD
    have mn : min us.length ((nmsH h).map V.str).length = h.mvs.length := by have := nms_le (h := h); simp; omega
    have mnd := movesE_nodup (rows := rows) (mvs_nd hok)
    have ml : (movesE rows h).length = h.mvs.length := by simp [movesE]
    refine dcT_pair (itp_zip us ((nmsH h).map V.str)) (fun i τ H3 => ∃ v0 v1 : Option V, τ = [v0, v1, some (.ref d)] ∧ H3 D = some (.dT ((movesE rows h).take i)) ∧ Same H2 H3 ) ⟨none, none, rfl, upd_same, Same.upd hD _⟩ (by rintro i τ H3 _ ⟨_, _, _, _, s⟩; exact ⟨SqL.of (s _ _ (s2 _ _ eL)), SqL.of (s _ _ eM)⟩) ?_ ?_
    · rintro i τ H3 T hi ⟨v0, v1, rfl, q1, q2⟩ hT
      rw [mn] at hi
      have hiu : i < us.length := by omega
      obtain ⟨b, e1, e2⟩ := sv.at_ i hiu (by simpa using hi)
      have g1 : us.getD i .non = .ref b := by rw [List.getD_eq_getElem?_getD, List.getElem?_eq_getElem hiu, e1]; rfl
      have g2' : ((nmsH h).map V.str).getD i .non = .str h.mvs[i].2 := by rw [List.getD_eq_getElem?_getD, List.getElem?_map, mvs_nms i hi]; rfl
      rw [g1, g2']
      have t1 := Same.upd hT (.tup [.ref b, .str h.mvs[i].2])
      generalize upd H3 T (.tup [.ref b, .str h.mvs[i].2]) = H5 at t1
      have hz : h.mvs[i].2 ∈ ns := mvs_in hok _ (List.getElem_mem hi)
      have hd5 : Rd H5 d (.dK (rowsE rows)) := hd.same (((s1.trans s2).trans q2).trans t1)
      refine ⟨d, .str (endOf rows h.mvs[i].2), rfl, by rw [← rowsE_get nd (hin _ hz)]; exact DGet.rd (k := Sum.inr h.mvs[i].2) hd5, ?_⟩
      have er : RdT H5 b (h.mvs[i].1.map V.str) := by
        have := (e2.same ((s2.trans q2).trans t1))
        simpa using this
      have hil : i < (movesE rows h).length := by omega
      have em : (movesE rows h)[i] = (h.mvs[i].1.map Sum.inr, .str (endOf rows h.mvs[i].2)) := by simp [movesE]
      refine ⟨(movesE rows h).take i, (movesE rows h)[i].1, b, rfl, by rw [em, kstr]; exact er, t1 _ _ q1, by simp; omega, _, _, rfl, ?_, ?_⟩
      · have := putK_at mnd hil
        rw [em] at this ⊢
        rw [this]
        exact upd_same
      · exact (q2.trans t1).put hD
    · rintro τ H3 ⟨v0, v1, rfl, q1, q2⟩
      rw [mn, ← ml, List.take_length] at q1
      exact k D H3 hD0 q1 ((s1.trans s2).trans q2)
def spNet (mg : Str → Option Value) : Sp := fun vs H Q _ => ∃ (x dx a : Addr) (xs : List V) (rows : List Rw2) (ns ws : List Str), vs = [.ref x, .ref a] ∧ H x = some (.ins (adr mg "Net") dx []) ∧ RT H a xs rows ns ws ∧ (∀ z ∈ ws, Wd z) ∧ Kn mg H "FROM" [.str "from"] ∧ Kn mg H "TO" [.str "to"] ∧
  ∀ H', NetAt H' (adr mg "Net") x rows → Sx x H H' → Q .non H'
theorem lenF {f g : Str} {u v : V} (n : Nat) : (putF f u (putF g v [])).length < 1000 := by
  have h1 := length_putF f u (putF g v [])
  have h2 := length_putF g v []
  simp at h2
  omega
theorem tLast_fld {K : PySem.W.Frag} {ta tv : TE} {f : Str} {D : Ends} {σ : St} {H : Hp} (h : tv σ H fun y H1 => ta σ H1 fun x H2 => ∃ a C dx fs, x = .ref a ∧ H2 a = some (.ins C dx fs) ∧ Cls K C ∧ NoAttr K C f ∧ fs.length < 1000 ∧ D.nx σ (upd H2 a (.ins C dx (putF f y fs)))) : sFld K ta tv f D σ H := h
set_option maxHeartbeats 1000000 in
theorem ok_Net (T : Txt K mg w) : ClK P w K mg base 4 "Net" (adr mg "Net") ["self", "T"] (spNet mg) := by
  have F_rows_of : FnK P w K mg base 2 "rows_of" ["T"] spRowsOf := ok_rows_of T
  have F_steps_in : FnK P w K mg base 1 "steps_in" ["head"] (spStepsIn mg) := ok_steps_in T
  have F_moves_in : FnK P w K mg base 2 "moves_in" ["head", "rows"] (spMovesIn mg) := ok_moves_in T
  have cl := T.k_Net.2.1
  have na := T.k_Net.2.2.1
  refine T.k_Net.okS sc_Net_init (fun vs H Q E h => ?_) (fun f cdv A outer s H vs Q E hr h => ?_)
  · obtain ⟨x, dx, a, xs, rows, ns, ws, rfl, _⟩ := h
    rfl
  · obtain ⟨x, dx, a, xs, rows, ns, ws, rfl, hx, rt, hw, kf, kt, k⟩ := h
    have hu := hu_of hr
    have hu0 := Nat.lt_of_succ_lt (hu_of hr)
    have hsz : sizeLine = 16777216 := sizeLine_eq
    have ndr := rt.ndr
    have hrl := rt.rl
    have few := rt.few
    have nonL : (nonAs rows).length ≤ 10 := by have := List.length_filter_le (fun r : Rw2 => r.2.nx.isNone) rows; unfold nonAs; omega
    have ndn : ((nonAs rows).map (·.1)).Nodup := (ndr.sublist (List.filter_sublist.map _))
    refine ⟨_, (sb_cons (s_fld K (zv 0) (z_frz (z_fn F_rows_of (hr.mono (by decide)) (sa_Name (zv 1) sa_nil))))
      (sb_cons (s_fld K (zv 0) (z_frz (z_dc (own := ["name", "head"]) (idx := []) (N' := ["name", "head"]) (⟨rfl, by decide +kernel, by decide +kernel, (show ∀ y ∈ Scope.names _, y.2 = NameKind.free → ((defScope s_Net_init).names.lookup y.1 = some NameKind.cell ∨ (defScope s_Net_init).names.lookup y.1 = some NameKind.free) by decide +kernel), (show ∀ j ∈ ([] : List Nat), (Scope.names _).lookup ((["self", "T"] : List Str).getD j "") = some NameKind.free ∧ j < (["self", "T"] : List Str).length by decide +kernel), rfl⟩) rfl (i_K K (zv 1)) (fun _ _ _ _ _ _ => (g_tup K (n := 2) rfl (gs_cons (g_name (i := 0) (show List.Nodup (["name", "head"] : List Str) by decide +kernel) rfl (Or.inl rfl)) (gs_cons (g_name (i := 1) (show List.Nodup (["name", "head"] : List Str) by decide +kernel) rfl (Or.inl rfl)) gs_nil)))) (fun _ _ _ _ _ _ => (c_one (y_cmpR (op_neD hu0) (z_ix (ix_K K) (zv 1) z_int (fun _ _ => rfl)) z_str (nomark _)))) (fun _ _ _ _ _ _ => (zv 0)) (fun _ _ _ _ _ _ => (zv 1)))))
      (sb_cons (s_fld K (zv 0) (z_frz (z_dc (own := ["row", "head"]) (idx := []) (N' := ["row", "head"]) (⟨rfl, by decide +kernel, by decide +kernel, (show ∀ y ∈ Scope.names _, y.2 = NameKind.free → ((defScope s_Net_init).names.lookup y.1 = some NameKind.cell ∨ (defScope s_Net_init).names.lookup y.1 = some NameKind.free) by decide +kernel), (show ∀ j ∈ ([] : List Nat), (Scope.names _).lookup ((["self", "T"] : List Str).getD j "") = some NameKind.free ∧ j < (["self", "T"] : List Str).length by decide +kernel), rfl⟩) rfl (pi_items (z_fld K (zv 0))) (fun _ _ _ _ _ _ => (g_tup K (n := 2) rfl (gs_cons (g_name (i := 0) (show List.Nodup (["row", "head"] : List Str) by decide +kernel) rfl (Or.inl rfl)) (gs_cons (g_name (i := 1) (show List.Nodup (["row", "head"] : List Str) by decide +kernel) rfl (Or.inl rfl)) gs_nil)))) (fun _ _ _ _ _ _ => c_nil) (fun _ _ _ _ _ _ => (zv 0)) (fun _ _ _ _ _ _ => (z_tup (sa_Subscript (z_ix (ix_K K) (zv 1) z_int (fun _ _ => rfl)) (sa_Call (z_callTy (call_tupK K) (by rfl) T.n_tuple PyProof.Rows.boot_tuple (sa_Call (z_fn F_steps_in (hr.mono (by decide)) (sa_Name (zv 1) sa_nil)) sa_nil)) sa_nil)))))))
      (sb_one (s_fld K (zv 0) (z_frz (z_dc (own := ["row", "head"]) (idx := [0]) (N' := ["row", "head", "self"]) (⟨rfl, by decide +kernel, by decide +kernel, (show ∀ y ∈ Scope.names _, y.2 = NameKind.free → ((defScope s_Net_init).names.lookup y.1 = some NameKind.cell ∨ (defScope s_Net_init).names.lookup y.1 = some NameKind.free) by decide +kernel), (show ∀ j ∈ ([0] : List Nat), (Scope.names _).lookup ((["self", "T"] : List Str).getD j "") = some NameKind.free ∧ j < (["self", "T"] : List Str).length by decide +kernel), rfl⟩) rfl (pi_items (z_fld K (zv 0))) (fun _ _ _ _ _ _ => (g_tup K (n := 2) rfl (gs_cons (g_name (i := 0) (show List.Nodup (["row", "head", "self"] : List Str) by decide +kernel) rfl (Or.inl rfl)) (gs_cons (g_name (i := 1) (show List.Nodup (["row", "head", "self"] : List Str) by decide +kernel) rfl (Or.inl rfl)) gs_nil)))) (fun _ _ _ _ _ _ => c_nil) (fun _ _ _ _ _ _ => (zv 0)) (fun _ _ _ _ _ _ => (z_frz (z_fn F_moves_in (hr.mono (by decide)) (sa_Name (zv 1) (sa_Attribute (z_fld K (zv 2)) sa_nil)))))))))))), ?_⟩
    generalize hC : adr mg "Net" = C at *
    refine tSeq_fld ⟨a, xs, rows, ns, ws, rfl, rt, hw, fun d1 H1 hd1 s1 e1 => ⟨d1, rfl, .inl ⟨_, .inl e1, fun o1 => ?_⟩⟩⟩
    have nx1 : d1 ≠ x := fun z => by rw [z, hx] at hd1; cases hd1
    refine ⟨x, C, dx, [], rfl, by rw [upd_ne nx1.symm]; exact s1 _ _ hx, cl, na "rows" (by simp), by simp, ?_⟩
    have sx1 : Sx x H (upd (upd H1 d1 (.frz o1 (.dK (rowsE rows)))) x (.ins C dx (putF "rows" (.ref d1) []))) := ((s1.put hd1).sx).trans Sx.upd
    have g1 : upd (upd H1 d1 (.frz o1 (.dK (rowsE rows)))) x (.ins C dx (putF "rows" (.ref d1) [])) d1 = some (.frz o1 (.dK (rowsE rows))) := by rw [upd_ne nx1]; exact upd_same
    have gx : upd (upd H1 d1 (.frz o1 (.dK (rowsE rows)))) x (.ins C dx (putF "rows" (.ref d1) [])) x = some (.ins C dx (putF "rows" (.ref d1) [])) := upd_same
    generalize upd (upd H1 d1 (.frz o1 (.dK (rowsE rows)))) x (.ins C dx (putF "rows" (.ref d1) [])) = H2 at sx1 g1 gx ⊢
    have nt : ∀ ys, H x ≠ some (.tup ys) := fun ys z => by rw [hx] at z; cases z
    have nf : ∀ q u, H x ≠ some (.frz q u) := fun q u z => by rw [hx] at z; cases z
    have rt2 := rt.tk (sx1.tk nt)
    clear e1 s1 hd1 H1
    -- heads
    refine tSeq_fld (Or.inr ⟨⟨xs, SqT.of rt2.at_⟩, fun D hD => ?_⟩)
    have nDx : D ≠ x := fun z => by rw [z, gx] at hD; cases hD
    refine dc_by (itn_tup xs) (fun i τ H3 => ∃ (v0 v1 : Option V) (kvs : List (Key × V)), τ = [v0, v1] ∧ H3 D = some (.dK kvs) ∧ DV RH H3 kvs (nonAs (rows.take i)) ∧ Same H2 H3) ⟨none, none, [], rfl, upd_same, DV.nil, Same.upd hD _⟩ (by rintro i τ H3 _ ⟨_, _, _, _, _, _, s⟩; exact SqT.of (s _ _ rt2.at_)) ?_ ?_
    · rintro i τ H3 hi ⟨v0, v1, kvs, rfl, q1, q2, q3⟩
      have hir : i < rows.length := by have := rt2.rv.len; omega
      obtain ⟨b, v, r1, r2, r3⟩ := rt2.rv.at_ i hi hir
      have eg : xs.getD i .non = .ref b := by rw [List.getD_eq_getElem?_getD, List.getElem?_eq_getElem hi, r1]; rfl
      rw [eg]
      refine g2_at (q3 _ _ r2) ?_
      have r3' := r3.same q3
      obtain ⟨c, ys, rfl, hc⟩ := r3'.srt
      have hok := (rt2.ok rows[i] (List.getElem_mem hir)).2
      have et : rows.take (i + 1) = rows.take i ++ [rows[i]] := by rw [List.take_add_one, List.getElem?_eq_getElem hir]; rfl
      have kl : kvs.length < sizeLine := by
        have h1 := q2.len
        have h2 := List.length_filter_le (fun r : Rw2 => r.2.nx.isNone) (rows.take i)
        unfold nonAs at h1
        simp at h2
        omega
      refine ⟨_, .str rows[i].2.srt, .inr (SqT.of hc), atI_zero _ _, rfl, _, rfl, iteB (fun c1 => ?_) (fun c1 => ?_)⟩
      · have hn : rows[i].2.nx.isNone = true := by
          cases e : rows[i].2.nx.isNone with
          | true => rfl
          | false =>
            have := (srt_as hok).symm ▸ e
            rw [this] at c1
            simp at c1
        have en : nonAs (rows.take (i + 1)) = nonAs (rows.take i) ++ [rows[i]] := by
          rw [et]; unfold nonAs; rw [List.filter_append, List.filter_cons, if_pos hn]; rfl
        have hnot : rows[i].1 ∉ (nonAs (rows.take i)).map (·.1) := fun hm => by
          obtain ⟨r, hr, e⟩ := List.mem_map.mp hm
          have hr' := (List.mem_filter.mp hr).1
          obtain ⟨j, hj, rfl⟩ := List.getElem_of_mem hr'
          have hj' : j < i := by simp at hj; omega
          rw [List.getElem_take] at e
          have := List.pairwise_iff_getElem.mp ndr j i (by simp; omega) (by simpa using hir) hj'
          simp only [List.getElem_map] at this
          exact this e
        refine ⟨kvs, .inr rows[i].1, rfl, q1, kl, _, _, kvs ++ [(.inr rows[i].1, .ref c)], rfl, ?_, ?_, q3.put hD⟩
        · rw [q2.put hnot]; exact upd_same
        · rw [en]
          exact (q2.snoc (show RH H3 (.ref c) rows[i] from r3')).keep fun v r h => HV.tk ((Tk.refl).set q1 fun xs z => nomatch z) h
      · have hn : rows[i].2.nx.isNone = false := by
          have e : rows[i].2.srt = "as" := by
            have : decide (V.str rows[i].2.srt = V.str "as") = true := by simpa using c1
            exact V.str.inj (of_decide_eq_true this)
          exact (srt_as hok) ▸ e
        have en : nonAs (rows.take (i + 1)) = nonAs (rows.take i) := by
          rw [et]; unfold nonAs; rw [List.filter_append, List.filter_cons, if_neg (by rw [hn]; decide)]; simp
        exact ⟨_, _, kvs, rfl, q1, by rw [en]; exact q2, q3⟩
    · rintro τ H3 ⟨v0, v1, k2, rfl, q1, q2, q3⟩
      rw [rt2.rv.len, List.take_length] at q2
      refine ⟨D, rfl, .inl ⟨k2, .inl q1, fun o2 => ?_⟩⟩
      refine ⟨x, C, dx, _, rfl, by rw [upd_ne nDx.symm]; exact q3 _ _ gx, cl, na "heads" (by simp), by simp [putF], ?_⟩
      have nd1 : d1 ≠ D := fun z => by rw [z, hD] at g1; cases g1
      have sx2 : Sx x H2 (upd (upd H3 D (.frz o2 (.dK k2))) x (.ins C dx (putF "heads" (.ref D) (putF "rows" (.ref d1) [])))) := ((q3.put hD : Same _ _) |> Same.sx).trans Sx.upd
      have g2 : upd (upd H3 D (.frz o2 (.dK k2))) x (.ins C dx (putF "heads" (.ref D) (putF "rows" (.ref d1) []))) D = some (.frz o2 (.dK k2)) := by rw [upd_ne nDx]; exact upd_same
      have gx2 : upd (upd H3 D (.frz o2 (.dK k2))) x (.ins C dx (putF "heads" (.ref D) (putF "rows" (.ref d1) []))) x = some (.ins C dx (putF "heads" (.ref D) (putF "rows" (.ref d1) []))) := upd_same
      have dv2 : DV RH (upd (upd H3 D (.frz o2 (.dK k2))) x (.ins C dx (putF "heads" (.ref D) (putF "rows" (.ref d1) [])))) k2 (nonAs rows) := q2.keep fun v r h => HV.tk (((Tk.refl).set q1 fun xs z => nomatch z).set (by rw [upd_ne nDx.symm]; exact q3 _ _ gx) fun xs z => by cases z) h
      generalize upd (upd H3 D (.frz o2 (.dK k2))) x (.ins C dx (putF "heads" (.ref D) (putF "rows" (.ref d1) []))) = H4 at sx2 g2 gx2 dv2 ⊢
      have g1' : H4 d1 = some (.frz o1 (.dK (rowsE rows))) := sx2 _ _ nx1 g1
      have sx3 := sx1.trans sx2
      have kf4 : Kn mg H4 "FROM" [.str "from"] := let ⟨o, e⟩ := kf; ⟨o, sx3.frz nf e⟩
      have kt4 : Kn mg H4 "TO" [.str "to"] := let ⟨o, e⟩ := kt; ⟨o, sx3.frz nf e⟩
      have k2l := dv2.len
      have nonOk : ∀ i (h : i < (nonAs rows).length), ((nonAs rows)[i]).2.ok ns := fun i h => (rt.ok _ (List.mem_filter.mp (List.getElem_mem h)).1).2
      have keyE : ∀ i (h : i < (nonAs rows).length), keyAt k2 i = .str (nonAs rows)[i].1 := fun i h => by
        unfold keyAt
        rw [List.getElem?_eq_getElem (by omega)]
        show kV k2[i].1 = _
        rw [(dv2.at_ i (by omega) h).1]; rfl
      have valE : ∀ i (h : i < (nonAs rows).length), HV H4 (valAt k2 i) (nonAs rows)[i].2 := fun i h => by
        unfold valAt
        rw [List.getElem?_eq_getElem (by omega)]
        exact (dv2.at_ i (by omega) h).2
      have notin : ∀ i (h : i < (nonAs rows).length), (nonAs rows)[i].1 ∉ ((nonAs rows).take i).map (·.1) := fun i h hm => by
        obtain ⟨r, hr, e⟩ := List.mem_map.mp hm
        obtain ⟨j, hj, rfl⟩ := List.getElem_of_mem hr
        have hj' : j < i := by simp at hj; omega
        rw [List.getElem_take] at e
        have := List.pairwise_iff_getElem.mp ndn j i (by simp; omega) (by simpa using h) hj'
        simp only [List.getElem_map] at this
        exact this e
      have takeE : ∀ i (h : i < (nonAs rows).length), (nonAs rows).take (i + 1) = (nonAs rows).take i ++ [(nonAs rows)[i]] := fun i h => by rw [List.take_add_one, List.getElem?_eq_getElem h]; rfl
      clear q1 q2 q3 hD rt2
      -- marks
      refine tSeq_fld ⟨x, C, dx, _, .ref D, rfl, gx2, cl, na "heads" (by simp), by rw [lookup_putF, if_pos rfl], D, k2, rfl, .inl ⟨o2, g2, fun D3 hD3 => ?_⟩⟩
      have nD3x : D3 ≠ x := fun z => by rw [z, gx2] at hD3; cases hD3
      refine dc_pair (itp_items k2) (fun i τ H5 => ∃ (v0 v1 : Option V) (kvs : List (Key × V)), τ = [v0, v1] ∧ H5 D3 = some (.dK kvs) ∧ DV RM H5 kvs ((nonAs rows).take i) ∧ Same H4 H5) ⟨none, none, [], rfl, upd_same, DV.nil, Same.upd hD3 _⟩ (by rintro i τ H5 _ ⟨_, _, _, _, _, _, s⟩; exact s _ _ g2) ?_ ?_
      · rintro i τ H5 T5 hi ⟨v0, v1, kvs, rfl, q1, q2, q3⟩ hT
        have hin : i < (nonAs rows).length := by omega
        rw [keyE i hin]
        have hv := valE i hin
        generalize valAt k2 i = v at hv
        have t1 := Same.upd hT (.tup [.str (nonAs rows)[i].1, v])
        generalize upd H5 T5 (.tup [.str (nonAs rows)[i].1, v]) = H6 at t1
        have hv6 := hv.same (q3.trans t1)
        obtain ⟨c, ys, rfl, hc⟩ := hv6.srt
        refine ⟨_, .str (nonAs rows)[i].2.srt, .inr (SqT.of hc), atI_zero _ _, .ref c, (nonAs rows)[i].2, ns, rfl, hv6, nonOk i hin, kf4.same (q3.trans t1), kt4.same (q3.trans t1), fun L us H7 hL eL sv s7 => ?_⟩
        refine ⟨L, us, rfl, .inl ⟨SqL.of eL, fun l hl => ⟨(show 2 ≤ sizeLine by decide), fun t ht => ?_⟩⟩⟩
        have s8 := (s7.trans (Same.upd hl (.tup us))).trans (Same.upd ht (.tup [.str (nonAs rows)[i].2.srt, .ref l]))
        have el : upd (upd H7 l (.tup us)) t (.tup [.str (nonAs rows)[i].2.srt, .ref l]) l = some (.tup us) := Same.upd ht _ _ _ upd_same
        have et : upd (upd H7 l (.tup us)) t (.tup [.str (nonAs rows)[i].2.srt, .ref l]) t = some (.tup [.str (nonAs rows)[i].2.srt, .ref l]) := upd_same
        have sv8 : SV (upd (upd H7 l (.tup us)) t (.tup [.str (nonAs rows)[i].2.srt, .ref l])) us ((nonAs rows)[i].2.mvs.map (·.1)) := sv.keep fun b ys r => r.same ((Same.upd hl _).trans (Same.upd ht _))
        dsimp only
        generalize upd (upd H7 l (.tup us)) t (.tup [.str (nonAs rows)[i].2.srt, .ref l]) = H8 at s8 el et sv8
        have g3 := (t1.trans s8) _ _ q1
        have kl : kvs.length < sizeLine := by have h1 := q2.len; simp at h1; omega
        have kp : Tk H8 (upd H8 D3 (.dK (kvs ++ [(.inr (nonAs rows)[i].1, .ref t)]))) := (Tk.refl).set g3 fun xs z => nomatch z
        refine ⟨kvs, .inr (nonAs rows)[i].1, rfl, g3, kl, _, _, kvs ++ [(.inr (nonAs rows)[i].1, .ref t)], rfl, ?_, ?_, ((q3.trans t1).trans s8).put hD3⟩
        · rw [q2.put (notin i hin)]; exact upd_same
        · rw [takeE i hin, q2.put (notin i hin)]
          have kr : ∀ b ys, RdT H8 b ys → RdT (upd H8 D3 (.dK (kvs ++ [(.inr (nonAs rows)[i].1, .ref t)]))) b ys := fun b ys r => r.put g3 (fun _ z => nomatch z) fun _ _ z => nomatch z
          refine ((q2.keep fun v r ⟨b, c, us, e1, e2, e3, e4⟩ => ⟨b, c, us, e1, (t1.trans s8) _ _ e2, (t1.trans s8) _ _ e3, e4.keep fun b ys r => r.same (t1.trans s8)⟩ : DV RM H8 kvs _).snoc (show RM H8 (.ref t) (nonAs rows)[i] from ⟨t, l, us, rfl, et, el, sv8⟩)).keep fun v r ⟨b, c, us, e1, e2, e3, e4⟩ => ⟨b, c, us, e1, kp _ _ e2, kp _ _ e3, e4.keep kr⟩
      · rintro τ H5 ⟨v0, v1, k3, rfl, q1, q2, q3⟩
        rw [k2l, List.take_length] at q2
        refine ⟨D3, rfl, .inl ⟨k3, .inl q1, fun o3 => ?_⟩⟩
        refine ⟨x, C, dx, _, rfl, by rw [upd_ne nD3x.symm]; exact q3 _ _ gx2, cl, na "marks" (by simp), lenF 2, ?_⟩
        have nd3 : d1 ≠ D3 := fun z => by rw [z, hD3] at g1'; cases g1'
        have nD2 : D ≠ D3 := fun z => by rw [z, hD3] at g2; cases g2
        generalize hF3 : putF "marks" (.ref D3) (putF "heads" (.ref D) (putF "rows" (.ref d1) [])) = fs3
        have lk : ∀ y : Str, fs3.lookup y = if y = "marks" then some (.ref D3) else if y = "heads" then some (.ref D) else if y = "rows" then some (.ref d1) else none := fun y => by rw [← hF3, lookup_putF, lookup_putF, lookup_putF]; rfl
        have fl : fs3.length ≤ 3 := by rw [← hF3]; have h1 := length_putF "marks" (.ref D3) (putF "heads" (.ref D) (putF "rows" (.ref d1) [])); have h2 := length_putF "heads" (.ref D) (putF "rows" (.ref d1) []); have h3 := length_putF "rows" (.ref d1) []; simp at h3; omega
        have sx4 : Sx x H4 (upd (upd H5 D3 (.frz o3 (.dK k3))) x (.ins C dx fs3)) := ((q3.put hD3 : Same _ _) |> Same.sx).trans Sx.upd
        have g3 : upd (upd H5 D3 (.frz o3 (.dK k3))) x (.ins C dx fs3) D3 = some (.frz o3 (.dK k3)) := by rw [upd_ne nD3x]; exact upd_same
        have gx3 : upd (upd H5 D3 (.frz o3 (.dK k3))) x (.ins C dx fs3) x = some (.ins C dx fs3) := upd_same
        have kt5 : Tk H5 (upd (upd H5 D3 (.frz o3 (.dK k3))) x (.ins C dx fs3)) := ((Tk.refl).set q1 fun xs z => nomatch z).set (by rw [upd_ne nD3x.symm]; exact q3 _ _ gx2) fun xs z => by cases z
        have kr5 : ∀ b ys, RdT H5 b ys → RdT (upd (upd H5 D3 (.frz o3 (.dK k3))) x (.ins C dx fs3)) b ys := fun b ys r => (r.put q1 (fun _ z => nomatch z) fun _ _ z => nomatch z).put (by rw [upd_ne nD3x.symm]; exact q3 _ _ gx2) (fun _ z => by cases z) fun _ _ z => by cases z
        have dv3 : DV RM (upd (upd H5 D3 (.frz o3 (.dK k3))) x (.ins C dx fs3)) k3 (nonAs rows) := q2.keep fun v r ⟨b, c, us, e1, e2, e3, e4⟩ => ⟨b, c, us, e1, kt5 _ _ e2, kt5 _ _ e3, e4.keep kr5⟩
        have dv2' : DV RH (upd (upd H5 D3 (.frz o3 (.dK k3))) x (.ins C dx fs3)) k2 (nonAs rows) := dv2.keep fun v r h => HV.tk ((q3.ts).trans kt5) h
        generalize upd (upd H5 D3 (.frz o3 (.dK k3))) x (.ins C dx fs3) = H6 at sx4 g3 gx3 dv3 dv2' ⊢
        have g16 : H6 d1 = some (.frz o1 (.dK (rowsE rows))) := sx4 _ _ nx1 g1'
        have g26 : H6 D = some (.frz o2 (.dK k2)) := sx4 _ _ nDx g2
        have kf6 : Kn mg H6 "FROM" [.str "from"] := let ⟨o, e⟩ := kf4; ⟨o, sx4.frz (fun q u z => by rw [gx2] at z; cases z) e⟩
        have kt6 : Kn mg H6 "TO" [.str "to"] := let ⟨o, e⟩ := kt4; ⟨o, sx4.frz (fun q u z => by rw [gx2] at z; cases z) e⟩
        have valE6 : ∀ i (h : i < (nonAs rows).length), HV H6 (valAt k2 i) (nonAs rows)[i].2 := fun i h => by
          unfold valAt
          rw [List.getElem?_eq_getElem (by omega)]
          exact (dv2'.at_ i (by omega) h).2
        have sx5 := sx3.trans sx4
        have hinn : ∀ z ∈ ns, z ∈ rows.map (·.1) := fun z hz => rt.nm.mem_iff.mpr hz
        clear q1 q2 q3 kt5 kr5 dv2 sx4
        -- moves
        refine tLast_fld ⟨x, C, dx, fs3, .ref D, rfl, gx3, cl, na "heads" (by simp), by rw [lk, if_neg (by decide +kernel), if_pos rfl], D, k2, rfl, .inl ⟨o2, g26, fun D4 hD4 => ?_⟩⟩
        have nD4x : D4 ≠ x := fun z => by rw [z, gx3] at hD4; cases hD4
        refine dc_pair (itp_items k2) (fun i τ H7 => ∃ (v0 v1 : Option V) (kvs : List (Key × V)), τ = [v0, v1, some (.ref x)] ∧ H7 D4 = some (.dK kvs) ∧ DV (RO rows) H7 kvs ((nonAs rows).take i) ∧ Same H6 H7) ⟨none, none, [], rfl, upd_same, DV.nil, Same.upd hD4 _⟩ (by rintro i τ H5 _ ⟨_, _, _, _, _, _, s⟩; exact s _ _ g26) ?_ ?_
        · rintro i τ H7 T7 hi ⟨v0, v1, kvs, rfl, q1, q2, q3⟩ hT
          have hin : i < (nonAs rows).length := by omega
          rw [keyE i hin]
          have hv := valE6 i hin
          generalize valAt k2 i = v at hv
          have t1 := Same.upd hT (.tup [.str (nonAs rows)[i].1, v])
          generalize upd H7 T7 (.tup [.str (nonAs rows)[i].1, v]) = H8 at t1
          have q4 := q3.trans t1
          refine ⟨x, C, dx, fs3, .ref d1, rfl, q4 _ _ gx3, cl, na "rows" (by simp), by rw [lk, if_neg (by decide +kernel), if_neg (by decide +kernel), if_pos rfl], ?_⟩
          refine ⟨v, (nonAs rows)[i].2, ns, rows, d1, rfl, hv.same q4, nonOk i hin, kf6.same q4, kt6.same q4, .inr ⟨o1, q4 _ _ g16⟩, hinn, ndr, fun m H9 hm em s9 => ⟨m, rfl, .inr ⟨_, .inl em, fun o => ?_⟩⟩⟩
          have nmD : D4 ≠ m := fun z => by
            have := t1 _ _ q1
            rw [z, hm] at this; cases this
          have s10 : Same H8 (upd H9 m (.frz o (.dT (movesE rows (nonAs rows)[i].2)))) := s9.put hm
          have em10 : upd H9 m (.frz o (.dT (movesE rows (nonAs rows)[i].2))) m = some (.frz o (.dT (movesE rows (nonAs rows)[i].2))) := upd_same
          generalize upd H9 m (.frz o (.dT (movesE rows (nonAs rows)[i].2))) = H10 at s10 em10
          have g10 := (t1.trans s10) _ _ q1
          have kl : kvs.length < sizeLine := by have h1 := q2.len; simp at h1; omega
          refine ⟨kvs, .inr (nonAs rows)[i].1, rfl, g10, kl, _, _, kvs ++ [(.inr (nonAs rows)[i].1, .ref m)], rfl, ?_, ?_, (q4.trans s10).put hD4⟩
          · rw [q2.put (notin i hin)]; exact upd_same
          · rw [takeE i hin, q2.put (notin i hin)]
            refine ((q2.keep fun v r ⟨m', o', e1, e2⟩ => ⟨m', o', e1, (t1.trans s10) _ _ e2⟩ : DV (RO rows) H10 kvs _).snoc (show RO rows H10 (.ref m) (nonAs rows)[i] from ⟨m, o, rfl, em10⟩)).keep fun v r ⟨m', o', e1, e2⟩ => ⟨m', o', e1, ?_⟩
            rw [upd_ne (fun z => by rw [z, g10] at e2; cases e2)]
            exact e2
        · rintro τ H7 ⟨v0, v1, k4, rfl, q1, q2, q3⟩
          rw [k2l, List.take_length] at q2
          refine ⟨D4, rfl, .inl ⟨k4, .inl q1, fun o4 => ?_⟩⟩
          refine ⟨x, C, dx, fs3, rfl, by rw [upd_ne nD4x.symm]; exact q3 _ _ gx3, cl, na "moves" (by simp), by omega, ?_⟩
          have nd41 : d1 ≠ D4 := fun z => by rw [z, hD4] at g16; cases g16
          have nd42 : D ≠ D4 := fun z => by rw [z, hD4] at g26; cases g26
          have nd43 : D3 ≠ D4 := fun z => by rw [z, hD4] at g3; cases g3
          have s7 : Sx x H6 (upd (upd H7 D4 (.frz o4 (.dK k4))) x (.ins C dx (putF "moves" (.ref D4) fs3))) := ((q3.put hD4 : Same _ _) |> Same.sx).trans Sx.upd
          have kt7 : Tk H7 (upd (upd H7 D4 (.frz o4 (.dK k4))) x (.ins C dx (putF "moves" (.ref D4) fs3))) := ((Tk.refl).set q1 fun xs z => nomatch z).set (by rw [upd_ne nD4x.symm]; exact q3 _ _ gx3) fun xs z => by cases z
          have kr7 : ∀ b ys, RdT H7 b ys → RdT (upd (upd H7 D4 (.frz o4 (.dK k4))) x (.ins C dx (putF "moves" (.ref D4) fs3))) b ys := fun b ys r => (r.put q1 (fun _ z => nomatch z) fun _ _ z => nomatch z).put (by rw [upd_ne nD4x.symm]; exact q3 _ _ gx3) (fun _ z => by cases z) fun _ _ z => by cases z
          have kz7 : ∀ b q u, H7 b = some (.frz q u) → upd (upd H7 D4 (.frz o4 (.dK k4))) x (.ins C dx (putF "moves" (.ref D4) fs3)) b = some (.frz q u) := fun b q u e => by
            rw [upd_ne (fun z => by rw [z, q3 _ _ gx3] at e; cases e), upd_ne (fun z => by rw [z, q1] at e; cases e)]
            exact e
          have l4 : ∀ y : Str, (putF "moves" (.ref D4) fs3).lookup y = if y = "moves" then some (.ref D4) else fs3.lookup y := fun y => lookup_putF _ _ _ _
          refine k _ ⟨dx, putF "moves" (.ref D4) fs3, upd_same, ⟨⟨d1, o1, ?_, s7 _ _ nx1 g16⟩, ⟨D, o2, k2, ?_, s7 _ _ nDx g26, dv2'.keep fun v r h => HV.tk (q3.ts.trans kt7) h⟩, ⟨D3, o3, k3, ?_, s7 _ _ nD3x g3, dv3.keep fun v r ⟨b, c, us, e1, e2, e3, e4⟩ => ⟨b, c, us, e1, kt7 _ _ (q3 _ _ e2), kt7 _ _ (q3 _ _ e3), e4.keep fun b ys r => kr7 _ _ (r.same q3)⟩⟩, ⟨D4, o4, k4, ?_, ?_, q2.keep fun v r ⟨m, o, e1, e2⟩ => ⟨m, o, e1, kz7 _ _ _ e2⟩⟩⟩⟩ (sx5.trans s7)
          · rw [l4, if_neg (by decide +kernel), lk, if_neg (by decide +kernel), if_neg (by decide +kernel), if_pos rfl]
          · rw [l4, if_neg (by decide +kernel), lk, if_neg (by decide +kernel), if_pos rfl]
          · rw [l4, if_neg (by decide +kernel), lk, if_pos rfl]
          · rw [l4, if_pos rfl]
          · rw [upd_ne nD4x]; exact upd_same
def spThing (d : Nat) : Sp := fun vs H Q _ => ∃ (p w wd : Addr) (l t : Nat) (ws : List Str), vs = [.ref p, .ref wd, .int (l : Int)] ∧ l < d ∧ PenAt H p w t ∧ t + 4 ^ (l + 2) < TMAX ∧ TxtsAt H wd ws ∧ ws.length ≤ 3 ∧ ws.Nodup ∧
  ∀ (v : V) (th : Th) (H' : Hp), ThV H' (l + 1) v th → PenAt H' p w (t + 4 ^ (l + 2)) → Sm p w H H' → Q v H'
theorem thing_bare {H : Hp} {a c : Addr} {n : Nat} (h1 : H a = some (.tup [.str "box", .ref c])) (h2 : H c = some (.tup [])) : ThV H (n + 1) (.ref a) (.box []) :=
  ⟨a, c, [], rfl, h1, h2, List.nodup_nil, by simp, BoxV.nil⟩
set_option maxHeartbeats 2000000 in
theorem ok_law_tthing (T : Txt K mg w) : ∀ d : Nat, FnK P w K mg base (2 + d) "_law_tthing" ["pen", "words", "left"] (spThing d) := by
  intro d
  induction d with
  | zero =>
    refine T.t_law_tthing.okS (k := 1) sc_law_tthing (fun vs H Q E h => ?_) (fun f cdv A outer s H vs Q E hr h => ?_)
    · obtain ⟨p, w', wd, l, t, ws, rfl, _⟩ := h
      rfl
    · obtain ⟨p, w', wd, l, t, ws, rfl, hl, _⟩ := h
      omega
  | succ d ih =>
    have F_law_tthing : FnK P w K mg base (2 + d) "_law_tthing" ["pen", "words", "left"] (spThing d) := ih
    have F_law_tdraw : FnK P w K mg base 1 "_law_tdraw" ["pen", "many"] spDraw := ok_law_tdraw T
    refine T.t_law_tthing.okS (k := 2 + d) sc_law_tthing (fun vs H Q E h => ?_) (fun f cdv A outer s H vs Q E hr h => ?_)
    · obtain ⟨p, w', wd, l, t, ws, rfl, _⟩ := h
      rfl
    · obtain ⟨p, w', wd, l, t, ws, rfl, hl, hp, ht, hw, h3, hnd, k⟩ := h
      have hu0 := Nat.lt_of_succ_lt (hu_of hr)
      have hsz : sizeLine = 16777216 := sizeLine_eq
      have ht' : t + 4 ^ (l + 2) < 1000000000000 := ht
      have hpow : 4 ^ (l + 2) = 4 * 4 ^ (l + 1) := by rw [show l + 2 = (l + 1) + 1 by omega, Nat.pow_succ]; omega
      have hpos : 4 ≤ 4 ^ (l + 1) := by rw [Nat.pow_succ]; have : 0 < 4 ^ l := Nat.pow_pos (by decide); omega
      refine ⟨_, (sb_cons (s_if (w_or (y_cmpR (op_eqD hu0) (zv 2) z_int (nomark _)) (w_or1 (y_cmpR (op_eqD hu0) (z_fn F_law_tdraw (hr.mono (by omega)) (sa_Name (zv 0) (sa_Constant z_int sa_nil))) z_int (nomark _)))).pt (sb_one (s_ret (z_tup (sa_Constant z_str (sa_Tuple (z_tup sa_nil) sa_nil))))) sb_nil)
      (sb_cons (s_if (y_cmpR (op_eqD hu0) (z_fn F_law_tdraw (hr.mono (by omega)) (sa_Name (zv 0) (sa_Constant z_int sa_nil))) z_int (nomark _)) (sb_one (s_ret (z_tup (sa_Constant z_str (sa_Subscript (z_ix (ix_K K) (zv 1) (z_fn F_law_tdraw (hr.mono (by omega)) (sa_Name (zv 0) (sa_Call (z_callB (call_lenK K) (by rfl) T.n_len PySem.boot_len (sa_Name (zv 1) sa_nil)) sa_nil))) (fun _ _ => rfl)) (sa_Call (z_fn F_law_tthing (hr.mono (by omega)) (sa_Name (zv 0) (sa_Name (zv 1) (sa_BinOp (z_op op_subD (zv 2) z_int) sa_nil)))) sa_nil)))))) sb_nil)
      (sb_cons (s_lc (i := 3) (own := ["word"]) (idx := [0]) (N' := ["word", "pen"]) (⟨rfl, by decide +kernel, by decide +kernel, (show ∀ y ∈ Scope.names _, y.2 = NameKind.free → ((defScope s_law_tthing).names.lookup y.1 = some NameKind.cell ∨ (defScope s_law_tthing).names.lookup y.1 = some NameKind.free) by decide +kernel), (show ∀ j ∈ ([0] : List Nat), (Scope.names _).lookup ((["pen", "words", "left", "some"] : List Str).getD j "") = some NameKind.free ∧ j < (["pen", "words", "left", "some"] : List Str).length by decide +kernel), rfl⟩) rfl (i_K K (z_callB (call_sortedK K) (by rfl) T.n_sorted PyProof.Rows.boot_sorted (sa_Name (zv 1) sa_nil))) (fun _ _ _ _ _ _ => (g_name (i := 0) (show List.Nodup (["word", "pen"] : List Str) by decide +kernel) rfl (Or.inl rfl))) (fun _ _ _ _ _ _ => (c_one (y_cmpR (op_eqD hu0) (z_fn F_law_tdraw (hr.mono (by omega)) (sa_Name (zv 1) (sa_Constant z_int sa_nil))) z_int (nomark _)))) (fun _ _ _ _ _ _ => (zv 0)) sc_law_tthing.nd rfl rfl)
      (sb_one (s_ret (z_tup (sa_Constant z_str (sa_Call (z_callTy (call_tupK K) (by rfl) T.n_tuple PyProof.Rows.boot_tuple (sa_ListComp (z_lc (own := ["word"]) (idx := [0, 1, 2]) (N' := ["word", "pen", "words", "left"]) (⟨rfl, by decide +kernel, by decide +kernel, (show ∀ y ∈ Scope.names _, y.2 = NameKind.free → ((defScope s_law_tthing).names.lookup y.1 = some NameKind.cell ∨ (defScope s_law_tthing).names.lookup y.1 = some NameKind.free) by decide +kernel), (show ∀ j ∈ ([0, 1, 2] : List Nat), (Scope.names _).lookup ((["pen", "words", "left", "some"] : List Str).getD j "") = some NameKind.free ∧ j < (["pen", "words", "left", "some"] : List Str).length by decide +kernel), rfl⟩) rfl (i_K K (zv 3)) (fun _ _ _ _ _ _ => (g_name (i := 0) (show List.Nodup (["word", "pen", "words", "left"] : List Str) by decide +kernel) rfl (Or.inl rfl))) (fun _ _ _ _ _ _ => c_nil) (fun _ _ _ _ _ _ => (z_tup (sa_Name (zv 0) (sa_Call (z_fn F_law_tthing (hr.mono (by omega)) (sa_Name (zv 1) (sa_Name (zv 2) (sa_BinOp (z_op op_subD (zv 3) z_int) sa_nil)))) sa_nil))))) sa_nil)) sa_nil)))))))), ?_⟩
      have bare : ∀ (H1 : Hp) (t1 : Nat), PenAt H1 p w' t1 → t1 ≤ t + 4 ^ (l + 2) → Sm p w' H H1 → tRet (tTup (tCons (tC (V.str "box")) (tCons (tTup tNil) tNil))) { nx := fun _ H' => Q .non H', rt := Q } [some (.ref p), some (.ref wd), some (.int (l : Int)), none] H1 := fun H1 t1 hp1 ht1 sm1 => by
        refine ⟨(show 0 ≤ sizeLine by decide), fun c hc => ⟨(show 2 ≤ sizeLine by decide), fun a ha => ?_⟩⟩
        have s1 := Same.upd hc (.tup [])
        have s2 := Same.upd ha (.tup [.str "box", .ref c])
        exact k _ (.box []) _ (thing_bare upd_same (s2 _ _ upd_same)) (((hp1.same s1).same s2).mono ht1) (sm1.trans (s1.trans s2).sm)
      refine tSeq_by (fun σ' H' => σ' = [some (.ref p), some (.ref wd), some (.int (l : Int)), none] ∧ 0 < l ∧ PenAt H' p w' (t + 1) ∧ Sm p w' H H') ?_ ?_
      · intro nx hnx
        refine ⟨rfl, _, rfl, iteB (fun c => ?_) (fun c => ?_)⟩
        · exact iteT (bare H t hp (by omega) Sm.refl)
        · rw [Bool.false_xor, decV_int] at c
          have hl0 : 0 < l := by have := of_decide_eq_false c; omega
          refine ⟨p, w', 4, t, rfl, hp, ⟨by decide, by decide⟩, by show t < 1000000000000; omega, fun r H1 r0 r1 hp1 sm1 => ⟨rfl, _, rfl, iteB (fun _ => bare H1 _ hp1 (by omega) sm1) (fun _ => hnx _ _ ⟨rfl, hl0, hp1, sm1⟩)⟩⟩
      · rintro σ' H1 ⟨rfl, hl0, hp1, sm1⟩
        obtain ⟨m, rfl⟩ : ∃ m, l = m + 1 := ⟨l - 1, by omega⟩
        have em : (((m + 1 : Nat) : Int) - 1) = (m : Int) := by omega
        have hB : 4 ^ (m + 2) = 16 * 4 ^ m := by rw [Nat.pow_succ, Nat.pow_succ]; omega
        have hB1 : 1 ≤ 4 ^ m := Nat.pow_pos (by decide)
        refine tSeq_by (fun σ' H' => σ' = [some (.ref p), some (.ref wd), some (.int ((m + 1 : Nat) : Int)), none] ∧ PenAt H' p w' (t + 2) ∧ Sm p w' H H') ?_ ?_
        · intro nx hnx
          refine ⟨p, w', 2, _, rfl, hp1, ⟨by decide, by decide⟩, by show t + 1 < 1000000000000; omega, fun r H2 r0 r1 hp2 sm2 => ⟨rfl, _, rfl, iteB (fun _ => ?_) (fun _ => hnx _ _ ⟨rfl, hp2, sm1.trans sm2⟩)⟩⟩
          have sm02 := sm1.trans sm2
          have hw2 := hw.sm hp sm02
          have wpos := hw2.pos
          refine .inl ⟨_, .inl (SqL.of hw2.e), p, w', _, t + 2, rfl, hp2, ⟨by rw [List.length_map]; omega, by rw [List.length_map]; omega⟩, by show t + 2 < 1000000000000; omega, fun r' H3 a0 a1 hp3 sm3 => ?_⟩
          rw [List.length_map] at a1
          have sm03 := sm02.trans sm3
          have hw3 := hw.sm hp sm03
          obtain ⟨z, hz1, hz2, hz3⟩ := hw3.at r' a0 a1
          refine ⟨_, _, .inl (SqL.of hw3.e), hz1, ?_⟩
          refine ⟨p, w', wd, m, t + 3, ws, by rw [← em]; rfl, by omega, hp3, by show t + 3 + 4 ^ (m + 2) < 1000000000000; omega, hw3, h3, hnd, fun v th H4 hv hp4 sm4 => ⟨(show 3 ≤ sizeLine by decide), fun a ha => ?_⟩⟩
          have s5 := Same.upd ha (.tup [.str "pick", .str z, v])
          exact k _ (.pick z th) _ ⟨a, v, rfl, upd_same, hv.tk s5.ts⟩ ((hp4.same s5).mono (by omega)) ((sm03.trans sm4).trans s5.sm)
        · rintro σ' H2 ⟨rfl, hp2, sm2⟩
          have hw2 := hw.sm hp sm2
          refine tSeq_set ⟨wd, ws, rfl, SqL.of hw2.e, by omega, fun lq ss hlq hperm hsorted => ?_⟩
          have hsl : ss.length = ws.length := hperm.length_eq
          have ndss : ss.Nodup := hperm.nodup_iff.mpr hnd
          have s1 : Same H2 (upd H2 lq (.lst (ss.map V.str))) := Same.upd hlq _
          have el : upd H2 lq (.lst (ss.map V.str)) lq = some (.lst (ss.map V.str)) := upd_same
          have nlp : lq ≠ p := hp2.ne1 hlq
          have nlw : lq ≠ w' := hp2.ne2 hlq
          have hp3 := hp2.same s1
          have sm3 := sm2.trans s1.sm
          generalize upd H2 lq (.lst (ss.map V.str)) = H3 at s1 el hp3 sm3 ⊢
          refine Or.inl ⟨⟨_, SqL.of el⟩, fun D hD => ?_⟩
          have nDp : D ≠ p := hp3.ne1 hD
          have nDw : D ≠ w' := hp3.ne2 hD
          have nDl : D ≠ lq := fun e => by rw [e, el] at hD; cases hD
          have hD0 : H D = none := sm3.free hD nDp nDw
          refine lc_by (itn_list (ss.map V.str)) (fun i τ H4 => ∃ (v : Option V) (os : List Str), τ = [v, some (.ref p)] ∧ H4 D = some (.lst (os.map V.str)) ∧ os.Sublist (ss.take i) ∧ H4 lq = some (.lst (ss.map V.str)) ∧ PenAt H4 p w' (t + 2 + i) ∧ Sm p w' H H4)
            ⟨none, [], rfl, upd_same, List.Sublist.refl _, by rw [upd_ne nDl.symm]; exact el, hp3.same (Same.upd hD _), sm3.upd hD0⟩ (by rintro i τ H2 _ ⟨_, _, _, _, _, q, _⟩; exact SqL.of q) ?_ ?_
          · rintro i τ H4 hi ⟨v, os, rfl, q1, q2, q4, q5, q6⟩
            rw [List.length_map] at hi
            rw [mapStr_getD ss i hi]
            have hti : ss.take (i + 1) = ss.take i ++ [ss.getD i ""] := by
              rw [List.take_add_one, List.getD_eq_getElem?_getD, List.getElem?_eq_getElem hi]; rfl
            generalize ss.getD i "" = z at hti
            have hol : os.length ≤ i := by have := q2.length_le; simp at this; omega
            refine ⟨p, w', 2, t + 2 + i, rfl, q5, ⟨by decide, by decide⟩, by show t + 2 + i < 1000000000000; omega, fun r H5 r0 r1 hp5 sm5 => ?_⟩
            refine ⟨rfl, _, rfl, ?_⟩
            have g4 := sm5 _ _ q4 nlp nlw
            have g1 := sm5 _ _ q1 nDp nDw
            refine iteB (fun _ => ?_) (fun _ => ?_)
            · refine ⟨_, g1, by rw [List.length_map]; exact small1000 (by omega), _, os ++ [z], rfl, by rw [upd_same, List.map_append]; rfl, by rw [hti]; exact q2.append (List.Sublist.refl _), by rw [upd_ne nDl.symm]; exact g4, hp5.upd nDp nDw, (q6.trans sm5).upd hD0⟩
            · exact ⟨_, os, rfl, g1, by rw [hti]; exact q2.trans (List.sublist_append_left _ _), g4, hp5, q6.trans sm5⟩
          · rintro τ H4 ⟨v, os, rfl, q1, q2, q4, q5, q6⟩
            rw [List.length_map] at q2 q5
            rw [List.take_length] at q2
            have hol : os.length ≤ 3 := by have := q2.length_le; omega
            have ndo : os.Nodup := ndss.sublist q2
            clear q2 q4 s1 el
            refine Or.inl ⟨⟨_, SqL.of q1⟩, fun D2 hD2 => ?_⟩
            have n2p : D2 ≠ p := q5.ne1 hD2
            have n2w : D2 ≠ w' := q5.ne2 hD2
            have n2D : D2 ≠ D := fun e => by rw [e, q1] at hD2; cases hD2
            have hD20 : H D2 = none := q6.free hD2 n2p n2w
            refine lc_by (itn_list (os.map V.str)) (fun i τ H5 => ∃ (v : Option V) (xs : List V) (qs : List (Str × Th)), τ = [v, some (.ref p), some (.ref wd), some (.int ((m + 1 : Nat) : Int))] ∧ H5 D2 = some (.lst xs) ∧ BoxV (ThV H5 (m + 1)) H5 xs qs ∧ qs.map (·.1) = os.take i ∧ H5 D = some (.lst (os.map V.str)) ∧ PenAt H5 p w' (t + 5 + 4 ^ (m + 2) * i) ∧ Sm p w' H H5)
              ⟨none, [], [], rfl, upd_same, BoxV.nil, rfl, by rw [upd_ne n2D.symm]; exact q1, (q5.same (Same.upd hD2 _)).mono (by omega), q6.upd hD20⟩ (by rintro i τ H2 _ ⟨_, _, _, _, _, _, _, q, _⟩; exact SqL.of q) ?_ ?_
            · rintro i τ H5 hi ⟨v, xs, qs, rfl, r1, r2, r3, r4, r5, r6⟩
              rw [List.length_map] at hi
              rw [mapStr_getD os i hi]
              have hti : os.take (i + 1) = os.take i ++ [os.getD i ""] := by
                rw [List.take_add_one, List.getD_eq_getElem?_getD, List.getElem?_eq_getElem hi]; rfl
              generalize os.getD i "" = z at hti
              have hql : qs.length = i := by have := congrArg List.length r3; simp at this; omega
              have hxl := r2.len
              have hmul : 4 ^ (m + 2) * i ≤ 4 ^ (m + 2) * 2 := Nat.mul_le_mul_left _ (by omega)
              refine ⟨p, w', wd, m, t + 5 + 4 ^ (m + 2) * i, ws, by rw [← em]; rfl, by omega, r5, by show t + 5 + 4 ^ (m + 2) * i + 4 ^ (m + 2) < 1000000000000; omega, hw.sm hp r6, h3, hnd, fun u th H6 hv hp6 sm6 => ⟨(show 2 ≤ sizeLine by decide), fun b hb => ?_⟩⟩
              have g1 := sm6 _ _ r1 n2p n2w
              have g4 := sm6 _ _ r4 nDp nDw
              have s7 := Same.upd hb (.tup [.str z, u])
              have e7 : upd H6 b (.tup [.str z, u]) b = some (.tup [.str z, u]) := upd_same
              have hp7 := hp6.same s7
              have sm7 := (r6.trans sm6).trans s7.sm (p := p) (w := w')
              have g1' := s7 _ _ g1
              have g4' := s7 _ _ g4
              have tk7 : Tk H5 (upd H6 b (.tup [.str z, u])) := (r5.ts sm6).trans s7.ts
              have hv7 := hv.tk s7.ts
              dsimp only
              generalize upd H6 b (.tup [.str z, u]) = H7 at s7 e7 hp7 sm7 g1' g4' tk7 hv7 ⊢
              have tk8 : Tk H7 (upd H7 D2 (.lst (xs ++ [.ref b]))) := Tk.refl.set g1' (fun _ z => nomatch z)
              refine ⟨xs, g1', by omega, _, xs ++ [.ref b], qs ++ [(z, th)], rfl, upd_same, ?_, by rw [List.map_append, r3, hti]; rfl, by rw [upd_ne n2D.symm]; exact g4', (hp7.upd n2p n2w).mono (by rw [Nat.mul_succ]; omega), sm7.upd hD20⟩
              exact (r2.imp (tk7.trans tk8) fun v t h => h.tk (tk7.trans tk8)).snoc (tk8 _ _ e7) (hv7.tk tk8)
            · rintro τ H5 ⟨v, xs, qs, rfl, r1, r2, r3, r4, r5, r6⟩
              rw [List.length_map] at r3 r5
              rw [List.take_length] at r3
              have hql : qs.length = os.length := by have := congrArg List.length r3; simpa using this
              have hxl := r2.len
              have hmul : 4 ^ (m + 2) * os.length ≤ 4 ^ (m + 2) * 3 := Nat.mul_le_mul_left _ hol
              refine ⟨D2, xs, rfl, .inl ⟨SqL.of r1, fun b hb => ⟨(show 2 ≤ sizeLine by decide), fun a ha => ?_⟩⟩⟩
              have s7 := Same.upd hb (.tup xs)
              have s8 := Same.upd ha (.tup [.str "box", .ref b])
              have s9 := s7.trans s8
              exact k _ (.box qs) _ ⟨a, b, xs, rfl, upd_same, s8 _ _ upd_same, by rw [r3]; exact ndo, by omega, r2.imp s9.ts fun v t h => h.tk s9.ts⟩ ((r5.same s9).mono (by omega)) (r6.trans s9.sm)
def spTof (d : Nat) : Sp := fun vs H Q _ => ∃ (a : Addr) (xs : List V) (rows : List Rw2) (ns ws : List Str) (x : Str) (v : V) (n : Nat) (th : Th), vs = [.ref a, .str x, v] ∧ RT H a xs rows ns ws ∧ (∀ z ∈ ws, Wd z) ∧ x ∈ ns ∧ ThV H n v th ∧ 11 * n + ns.idxOf x < d ∧
  ∀ (b : Bool) (H' : Hp), Same H H' → (b = true ↔ OfT rows (endOf rows x) th) → Q (.bl b) H'
theorem bfalse {p : Prop} (h : ¬ p) : (false = true ↔ p) := ⟨(fun z => nomatch z), fun z => absurd z h⟩
set_option maxHeartbeats 4000000 in
theorem ok_law_tof (T : Txt K mg w) : ∀ d : Nat, FnK P w K mg base (1 + d) "_law_tof" ["told", "x", "thing"] (spTof d) := by
  intro d
  induction d with
  | zero =>
    refine T.t_law_tof.okS (k := 0) sc_law_tof (fun vs H Q E h => ?_) (fun f cdv A outer s H vs Q E hr h => ?_)
    · obtain ⟨a, xs, rows, ns, ws, x, v, n, th, rfl, _⟩ := h
      rfl
    · obtain ⟨a, xs, rows, ns, ws, x, v, n, th, rfl, rt, hw, hx, hv, hd, _⟩ := h
      omega
  | succ d ih =>
    have F_law_tof : FnK P w K mg base (1 + d) "_law_tof" ["told", "x", "thing"] (spTof d) := ih
    refine T.t_law_tof.okS (k := 1 + d) sc_law_tof (fun vs H Q E h => ?_) (fun f cdv A outer s H vs Q E hr h => ?_)
    · obtain ⟨a, xs, rows, ns, ws, x, v, n, th, rfl, _⟩ := h
      rfl
    · obtain ⟨a, xs, rows, ns, ws, x, v, n, th, rfl, rt, hw, hx, hv, hd, k⟩ := h
      have hu := hu_of hr
      have hu0 := Nat.lt_of_succ_lt hu
      have hsz : sizeLine = 16777216 := sizeLine_eq
      obtain ⟨rs, g, nm, rl, hval⟩ := rt.good hw
      have hm : ∀ z, z ∈ ns ↔ z ∈ rs.map (·.1) := fun z => by rw [nm]; exact rt.nm.mem_iff.symm
      have few := rt.few
      have hgl := g.len
      obtain ⟨hv0, hvm, hval0⟩ := g.get ((hm x).mp hx)
      have hq0 : HV H hv0 (hdOf rows x) := hval x hv0 hx hval0
      have hok : (hdOf rows x).ok ns := by
        have h3 : x ∈ rows.map (·.1) := by rw [← nm]; exact (hm x).mp hx
        obtain ⟨r, hr, e⟩ := List.mem_map.mp h3
        rw [← e, hdOf_mem rt.ndr hr]
        exact (rt.ok r hr).2
      refine ⟨_, (sb_cons (s_set (i := 3) sc_law_tof.nd rfl (Or.inl rfl) (z_dget hu (z_callTy (call_dict_of rfl) (by rfl) T.n_dict PyProof.Rows.boot_dict (sa_Name (zv 0) sa_nil)) (zv 1) (fun _ _ => rfl)))
      (sb_cons (s_if (y_cmpR (op_eqD hu0) (z_ix (ix_K K) (zv 3) z_int (fun _ _ => rfl)) z_str (nomark _)) (sb_one (s_ret (z_fn F_law_tof (hr.mono (by omega)) (sa_Name (zv 0) (sa_Subscript (z_ix (ix_K K) (zv 3) z_int (fun _ _ => rfl)) (sa_Name (zv 2) sa_nil)))))) sb_nil)
      (sb_cons (s_if (y_cmpR (op_eqD hu0) (z_ix (ix_K K) (zv 3) z_int (fun _ _ => rfl)) z_str (nomark _)) (sb_one (s_ret z_bl)) sb_nil)
      (sb_cons (s_if (w_and (y_cmpR (op_eqD hu0) (z_ix (ix_K K) (zv 3) z_int (fun _ _ => rfl)) z_str (nomark _)) (w_and1 (y_cmpR (op_eqD hu0) (z_ix (ix_K K) (zv 2) z_int (fun _ _ => rfl)) z_str (nomark _)))).pt (sb_cons (s_lc (i := 4) (own := ["word", "name"]) (idx := [2]) (N' := ["word", "name", "thing"]) (⟨rfl, by decide +kernel, by decide +kernel, (show ∀ y ∈ Scope.names _, y.2 = NameKind.free → ((defScope s_law_tof).names.lookup y.1 = some NameKind.cell ∨ (defScope s_law_tof).names.lookup y.1 = some NameKind.free) by decide +kernel), (show ∀ j ∈ ([2] : List Nat), (Scope.names _).lookup ((["told", "x", "thing", "head", "some", "there"] : List Str).getD j "") = some NameKind.free ∧ j < (["told", "x", "thing", "head", "some", "there"] : List Str).length by decide +kernel), rfl⟩) rfl (i_K K (z_ix (ix_K K) (zv 3) z_int (fun _ _ => rfl))) (fun _ _ _ _ _ _ => (g_tup K (n := 2) rfl (gs_cons (g_name (i := 0) (show List.Nodup (["word", "name", "thing"] : List Str) by decide +kernel) rfl (Or.inl rfl)) (gs_cons (g_name (i := 1) (show List.Nodup (["word", "name", "thing"] : List Str) by decide +kernel) rfl (Or.inl rfl)) gs_nil)))) (fun _ _ _ _ _ _ => (c_one (y_cmpR (op_eqD hu0) (zv 0) (z_ix (ix_K K) (zv 2) z_int (fun _ _ => rfl)) (nomark _)))) (fun _ _ _ _ _ _ => (zv 1)) sc_law_tof.nd rfl rfl)
      (sb_one (s_ret (z_and (z_cmpR (op_eqD hu0) (z_callB (call_lenK K) (by rfl) T.n_len PySem.boot_len (sa_Name (zv 4) sa_nil)) z_int (nomark _)) (z_one (z_fn F_law_tof (hr.mono (by omega)) (sa_Name (zv 0) (sa_Subscript (z_ix (ix_K K) (zv 4) z_int (fun _ _ => rfl)) (sa_Subscript (z_ix (ix_K K) (zv 2) z_int (fun _ _ => rfl)) sa_nil))))))))) sb_nil)
      (sb_cons (s_if (w_or (y_cmpR (op_neD hu0) (z_ix (ix_K K) (zv 3) z_int (fun _ _ => rfl)) z_str (nomark _)) (w_or1 (y_cmpR (op_neD hu0) (z_ix (ix_K K) (zv 2) z_int (fun _ _ => rfl)) z_str (nomark _)))).pt (sb_one (s_ret z_bl)) sb_nil)
      (sb_cons (s_set (i := 5) sc_law_tof.nd rfl (Or.inr rfl) (z_callTy (call_dict_of rfl) (by rfl) T.n_dict PyProof.Rows.boot_dict (sa_Subscript (z_ix (ix_K K) (zv 2) z_int (fun _ _ => rfl)) sa_nil)))
      (sb_one (s_ret (z_cmpR (op_eqD hu0) (z_callB (call_lenK K) (by rfl) T.n_len PySem.boot_len (sa_ListComp (z_lc (own := ["word", "name"]) (idx := [0, 5]) (N' := ["word", "name", "told", "there"]) (⟨rfl, by decide +kernel, by decide +kernel, (show ∀ y ∈ Scope.names _, y.2 = NameKind.free → ((defScope s_law_tof).names.lookup y.1 = some NameKind.cell ∨ (defScope s_law_tof).names.lookup y.1 = some NameKind.free) by decide +kernel), (show ∀ j ∈ ([0, 5] : List Nat), (Scope.names _).lookup ((["told", "x", "thing", "head", "some", "there"] : List Str).getD j "") = some NameKind.free ∧ j < (["told", "x", "thing", "head", "some", "there"] : List Str).length by decide +kernel), rfl⟩) rfl (i_K K (z_ix (ix_K K) (zv 3) z_int (fun _ _ => rfl))) (fun _ _ _ _ _ _ => (g_tup K (n := 2) rfl (gs_cons (g_name (i := 0) (show List.Nodup (["word", "name", "told", "there"] : List Str) by decide +kernel) rfl (Or.inl rfl)) (gs_cons (g_name (i := 1) (show List.Nodup (["word", "name", "told", "there"] : List Str) by decide +kernel) rfl (Or.inl rfl)) gs_nil)))) (fun _ _ _ _ _ _ => (c_one (w_or (y_cmpR (op_dNotIn hu) (zv 0) (zv 3) rfl) (w_or1 (y_not (y_val (z_fn F_law_tof (hr.mono (by omega)) (sa_Name (zv 2) (sa_Name (zv 1) (sa_Subscript (z_dget hu (zv 3) (zv 0) (fun _ _ => rfl)) sa_nil)))))))).pt)) (fun _ _ _ _ _ _ => (zv 0))) sa_nil)) z_int (nomark _)))))))))), ?_⟩
      refine tSeq_set ⟨a, xs, rowsK rs, rfl, g.at_, g.ps, (by simp; omega), fun D hD => ?_⟩
      have s1 : Same H (upd H D (.dK (dictOf (rowsK rs)))) := Same.upd hD _
      have hdg : DGet (upd H D (.dK (dictOf (rowsK rs)))) D (.str x) (some hv0) := by
        rw [← hval0]; exact DGet.k (k := Sum.inr x) upd_same
      refine ⟨D, _, rfl, hdg, ?_⟩
      have hq1 := hq0.tk s1.ts
      have rt1 := rt.tk s1.ts
      have hv1 := hv.tk s1.ts
      dsimp only
      generalize upd H D (.dK (dictOf (rowsK rs))) = H1 at s1 hdg hq1 rt1 hv1 ⊢
      have enx : (hdOf rows x).nx = none → endOf rows x = x := fun h => stps_stay _ h
      generalize hhd : hdOf rows x = h at hq1 hok enx
      cases hq1 with
      | @as b y e =>
        have hst : endOf rows y = endOf rows x := by
          have := g.endStep (x := x) (y := y) ((hm x).mp hx) (by show (hdOf rows x).nx = _; rw [hhd]; rfl)
          rw [rl] at this
          exact this
        obtain ⟨i1, i2⟩ := g.inn _ hvm y (by show (hdOf rows x).nx = _; rw [hhd]; rfl)
        have i2' : ns.idxOf y < ns.idxOf x := i2
        refine ⟨_, .str "as", .inr (SqT.of e), atI_zero _ _, rfl, _, rfl, eqS_t ?_⟩
        refine ⟨_, .str y, .inr (SqT.of e), rfl, a, xs, rows, ns, ws, y, v, n, th, rfl, rt1, hw, hok.2, hv1, by omega, fun b' H' s' hb => k b' H' (s1.trans s') (by rw [hb, hst])⟩
      | @one b z e =>
        have ex := enx rfl
        have fin : ∀ bb : Bool, (bb = true ↔ OfT rows x th) → Q (.bl bb) H1 := fun bb hb => k bb H1 s1 (by rw [ex]; exact hb)
        have nz : (z == "as") = false ∧ (z == "pick") = false ∧ (z == "box") = false := by rcases hok with rfl | rfl <;> decide +kernel
        refine ⟨_, .str z, .inr (SqT.of e), atI_zero _ _, rfl, _, rfl, eqS_f nz.1 ?_⟩
        rcases hok with rfl | rfl
        · exact ⟨_, .str "all", .inr (SqT.of e), atI_zero _ _, rfl, _, rfl, eqS_t (fin true ⟨fun _ => .all hhd, fun _ => rfl⟩)⟩
        · refine ⟨_, .str "none", .inr (SqT.of e), atI_zero _ _, rfl, _, rfl, eqS_f (by decide +kernel) ?_⟩
          refine ⟨_, .str "none", .inr (SqT.of e), atI_zero _ _, rfl, _, rfl, eqS_f nz.2.1 (iteF ?_)⟩
          refine ⟨_, .str "none", .inr (SqT.of e), atI_zero _ _, rfl, _, rfl, neS_t nz.2.2 (iteT ?_)⟩
          exact fin false (bfalse (not_of_one hhd (by decide +kernel) th))
      | @way b y z e =>
        have ex := enx rfl
        have fin : ∀ bb : Bool, (bb = true ↔ OfT rows x th) → Q (.bl bb) H1 := fun bb hb => k bb H1 s1 (by rw [ex]; exact hb)
        refine ⟨_, .str "way", .inr (SqT.of e), atI_zero _ _, rfl, _, rfl, eqS_f (by decide +kernel) ?_⟩
        refine ⟨_, .str "way", .inr (SqT.of e), atI_zero _ _, rfl, _, rfl, eqS_f (by decide +kernel) ?_⟩
        refine ⟨_, .str "way", .inr (SqT.of e), atI_zero _ _, rfl, _, rfl, eqS_f (by decide +kernel) (iteF ?_)⟩
        refine ⟨_, .str "way", .inr (SqT.of e), atI_zero _ _, rfl, _, rfl, neS_t (by decide +kernel) (iteT ?_)⟩
        exact fin false (bfalse (not_of_way hhd th))
      | @prs b c z ys ps e ec hp =>
        have ex := enx rfl
        have fin : ∀ (bb : Bool) (H' : Hp), Same H1 H' → (bb = true ↔ OfT rows x th) → Q (.bl bb) H' := fun bb H' s' hb => k bb H' (s1.trans s') (by rw [ex]; exact hb)
        obtain ⟨hz, hps, hris, hpl⟩ := hok
        have ndp := rising_nodup hris
        have hpyl := hp.len
        have n1 : (z == "as") = false ∧ (z == "all") = false := by rcases hz with rfl | rfl <;> decide +kernel
        refine ⟨_, .str z, .inr (SqT.of e), atI_zero _ _, rfl, _, rfl, eqS_f n1.1 ?_⟩
        refine ⟨_, .str z, .inr (SqT.of e), atI_zero _ _, rfl, _, rfl, eqS_f n1.2 ?_⟩
        obtain ⟨m, rfl⟩ : ∃ m, n = m + 1 := by
          cases n with
          | zero => exact hv.elim
          | succ m => exact ⟨m, rfl⟩
        rcases hz with rfl | rfl
        · refine ⟨_, .str "box", .inr (SqT.of e), atI_zero _ _, rfl, _, rfl, eqS_f (by decide +kernel) (iteF ?_)⟩
          refine ⟨_, .str "box", .inr (SqT.of e), atI_zero _ _, rfl, _, rfl, neS_f ?_⟩
          cases th with
          | pick tw tt =>
            obtain ⟨ta, tu, rfl, t1, t2⟩ := hv1
            refine ⟨_, .str "pick", .inr (SqT.of t1), atI_zero _ _, rfl, _, rfl, neS_t (by decide +kernel) ?_⟩
            exact fin false H1 (Same.refl _) (bfalse (box_pick hhd))
          | box qs =>
            obtain ⟨ta, tc, txs, rfl, t1, t2, t3, t4, t5⟩ := hv1
            refine ⟨_, .str "box", .inr (SqT.of t1), atI_zero _ _, rfl, _, rfl, neS_f ?_⟩
            obtain ⟨rq, pq, nq, lq, vq⟩ := t5.pairs
            refine ⟨_, .ref tc, .inr (SqT.of t1), rfl, tc, txs, rowsK rq, rfl, t2, pq, (by simp; omega), fun D2 hD2 => ?_⟩
            have s2 := Same.upd hD2 (.dK (dictOf (rowsK rq)))
            have eD : upd H1 D2 (.dK (dictOf (rowsK rq))) D2 = some (.dK (dictOf (rowsK rq))) := upd_same
            dsimp only
            generalize upd H1 D2 (.dK (dictOf (rowsK rq))) = H2 at s2 eD
            refine ⟨_, .ref c, .inr (SqT.of (s2 _ _ e)), rfl, Or.inr ⟨⟨ys, SqT.of (s2 _ _ ec)⟩, fun L hL => ?_⟩⟩
            refine lc_by (itn_tup ys) (fun i τ H' => ∃ (v0 v1 : Option V) (zs : List V), τ = [v0, v1, some (.ref a), some (.ref D2)] ∧ H' L = some (.lst zs) ∧ zs.length ≤ i ∧ (zs.length = 0 ↔ ∀ p ∈ ps.take i, ∃ t, (p.1, t) ∈ qs ∧ OfT rows (endOf rows p.2) t) ∧ Same H2 H')
              ⟨none, none, [], rfl, upd_same, Nat.le_refl _, by simp, Same.upd hL _⟩ (by rintro i τ H' _ ⟨_, _, _, _, _, _, _, s⟩; exact SqT.of (s _ _ (s2 _ _ ec))) ?_ ?_
            · rintro i τ H3 hi ⟨v0, v1, zs, rfl, q1, q2, q3, q4⟩
              have hip : i < ps.length := by omega
              obtain ⟨d0, r1, r2⟩ := hp.at_ i hi hip
              have eg : ys.getD i .non = .ref d0 := by rw [List.getD_eq_getElem?_getD, List.getElem?_eq_getElem hi, r1]; rfl
              rw [eg]
              have hmem := List.getElem_mem hip
              have tks : ps.take (i + 1) = ps.take i ++ [ps[i]] := by rw [List.take_add_one, List.getElem?_eq_getElem hip]; rfl
              generalize ps[i] = pp at r2 hmem tks
              refine g2_at (q4 _ _ (s2 _ _ r2)) ?_
              have eD3 := q4 _ _ eD
              have more : ¬ (∃ t, (pp.1, t) ∈ qs ∧ OfT rows (endOf rows pp.2) t) → ∀ H4, Same H3 H4 → ∃ xs', H4 L = some (.lst xs') ∧ xs'.length < sizeLine ∧ ∃ (v0 v1 : Option V) (zs : List V), [some (V.str pp.1), some (V.str pp.2), some (.ref a), some (.ref D2)] = [v0, v1, some (.ref a), some (.ref D2)] ∧ upd H4 L (.lst (xs' ++ [.str pp.1])) L = some (.lst zs) ∧ zs.length ≤ i + 1 ∧ (zs.length = 0 ↔ ∀ p ∈ ps.take (i + 1), ∃ t, (p.1, t) ∈ qs ∧ OfT rows (endOf rows p.2) t) ∧ Same H2 (upd H4 L (.lst (xs' ++ [.str pp.1]))) := fun hno H4 s4 => by
                refine ⟨zs, s4 _ _ q1, by omega, _, _, zs ++ [.str pp.1], rfl, upd_same, by simp; omega, ⟨fun z => absurd z (by simp), fun z => ?_⟩, (q4.trans s4).put hL⟩
                exact absurd (z pp (by rw [tks]; simp)) hno
              rcases BoxV.look (R := ThV H1 m) t3 nq lq vq pp.1 with ⟨w1, w2⟩ | ⟨u, tt, w1, w2, w3⟩
              · refine ⟨D2, none, rfl, by rw [← w2]; exact DGet.k (k := Sum.inr pp.1) eD3, _, rfl, ?_⟩
                refine iteT (iteT (more ?_ H3 (Same.refl _)))
                rintro ⟨t, h1, _⟩
                exact w1 (List.mem_map.mpr ⟨_, h1, rfl⟩)
              · refine ⟨D2, some u, rfl, by rw [← w1]; exact DGet.k (k := Sum.inr pp.1) eD3, _, rfl, ?_⟩
                have n11 : ns.idxOf pp.2 < 11 := by
                  have := List.idxOf_lt_length_of_mem (hps pp hmem).2.2
                  omega
                show if (true ^^ true) = true then _ else _
                refine iteF ?_
                refine ⟨D2, u, rfl, by rw [← w1]; exact DGet.k (k := Sum.inr pp.1) eD3, a, xs, rows, ns, ws, pp.2, u, m, tt, rfl, rt1.tk (s2.trans q4).ts, hw, (hps pp hmem).2.2, w3.tk (s2.trans q4).ts, by omega, fun bb H4 s4 hb => ⟨bb, rfl, ?_⟩⟩
                cases bb with
                | false =>
                  refine iteT (more ?_ H4 s4)
                  rintro ⟨t, h1, h2⟩
                  rw [nd_uniq t3 h1 w2] at h2
                  exact absurd (hb.mpr h2) (by simp)
                | true =>
                  refine iteF ⟨_, _, zs, rfl, s4 _ _ q1, by omega, ?_, q4.trans s4⟩
                  rw [q3, tks]
                  constructor
                  · intro z p hp'
                    rcases List.mem_append.mp hp' with h | h
                    · exact z p h
                    · rw [List.mem_singleton.mp h]; exact ⟨tt, w2, hb.mp rfl⟩
                  · intro z p hp'
                    exact z p (List.mem_append.mpr (.inl hp'))
            · rintro τ H3 ⟨v0, v1, zs, rfl, q1, q2, q3, q4⟩
              rw [hpyl, List.take_length, ← of_box hhd] at q3
              refine .inl ⟨_, .inl (SqL.of q1), rfl, ?_⟩
              refine fin _ H3 (s2.trans q4) ?_
              rw [← q3, Bool.false_xor, decV_int, decide_eq_true_eq]
              omega
        · refine ⟨_, .str "pick", .inr (SqT.of e), atI_zero _ _, rfl, _, rfl, eqS_t ?_⟩
          cases th with
          | box qs =>
            obtain ⟨ta, tc, txs, rfl, t1, t2, t3, t4, t5⟩ := hv1
            refine ⟨_, .str "box", .inr (SqT.of t1), atI_zero _ _, rfl, _, rfl, eqS_f (by decide +kernel) ?_⟩
            refine ⟨_, .str "pick", .inr (SqT.of e), atI_zero _ _, rfl, _, rfl, neS_t (by decide +kernel) (iteT ?_)⟩
            exact fin false H1 (Same.refl _) (bfalse (pick_box hhd))
          | pick tw tt =>
            obtain ⟨ta, tu, rfl, t1, t2⟩ := hv1
            refine ⟨_, .str "pick", .inr (SqT.of t1), atI_zero _ _, rfl, _, rfl, eqS_t ?_⟩
            refine ⟨_, .ref c, .inr (SqT.of e), rfl, Or.inr ⟨⟨ys, SqT.of ec⟩, fun L hL => ?_⟩⟩
            refine lc_by (itn_tup ys) (fun i τ H' => ∃ (v0 v1 : Option V) (zs : List V), τ = [v0, v1, some (.ref ta)] ∧ H' L = some (.lst zs) ∧ zs = ((ps.take i).filter fun p => decide (p.1 = tw)).map (fun p => V.str p.2) ∧ Same H1 H')
              ⟨none, none, [], rfl, upd_same, by simp, Same.upd hL _⟩ (by rintro i τ H' _ ⟨_, _, _, _, _, _, s⟩; exact SqT.of (s _ _ ec)) ?_ ?_
            · rintro i τ H3 hi ⟨v0, v1, zs, rfl, q1, q2, q4⟩
              have hip : i < ps.length := by omega
              obtain ⟨d0, r1, r2⟩ := hp.at_ i hi hip
              have eg : ys.getD i .non = .ref d0 := by rw [List.getD_eq_getElem?_getD, List.getElem?_eq_getElem hi, r1]; rfl
              rw [eg]
              have tks : ps.take (i + 1) = ps.take i ++ [ps[i]] := by rw [List.take_add_one, List.getElem?_eq_getElem hip]; rfl
              have zl : zs.length ≤ i := by
                rw [q2, List.length_map]
                have := List.length_filter_le (fun p : Str × Str => decide (p.1 = tw)) (ps.take i)
                rw [List.length_take] at this; omega
              generalize ps[i] = pp at r2 tks
              refine g2_at (q4 _ _ r2) ?_
              refine ⟨_, .str tw, .inr (SqT.of (q4 _ _ t1)), rfl, rfl, _, rfl, iteB (fun cc => ?_) (fun cc => ?_)⟩
              · rw [Bool.false_xor, decV_str, beq_iff_eq] at cc
                refine ⟨zs, q1, by omega, _, _, _, rfl, upd_same, ?_, q4.put hL⟩
                rw [tks, List.filter_append, List.map_append, ← q2, List.filter_cons, if_pos (by simpa using cc)]; rfl
              · rw [Bool.false_xor, decV_str, beq_eq_false_iff_ne] at cc
                refine ⟨_, _, zs, rfl, q1, ?_, q4⟩
                rw [tks, List.filter_append, List.map_append, ← q2, List.filter_cons, if_neg (by simpa using cc)]; simp
            · rintro τ H3 ⟨v0, v1, zs, rfl, q1, q2, q4⟩
              rw [hpyl, List.take_length] at q2
              obtain ⟨f1, f2⟩ := filt_mem ndp tw
              by_cases hex : ∃ y, (tw, y) ∈ ps
              · obtain ⟨y, hy⟩ := hex
                rw [f1 y hy] at q2
                subst q2
                refine .inl ⟨_, .inl (SqL.of q1), rfl, _, rfl, iteT ?_⟩
                have n11 : ns.idxOf y < 11 := by
                  have : ns.idxOf y < ns.length := List.idxOf_lt_length_of_mem (hps _ hy).2.2
                  omega
                refine ⟨_, .str y, .inl (SqL.of q1), atI_zero _ _, _, tu, .inr (SqT.of (q4 _ _ t1)), rfl, a, xs, rows, ns, ws, y, tu, m, tt, rfl, rt1.tk q4.ts, hw, (hps _ hy).2.2, t2.tk q4.ts, by omega, fun bb H4 s4 hb => fin bb H4 (q4.trans s4) ?_⟩
                rw [hb, of_pick hhd]
                exact ⟨fun h => ⟨y, hy, h⟩, fun ⟨y', h1, h2⟩ => by rw [nd_uniq ndp hy h1]; exact h2⟩
              · rw [f2 fun y hy => hex ⟨y, hy⟩] at q2
                subst q2
                refine .inl ⟨_, .inl (SqL.of q1), rfl, _, rfl, iteF ?_⟩
                refine fin false H3 q4 (bfalse ?_)
                rw [of_pick hhd]
                exact fun ⟨y, h1, _⟩ => hex ⟨y, h1⟩
def spFit (d : Nat) : Sp := fun vs H Q _ => ∃ (p w a wd : Addr) (xs : List V) (rows : List Rw2) (ns ws : List Str) (x : Str) (l t : Nat), vs = [.ref p, .ref a, .str x, .ref wd, .int (l : Int)] ∧ RT H a xs rows ns ws ∧ x ∈ ns ∧ PenAt H p w t ∧ t + 4 ^ (l + 4) < TMAX ∧ TxtsAt H wd ws ∧ ws.length ≤ 3 ∧ ws.Nodup ∧ 11 * l + ns.idxOf x < d ∧
  ∀ (v : V) (th : Th) (H' : Hp), ThV H' (l + 2) v th → PenAt H' p w (t + 4 ^ (l + 4)) → Sm p w H H' → Q v H'
set_option maxHeartbeats 4000000 in
theorem ok_law_tfit (T : Txt K mg w) : ∀ d : Nat, FnK P w K mg base (5 + d) "_law_tfit" ["pen", "told", "x", "words", "left"] (spFit d) := by
  intro d
  induction d with
  | zero =>
    refine T.t_law_tfit.okS (k := 4) sc_law_tfit (fun vs H Q E h => ?_) (fun f cdv A outer s H vs Q E hr h => ?_)
    · obtain ⟨p, w', a, wd, xs, rows, ns, ws, x, l, t, rfl, _⟩ := h
      rfl
    · obtain ⟨p, w', a, wd, xs, rows, ns, ws, x, l, t, rfl, rt, hx, hp, ht, hwd, h3, hnd, hd, _⟩ := h
      omega
  | succ d ih =>
    have F_law_tfit : FnK P w K mg base (5 + d) "_law_tfit" ["pen", "told", "x", "words", "left"] (spFit d) := ih
    have F_law_tdraw : FnK P w K mg base 1 "_law_tdraw" ["pen", "many"] spDraw := ok_law_tdraw T
    have F_law_tthing : FnK P w K mg base 4 "_law_tthing" ["pen", "words", "left"] (spThing 2) := ok_law_tthing T 2
    refine T.t_law_tfit.okS (k := 5 + d) sc_law_tfit (fun vs H Q E h => ?_) (fun f cdv A outer s H vs Q E hr h => ?_)
    · obtain ⟨p, w', a, wd, xs, rows, ns, ws, x, l, t, rfl, _⟩ := h
      rfl
    · obtain ⟨p, w', a, wd, xs, rows, ns, ws, x, l, t, rfl, rt, hx, hp, ht, hwd, h3, hnd, hd, k⟩ := h
      have hu := hu_of hr
      have hu0 := Nat.lt_of_succ_lt hu
      have hu20 := hu20_of hr
      have hsz : sizeLine = 16777216 := sizeLine_eq
      have ht' : t + 4 ^ (l + 4) < 1000000000000 := ht
      have hpow : 4 ^ (l + 4) = 256 * 4 ^ l := by rw [Nat.pow_succ, Nat.pow_succ, Nat.pow_succ, Nat.pow_succ]; omega
      have hpos : 1 ≤ 4 ^ l := Nat.pow_pos (by decide)
      have hw : ∀ z ∈ ws, Wd z := hwd.wd
      obtain ⟨rs, g, nm, rl, hval⟩ := rt.good hw
      have hm : ∀ z, z ∈ ns ↔ z ∈ rs.map (·.1) := fun z => by rw [nm]; exact rt.nm.mem_iff.symm
      have few := rt.few
      have hgl := g.len
      obtain ⟨hv0, hvm, hval0⟩ := g.get ((hm x).mp hx)
      have hq0 : HV H hv0 (hdOf rows x) := hval x hv0 hx hval0
      have hro : ∃ r ∈ rows, r.1 = x ∧ hdOf rows x = r.2 := by
        have h3 : x ∈ rows.map (·.1) := by rw [← nm]; exact (hm x).mp hx
        obtain ⟨r, hr, e⟩ := List.mem_map.mp h3
        exact ⟨r, hr, e, by rw [← e, hdOf_mem rt.ndr hr]⟩
      have hok : (hdOf rows x).ok ns := by
        obtain ⟨r, hr, _, e⟩ := hro
        rw [e]; exact (rt.ok r hr).2
      have hww : ∀ z ∈ (hdOf rows x).wds, z ∈ ws := by
        obtain ⟨r, hr, _, e⟩ := hro
        rw [e]; exact rt.ww r hr
      clear hro
      refine ⟨_, (sb_cons (s_set (i := 5) sc_law_tfit.nd rfl (Or.inl rfl) (z_dget hu (z_callTy (call_dict_of rfl) (by rfl) T.n_dict PyProof.Rows.boot_dict (sa_Name (zv 1) sa_nil)) (zv 2) (fun _ _ => rfl)))
      (sb_cons (s_if (y_cmpR (op_eqD hu0) (z_ix (ix_K K) (zv 5) z_int (fun _ _ => rfl)) z_str (nomark _)) (sb_one (s_ret (z_fn F_law_tfit (hr.mono (by omega)) (sa_Name (zv 0) (sa_Name (zv 1) (sa_Subscript (z_ix (ix_K K) (zv 5) z_int (fun _ _ => rfl)) (sa_Name (zv 3) (sa_Name (zv 4) sa_nil)))))))) sb_nil)
      (sb_cons (s_if (w_or (y_cmpR (op_eqD hu0) (zv 4) z_int (nomark _)) (w_or (y_cmpR (op_eqD hu0) (z_fn F_law_tdraw (hr.mono (by omega)) (sa_Name (zv 0) (sa_Constant z_int sa_nil))) z_int (nomark _)) (w_or1 (y_cmpR (op_notInK K) (z_ix (ix_K K) (zv 5) z_int (fun _ _ => rfl)) (z_lst (sa_Constant z_str (sa_Constant z_str sa_nil))) rfl)))).pt (sb_one (s_ret (z_fn F_law_tthing (hr.mono (by omega)) (sa_Name (zv 0) (sa_Name (zv 3) (sa_Call (z_callB (call_min2 rfl) (by rfl) T.n_min PyProof.Rows.boot_min (sa_Name (zv 4) (sa_Constant z_int sa_nil))) sa_nil)))))) sb_nil)
      (sb_cons (s_if (y_cmpR (op_eqD hu0) (z_ix (ix_K K) (zv 5) z_int (fun _ _ => rfl)) z_str (nomark _)) (sb_cons (s_asg (z_ix (ix_K K) (z_op (op_catA K) (z_ix (ix_K K) (zv 5) z_int (fun _ _ => rfl)) (z_tup (sa_Tuple (z_tup (sa_Subscript (z_ix (ix_K K) (zv 3) z_int (fun _ _ => rfl)) (sa_Name (zv 2) sa_nil))) sa_nil))) (z_fn F_law_tdraw (hr.mono (by omega)) (sa_Name (zv 0) (sa_BinOp (z_op op_addD (z_callB (call_lenK K) (by rfl) T.n_len PySem.boot_len (sa_Subscript (z_ix (ix_K K) (zv 5) z_int (fun _ _ => rfl)) sa_nil)) (z_callTy call_intB (by rfl) T.n_int PyProof.Rows.boot_int (sa_Compare (z_cmpR (op_eqTE hu20) (z_ix (ix_K K) (zv 5) z_int (fun _ _ => rfl)) (z_tup sa_nil) (nomark _)) sa_nil))) sa_nil))) (fun _ _ => rfl)) (g_tup K (n := 2) rfl (gs_cons (g_name (i := 6) sc_law_tfit.nd rfl (Or.inl rfl)) (gs_cons (g_name (i := 7) sc_law_tfit.nd rfl (Or.inl rfl)) gs_nil))))
      (sb_one (s_ret (z_tup (sa_Constant z_str (sa_Name (zv 6) (sa_Call (z_fn F_law_tfit (hr.mono (by omega)) (sa_Name (zv 0) (sa_Name (zv 1) (sa_Name (zv 7) (sa_Name (zv 3) (sa_BinOp (z_op op_subD (zv 4) z_int) sa_nil)))))) sa_nil))))))) sb_nil)
      (sb_cons (s_set (i := 8) sc_law_tfit.nd rfl (Or.inl rfl) (z_callTy (call_dict_L rfl) (by rfl) T.n_dict PyProof.Rows.boot_dict (sa_ListComp (z_lc (own := ["word", "name"]) (idx := [0, 1, 3, 4]) (N' := ["word", "name", "pen", "told", "words", "left"]) (⟨rfl, by decide +kernel, by decide +kernel, (show ∀ y ∈ Scope.names _, y.2 = NameKind.free → ((defScope s_law_tfit).names.lookup y.1 = some NameKind.cell ∨ (defScope s_law_tfit).names.lookup y.1 = some NameKind.free) by decide +kernel), (show ∀ j ∈ ([0, 1, 3, 4] : List Nat), (Scope.names _).lookup ((["pen", "told", "x", "words", "left", "head", "word", "name", "parts"] : List Str).getD j "") = some NameKind.free ∧ j < (["pen", "told", "x", "words", "left", "head", "word", "name", "parts"] : List Str).length by decide +kernel), rfl⟩) rfl (i_K K (z_ix (ix_K K) (zv 5) z_int (fun _ _ => rfl))) (fun _ _ _ _ _ _ => (g_tup K (n := 2) rfl (gs_cons (g_name (i := 0) (show List.Nodup (["word", "name", "pen", "told", "words", "left"] : List Str) by decide +kernel) rfl (Or.inl rfl)) (gs_cons (g_name (i := 1) (show List.Nodup (["word", "name", "pen", "told", "words", "left"] : List Str) by decide +kernel) rfl (Or.inl rfl)) gs_nil)))) (fun _ _ _ _ _ _ => c_nil) (fun _ _ _ _ _ _ => (z_tup (sa_Name (zv 0) (sa_Call (z_fn F_law_tfit (hr.mono (by omega)) (sa_Name (zv 2) (sa_Name (zv 3) (sa_Name (zv 1) (sa_Name (zv 4) (sa_BinOp (z_op op_subD (zv 5) z_int) sa_nil)))))) sa_nil))))) sa_nil)))
      (sb_cons (s_if (y_cmpR (op_eqD hu0) (z_fn F_law_tdraw (hr.mono (by omega)) (sa_Name (zv 0) (sa_Constant z_int sa_nil))) z_int (nomark _)) (sb_cons (s_set (i := 6) sc_law_tfit.nd rfl (Or.inl rfl) (z_ix (ix_K K) (zv 3) (z_fn F_law_tdraw (hr.mono (by omega)) (sa_Name (zv 0) (sa_Call (z_callB (call_lenK K) (by rfl) T.n_len PySem.boot_len (sa_Name (zv 3) sa_nil)) sa_nil))) (fun _ _ => rfl)))
      (sb_one (s_dput hu (zv 8) (zv 6) (z_dgetD hu (zv 8) (zv 6) (z_fn F_law_tthing (hr.mono (by omega)) (sa_Name (zv 0) (sa_Name (zv 3) (sa_Constant z_int sa_nil)))) ⟨rfl, rfl, rfl, rfl⟩) rfl))) sb_nil)
      (sb_one (s_ret (z_tup (sa_Constant z_str (sa_Call (z_callTy (call_tupK K) (by rfl) T.n_tuple PyProof.Rows.boot_tuple (sa_Call (z_srtItems rfl (by rfl) T.n_sorted (zv 8)) sa_nil)) sa_nil))))))))))), ?_⟩
      refine tSeq_set ⟨a, xs, rowsK rs, rfl, g.at_, g.ps, (by simp; omega), fun D hD => ?_⟩
      have s1 : Same H (upd H D (.dK (dictOf (rowsK rs)))) := Same.upd hD _
      have hdg : DGet (upd H D (.dK (dictOf (rowsK rs)))) D (.str x) (some hv0) := by
        rw [← hval0]; exact DGet.k (k := Sum.inr x) upd_same
      refine ⟨D, _, rfl, hdg, ?_⟩
      have hq1 := hq0.tk s1.ts
      have rt1 := rt.tk s1.ts
      have hp1 := hp.same s1
      have hwd1 := hwd.same s1
      dsimp only
      generalize upd H D (.dK (dictOf (rowsK rs))) = H1 at s1 hdg hq1 rt1 hp1 hwd1 ⊢
      generalize hhd : hdOf rows x = h at hq1 hok hww
      /- the way out through tthing -/
      have out : ∀ (hv : V) (H2 : Hp) (t2 : Nat), PenAt H2 p w' t2 → t2 ≤ t + 1 → Sm p w' H H2 → tRet (tCall (spThing 2) [] E0 (tCons (tV 0) (tCons (tV 3) (tCons (tCB (fun xs H Q => ∃ i j, xs = [V.int i, V.int j] ∧ Q (.int (if j < i then j else i)) H) (tCons (tV 4) (tCons (tC (V.int 1)) tNil))) tNil)))) { nx := fun _ H' => Q .non H', rt := Q } [some (.ref p), some (.ref a), some (.str x), some (.ref wd), some (.int (l : Int)), some hv, none, none, none] H2 := fun hv H2 t2 hp2 ht2 sm2 => by
        refine ⟨(l : Int), 1, rfl, p, w', wd, min l 1, t2, ws, ?_, by omega, hp2, ?_, hwd.sm hp sm2, h3, hnd, fun v th H3 hv3 hp3 sm3 => ?_⟩
        · have : (if (1 : Int) < (l : Int) then (1 : Int) else (l : Int)) = ((min l 1 : Nat) : Int) := by split <;> omega
          rw [this]; rfl
        · have : min l 1 = 0 ∨ min l 1 = 1 := by omega
          show t2 + 4 ^ (min l 1 + 2) < 1000000000000
          rcases this with e | e <;> (rw [e]; omega)
        · refine k v th H3 (hv3.mono (by omega)) (hp3.mono ?_) (sm2.trans sm3)
          have : min l 1 = 0 ∨ min l 1 = 1 := by omega
          rcases this with e | e <;> (rw [e]; omega)
      cases hq1 with
      | @as b y e =>
        obtain ⟨i1, i2⟩ := g.inn _ hvm y (by show (hdOf rows x).nx = _; rw [hhd]; rfl)
        have i2' : ns.idxOf y < ns.idxOf x := i2
        refine ⟨_, .str "as", .inr (SqT.of e), atI_zero _ _, rfl, _, rfl, eqS_t ?_⟩
        exact ⟨_, .str y, .inr (SqT.of e), rfl, p, w', a, wd, xs, rows, ns, ws, y, l, t, rfl, rt1, hok.2, hp1, ht, hwd1, h3, hnd, by omega, fun v th H' q1 q2 q3 => k v th H' q1 q2 (s1.sm.trans q3)⟩
      | @one b z e =>
        have nz : (z == "as") = false ∧ z ∉ (["box", "pick"] : List Str) := by rcases hok with rfl | rfl <;> decide +kernel
        refine ⟨_, .str z, .inr (SqT.of e), atI_zero _ _, rfl, _, rfl, eqS_f nz.1 ?_⟩
        refine ⟨rfl, _, rfl, iteB (fun cc => iteT (out _ H1 t hp1 (by omega) s1.sm)) (fun cc => ⟨p, w', 12, t, rfl, hp1, ⟨by decide, by decide⟩, by show t < 1000000000000; omega, fun r H2 r0 r1 hp2 sm2 => ⟨rfl, _, rfl, iteB (fun _ => iteT (out _ H2 (t + 1) hp2 (by omega) (s1.sm.trans sm2))) (fun _ => ?_)⟩⟩)⟩
        have e2 := hp1.ts sm2 _ _ e
        refine ⟨_, .str z, .inr (SqT.of e2), atI_zero _ _, (show 2 ≤ sizeLine by decide), fun ll hll => ⟨[.str "box", .str "pick"], .inl (SqL.of upd_same), rfl, rfl, _, rfl, ?_⟩⟩
        show if (true ^^ inV (.str z) ((["box", "pick"] : List Str).map V.str)) = true then _ else _
        rw [inV_strs, decide_eq_false nz.2]
        exact iteT (out _ _ (t + 1) (hp2.same (Same.upd hll _)) (by omega) ((s1.sm.trans sm2).trans (Same.upd hll _).sm))
      | @way b y z e =>
        refine ⟨_, .str "way", .inr (SqT.of e), atI_zero _ _, rfl, _, rfl, eqS_f (by decide +kernel) ?_⟩
        refine ⟨rfl, _, rfl, iteB (fun cc => iteT (out _ H1 t hp1 (by omega) s1.sm)) (fun cc => ⟨p, w', 12, t, rfl, hp1, ⟨by decide, by decide⟩, by show t < 1000000000000; omega, fun r H2 r0 r1 hp2 sm2 => ⟨rfl, _, rfl, iteB (fun _ => iteT (out _ H2 (t + 1) hp2 (by omega) (s1.sm.trans sm2))) (fun _ => ?_)⟩⟩)⟩
        have e2 := hp1.ts sm2 _ _ e
        refine ⟨_, .str "way", .inr (SqT.of e2), atI_zero _ _, (show 2 ≤ sizeLine by decide), fun ll hll => ⟨[.str "box", .str "pick"], .inl (SqL.of upd_same), rfl, rfl, _, rfl, ?_⟩⟩
        show if (true ^^ inV (.str "way") ((["box", "pick"] : List Str).map V.str)) = true then _ else _
        rw [inV_strs, decide_eq_false (by decide +kernel)]
        exact iteT (out _ _ (t + 1) (hp2.same (Same.upd hll _)) (by omega) ((s1.sm.trans sm2).trans (Same.upd hll _).sm))
      | @prs b c z ys ps e ec hpv =>
        obtain ⟨hz, hps, hris, hpl⟩ := hok
        have ndp := rising_nodup hris
        have hpyl := hpv.len
        have hpw : ∀ q ∈ ps, q.1 ∈ ws := fun q hq => hww _ (List.mem_map.mpr ⟨q, hq, rfl⟩)
        have hp3 : ps.length ≤ 3 := by
          have := nodup_sub ndp (m := ws) fun z hz => by obtain ⟨q, hq, rfl⟩ := List.mem_map.mp hz; exact hpw q hq
          rw [List.length_map] at this; omega
        have nz : (z == "as") = false ∧ z ∈ (["box", "pick"] : List Str) := by rcases hz with rfl | rfl <;> decide +kernel
        refine ⟨_, .str z, .inr (SqT.of e), atI_zero _ _, rfl, _, rfl, eqS_f nz.1 ?_⟩
        refine ⟨rfl, _, rfl, iteB (fun cc => iteT (out _ H1 t hp1 (by omega) s1.sm)) (fun cc => ⟨p, w', 12, t, rfl, hp1, ⟨by decide, by decide⟩, by show t < 1000000000000; omega, fun r H2 r0 r1 hp2 sm2 => ⟨rfl, _, rfl, iteB (fun _ => iteT (out _ H2 (t + 1) hp2 (by omega) (s1.sm.trans sm2))) (fun _ => ?_)⟩⟩)⟩
        rw [Bool.false_xor, decV_int] at cc
        have hl0 : 0 < l := by have := of_decide_eq_false cc; omega
        obtain ⟨m, rfl⟩ : ∃ m, l = m + 1 := ⟨l - 1, by omega⟩
        have em : (((m + 1 : Nat) : Int) - 1) = (m : Int) := by omega
        have hB : 4 ^ (m + 4) = 256 * 4 ^ m := by rw [Nat.pow_succ, Nat.pow_succ, Nat.pow_succ, Nat.pow_succ]; omega
        have hB1 : 1 ≤ 4 ^ m := Nat.pow_pos (by decide)
        have hB2 : 4 ^ (m + 1) = 4 * 4 ^ m := by rw [Nat.pow_succ]; omega
        have e2 := hp1.ts sm2 _ _ e
        refine ⟨_, .str z, .inr (SqT.of e2), atI_zero _ _, (show 2 ≤ sizeLine by decide), fun ll hll => ⟨[.str "box", .str "pick"], .inl (SqL.of upd_same), rfl, rfl, _, rfl, ?_⟩⟩
        show if (true ^^ inV (.str z) ((["box", "pick"] : List Str).map V.str)) = true then _ else _
        rw [inV_strs, decide_eq_true nz.2]
        refine iteF ?_
        have sl := Same.upd hll (.lst [.str "box", .str "pick"])
        have hp3' := hp2.same sl
        have sm3 : Sm p w' H (upd H2 ll (.lst [.str "box", .str "pick"])) := (s1.sm.trans sm2).trans sl.sm
        have tk3 : Tk H1 (upd H2 ll (.lst [.str "box", .str "pick"])) := (hp1.ts sm2).trans sl.ts
        generalize upd H2 ll (.lst [.str "box", .str "pick"]) = H3 at sl hp3' sm3 tk3 ⊢
        have e3 := tk3 _ _ e
        have ec3 := tk3 _ _ ec
        have hpv3 := hpv.tk tk3
        have rt3 := rt1.tk tk3
        have hwd3 := hwd.sm hp sm3
        clear sl hp2 sm2 e2 out
        have wpos := hwd3.pos
        rcases hz with rfl | rfl
        · refine ⟨_, .str "box", .inr (SqT.of e3), atI_zero _ _, rfl, _, rfl, eqS_f (by decide +kernel) ?_⟩
          refine ⟨_, .ref c, .inr (SqT.of e3), rfl, Or.inr ⟨⟨ys, SqT.of ec3⟩, fun L hL => ?_⟩⟩
          have nLp : L ≠ p := hp3'.ne1 hL
          have nLw : L ≠ w' := hp3'.ne2 hL
          have hL0 : H L = none := sm3.free hL nLp nLw
          refine lc_by (itn_tup ys) (fun i τ H' => ∃ (v0 v1 : Option V) (zs : List V) (kvs : List (Key × V)), τ = [v0, v1, some (.ref p), some (.ref a), some (.ref wd), some (.int ((m + 1 : Nat) : Int))] ∧ H' L = some (.lst zs) ∧ PairsAt H' zs kvs ∧ kvs.map (·.1) = (ps.take i).map (fun q => (.inr q.1 : Key)) ∧ (∀ q ∈ kvs, ∃ t, ThV H' (m + 2) q.2 t) ∧ PenAt H' p w' (t + 1 + 4 ^ (m + 4) * i) ∧ Sm p w' H H' ∧ Tk H3 H')
            ⟨none, none, [], [], rfl, upd_same, pairs_nil, rfl, (fun _ h => nomatch h), hp3'.same (Same.upd hL _), sm3.upd hL0, (Same.upd hL _).ts⟩ (by rintro i τ H' _ ⟨_, _, _, _, _, _, _, _, _, _, _, tk⟩; exact SqT.of (tk _ _ ec3)) ?_ ?_
          · rintro i τ H4 hi ⟨v0, v1, zs, kvs, rfl, q1, q2, q3, q4, q5, q6, q7⟩
            have hip : i < ps.length := by omega
            obtain ⟨d0, r1, r2⟩ := hpv3.at_ i hi hip
            have eg : ys.getD i .non = .ref d0 := by rw [List.getD_eq_getElem?_getD, List.getElem?_eq_getElem hi, r1]; rfl
            rw [eg]
            have hmem := List.getElem_mem hip
            have tks : ps.take (i + 1) = ps.take i ++ [ps[i]] := by rw [List.take_add_one, List.getElem?_eq_getElem hip]; rfl
            generalize ps[i] = pp at r2 hmem tks
            refine g2_at (q7 _ _ r2) ?_
            have hkl : kvs.length ≤ i := by have := congrArg List.length q3; simp at this; omega
            have hzl : zs.length = kvs.length := q2.1
            have hmul : 4 ^ (m + 4) * i ≤ 4 ^ (m + 4) * 2 := Nat.mul_le_mul_left _ (by omega)
            have n11 : ns.idxOf pp.2 < 11 := by
              have : ns.idxOf pp.2 < ns.length := List.idxOf_lt_length_of_mem (hps pp hmem).2.2
              omega
            refine ⟨p, w', a, wd, xs, rows, ns, ws, pp.2, m, t + 1 + 4 ^ (m + 4) * i, by rw [← em]; rfl, rt3.tk q7, (hps pp hmem).2.2, q5, by show t + 1 + 4 ^ (m + 4) * i + 4 ^ (m + 4) < 1000000000000; omega, hwd.sm hp q6, h3, hnd, by omega, fun v th H5 hv hp5 sm5 => ⟨(show 2 ≤ sizeLine by decide), fun b9 hb9 => ?_⟩⟩
            have s9 := Same.upd hb9 (.tup [.str pp.1, v])
            have f9 : upd H5 b9 (.tup [.str pp.1, v]) b9 = some (.tup [.str pp.1, v]) := upd_same
            have g1 := s9 _ _ (sm5 _ _ q1 nLp nLw)
            have tk6 : Tk H4 (upd H5 b9 (.tup [.str pp.1, v])) := (q5.ts sm5).trans s9.ts
            have hp6 := hp5.same s9
            have sm6 : Sm p w' H (upd H5 b9 (.tup [.str pp.1, v])) := (q6.trans sm5).trans s9.sm
            have hv6 := hv.tk s9.ts
            dsimp only
            generalize upd H5 b9 (.tup [.str pp.1, v]) = H6 at s9 f9 g1 tk6 hp6 sm6 hv6 ⊢
            have tk7 : Tk H6 (upd H6 L (.lst (zs ++ [.ref b9]))) := Tk.refl.set g1 (fun _ z => nomatch z)
            refine ⟨zs, g1, by omega, _, _, zs ++ [.ref b9], kvs ++ [(.inr pp.1, v)], rfl, upd_same, pairs_snocK (q2.ts (tk6.trans tk7)) (tk7 _ _ f9), by rw [List.map_append, q3, tks, List.map_append]; rfl, fun q hq => ?_, (hp6.upd nLp nLw).mono (by rw [Nat.mul_succ]; omega), sm6.upd hL0, (q7.trans tk6).trans tk7⟩
            rcases List.mem_append.mp hq with hq | hq
            · obtain ⟨t0, h0⟩ := q4 q hq; exact ⟨t0, h0.tk (tk6.trans tk7)⟩
            · rw [List.mem_singleton.mp hq]; exact ⟨th, hv6.tk tk7⟩
          · rintro τ H4 ⟨v0, v1, zs, kvs, rfl, q1, q2, q3, q4, q5, q6, q7⟩
            rw [hpyl, List.take_length] at q3
            rw [hpyl] at q5
            have hkl : kvs.length = ps.length := by have := congrArg List.length q3; simpa using this
            have hmul : 4 ^ (m + 4) * ps.length ≤ 4 ^ (m + 4) * 3 := Nat.mul_le_mul_left _ hp3
            have ndk : (kvs.map (·.1)).Nodup := by
              rw [q3]
              exact List.pairwise_map.mpr ((List.pairwise_map.mp ndp).imp fun h e => h (Sum.inr.inj e))
            refine ⟨L, zs, kvs, rfl, q1, q2, by omega, fun d0 hd0 => ?_⟩
            rw [dictOf_nodup _ ndk]
            have pd0 : PD (ThV H4 (m + 2)) ws kvs := by
              refine ⟨fun q hq => ?_, ndk⟩
              obtain ⟨t0, h0⟩ := q4 q hq
              have : q.1 ∈ ps.map (fun q => (.inr q.1 : Key)) := by rw [← q3]; exact List.mem_map.mpr ⟨q, hq, rfl⟩
              obtain ⟨q', hq', e'⟩ := List.mem_map.mp this
              exact ⟨q'.1, t0, e'.symm, hpw q' hq', h0⟩
            have ndp' : d0 ≠ p := q5.ne1 hd0
            have ndw' : d0 ≠ w' := q5.ne2 hd0
            have hd00 : H d0 = none := q6.free hd0 ndp' ndw'
            have s5 := Same.upd hd0 (.dK kvs)
            have f5 : upd H4 d0 (.dK kvs) d0 = some (.dK kvs) := upd_same
            have pd5 := pd0.imp fun v t h => h.tk s5.ts
            have hp5 := q5.same s5
            have sm5 : Sm p w' H (upd H4 d0 (.dK kvs)) := q6.upd hd00
            dsimp only
            generalize upd H4 d0 (.dK kvs) = H5 at s5 f5 pd5 hp5 sm5 ⊢
            refine tSeq_by (fun σ' H' => ∃ (v6 v7 : Option V) (kvs' : List (Key × V)), σ' = [some (.ref p), some (.ref a), some (.str x), some (.ref wd), some (.int ((m + 1 : Nat) : Int)), some (.ref b), v6, v7, some (.ref d0)] ∧ H' d0 = some (.dK kvs') ∧ PD (ThV H' (m + 2)) ws kvs' ∧ PenAt H' p w' (t + 4 ^ (m + 1 + 4)) ∧ Sm p w' H H') ?_ ?_
            · intro nx hnx
              refine ⟨p, w', 3, _, rfl, hp5, ⟨by decide, by decide⟩, by show t + 1 + 4 ^ (m + 4) * ps.length < 1000000000000; omega, fun r' H6 a0 a1 hp6 sm6 => ⟨rfl, _, rfl, iteB (fun _ => ?_) (fun _ => hnx _ _ ⟨none, none, kvs, rfl, sm6 _ _ f5 ndp' ndw', pd5.imp fun v t h => h.tk (hp5.ts sm6), hp6.mono (by omega), sm5.trans sm6⟩)⟩⟩
              have sm06 := sm5.trans sm6
              have hwd6 := hwd.sm hp sm06
              refine tSeq_set (.inl ⟨_, .inl (SqL.of hwd6.e), p, w', _, _, rfl, hp6, ⟨by rw [List.length_map]; omega, by rw [List.length_map]; omega⟩, by show t + 1 + 4 ^ (m + 4) * ps.length + 1 < 1000000000000; omega, fun r2 H7 b0 b1 hp7 sm7 => ?_⟩)
              rw [List.length_map] at b1
              have sm07 := sm06.trans sm7
              have hwd7 := hwd.sm hp sm07
              obtain ⟨z, hz1, hz2, hz3⟩ := hwd7.at r2 b0 b1
              have hzw : z ∈ ws := List.mem_of_getElem? hz2
              refine ⟨_, _, .inl (SqL.of hwd7.e), hz1, ?_⟩
              have f7 := sm7 _ _ (sm6 _ _ f5 ndp' ndw') ndp' ndw'
              have tk7 := (hp5.ts sm6).trans (hp6.ts sm7)
              refine ⟨d0, rfl, .inl ⟨kvs, .inl f7⟩, p, w', wd, 1, _, ws, rfl, by decide, hp7, by show t + 1 + 4 ^ (m + 4) * ps.length + 1 + 1 + 4 ^ (1 + 2) < 1000000000000; omega, hwd7, h3, hnd, fun v th H8 hv hp8 sm8 => ?_⟩
              have f8 := sm8 _ _ f7 ndp' ndw'
              have tk8 := tk7.trans (hp7.ts sm8)
              refine ⟨valV kvs (.inr z), DGet.k (k := Sum.inr z) f8, d0, _, rfl, DPut.k (k := Sum.inr z) f8 (by have := pd5.len; omega), hnx _ _ ⟨_, none, _, rfl, upd_same, ?_, (hp8.upd ndp' ndw').mono (by omega), (sm07.trans sm8).upd hd00⟩⟩
              have tk9 : Tk H8 (upd H8 d0 (.dK (putK kvs (.inr z) ((valV kvs (.inr z)).getD v)))) := Tk.refl.set f8 (fun _ z => nomatch z)
              have pd9 := pd5.imp fun v t h => h.tk (tk8.trans tk9)
              have hval9 : ∃ t0, ThV H8 (m + 2) ((valV kvs (.inr z)).getD v) t0 := by
                cases ev : valV kvs (.inr z) with
                | none => exact ⟨th, hv.mono (by omega)⟩
                | some u =>
                  obtain ⟨t0, h0⟩ := pd5.get ev
                  exact ⟨t0, h0.tk tk8⟩
              obtain ⟨t0, h0⟩ := hval9
              exact pd9.put hzw (h0.tk tk9)
            · rintro σ' H6 ⟨v6, v7, kvs', rfl, z1, z2, z3, z4⟩
              refine ⟨d0, kvs', rfl, .inl z1, by have := z2.len; omega, fun q hq => let ⟨z, t, h1, _⟩ := z2.all q hq; ⟨z, h1⟩, z2.nd, fun l us kvs2 H7 hl s7 el pm pa => ⟨l, us, rfl, .inl ⟨SqL.of el, fun b8 hb8 => ⟨(show 2 ≤ sizeLine by decide), fun b9 hb9 => ?_⟩⟩⟩⟩
              obtain ⟨qs, bx, ndq, lq⟩ := ((z2.imp fun v t h => h.tk s7.ts).perm pm).box pa
              have s8 := Same.upd hb8 (.tup us)
              have s9 := Same.upd hb9 (.tup [.str "box", .ref b8])
              have s89 := s8.trans s9
              have lq2 := pm.length_eq
              have lq3 := z2.len
              exact k _ (.box qs) _ ⟨b9, b8, us, rfl, upd_same, s9 _ _ upd_same, ndq, by omega, bx.imp s89.ts fun v t h => h.tk s89.ts⟩ (z3.same (s7.trans s89)) (z4.trans (s7.trans s89).sm)
        · refine ⟨_, .str "pick", .inr (SqT.of e3), atI_zero _ _, rfl, _, rfl, eqS_t ?_⟩
          obtain ⟨z0, hz1, hz2, hz3⟩ := hwd3.at 0 (by decide) (by omega)
          refine ⟨_, .ref c, .inr (SqT.of e3), rfl, _, _, .inl (SqL.of hwd3.e), hz1, (show 2 ≤ sizeLine by decide), fun b1 hb1 => ⟨(show 1 ≤ sizeLine by decide), fun b2 hb2 => ?_⟩⟩
          have s4 := Same.upd hb1 (.tup [.str z0, .str x])
          have f4 : upd H3 b1 (.tup [.str z0, .str x]) b1 = some (.tup [.str z0, .str x]) := upd_same
          dsimp only
          generalize upd H3 b1 (.tup [.str z0, .str x]) = H4 at s4 f4 hb2 ⊢
          have s5 := Same.upd hb2 (.tup [.ref b1])
          have f5 : upd H4 b2 (.tup [.ref b1]) b2 = some (.tup [.ref b1]) := upd_same
          generalize upd H4 b2 (.tup [.ref b1]) = H5 at s5 f5 ⊢
          have s45 := s4.trans s5
          refine catA (s45 _ _ ec3) f5 (by simp; omega) fun pp H6 s6 e6 => ?_
          have s36 := s45.trans s6
          refine ⟨_, .ref c, .inr (SqT.of (s36 _ _ e3)), rfl, .inl ⟨_, .inr (SqT.of (s36 _ _ ec3)), _, .ref c, .inr (SqT.of (s36 _ _ e3)), rfl, (show 0 ≤ sizeLine by decide), fun e0 he0 => ?_⟩⟩
          have s7 := Same.upd he0 (.tup [])
          have f7 : upd H6 e0 (.tup []) e0 = some (.tup []) := upd_same
          dsimp only
          generalize upd H6 e0 (.tup []) = H7 at s7 f7 ⊢
          have s37 := s36.trans s7
          refine ⟨c, e0, ys, rfl, rfl, s37 _ _ ec3, f7, _, rfl, p, w', _, t + 1, rfl, hp3'.same s37, ?_, by show t + 1 < 1000000000000; omega, fun r' H8 a0 a1 hp8 sm8 => ?_⟩
          · cases ys with
            | nil => exact ⟨by decide, by decide⟩
            | cons y ys => simp only [List.isEmpty_cons, List.length_cons] at *; exact ⟨by simp <;> omega, by simp <;> omega⟩
          have tk8 : Tk H3 H8 := s37.ts.trans ((hp3'.same s37).ts sm8)
          have e68 : H8 pp = some (.tup (ys ++ [.ref b1])) := (hp3'.same s37).ts sm8 _ _ (s7 _ _ e6)
          have f48 : H8 b1 = some (.tup [.str z0, .str x]) := (hp3'.same s37).ts sm8 _ _ (s7 _ _ (s6 _ _ (s5 _ _ f4)))
          have smA : Sm p w' H H8 := (sm3.trans s37.sm).trans sm8
          have pair : ∃ (d0 : Addr) (z y : Str), atI (ys ++ [.ref b1]) r' = some (.ref d0) ∧ H8 d0 = some (.tup [.str z, .str y]) ∧ y ∈ ns := by
            obtain ⟨i, rfl⟩ : ∃ i : Nat, r' = (i : Int) := ⟨r'.toNat, by omega⟩
            by_cases hi : i < ys.length
            · obtain ⟨d0, q1, q2⟩ := hpv3.at_ i hi (by omega)
              refine ⟨d0, _, _, atI_nat (by rw [List.getElem?_append_left hi, List.getElem?_eq_getElem hi, q1]), tk8 _ _ q2, (hps _ (List.getElem_mem (by omega))).2.2⟩
            · have hy0 : ys = [] := by
                cases ys with
                | nil => rfl
                | cons y ys => simp at a1 hi; omega
              subst hy0
              have hi0 : i = 0 := by simp at a1; omega
              subst hi0
              exact ⟨b1, z0, x, atI_zero _ _, f48, hx⟩
          obtain ⟨d0, z, y, g1, g2, g3⟩ := pair
          refine ⟨_, _, .inr (SqT.of e68), g1, g2_at g2 ?_⟩
          have n11 : ns.idxOf y < 11 := by
            have : ns.idxOf y < ns.length := List.idxOf_lt_length_of_mem g3
            omega
          refine ⟨p, w', a, wd, xs, rows, ns, ws, y, m, t + 2, by rw [← em]; rfl, rt3.tk tk8, g3, hp8, by show t + 2 + 4 ^ (m + 4) < 1000000000000; omega, hwd.sm hp smA, h3, hnd, by omega, fun v th H9 hv hp9 sm9 => ⟨(show 3 ≤ sizeLine by decide), fun b9 hb9 => ?_⟩⟩
          have s9 := Same.upd hb9 (.tup [.str "pick", .str z, v])
          exact k _ (.pick z th) _ ⟨b9, v, rfl, upd_same, hv.tk s9.ts⟩ ((hp9.same s9).mono (by omega)) ((smA.trans sm9).trans s9.sm)
def spAsk (mg : Str → Option Value) : Sp := fun vs H Q _ => ∃ (nt a : Addr) (xs : List V) (rows : List Rw2) (ns ws : List Str) (e : Str) (v : V) (n : Nat) (th : Th), vs = [.ref nt, .str e, v] ∧ NetAt H (adr mg "Net") nt rows ∧ RT H a xs rows ns ws ∧ (∀ z ∈ ws, Wd z) ∧ EndN rows ns e ∧ ThV H (n + 1) v th ∧
  (∀ H', Same H H' → ¬ OfT rows e th → Q .non H') ∧
  ∀ (L : Addr) (us : List V) (as : List (Str × Th)) (H' : Hp), H L = none → Same H H' → H' L = some (.lst us) → AskV (ThV H' n) H' us as → as.length ≤ 10 → (∀ p ∈ as, EndN rows ns p.1) → (OfT rows e th ↔ ∀ p ∈ as, OfT rows p.1 p.2) → Q (.ref L) H'
set_option maxHeartbeats 4000000 in
theorem ok_asked_behind (T : Txt K mg w) : FnK P w K mg base 2 "asked_behind" ["net", "row", "thing"] (spAsk mg) := by
  have cl := T.k_Net.2.1
  have na := T.k_Net.2.2.1
  refine T.t_asked_behind.okS sc_asked_behind (fun vs H Q E h => ?_) (fun f cdv A outer s H vs Q E hr h => ?_)
  · obtain ⟨nt, a, xs, rows, ns, ws, e, v, n, th, rfl, _⟩ := h
    rfl
  · obtain ⟨nt, a, xs, rows, ns, ws, e, v, n, th, rfl, net, rt, hw, he, hv, kn, kl⟩ := h
    have hu := hu_of hr
    have hu0 := Nat.lt_of_succ_lt (hu_of hr)
    have hsz : sizeLine = 16777216 := sizeLine_eq
    obtain ⟨dx, fs, en, ⟨_, ⟨d2, o2, k2, b1, b2, b3⟩, _, ⟨d4, o4, k4, e1, e2, e3⟩⟩⟩ := net
    generalize adr mg "Net" = C at *
    obtain ⟨hend, hok⟩ := rt.endRow hw he
    obtain ⟨hv0, hval0, hq⟩ := b3.get rt.ndn hend
    have hq : HV H hv0 (hdOf rows e) := hq
    obtain ⟨mv, hvalm, m, om, rfl, hmv⟩ := e3.get rt.ndn hend
    have hmv : H m = some (.frz om (.dT (movesE rows (hdOf rows e)))) := hmv
    rw [movesE_on he.2] at hmv
    have lookH : DGet H d2 (.str e) (some hv0) := by rw [← hval0]; exact DGet.rd (k := Sum.inr e) (.inr ⟨o2, b2⟩)
    have lookM : DGet H d4 (.str e) (some (.ref m)) := by rw [← hvalm]; exact DGet.rd (k := Sum.inr e) (.inr ⟨o4, e2⟩)
    have nxn : (hdOf rows e).nx = none := by
      have := (List.mem_filter.mp hend).2
      simpa using this
    refine ⟨_, (sb_cons (s_set (i := 3) sc_asked_behind.nd rfl (Or.inl rfl) (z_ix (ix_K K) (z_dget hu (z_fld K (zv 0)) (zv 1) (fun _ _ => rfl)) z_int (fun _ _ => rfl)))
      (sb_cons (s_if (y_cmpR (op_eqD hu0) (zv 3) z_str (nomark _)) (sb_one (s_ret (z_lst sa_nil))) sb_nil)
      (sb_cons (s_if (y_cmpR (op_neD hu0) (zv 3) (z_ix (ix_K K) (zv 2) z_int (fun _ _ => rfl)) (nomark _)) (sb_one (s_ret z_non)) sb_nil)
      (sb_cons (s_set (i := 4) sc_asked_behind.nd rfl (Or.inr rfl) (z_frz (z_ifExp (y_cmpR (op_eqD hu0) (zv 3) z_str (nomark _)) (z_dcT (own := ["word", "part"]) (idx := []) (N' := ["word", "part"]) (⟨rfl, by decide +kernel, by decide +kernel, (show ∀ y ∈ Scope.names _, y.2 = NameKind.free → ((defScope s_asked_behind).names.lookup y.1 = some NameKind.cell ∨ (defScope s_asked_behind).names.lookup y.1 = some NameKind.free) by decide +kernel), (show ∀ j ∈ ([] : List Nat), (Scope.names _).lookup ((["net", "row", "thing", "sort", "parts", "moves", "fewer", "more"] : List Str).getD j "") = some NameKind.free ∧ j < (["net", "row", "thing", "sort", "parts", "moves", "fewer", "more"] : List Str).length by decide +kernel), rfl⟩) rfl hu0 (i_K K (z_ix (ix_K K) (zv 2) z_int (fun _ _ => rfl))) (fun _ _ _ _ _ _ => (g_tup K (n := 2) rfl (gs_cons (g_name (i := 0) (show List.Nodup (["word", "part"] : List Str) by decide +kernel) rfl (Or.inl rfl)) (gs_cons (g_name (i := 1) (show List.Nodup (["word", "part"] : List Str) by decide +kernel) rfl (Or.inl rfl)) gs_nil)))) (fun _ _ _ _ _ _ => c_nil) (fun _ _ _ _ _ _ => (z_tup (sa_Constant z_str (sa_Name (zv 0) sa_nil)))) (fun _ _ _ _ _ _ => (zv 1))) (z_disp1 hu (z_tup (sa_Constant z_str (sa_Subscript (z_ix (ix_K K) (zv 2) z_int (fun _ _ => rfl)) sa_nil))) (z_ix (ix_K K) (zv 2) z_int (fun _ _ => rfl))))))
      (sb_cons (s_set (i := 5) sc_asked_behind.nd rfl (Or.inr rfl) (z_dget hu (z_fld K (zv 0)) (zv 1) (fun _ _ => rfl)))
      (sb_cons (s_asg (z_ifExp (y_cmpR (op_eqD hu0) (zv 3) z_str (nomark _)) (z_tup (sa_Name (zv 5) (sa_Name (zv 4) sa_nil))) (z_tup (sa_Name (zv 4) (sa_Name (zv 5) sa_nil)))) (g_tup K (n := 2) rfl (gs_cons (g_name (i := 6) sc_asked_behind.nd rfl (Or.inl rfl)) (gs_cons (g_name (i := 7) sc_asked_behind.nd rfl (Or.inr rfl)) gs_nil))))
      (sb_cons (s_if (y_not (y_val (z_callB (call_allK K rfl) (by rfl) T.n_all PyProof.Rows.boot_all (sa_ListComp (z_lc (own := ["step"]) (idx := [7]) (N' := ["step", "more"]) (⟨rfl, by decide +kernel, by decide +kernel, (show ∀ y ∈ Scope.names _, y.2 = NameKind.free → ((defScope s_asked_behind).names.lookup y.1 = some NameKind.cell ∨ (defScope s_asked_behind).names.lookup y.1 = some NameKind.free) by decide +kernel), (show ∀ j ∈ ([7] : List Nat), (Scope.names _).lookup ((["net", "row", "thing", "sort", "parts", "moves", "fewer", "more"] : List Str).getD j "") = some NameKind.free ∧ j < (["net", "row", "thing", "sort", "parts", "moves", "fewer", "more"] : List Str).length by decide +kernel), rfl⟩) rfl (pi_keysT (zv 6)) (fun _ _ _ _ _ _ => (g_name (i := 0) (show List.Nodup (["step", "more"] : List Str) by decide +kernel) rfl (Or.inl rfl))) (fun _ _ _ _ _ _ => c_nil) (fun _ _ _ _ _ _ => (z_cmpR (op_dIn hu) (zv 0) (zv 1) rfl))) sa_nil)))) (sb_one (s_ret z_non)) sb_nil)
      (sb_one (s_ret (z_lc (own := ["step"]) (idx := [4, 5]) (N' := ["step", "parts", "moves"]) (⟨rfl, by decide +kernel, by decide +kernel, (show ∀ y ∈ Scope.names _, y.2 = NameKind.free → ((defScope s_asked_behind).names.lookup y.1 = some NameKind.cell ∨ (defScope s_asked_behind).names.lookup y.1 = some NameKind.free) by decide +kernel), (show ∀ j ∈ ([4, 5] : List Nat), (Scope.names _).lookup ((["net", "row", "thing", "sort", "parts", "moves", "fewer", "more"] : List Str).getD j "") = some NameKind.free ∧ j < (["net", "row", "thing", "sort", "parts", "moves", "fewer", "more"] : List Str).length by decide +kernel), rfl⟩) rfl (pi_keysT (zv 6)) (fun _ _ _ _ _ _ => (g_name (i := 0) (show List.Nodup (["step", "parts", "moves"] : List Str) by decide +kernel) rfl (Or.inl rfl))) (fun _ _ _ _ _ _ => c_nil) (fun _ _ _ _ _ _ => (z_tup (sa_Subscript (z_dget hu (zv 2) (zv 0) (fun _ _ => rfl)) (sa_Subscript (z_dget hu (zv 1) (zv 0) (fun _ _ => rfl)) sa_nil)))))))))))))), ?_⟩
    refine tSeq_set ⟨nt, C, dx, fs, .ref d2, rfl, en, cl, na "heads" (by simp), b1, d2, hv0, rfl, lookH, ?_⟩
    have tsort : ∃ (ta : Addr) (tz : Str) (tr : List V), v = .ref ta ∧ H ta = some (.tup (.str tz :: tr)) ∧ (tz = "box" ∨ tz = "pick") := by
      cases th with
      | pick tw tt => obtain ⟨ta, tu, rfl, t1, t2⟩ := hv; exact ⟨ta, _, _, rfl, t1, .inr rfl⟩
      | box qs => obtain ⟨ta, tc, txs, rfl, t1, _⟩ := hv; exact ⟨ta, _, _, rfl, t1, .inl rfl⟩
    obtain ⟨ta, tz, tr, rfl, t1, htz⟩ := tsort
    generalize hhd : hdOf rows e = h at hq nxn hok
    cases hq with
    | @as b y e0 => cases nxn
    | @one b z e0 =>
      refine ⟨_, .str z, .inr (SqT.of e0), atI_zero _ _, ?_⟩
      rcases hok with rfl | rfl
      · refine ⟨rfl, _, rfl, eqS_t ⟨(show 0 ≤ sizeLine by decide), fun L hL => ?_⟩⟩
        exact kl L [] [] _ hL (Same.upd hL _) upd_same AskV.nil (by simp) (fun _ h => nomatch h) ⟨(fun _ p hp => nomatch hp), fun _ => .all hhd⟩
      · refine ⟨rfl, _, rfl, eqS_f (by decide +kernel) ?_⟩
        refine ⟨_, .str tz, .inr (SqT.of t1), atI_zero _ _, rfl, _, rfl, neS_t (by rcases htz with rfl | rfl <;> decide +kernel) ?_⟩
        exact kn H (Same.refl _) (not_of_one hhd (by decide +kernel) th)
    | @way b y z e0 =>
      refine ⟨_, .str "way", .inr (SqT.of e0), atI_zero _ _, rfl, _, rfl, eqS_f (by decide +kernel) ?_⟩
      refine ⟨_, .str tz, .inr (SqT.of t1), atI_zero _ _, rfl, _, rfl, neS_t (by rcases htz with rfl | rfl <;> decide +kernel) ?_⟩
      exact kn H (Same.refl _) (not_of_way hhd th)
    | @prs b c z ys ps e0 ec hp =>
      obtain ⟨hz, hps, hris, hpl⟩ := hok
      have ndp := rising_nodup hris
      have on := onE_prs he.2 hhd
      have hend' : ∀ p ∈ ps, EndN rows ns (endOf rows p.2) := fun p hp => rt.stay hw (hps p hp).2.2
      refine ⟨_, .str z, .inr (SqT.of e0), atI_zero _ _, rfl, _, rfl, eqS_f (by rcases hz with rfl | rfl <;> decide +kernel) ?_⟩
      rcases hz with rfl | rfl
      · cases th with
        | pick tw tt =>
          obtain ⟨ta', tu, ee, t1', t2⟩ := hv
          cases ee
          refine ⟨_, .str "pick", .inr (SqT.of t1'), atI_zero _ _, rfl, _, rfl, neS_t (by decide +kernel) ?_⟩
          exact kn H (Same.refl _) (box_pick hhd)
        | box qs =>
          obtain ⟨ta', tc, txs, ee, t1', t2, t3, t4, t5⟩ := hv
          cases ee
          refine ⟨_, .str "box", .inr (SqT.of t1'), atI_zero _ _, rfl, _, rfl, neS_f ?_⟩
          rw [if_pos rfl] at on
          obtain ⟨rq, pq, nq, lq, vq⟩ := t5.pairs
          have ndq : (rq.map (·.1)).Nodup := by rw [nq]; exact t3
          have hxl : txs.length = rq.length := by have := pq.1; simpa using this
          have pnd := pE_nd (wd := "part") ndq
          have pl : (pE "part" rq).length = rq.length := by simp [pE]
          refine ⟨rfl, _, rfl, eqS_t ⟨_, .ref tc, .inr (SqT.of t1'), rfl, Or.inr ⟨⟨txs, SqT.of t2⟩, fun D hD => ?_⟩⟩⟩
          refine dcT_by (itn_tup txs) (fun i τ H' => ∃ v0 v1 : Option V, τ = [v0, v1] ∧ H' D = some (.dT ((pE "part" rq).take i)) ∧ Same H H') ⟨none, none, rfl, upd_same, Same.upd hD _⟩ (by rintro i τ H' _ ⟨_, _, _, _, s⟩; exact SqT.of (s _ _ t2)) ?_ ?_
          · rintro i τ H1 hi ⟨v0, v1, rfl, q1, q2⟩
            have hir : i < rq.length := by omega
            obtain ⟨d0, r1, r2⟩ := pq.2 i (by simpa using hir)
            have eg : txs.getD i .non = .ref d0 := by rw [List.getD_eq_getElem?_getD, r1]; rfl
            rw [eg]
            have r2' : H d0 = some (.tup [.str rq[i].1, rq[i].2]) := by simpa [rowsK, kV] using r2
            refine g2_at (q2 _ _ r2') ⟨(show 2 ≤ sizeLine by decide), fun T8 hT8 => ?_⟩
            have s8 := Same.upd hT8 (.tup [.str "part", .str rq[i].1])
            have f8 : upd H1 T8 (.tup [.str "part", .str rq[i].1]) T8 = some (.tup [.str "part", .str rq[i].1]) := upd_same
            dsimp only
            generalize upd H1 T8 (.tup [.str "part", .str rq[i].1]) = H2 at s8 f8 ⊢
            have hil : i < (pE "part" rq).length := by omega
            have em : (pE "part" rq)[i] = ([.inr "part", .inr rq[i].1], rq[i].2) := by simp [pE]
            refine ⟨(pE "part" rq).take i, [.inr "part", .inr rq[i].1], T8, rfl, .inl f8, s8 _ _ q1, by simp; omega, _, _, rfl, ?_, (q2.trans s8).put hD⟩
            have := putK_at pnd hil
            rw [em] at this
            rw [this]
            exact upd_same
          · rintro τ H1 ⟨v0, v1, rfl, q1, q2⟩
            rw [hxl, ← pl, List.take_length] at q1
            refine ⟨D, rfl, .inr ⟨pE "part" rq, .inl q1, fun oD => ?_⟩⟩
            have s1 : Same H (upd H1 D (.frz oD (.dT (pE "part" rq)))) := q2.put hD
            have f1 : upd H1 D (.frz oD (.dT (pE "part" rq))) D = some (.frz oD (.dT (pE "part" rq))) := upd_same
            dsimp only
            generalize upd H1 D (.frz oD (.dT (pE "part" rq))) = H2 at s1 f1 ⊢
            clear q1 q2
            refine ⟨nt, C, dx, fs, .ref d4, rfl, s1 _ _ en, cl, na "moves" (by simp), e1, d4, .ref m, rfl, lookM.same s1, ?_⟩
            refine ⟨rfl, _, rfl, eqS_t ⟨(show 2 ≤ sizeLine by decide), fun T3 hT3 => g2_at upd_same ?_⟩⟩
            have s3 := s1.trans (Same.upd hT3 (.tup [.ref m, .ref D]))
            have f3 := Same.upd hT3 (.tup [.ref m, .ref D]) _ _ f1
            dsimp only
            generalize upd H2 T3 (.tup [.ref m, .ref D]) = H3 at s3 f3 ⊢
            have m3 := s3 _ _ hmv
            rw [on] at m3
            have lookP : ∀ {H' : Hp} {bb : Addr} {z : Str}, Same H3 H' → RdT H' bb ([V.str "part", V.str z]) → DGet H' D (.ref bb) (valV (pE "part" rq) [.inr "part", .inr z]) := fun {H' bb z} s' rd => .inr ⟨_, [.inr "part", .inr z], bb, .inr ⟨oD, s' _ _ f3⟩, rfl, rd, rfl⟩
            have look2 : ∀ {H' : Hp} {bb : Addr} {z : Str}, Same H3 H' → RdT H' bb ([V.str "part", V.str z]) → DGet H' m (.ref bb) (valV (ps.map fun p => (([.inr "part", .inr p.1] : List Key), V.str (endOf rows p.2))) [.inr "part", .inr z]) := fun {H' bb z} s' rd => .inr ⟨_, [.inr "part", .inr z], bb, .inr ⟨om, s' _ _ m3⟩, rfl, rd, rfl⟩
            have ml : (ps.map fun p => (([.inr "part", .inr p.1] : List Key), V.str (endOf rows p.2))).length = ps.length := by simp
            refine tSeq_by (fun σ' H' => (∀ p ∈ ps, p.1 ∈ qs.map (·.1)) ∧ Same H3 H' ∧ ∃ v3, σ' = [some (.ref nt), some (.str e), some (.ref ta), v3, some (.ref D), some (.ref m), some (.ref m), some (.ref D)]) ?_ ?_
            · intro nx hnx
              refine ⟨m, _, om, rfl, m3, fun L hL => ?_⟩
              refine lc_keysT (fun i τ H' => ∃ (v0 : Option V) (bs : List Bool), τ = [v0, some (.ref D)] ∧ H' L = some (.lst (bs.map V.bl)) ∧ bs = (ps.take i).map (fun p => decide (p.1 ∈ qs.map (·.1))) ∧ Same H3 H') ⟨none, [], rfl, upd_same, by simp, Same.upd hL _⟩ (by rintro i τ H' _ ⟨_, _, _, _, _, s⟩; exact s _ _ m3) ?_ ?_
              · rintro i τ H4 bb hi ⟨v0, bs, rfl, q1, q2, q3⟩ rd
                have hip : i < ps.length := by omega
                have tks : ps.take (i + 1) = ps.take i ++ [ps[i]] := by rw [List.take_add_one, List.getElem?_eq_getElem hip]; rfl
                have ek : ((ps.map fun p => (([.inr "part", .inr p.1] : List Key), V.str (endOf rows p.2)))[i].1).map kV = [V.str "part", V.str ps[i].1] := by simp [kV]
                rw [ek] at rd
                have hbl : bs.length ≤ i := by rw [q2]; simp; omega
                refine ⟨D, _, rfl, lookP q3 rd, ⟨bs.map V.bl, q1, by simp; omega, _, bs ++ [decide (ps[i].1 ∈ qs.map (·.1))], rfl, ?_, ?_, q3.put hL⟩⟩
                · rw [List.map_append]
                  have : (valV (pE "part" rq) [.inr "part", .inr ps[i].1]).isSome = decide (ps[i].1 ∈ qs.map (·.1)) := by
                    rcases pE_look (R := ThV H n) t3 nq lq vq "part" ps[i].1 with ⟨w1, w2⟩ | ⟨u, tt, w1, w2, w3⟩
                    · rw [w2, decide_eq_false w1]; rfl
                    · rw [w1, decide_eq_true (List.mem_map.mpr ⟨_, w2, rfl⟩)]; rfl
                  rw [this, Bool.false_xor]
                  exact upd_same
                · rw [tks, List.map_append, ← q2]; rfl
              · rintro τ H4 ⟨v0, bs, rfl, q1, q2, q3⟩
                rw [ml, List.take_length] at q2
                refine ⟨bs, SqL.of q1, _, rfl, ?_⟩
                refine iteNB (fun cc => ?_) (fun cc => ?_)
                · refine hnx _ _ ⟨fun p hp => ?_, q3, _, rfl⟩
                  rw [q2] at cc
                  have := List.all_eq_true.mp cc _ (List.mem_map.mpr ⟨p, hp, rfl⟩)
                  exact of_decide_eq_true this
                · refine kn H4 (s3.trans q3) fun o => ?_
                  rw [of_box hhd] at o
                  rw [q2] at cc
                  have : ((ps.map fun p => decide (p.1 ∈ qs.map (·.1))).all id) = true := List.all_eq_true.mpr fun bb hbb => by
                    obtain ⟨p, hp, rfl⟩ := List.mem_map.mp hbb
                    obtain ⟨t, h1, _⟩ := o p hp
                    exact decide_eq_true (List.mem_map.mpr ⟨_, h1, rfl⟩)
                  rw [this] at cc; cases cc
            · rintro σ' H4 ⟨hall, s4, v3, rfl⟩
              have m4 := s4 _ _ m3
              refine ⟨m, _, om, rfl, m4, fun L hL => ?_⟩
              have hL0 : H L = none := (s3.trans s4).free hL
              refine lc_keysT (fun i τ H' => ∃ (v0 : Option V) (zs : List V) (as : List (Str × Th)), τ = [v0, some (.ref D), some (.ref m)] ∧ H' L = some (.lst zs) ∧ AskV (ThV H' n) H' zs as ∧ as.length = i ∧ (∀ j (h1 : j < as.length) (h2 : j < ps.length), as[j].1 = endOf rows ps[j].2 ∧ (ps[j].1, as[j].2) ∈ qs) ∧ Same H4 H') ⟨none, [], [], rfl, upd_same, AskV.nil, rfl, fun j h => absurd h (by simp), Same.upd hL _⟩ (by rintro i τ H' _ ⟨_, _, _, _, _, _, _, _, s⟩; exact s _ _ m4) ?_ ?_
              · rintro i τ H5 bb hi ⟨v0, zs, as, rfl, q1, q2, q3, q4, q5⟩ rd
                have hip : i < ps.length := by omega
                have ek : ((ps.map fun p => (([.inr "part", .inr p.1] : List Key), V.str (endOf rows p.2)))[i].1).map kV = [V.str "part", V.str ps[i].1] := by simp [kV]
                rw [ek] at rd
                have dg1 := look2 (s4.trans q5) rd
                rw [(onP_get (rows := rows) ndp "part" ps[i].1).1 ps[i].2 (List.getElem_mem hip)] at dg1
                have dg2 := lookP (s4.trans q5) rd
                rcases pE_look (R := ThV H n) t3 nq lq vq "part" ps[i].1 with ⟨w1, w2⟩ | ⟨u, tt, w1, w2, w3⟩
                · exact absurd (hall _ (List.getElem_mem hip)) w1
                rw [w1] at dg2
                have zl := q2.len
                refine ⟨m, _, rfl, dg1, D, _, rfl, dg2, (show 2 ≤ sizeLine by decide), fun T8 hT8 => ?_⟩
                have s8 := Same.upd hT8 (.tup [.str (endOf rows ps[i].2), u])
                have f8 : upd H5 T8 (.tup [.str (endOf rows ps[i].2), u]) T8 = some (.tup [.str (endOf rows ps[i].2), u]) := upd_same
                have q1' := s8 _ _ q1
                dsimp only
                generalize upd H5 T8 (.tup [.str (endOf rows ps[i].2), u]) = H6 at s8 f8 q1' ⊢
                have tk : Tk H6 (upd H6 L (.lst (zs ++ [.ref T8]))) := Tk.refl.set q1' (fun _ z => nomatch z)
                have tkA : Tk H (upd H6 L (.lst (zs ++ [.ref T8]))) := ((((s3.trans s4).trans q5).trans s8).ts).trans tk
                refine ⟨zs, q1', by omega, _, zs ++ [.ref T8], as ++ [(endOf rows ps[i].2, tt)], rfl, upd_same, (q2.imp (s8.ts.trans tk) fun v t h => h.tk (s8.ts.trans tk)).snoc (tk _ _ f8) (w3.tk tkA), by simp; omega, ?_, (q5.trans s8).put hL⟩
                intro j h1 h2
                by_cases hj : j < as.length
                · rw [List.getElem_append_left hj]; exact q4 j hj h2
                · have ej : j = as.length := by simp at h1; omega
                  subst ej
                  rw [List.getElem_append_right (Nat.le_refl _)]
                  simp only [Nat.sub_self, List.getElem_cons_zero]
                  subst q3
                  exact ⟨rfl, w2⟩
              · rintro τ H5 ⟨v0, zs, as, rfl, q1, q2, q3, q4, q5⟩
                rw [ml] at q3
                refine kl L zs as H5 hL0 ((s3.trans s4).trans q5) q1 q2 (by omega) (fun p hp => ?_) ?_
                · obtain ⟨j, hj, rfl⟩ := List.getElem_of_mem hp
                  rw [(q4 j hj (by omega)).1]
                  exact hend' _ (List.getElem_mem (by omega))
                · rw [of_box hhd]
                  constructor
                  · intro o p hp
                    obtain ⟨j, hj, rfl⟩ := List.getElem_of_mem hp
                    obtain ⟨g1, g2⟩ := q4 j hj (by omega)
                    obtain ⟨t, h1, h2⟩ := o _ (List.getElem_mem (show j < ps.length by omega))
                    rw [g1, nd_uniq t3 g2 h1]
                    exact h2
                  · intro o p hp
                    obtain ⟨j, hj, rfl⟩ := List.getElem_of_mem hp
                    obtain ⟨g1, g2⟩ := q4 j (by omega) hj
                    refine ⟨_, g2, ?_⟩
                    rw [← g1]
                    exact o _ (List.getElem_mem (show j < as.length by omega))
      · cases th with
        | box qs =>
          obtain ⟨ta', tc, txs, ee, t1', t2, t3, t4, t5⟩ := hv
          cases ee
          refine ⟨_, .str "box", .inr (SqT.of t1'), atI_zero _ _, rfl, _, rfl, neS_t (by decide +kernel) ?_⟩
          exact kn H (Same.refl _) (pick_box hhd)
        | pick tw tt =>
          obtain ⟨ta', tu, ee, t1', t2⟩ := hv
          cases ee
          refine ⟨_, .str "pick", .inr (SqT.of t1'), atI_zero _ _, rfl, _, rfl, neS_f ?_⟩
          rw [if_neg (by decide +kernel)] at on
          refine ⟨rfl, _, rfl, eqS_f (by decide +kernel) fun D hD => ?_⟩
          have s0 := Same.upd hD (.dT [])
          have f0 : upd H D (.dT []) D = some (.dT []) := upd_same
          generalize upd H D (.dT []) = H0 at s0 f0 ⊢
          refine ⟨_, .str tw, .inr (SqT.of (s0 _ _ t1')), rfl, (show 2 ≤ sizeLine by decide), fun T8 hT8 => ?_⟩
          have s8 := Same.upd hT8 (.tup [.str "case", .str tw])
          have f8 : upd H0 T8 (.tup [.str "case", .str tw]) T8 = some (.tup [.str "case", .str tw]) := upd_same
          generalize upd H0 T8 (.tup [.str "case", .str tw]) = H1 at s8 f8 ⊢
          refine ⟨_, tu, .inr (SqT.of (s8 _ _ (s0 _ _ t1'))), rfl, T8, [.inr "case", .inr tw], rfl, .inl f8, s8 _ _ f0, D, rfl, .inr ⟨[([.inr "case", .inr tw], tu)], .inl upd_same, fun oD => ?_⟩⟩
          have s1 : Same H (upd (upd H1 D (.dT [([.inr "case", .inr tw], tu)])) D (.frz oD (.dT [([.inr "case", .inr tw], tu)]))) := ((s0.trans s8).put hD).put hD
          have f1 : upd (upd H1 D (.dT [([.inr "case", .inr tw], tu)])) D (.frz oD (.dT [([.inr "case", .inr tw], tu)])) D = some (.frz oD (.dT [([.inr "case", .inr tw], tu)])) := upd_same
          try dsimp only
          generalize upd (upd H1 D (.dT [([.inr "case", .inr tw], tu)])) D (.frz oD (.dT [([.inr "case", .inr tw], tu)])) = H2 at s1 f1 ⊢
          clear s0 f0 s8 f8
          refine ⟨nt, C, dx, fs, .ref d4, rfl, s1 _ _ en, cl, na "moves" (by simp), e1, d4, .ref m, rfl, lookM.same s1, ?_⟩
          refine ⟨rfl, _, rfl, eqS_f (by decide +kernel) ⟨(show 2 ≤ sizeLine by decide), fun T3 hT3 => g2_at upd_same ?_⟩⟩
          have s3 := s1.trans (Same.upd hT3 (.tup [.ref D, .ref m]))
          have f3 := Same.upd hT3 (.tup [.ref D, .ref m]) _ _ f1
          try dsimp only
          generalize upd H2 T3 (.tup [.ref D, .ref m]) = H3 at s3 f3 ⊢
          have m3 := s3 _ _ hmv
          rw [on] at m3
          have lookP : ∀ {H' : Hp} {bb : Addr}, Same H3 H' → RdT H' bb ([V.str "case", V.str tw]) → DGet H' D (.ref bb) (some tu) := fun {H' bb} s' rd => .inr ⟨_, [.inr "case", .inr tw], bb, .inr ⟨oD, s' _ _ f3⟩, rfl, rd, by simp [valV]⟩
          have look2 : ∀ {H' : Hp} {bb : Addr}, Same H3 H' → RdT H' bb ([V.str "case", V.str tw]) → DGet H' m (.ref bb) (valV (ps.map fun p => (([.inr "case", .inr p.1] : List Key), V.str (endOf rows p.2))) [.inr "case", .inr tw]) := fun {H' bb} s' rd => .inr ⟨_, [.inr "case", .inr tw], bb, .inr ⟨om, s' _ _ m3⟩, rfl, rd, rfl⟩
          obtain ⟨g1, g2⟩ := onP_get (rows := rows) ndp "case" tw
          refine tSeq_by (fun σ' H' => (∃ y, (tw, y) ∈ ps) ∧ Same H3 H' ∧ ∃ v3, σ' = [some (.ref nt), some (.str e), some (.ref ta), v3, some (.ref D), some (.ref m), some (.ref D), some (.ref m)]) ?_ ?_
          · intro nx hnx
            refine ⟨D, _, oD, rfl, f3, fun L hL => ?_⟩
            refine lc_keysT (fun i τ H' => ∃ (v0 : Option V) (bs : List Bool), τ = [v0, some (.ref m)] ∧ H' L = some (.lst (bs.map V.bl)) ∧ bs = List.replicate i (valV (ps.map fun p => (([.inr "case", .inr p.1] : List Key), V.str (endOf rows p.2))) [.inr "case", .inr tw]).isSome ∧ Same H3 H') ⟨none, [], rfl, upd_same, by simp, Same.upd hL _⟩ (by rintro i τ H' _ ⟨_, _, _, _, _, s⟩; exact s _ _ f3) ?_ ?_
            · rintro i τ H4 bb hi ⟨v0, bs, rfl, q1, q2, q3⟩ rd
              have hi0 : i = 0 := by simpa using hi
              subst hi0
              subst q2
              exact ⟨m, _, rfl, look2 q3 rd, [], q1, by simp; omega, _, [_], rfl, upd_same, by simp, q3.put hL⟩
            · rintro τ H4 ⟨v0, bs, rfl, q1, q2, q3⟩
              have q2' : bs = [(valV (ps.map fun p => (([.inr "case", .inr p.1] : List Key), V.str (endOf rows p.2))) [.inr "case", .inr tw]).isSome] := q2
              refine ⟨bs, SqL.of q1, _, rfl, ?_⟩
              rw [q2']
              by_cases hex : ∃ y, (tw, y) ∈ ps
              · obtain ⟨y, hy⟩ := hex
                rw [g1 y hy]
                exact hnx _ _ ⟨⟨y, hy⟩, q3, _, rfl⟩
              · rw [g2 fun y hy => hex ⟨y, hy⟩]
                refine kn H4 (s3.trans q3) fun o => ?_
                rw [of_pick hhd] at o
                obtain ⟨y, h1, _⟩ := o
                exact hex ⟨y, h1⟩
          · rintro σ' H4 ⟨⟨y, hy⟩, s4, v3, rfl⟩
            have f4 := s4 _ _ f3
            refine ⟨D, _, oD, rfl, f4, fun L hL => ?_⟩
            have hL0 : H L = none := (s3.trans s4).free hL
            refine lc_keysT (fun i τ H' => ∃ (v0 : Option V) (zs : List V), τ = [v0, some (.ref D), some (.ref m)] ∧ H' L = some (.lst zs) ∧ AskV (ThV H' n) H' zs (List.replicate i (endOf rows y, tt)) ∧ Same H4 H') ⟨none, [], rfl, upd_same, AskV.nil, Same.upd hL _⟩ (by rintro i τ H' _ ⟨_, _, _, _, _, s⟩; exact s _ _ f4) ?_ ?_
            · rintro i τ H5 bb hi ⟨v0, zs, rfl, q1, q2, q5⟩ rd
              have hi0 : i = 0 := by simpa using hi
              subst hi0
              have zl : zs = [] := List.eq_nil_of_length_eq_zero q2.len
              subst zl
              have dg1 := look2 (s4.trans q5) rd
              rw [g1 y hy] at dg1
              refine ⟨m, _, rfl, dg1, D, _, rfl, lookP (s4.trans q5) rd, (show 2 ≤ sizeLine by decide), fun T8 hT8 => ?_⟩
              have s8 := Same.upd hT8 (.tup [.str (endOf rows y), tu])
              have f8 : upd H5 T8 (.tup [.str (endOf rows y), tu]) T8 = some (.tup [.str (endOf rows y), tu]) := upd_same
              have q1' := s8 _ _ q1
              dsimp only
              generalize upd H5 T8 (.tup [.str (endOf rows y), tu]) = H6 at s8 f8 q1' ⊢
              have tk : Tk H6 (upd H6 L (.lst ([] ++ [.ref T8]))) := Tk.refl.set q1' (fun _ z => nomatch z)
              have tkA : Tk H (upd H6 L (.lst ([] ++ [.ref T8]))) := ((((s3.trans s4).trans q5).trans s8).ts).trans tk
              exact ⟨[], q1', by simp; omega, _, [.ref T8], rfl, upd_same, AskV.nil.snoc (p := (endOf rows y, tt)) (tk _ _ f8) (t2.tk tkA), (q5.trans s8).put hL⟩
            · rintro τ H5 ⟨v0, zs, rfl, q1, q2, q5⟩
              refine kl L zs [(endOf rows y, tt)] H5 hL0 ((s3.trans s4).trans q5) q1 q2 (by simp) (fun p hp => ?_) ?_
              · rw [List.mem_singleton.mp hp]
                exact hend' _ hy
              · rw [of_pick hhd]
                constructor
                · rintro ⟨y', h1, h2⟩ p hp
                  rw [List.mem_singleton.mp hp]
                  have := nd_uniq ndp hy h1
                  rw [this]; exact h2
                · intro o
                  exact ⟨y, hy, o (endOf rows y, tt) (by simp)⟩
def spIsOf (mg : Str → Option Value) : Sp := fun vs H Q _ => ∃ (a : Addr) (xs : List V) (rows : List Rw2) (ns ws : List Str) (x : Str) (v : V) (n : Nat) (th : Th), vs = [.ref a, .str x, v] ∧ RT H a xs rows ns ws ∧ (∀ z ∈ ws, Wd z) ∧ x ∈ ns ∧ Kn mg H "FROM" [.str "from"] ∧ Kn mg H "TO" [.str "to"] ∧ ThV H n v th ∧ n ≤ 6 ∧
  ∀ (b : Bool) (H' : Hp), Same H H' → (b = true ↔ OfT rows (endOf rows x) th) → Q (.bl b) H'
def WtV (H : Hp) (us : List V) (as : List (Str × Th × Nat)) : Prop := us.length = as.length ∧ ∀ i (h : i < us.length) (h' : i < as.length), ∃ c u, us[i] = .ref c ∧ H c = some (.tup [.str as[i].1, u]) ∧ ThV H as[i].2.2 u as[i].2.1
def wtM (as : List (Str × Th × Nat)) : Nat := (as.map fun q => 11 ^ q.2.2).sum
theorem wtM_len (as : List (Str × Th × Nat)) : as.length ≤ wtM as := by
  induction as with
  | nil => exact Nat.le_refl _
  | cons q as ih =>
    show as.length + 1 ≤ 11 ^ q.2.2 + wtM as
    have : 0 < 11 ^ q.2.2 := Nat.pow_pos (by decide)
    omega
theorem wtM_app (as bs : List (Str × Th × Nat)) : wtM (as ++ bs) = wtM as + wtM bs := by simp [wtM]
set_option maxHeartbeats 2000000 in
theorem ok_is_of (T : Txt K mg w) : FnK P w K mg base 6 "is_of" ["T", "x", "thing"] (spIsOf mg) := by
  have F_Net : ClK P w K mg base 4 "Net" (adr mg "Net") ["self", "T"] (spNet mg) := ok_Net T
  have F_asked_behind : FnK P w K mg base 2 "asked_behind" ["net", "row", "thing"] (spAsk mg) := ok_asked_behind T
  have cl := T.k_Net.2.1
  have na := T.k_Net.2.2.1
  refine T.t_is_of.okS sc_is_of (fun vs H Q E h => ?_) (fun f cdv A outer s H vs Q E hr h => ?_)
  · obtain ⟨a, xs, rows, ns, ws, x, v, n, th, rfl, _⟩ := h
    rfl
  · obtain ⟨a, xs, rows, ns, ws, x, v, n, th, rfl, rt, hw, hx, kf, kt, hv, hn6, k⟩ := h
    have hu := hu_of hr
    have hu0 := Nat.lt_of_succ_lt (hu_of hr)
    have hsz : sizeLine = 16777216 := sizeLine_eq
    refine ⟨_, (sb_cons (s_set (i := 3) sc_is_of.nd rfl (Or.inl rfl) (z_make F_Net (hr.mono (by decide)) (sa_Name (zv 0) sa_nil)))
      (sb_cons (s_set (i := 4) sc_is_of.nd rfl (Or.inl rfl) (z_lst (sa_Tuple (z_tup (sa_Subscript (z_dget hu (z_fld K (zv 3)) (zv 1) (fun _ _ => rfl)) (sa_Name (zv 2) sa_nil))) sa_nil)))
      (sb_cons (s_while PassesOwn.never (y_truth K (zv 4)) (sb_cons (s_asg (z_bm0 K PySem.F.plainAttrs_list PySem.F.slot_list_pop PySem.F.type_list_pop mt_pop (zv 4)) (g_tup K (n := 2) rfl (gs_cons (g_name (i := 5) sc_is_of.nd rfl (Or.inl rfl)) (gs_cons (g_name (i := 6) sc_is_of.nd rfl (Or.inl rfl)) gs_nil))))
      (sb_cons (s_set (i := 7) sc_is_of.nd rfl (Or.inl rfl) (z_fn F_asked_behind (hr.mono (by decide)) (sa_Name (zv 3) (sa_Name (zv 5) (sa_Name (zv 6) sa_nil)))))
      (sb_cons (s_if (y_cmpR op_isB (zv 7) z_non (nomark _)) (sb_one (s_ret z_bl)) sb_nil)
      (sb_one (s_expr (z_bm K PySem.F.plainAttrs_list PySem.F.slot_list_extend PySem.F.type_list_extend mt_extend (zv 4) (sa_Name (zv 7) sa_nil))))))))
      (sb_one (s_ret z_bl))))), ?_⟩
    refine tSeq_set fun nt dn hn hdn ne => ?_
    have s0 : Same H (upd (upd H dn (.own nt)) nt (.ins (adr mg "Net") dn [])) := (Same.upd hdn _).trans (Same.upd (by rw [upd_ne ne.symm]; exact hn) _)
    refine ⟨nt, dn, a, xs, rows, ns, ws, rfl, upd_same, rt.tk s0.ts, hw, kf.same s0, kt.same s0, fun H2 net sx => ⟨rfl, ?_⟩⟩
    have s2 : Same H H2 := fun b o e => sx b o (fun z => by rw [z, hn] at e; cases e) (s0 b o e)
    have net2 := net
    obtain ⟨dx, fs, en, ⟨⟨d1, o1, a1, a2⟩, _, _, _⟩⟩ := net
    have hst := rt.stay hw hx
    generalize hC : adr mg "Net" = C at *
    refine tSeq_set ⟨nt, C, dx, fs, .ref d1, rfl, en, cl, na "rows" (by simp), a1, d1, .str (endOf rows x), rfl, ?_, (show 2 ≤ sizeLine by decide), fun T3 hT3 => ⟨(show 1 ≤ sizeLine by decide), fun W hW => ?_⟩⟩
    · rw [← rowsE_get rt.ndr (rt.nm.mem_iff.mpr hx)]
      exact DGet.rd (k := Sum.inr x) (.inr ⟨o1, a2⟩)
    have s3 := Same.upd hT3 (.tup [.str (endOf rows x), v])
    have f3 : upd H2 T3 (.tup [.str (endOf rows x), v]) T3 = some (.tup [.str (endOf rows x), v]) := upd_same
    generalize upd H2 T3 (.tup [.str (endOf rows x), v]) = H3 at s3 f3 hW ⊢
    have hW0 : H W = none := (s2.trans s3).free hW
    have nWn : W ≠ nt := fun z => by rw [z, s3 _ _ en] at hW; cases hW
    have s4 := Same.upd hW (.lst [.ref T3])
    have f4 : upd H3 W (.lst [.ref T3]) W = some (.lst [.ref T3]) := upd_same
    dsimp only
    generalize upd H3 W (.lst [.ref T3]) = H4 at s4 f4 ⊢
    have s24 := s3.trans s4
    have hW2 : H2 W = none := s3.free hW
    have hv4 := hv.tk (s2.trans s24).ts
    have w0 : WtV H4 [.ref T3] [(endOf rows x, th, n)] := ⟨rfl, fun i h1 h2 => by
      have : i = 0 := by simpa using h1
      subst this
      exact ⟨T3, v, rfl, s4 _ _ f3, hv4⟩⟩
    refine tSeq_by (fun σ' H' => OfT rows (endOf rows x) th ∧ Same H H') ?_ ?_
    · intro nx hnx
      refine ⟨fun mm σ' H' => ∃ (v5 v6 v7 : Option V) (us : List V) (as : List (Str × Th × Nat)), σ' = [some (.ref a), some (.str x), some v, some (.ref nt), some (.ref W), v5, v6, v7] ∧ H' W = some (.lst us) ∧ WtV H' us as ∧ (∀ q ∈ as, EndN rows ns q.1) ∧ (OfT rows (endOf rows x) th ↔ ∀ q ∈ as, OfT rows q.1 q.2.1) ∧ wtM as = mm ∧ mm ≤ 11 ^ 6 ∧ Same H2 H',
        ⟨_, none, none, none, _, _, rfl, f4, w0, fun q hq => by rw [List.mem_singleton.mp hq]; exact hst, by simp, rfl, by simp [wtM]; exact Nat.pow_le_pow_right (by decide) hn6, s24⟩, ?_⟩
      rintro mm σ' H5 ⟨v5, v6, v7, us, as, rfl, q1, q2, q3, q4, rfl, q6, q7⟩
      have hlen := q2.1
      have hml := wtM_len as
      refine ⟨!us.isEmpty, .inl ⟨us, SqL.of q1, rfl⟩, ?_⟩
      rcases List.eq_nil_or_concat as with has | ⟨as', q, has⟩
      · subst has
        have hus : us = [] := List.eq_nil_of_length_eq_zero (by simpa using hlen)
        subst hus
        exact iteF (hnx _ _ ⟨q4.mpr fun _ h => (nomatch h), s2.trans q7⟩)
      · rw [List.concat_eq_append] at has
        subst has
        obtain ⟨e1, t1, n1⟩ := q
        rcases List.eq_nil_or_concat us with hus | ⟨us', u, hus⟩
        · subst hus; simp at hlen
        rw [List.concat_eq_append] at hus
        subst hus
        have hl' : us'.length = as'.length := by simpa using hlen
        obtain ⟨c, u1, c1, c2, c3⟩ := q2.2 us'.length (by simp) (by simp; omega)
        rw [List.getElem_append_right (Nat.le_refl _)] at c1
        simp only [Nat.sub_self, List.getElem_cons_zero] at c1
        subst c1
        rw [List.getElem_append_right (by omega)] at c2 c3
        have e0 : us'.length - as'.length = 0 := by omega
        simp only [e0, List.getElem_cons_zero] at c2 c3
        obtain ⟨m, rfl⟩ : ∃ m, n1 = m + 1 := by
          cases n1 with
          | zero => exact c3.elim
          | succ m => exact ⟨m, rfl⟩
        rw [wtM_app] at q6 hml ⊢
        have hw1 : wtM [(e1, t1, m + 1)] = 11 ^ (m + 1) := by simp [wtM]
        rw [hw1, Nat.pow_succ] at q6 hml ⊢
        have hpos : 0 < 11 ^ m := Nat.pow_pos (by decide)
        rw [if_pos (by simp)]
        refine ⟨fun σ' H' => ∃ (v5 v6 v7 : Option V) (us : List V) (as : List (Str × Th × Nat)), σ' = [some (.ref a), some (.str x), some v, some (.ref nt), some (.ref W), v5, v6, v7] ∧ H' W = some (.lst us) ∧ WtV H' us as ∧ (∀ q ∈ as, EndN rows ns q.1) ∧ (OfT rows (endOf rows x) th ↔ ∀ q ∈ as, OfT rows q.1 q.2.1) ∧ wtM as < wtM as' + 11 ^ m * 11 ∧ Same H2 H', ?_, ?_⟩
        · rintro σ' H' ⟨v5, v6, v7, us, as, rfl, z1, z2, z3, z4, z5, z6⟩
          exact ⟨_, z5, v5, v6, v7, us, as, rfl, z1, z2, z3, z4, rfl, by omega, z6⟩
        refine ⟨.inl ⟨rfl, _, SqL.of q1⟩, W, _, .ref c, rfl, rfl, q1, by simp, ?_⟩
        have edl : (us' ++ [V.ref c]).dropLast = us' := by simp
        rw [edl]
        have tk6 : Tk H5 (upd H5 W (.lst us')) := Tk.refl.set q1 (fun _ z => nomatch z)
        have s6 : Same H2 (upd H5 W (.lst us')) := q7.put hW2
        have f6 : upd H5 W (.lst us') W = some (.lst us') := upd_same
        generalize upd H5 W (.lst us') = H6 at tk6 s6 f6 ⊢
        refine g2_at (tk6 _ _ c2) ?_
        have he1 : EndN rows ns e1 := q3 (e1, t1, m + 1) (List.mem_append.mpr (.inr (by simp)))
        have w6 : ∀ {H' : Hp}, Tk H5 H' → ∀ i (h : i < us'.length) (h' : i < as'.length), ∃ c u, us'[i] = .ref c ∧ H' c = some (.tup [.str as'[i].1, u]) ∧ ThV H' as'[i].2.2 u as'[i].2.1 := fun {H'} tk i h h' => by
          obtain ⟨c, u, g1, g2, g3⟩ := q2.2 i (by simp; omega) (by simp; omega)
          rw [List.getElem_append_left h] at g1
          rw [List.getElem_append_left h'] at g2 g3
          exact ⟨c, u, g1, tk _ _ g2, g3.tk tk⟩
        refine ⟨nt, a, xs, rows, ns, ws, e1, u1, m, t1, rfl, by rw [hC]; exact net2.same s6, rt.tk (s2.trans s6).ts, hw, he1, c3.tk tk6, fun H7 s7 hno => ?_, fun L us2 as2 H7 hL s7 eL ask len2 en2 iff2 => ?_⟩
        · refine ⟨_, rfl, k false H7 ((s2.trans s6).trans s7) (bfalse fun o => hno ?_)⟩
          exact (q4.mp o) (e1, t1, m + 1) (List.mem_append.mpr (.inr (by simp)))
        · refine ⟨_, rfl, ?_⟩
          have f7 := s7 _ _ f6
          have a2l := ask.len
          have hu2 : us'.length + us2.length ≤ sizeLine := by
            have h6 : (11 : Nat) ^ 6 = 1771561 := by decide
            have h7 := wtM_len as'
            omega
          refine ⟨.inl ⟨rfl, _, SqL.of f7⟩, W, L, us', us2, rfl, rfl, f7, eL, hu2, ?_⟩
          have tk8 : Tk H7 (upd H7 W (.lst (us' ++ us2))) := Tk.refl.set f7 (fun _ z => nomatch z)
          have tk58 : Tk H5 (upd H7 W (.lst (us' ++ us2))) := (tk6.trans s7.ts).trans tk8
          refine ⟨_, _, _, us' ++ us2, as' ++ as2.map (fun p => (p.1, p.2, m)), rfl, upd_same, ⟨by simp; omega, fun i h1 h2 => ?_⟩, fun q hq => ?_, ?_, ?_, (s6.trans s7).put hW2⟩
          · by_cases hi : i < us'.length
            · rw [List.getElem_append_left hi, List.getElem_append_left (by omega)]
              exact w6 tk58 i hi (by omega)
            · rw [List.getElem_append_right (by omega), List.getElem_append_right (by omega)]
              have ei : i - us'.length = i - as'.length := by omega
              simp only [ei, List.getElem_map]
              obtain ⟨c', u', g1, g2, g3⟩ := ask.at_ (i - as'.length) (by simp at h1; omega) (by simp at h2; omega)
              exact ⟨c', u', g1, tk8 _ _ g2, g3.tk tk8⟩
          · rcases List.mem_append.mp hq with hq | hq
            · exact q3 q (List.mem_append.mpr (.inl hq))
            · obtain ⟨p, hp, rfl⟩ := List.mem_map.mp hq
              exact en2 p hp
          · rw [q4]
            constructor
            · intro o q hq
              rcases List.mem_append.mp hq with hq | hq
              · exact o q (List.mem_append.mpr (.inl hq))
              · obtain ⟨p, hp, rfl⟩ := List.mem_map.mp hq
                exact iff2.mp (o (e1, t1, m + 1) (List.mem_append.mpr (.inr (by simp)))) p hp
            · intro o q hq
              rcases List.mem_append.mp hq with hq | hq
              · exact o q (List.mem_append.mpr (.inl hq))
              · rw [List.mem_singleton.mp hq]
                exact iff2.mpr fun p hp => o (p.1, p.2, m) (List.mem_append.mpr (.inr (List.mem_map.mpr ⟨p, hp, rfl⟩)))
          · rw [wtM_app]
            have hs2 : ∀ l : List (Str × Th), wtM (l.map fun p => (p.1, p.2, m)) = l.length * 11 ^ m := fun l => by
              induction l with
              | nil => simp [wtM]
              | cons p l ih =>
                show 11 ^ m + wtM (l.map fun p => (p.1, p.2, m)) = (l.length + 1) * 11 ^ m
                rw [ih, Nat.add_mul]; omega
            rw [hs2]
            have : as2.length * 11 ^ m ≤ 10 * 11 ^ m := Nat.mul_le_mul_right _ len2
            omega
    · rintro σ' H5 ⟨ho, s5⟩
      exact k true H5 s5 ⟨fun _ => ho, fun _ => rfl⟩
def spLaw (K : PySem.W.Frag) (mg : Str → Option Value) : Sp := fun vs H Q _ => ∃ (a : Addr) (ns : List Int), vs = [.ref a] ∧ SqL K H a (ns.map V.int) ∧ ns.length ≤ 63 ∧ (Kn mg H "FROM" [.str "from"] ∧ Kn mg H "TO" [.str "to"]) ∧ ∀ H', Q (.bl true) H'
def AQ (H : Hp) (ns : List Str) (us : List V) : Prop := ∀ u ∈ us, ∃ c x v th, u = .ref c ∧ H c = some (.tup [.str x, v]) ∧ x ∈ ns ∧ ThV H 6 v th
theorem AQ.tk {H H' : Hp} {ns : List Str} {us : List V} (h : AQ H ns us) (s : Tk H H') : AQ H' ns us := fun u hu => let ⟨c, x, v, th, h1, h2, h3, h4⟩ := h u hu; ⟨c, x, v, th, h1, s _ _ h2, h3, h4.tk s⟩
theorem Kn.pen {H H' : Hp} {p w' : Addr} {t : Nat} {x : Str} {ys : List V} (h : Kn mg H x ys) (hp : PenAt H p w' t) (s : Sm p w' H H') : Kn mg H' x ys := by
  obtain ⟨o, e⟩ := h
  obtain ⟨m, c, ws, h1, h2, _⟩ := hp.ex
  exact ⟨o, s _ _ e (fun z => by rw [z, h1] at e; cases e) (fun z => by rw [z, h2] at e; cases e)⟩
set_option maxHeartbeats 4000000 in
theorem ok_law (T : Txt K mg w) : FnK P w K mg base 100 "law" ["script"] (spLaw K mg) := by
  have F_law_tpen : FnK P w K mg base 1 "_law_tpen" ["script"] (spPen K) := ok_law_tpen T
  have F_law_tnames : FnK P w K mg base 2 "_law_tnames" ["pen", "many"] spNames := ok_law_tnames T
  have F_law_ttelling : FnK P w K mg base 4 "_law_ttelling" ["pen", "most", "words", "sorts"] spTelling := ok_law_ttelling T
  have F_law_tthing : FnK P w K mg base 6 "_law_tthing" ["pen", "words", "left"] (spThing 4) := ok_law_tthing T 4
  have F_law_tfit : FnK P w K mg base 65 "_law_tfit" ["pen", "told", "x", "words", "left"] (spFit 60) := ok_law_tfit T 60
  have F_law_tof : FnK P w K mg base 81 "_law_tof" ["told", "x", "thing"] (spTof 80) := ok_law_tof T 80
  have F_is_of : FnK P w K mg base 6 "is_of" ["T", "x", "thing"] (spIsOf mg) := ok_is_of T
  refine T.t_law.okS sc_law (fun vs H Q E h => ?_) (fun f cdv A outer s H vs Q E hr h => ?_)
  · obtain ⟨a, ns, rfl, _⟩ := h
    rfl
  · obtain ⟨sc, cells, rfl, hsc, hl63, ⟨kf, kt⟩, k⟩ := h
    have hu := hu_of hr
    have hu0 := Nat.lt_of_succ_lt (hu_of hr)
    have hsz : sizeLine = 16777216 := sizeLine_eq
    refine ⟨_, (sb_cons (s_set (i := 1) sc_law.nd rfl (Or.inr rfl) (z_fn F_law_tpen (hr.mono (by decide)) (sa_Name (zv 0) sa_nil)))
      (sb_cons (s_set (i := 2) sc_law.nd rfl (Or.inr rfl) (z_fn F_law_tnames (hr.mono (by decide)) (sa_Name (zv 1) (sa_Constant z_int sa_nil))))
      (sb_cons (s_set (i := 3) sc_law.nd rfl (Or.inr rfl) (z_fn F_law_ttelling (hr.mono (by decide)) (sa_Name (zv 1) (sa_Constant z_int (sa_Name (zv 2) (sa_List (z_lst (sa_Constant z_str (sa_Constant z_str (sa_Constant z_str (sa_Constant z_str (sa_Constant z_str (sa_Constant z_str (sa_Constant z_str (sa_Constant z_str (sa_Constant z_str (sa_Constant z_str sa_nil))))))))))) sa_nil))))))
      (sb_cons (s_set (i := 4) sc_law.nd rfl (Or.inl rfl) (z_lst sa_nil))
      (sb_cons (s_for PassesOwn.never rfl (i_K K (zv 3)) (g_tup K (n := 2) rfl (gs_cons (g_name (i := 5) sc_law.nd rfl (Or.inr rfl)) (gs_cons (g_name (i := 6) sc_law.nd rfl (Or.inl rfl)) gs_nil))) (sb_one (s_for PassesOwn.never rfl (i_K K (z_op op_addD (z_lst (sa_Call (z_fn F_law_tthing (hr.mono (by decide)) (sa_Name (zv 1) (sa_Name (zv 2) (sa_Constant z_int sa_nil)))) sa_nil)) (z_lc (own := ["k"]) (idx := [1, 2, 3, 5]) (N' := ["k", "pen", "words", "told", "name"]) (⟨rfl, by decide +kernel, by decide +kernel, (show ∀ y ∈ Scope.names _, y.2 = NameKind.free → ((defScope s_law).names.lookup y.1 = some NameKind.cell ∨ (defScope s_law).names.lookup y.1 = some NameKind.free) by decide +kernel), (show ∀ j ∈ ([1, 2, 3, 5] : List Nat), (Scope.names _).lookup ((["script", "pen", "words", "told", "asked", "name", "head", "thing", "found"] : List Str).getD j "") = some NameKind.free ∧ j < (["script", "pen", "words", "told", "asked", "name", "head", "thing", "found"] : List Str).length by decide +kernel), rfl⟩) rfl (i_range1 (by rfl) T.n_range (sa_Constant z_int sa_nil)) (fun _ _ _ _ _ _ => (g_name (i := 0) (show List.Nodup (["k", "pen", "words", "told", "name"] : List Str) by decide +kernel) rfl (Or.inl rfl))) (fun _ _ _ _ _ _ => c_nil) (fun _ _ _ _ _ _ => (z_fn F_law_tfit (hr.mono (by decide)) (sa_Name (zv 1) (sa_Name (zv 3) (sa_Name (zv 4) (sa_Name (zv 2) (sa_Constant z_int sa_nil)))))))))) (g_name (i := 7) sc_law.nd rfl (Or.inl rfl)) (sb_one (s_expr (z_bm K PySem.F.plainAttrs_list PySem.F.slot_list_append PySem.F.type_list_append mt_append (zv 4) (sa_Tuple (z_tup (sa_Name (zv 5) (sa_Name (zv 7) sa_nil))) sa_nil)))))))
      (sb_cons (s_for PassesOwn.never rfl (i_K K (z_op op_addD (zv 4) (z_revL K (zv 4) (z_un un_neg z_int)))) (g_tup K (n := 2) rfl (gs_cons (g_name (i := 5) sc_law.nd rfl (Or.inr rfl)) (gs_cons (g_name (i := 7) sc_law.nd rfl (Or.inl rfl)) gs_nil))) (sb_cons (s_set (i := 8) sc_law.nd rfl (Or.inl rfl) (z_fn F_is_of (hr.mono (by decide)) (sa_Name (zv 3) (sa_Name (zv 5) (sa_Name (zv 7) sa_nil)))))
      (sb_one (s_if (w_or (y_not (y_val (z_callB call_isiD (by rfl) T.n_isinstance PyProof.Rows.boot_isinstance (sa_Name (zv 8) (sa_Name (z_bltn (v := .ty "bool") (by rfl) T.n_bool PyProof.Rows.boot_bool rfl) sa_nil))))) (w_or1 (y_cmpR (op_neD hu0) (zv 8) (z_fn F_law_tof (hr.mono (by decide)) (sa_Name (zv 3) (sa_Name (zv 5) (sa_Name (zv 7) sa_nil)))) (nomark _)))).pt (sb_one (s_ret z_bl)) sb_nil))))
      (sb_one (s_ret z_bl)))))))), ?_⟩
    refine tSeq_set ⟨sc, cells, rfl, hsc, hl63, fun p w' H1 hp0 hw0 hp1 s1 => ?_⟩
    have kf1 := kf.same s1
    have kt1 := kt.same s1
    refine tSeq_set ⟨p, w', 3, 0, rfl, hp1, ⟨by decide, by decide⟩, by show 0 + 20 < 1000000000000; omega, fun L1 ws H2 hL10 hL1 hwl hnd hwd hp2 sm2 => ?_⟩
    have tw : TxtsAt H2 L1 ws := ⟨hL1, by intro e; rw [e] at hwl; simp at hwl, by omega, fun z hz => (hwd z hz).2⟩
    have hw : ∀ z ∈ ws, Wd z := fun z hz => (hwd z hz).2
    refine tSeq_set ⟨(show 10 ≤ sizeLine by decide), fun so hso => ?_⟩
    have s3 := Same.upd hso (.lst ((["all", "none", "way", "box", "pick", "box", "pick", "box", "pick", "as"] : List Str).map V.str))
    have tso : TxtsAt (upd H2 so (.lst ((["all", "none", "way", "box", "pick", "box", "pick", "box", "pick", "as"] : List Str).map V.str))) so ["all", "none", "way", "box", "pick", "box", "pick", "box", "pick", "as"] := ⟨upd_same, by decide, by decide, fun z hz => by
      simp only [List.mem_cons, List.mem_nil_iff, or_false] at hz
      rcases hz with rfl | rfl | rfl | rfl | rfl | rfl | rfl | rfl | rfl | rfl <;> exact wd_ascii (by decide) (by decide)⟩
    refine ⟨p, w', L1, so, 6, _, ws, _, rfl, hp2.same s3, by show 0 + 20 + 1000 < 1000000000000; omega, ⟨by decide, by decide⟩, tw.same s3, by omega, ⟨hnd, fun z hz => (hwd z hz).1⟩, tso, ?_, fun a1 xs rows ns H5 rt hn6 hp5 sm5 => ?_⟩
    · intro z hz
      simp only [List.mem_cons, List.mem_nil_iff, or_false] at hz ⊢
      rcases hz with rfl | rfl | rfl | rfl | rfl | rfl | rfl | rfl | rfl | rfl <;> simp
    have sm15 : Sm p w' H1 H5 := (sm2.trans s3.sm).trans sm5
    have kf5 := Kn.pen kf1 hp1 sm15
    have kt5 := Kn.pen kt1 hp1 sm15
    have tw5 := (tw.same s3).sm (hp2.same s3) sm5
    clear sm5 tso s3 tw sm2 sm15
    have hrl := rt.rl
    have hxl := rt.rv.len
    have few := rt.few
    refine tSeq_set ⟨(show 0 ≤ sizeLine by decide), fun Aq hAq => ?_⟩
    have nAp : Aq ≠ p := hp5.ne1 hAq
    have nAw : Aq ≠ w' := hp5.ne2 hAq
    dsimp -proj only
    refine tSeq_by (fun σ' H' => ∃ (v5 v6 v7 : Option V) (us : List V) (t : Nat), σ' = [some (.ref sc), some (.ref p), some (.ref L1), some (.ref a1), some (.ref Aq), v5, v6, v7, none] ∧ H' Aq = some (.lst us) ∧ AQ H' ns us ∧ us.length ≤ 40 ∧ PenAt H' p w' t ∧ Sm p w' H5 H') ?_ ?_
    · intro nx hnx
      refine .inr ⟨⟨xs, SqT.of (Same.upd hAq _ _ _ rt.at_)⟩, ?_⟩
      refine for_by (itn_tup xs) (fun i σ' H' => ∃ (v5 v6 v7 : Option V) (us : List V), σ' = [some (.ref sc), some (.ref p), some (.ref L1), some (.ref a1), some (.ref Aq), v5, v6, v7, none] ∧ H' Aq = some (.lst us) ∧ AQ H' ns us ∧ us.length = 4 * i ∧ PenAt H' p w' (1020 + 300000 * i) ∧ Sm p w' H5 H')
        ⟨none, none, none, [], rfl, upd_same, (fun _ h => nomatch h), rfl, (hp5.same (Same.upd hAq _)).mono (by omega), (Same.upd hAq _).sm⟩ (by rintro i σ' H' _ ⟨_, _, _, _, _, _, _, _, _, s⟩; exact SqT.of (hp5.ts s _ _ rt.at_)) ?_ ?_
      · rintro i σ' H6 hi ⟨v5, v6, v7, us, rfl, q1, q2, q3, q4, q5⟩
        have hir : i < rows.length := by omega
        obtain ⟨rb, rvv, r1, r2, r3⟩ := rt.rv.at_ i hi hir
        have eg : xs.getD i .non = .ref rb := by rw [List.getD_eq_getElem?_getD, List.getElem?_eq_getElem hi, r1]; rfl
        rw [eg]
        have hmem : rows[i].1 ∈ ns := rt.nm.mem_iff.mp (List.mem_map.mpr ⟨_, List.getElem_mem hir, rfl⟩)
        have tk5 := hp5.ts q5
        generalize rows[i].1 = nm at r2 hmem
        refine g2_at (tk5 _ _ r2) ?_
        have hmul : 300000 * i ≤ 300000 * 9 := by omega
        refine ⟨p, w', L1, 3, _, ws, rfl, by decide, q4, by show 1020 + 300000 * i + 4 ^ (3 + 2) < 1000000000000; omega, tw5.sm hp5 q5, by omega, hnd, fun v th H7 hv hp7 sm7 => ⟨(show 1 ≤ sizeLine by decide), fun l1 hl1 => ?_⟩⟩
        have s8 := Same.upd hl1 (.lst [v])
        have f8 : upd H7 l1 (.lst [v]) l1 = some (.lst [v]) := upd_same
        have hp8 := hp7.same s8
        have sm8 : Sm p w' H5 (upd H7 l1 (.lst [v])) := (q5.trans sm7).trans s8.sm
        have tk8 : Tk H6 (upd H7 l1 (.lst [v])) := (q4.ts sm7).trans s8.ts
        have q18 := s8 _ _ (sm7 _ _ q1 nAp nAw)
        have hv8 := hv.tk s8.ts
        have nl1p : l1 ≠ p := hp7.ne1 hl1
        have nl1w : l1 ≠ w' := hp7.ne2 hl1
        have nl1A : l1 ≠ Aq := fun z => by rw [z, sm7 _ _ q1 nAp nAw] at hl1; cases hl1
        dsimp -proj only
        generalize upd H7 l1 (.lst [v]) = H8 at s8 f8 hp8 sm8 tk8 q18 hv8 ⊢
        refine ⟨3, rfl, by decide, by decide, fun D hD => ?_⟩
        have nDp : D ≠ p := hp8.ne1 hD
        have nDw : D ≠ w' := hp8.ne2 hD
        have nDA : D ≠ Aq := fun z => by rw [z, q18] at hD; cases hD
        have nDl : D ≠ l1 := fun z => by rw [z, f8] at hD; cases hD
        have hD5 : H5 D = none := sm8.free hD nDp nDw
        refine lc_by (itn_range 0 3) (fun j τ H' => ∃ (v0 : Option V) (zs : List V), τ = [v0, some (.ref p), some (.ref L1), some (.ref a1), some (.str nm)] ∧ H' D = some (.lst zs) ∧ zs.length = j ∧ (∀ z ∈ zs, ∃ t, ThV H' 6 z t) ∧ H' Aq = some (.lst us) ∧ H' l1 = some (.lst [v]) ∧ PenAt H' p w' (1020 + 300000 * i + 1024 + 65536 * j) ∧ Sm p w' H5 H' ∧ Tk H8 H')
          ⟨none, [], rfl, upd_same, rfl, (fun _ h => nomatch h), by rw [upd_ne nDA.symm]; exact q18, by rw [upd_ne nDl.symm]; exact f8, hp8.same (Same.upd hD _), sm8.upd hD5, (Same.upd hD _).ts⟩ (fun _ _ _ _ _ => trivial) ?_ ?_
        · rintro j τ H9 hj ⟨v0, zs, rfl, z1, z2, z3, z4, z5, z6, z7, z8⟩
          have hj3 : j < 3 := hj
          have n11 : ns.idxOf nm < 11 := by
            have : ns.idxOf nm < ns.length := List.idxOf_lt_length_of_mem hmem
            omega
          refine ⟨p, w', a1, L1, xs, rows, ns, ws, nm, 4, _, rfl, rt.tk (hp5.ts z7), hmem, z6, by show 1020 + 300000 * i + 1024 + 65536 * j + 4 ^ (4 + 4) < 1000000000000; omega, tw5.sm hp5 z7, by omega, hnd, by omega, fun u tu H10 hv10 hp10 sm10 => ?_⟩
          have g1 := sm10 _ _ z1 nDp nDw
          have tk11 : Tk H9 (upd H10 D (.lst (zs ++ [u]))) := (z6.ts sm10).trans (Tk.refl.set g1 (fun _ z => nomatch z))
          have tk12 : Tk H10 (upd H10 D (.lst (zs ++ [u]))) := Tk.refl.set g1 (fun _ z => nomatch z)
          refine ⟨zs, g1, by omega, _, zs ++ [u], rfl, upd_same, by simp [z2], fun z hz => ?_, by rw [upd_ne nDA.symm]; exact sm10 _ _ z4 nAp nAw, by rw [upd_ne nDl.symm]; exact sm10 _ _ z5 nl1p nl1w, (hp10.upd nDp nDw).mono (by omega), (z7.trans sm10).upd hD5, z8.trans tk11⟩
          rcases List.mem_append.mp hz with hz | hz
          · obtain ⟨t0, h0⟩ := z3 z hz; exact ⟨t0, h0.tk tk11⟩
          · rw [List.mem_singleton.mp hz]; exact ⟨tu, hv10.tk tk12⟩
        · rintro τ H9 ⟨v0, zs, rfl, z1, z2, z3, z4, z5, z6, z7, z8⟩
          refine ⟨[v], zs, z5, z1, by simp [z2]; omega, fun P2 hP2 => ?_⟩
          have s10 := Same.upd hP2 (.lst ([v] ++ zs))
          have f10 : upd H9 P2 (.lst ([v] ++ zs)) P2 = some (.lst ([v] ++ zs)) := upd_same
          have hp10 := z6.same s10
          have sm10 : Sm p w' H5 (upd H9 P2 (.lst ([v] ++ zs))) := z7.trans s10.sm
          have q110 := s10 _ _ z4
          have tk10 : Tk H8 (upd H9 P2 (.lst ([v] ++ zs))) := z8.trans s10.ts
          have nPA : P2 ≠ Aq := fun z => by rw [z, z4] at hP2; cases hP2
          have hvs : ∀ z ∈ [v] ++ zs, ∃ t, ThV (upd H9 P2 (.lst ([v] ++ zs))) 6 z t := fun z hz => by
            rcases List.mem_append.mp hz with hz | hz
            · rw [List.mem_singleton.mp hz]; exact ⟨th, (hv8.tk tk10).mono (by omega)⟩
            · obtain ⟨t0, h0⟩ := z3 z hz; exact ⟨t0, h0.tk s10.ts⟩
          have hlen : ([v] ++ zs).length = 4 := by simp [z2]
          have aq10 := q2.tk (tk8.trans tk10)
          generalize upd H9 P2 (.lst ([v] ++ zs)) = H10 at s10 f10 hp10 sm10 q110 tk10 hvs aq10 ⊢
          generalize [v] ++ zs = vs at f10 hvs hlen ⊢
          refine .inl ⟨⟨_, SqL.of f10⟩, ?_⟩
          refine for_by (itn_list vs) (fun j σ' H' => ∃ (v7 : Option V) (us : List V), σ' = [some (.ref sc), some (.ref p), some (.ref L1), some (.ref a1), some (.ref Aq), some (.str nm), some rvv, v7, none] ∧ H' Aq = some (.lst us) ∧ AQ H' ns us ∧ us.length = 4 * i + j ∧ PenAt H' p w' (1020 + 300000 * i + 1024 + 65536 * 3) ∧ Sm p w' H5 H' ∧ Tk H10 H' ∧ H' P2 = some (.lst vs))
            ⟨v7, us, rfl, q110, aq10, by omega, hp10, sm10, Tk.refl, f10⟩ (by rintro j σ' H' _ ⟨_, _, _, _, _, _, _, _, _, h⟩; exact SqL.of h) ?_ ?_
          · rintro j σ' H11 hj ⟨v7', us', rfl, y1, y2, y3, y4, y5, y6, y7⟩
            have eg : vs.getD j .non = vs[j] := by rw [List.getD_eq_getElem?_getD, List.getElem?_eq_getElem hj]; rfl
            rw [eg]
            obtain ⟨t0, h0⟩ := hvs _ (List.getElem_mem hj)
            generalize vs[j] = vv at h0 ⊢
            have h011 := h0.tk y6
            refine ⟨.inl ⟨rfl, _, SqL.of y1⟩, (show 2 ≤ sizeLine by decide), fun T8 hT8 => ?_⟩
            have s12 := Same.upd hT8 (.tup [.str nm, vv])
            have f12 : upd H11 T8 (.tup [.str nm, vv]) T8 = some (.tup [.str nm, vv]) := upd_same
            have y112 := s12 _ _ y1
            have hp12 := y4.same s12
            have sm12 : Sm p w' H5 (upd H11 T8 (.tup [.str nm, vv])) := y5.trans s12.sm
            have y712 := s12 _ _ y7
            have tk12 := y6.trans s12.ts
            have aq12 := y2.tk s12.ts
            have h012 := h011.tk s12.ts
            dsimp -proj only
            generalize upd H11 T8 (.tup [.str nm, vv]) = H12 at s12 f12 y112 hp12 sm12 y712 tk12 aq12 h012 ⊢
            have tk13 : Tk H12 (upd H12 Aq (.lst (us' ++ [.ref T8]))) := Tk.refl.set y112 (fun _ z => nomatch z)
            refine ⟨Aq, us', .ref T8, rfl, rfl, y112, by omega, _, us' ++ [.ref T8], rfl, upd_same, fun u hu => ?_, by simp; omega, hp12.upd nAp nAw, sm12.upd hAq, tk12.trans tk13, by rw [upd_ne nPA]; exact y712⟩
            rcases List.mem_append.mp hu with hu | hu
            · exact aq12.tk tk13 u hu
            · rw [List.mem_singleton.mp hu]
              exact ⟨T8, nm, vv, t0, rfl, tk13 _ _ f12, hmem, h012.tk tk13⟩
          · rintro σ' H11 ⟨v7', us', rfl, y1, y2, y3, y4, y5, y6, y7⟩
            exact ⟨_, _, _, us', rfl, y1, y2, by omega, y4.mono (by omega), y5⟩
      · rintro σ' H6 ⟨v5, v6, v7, us, rfl, q1, q2, q3, q4, q5⟩
        exact hnx _ _ ⟨v5, v6, v7, us, _, rfl, q1, q2, by omega, q4, q5⟩
    · rintro σ' H6 ⟨v5, v6, v7, us, t, rfl, q1, q2, q3, q4, q5⟩
      have kf6 := Kn.pen kf5 hp5 q5
      have kt6 := Kn.pen kt5 hp5 q5
      have rt6 := rt.tk (hp5.ts q5)
      refine tSeq_by (fun σ' H' => True) ?_ (fun σ' H' _ => k H')
      intro nx hnx
      refine ⟨1, rfl, rfl, Aq, us, rfl, SqL.of q1, fun R hR => ?_⟩
      have s7 := Same.upd hR (.lst us.reverse)
      have f7 : upd H6 R (.lst us.reverse) R = some (.lst us.reverse) := upd_same
      dsimp -proj only
      generalize upd H6 R (.lst us.reverse) = H7 at s7 f7 ⊢
      refine ⟨us, us.reverse, s7 _ _ q1, f7, by simp; omega, fun B hB => ?_⟩
      have s8 := Same.upd hB (.lst (us ++ us.reverse))
      have f8 : upd H7 B (.lst (us ++ us.reverse)) B = some (.lst (us ++ us.reverse)) := upd_same
      dsimp -proj only
      generalize upd H7 B (.lst (us ++ us.reverse)) = H8 at s8 f8 ⊢
      have s68 := s7.trans s8
      have aq : AQ H8 ns (us ++ us.reverse) := fun u hu => by
        have : u ∈ us := by
          rcases List.mem_append.mp hu with h | h
          · exact h
          · exact List.mem_reverse.mp h
        exact q2.tk s68.ts u this
      generalize us ++ us.reverse = vs at f8 aq ⊢
      refine .inl ⟨⟨_, SqL.of f8⟩, ?_⟩
      refine for_by (itn_list vs) (fun j σ' H' => ∃ (v5 v6 v7 v8 : Option V), σ' = [some (.ref sc), some (.ref p), some (.ref L1), some (.ref a1), some (.ref Aq), v5, v6, v7, v8] ∧ Same H8 H')
        ⟨v5, v6, v7, none, rfl, Same.refl _⟩ (by rintro j σ' H' _ ⟨_, _, _, _, _, s⟩; exact SqL.of (s _ _ f8)) ?_ (fun _ _ _ => hnx _ _ trivial)
      rintro j σ' H9 hj ⟨v5, v6, v7, v8, rfl, s9⟩
      obtain ⟨c, x, u, th, g1, g2, g3, g4⟩ := aq _ (List.getElem_mem hj)
      have eg : vs.getD j .non = .ref c := by rw [List.getD_eq_getElem?_getD, List.getElem?_eq_getElem hj, g1]; rfl
      rw [eg]
      refine g2_at (s9 _ _ g2) ?_
      have s69 := s68.trans s9
      have n11 : ns.idxOf x < 11 := by
        have : ns.idxOf x < ns.length := List.idxOf_lt_length_of_mem g3
        omega
      refine ⟨a1, xs, rows, ns, ws, x, u, 6, th, rfl, rt6.tk s69.ts, hw, g3, kf6.same s69, kt6.same s69, g4.tk s9.ts, by decide, fun b1 H10 s10 hb1 => ?_⟩
      refine ⟨by decide, "bool", rfl, _, rfl, ?_⟩
      refine ⟨a1, xs, rows, ns, ws, x, u, 6, th, rfl, rt6.tk (s69.trans s10).ts, hw, g3, g4.tk (s9.trans s10).ts, by omega, fun b2 H11 s11 hb2 => ?_⟩
      have eb : b1 = b2 := by
        cases b1 <;> cases b2 <;> simp_all
      subst eb
      refine ⟨rfl, _, rfl, ?_⟩
      have ed : (true ^^ decide (V.bl b1 = V.bl b1)) = false := by simp
      rw [ed]
      exact ⟨_, _, _, _, rfl, (s9.trans s10).trans s11⟩
end
theorem lnS {n : Nat} {us : List Value} (h : us.length = n + 1) : ∃ a t, us = a :: t ∧ t.length = n := by
  cases us with
  | nil => cases h
  | cons a t => exact ⟨a, t, rfl, by simpa using h⟩
theorem txt_mk {K : PySem.W.Frag} {h : Heap} {mg : Str → Option Value} (X : K.In h) (G : h.Ns mainGlobals mg) {w : World}
    {ad_FROM : Addr} {it_FROM : Array Value} {nn_FROM : Nat} {sq_FROM : Array (Option Value)}
    {ad_TO : Addr} {it_TO : Array Value} {nn_TO : Nat} {sq_TO : Array (Option Value)}
    {C_Net : Addr}
    {f_Net_init : Addr} {od_Net_init an_Net_init : Option Addr} {sl_Net_init : Array (Option Value)} {oc_Net_init kV_Net_init dc_Net_init pm_Net_init cd_Net_init ct_Net_init : Value}
    {f_heads_of : Addr} {od_heads_of an_heads_of : Option Addr} {sl_heads_of : Array (Option Value)} {oc_heads_of kV_heads_of dc_heads_of pm_heads_of cd_heads_of ct_heads_of : Value}
    {f_rows_of : Addr} {od_rows_of an_rows_of : Option Addr} {sl_rows_of : Array (Option Value)} {oc_rows_of kV_rows_of dc_rows_of pm_rows_of cd_rows_of ct_rows_of : Value}
    {f_names_in : Addr} {od_names_in an_names_in : Option Addr} {sl_names_in : Array (Option Value)} {oc_names_in kV_names_in dc_names_in pm_names_in cd_names_in ct_names_in : Value}
    {f_steps_in : Addr} {od_steps_in an_steps_in : Option Addr} {sl_steps_in : Array (Option Value)} {oc_steps_in kV_steps_in dc_steps_in pm_steps_in cd_steps_in ct_steps_in : Value}
    {f_moves_in : Addr} {od_moves_in an_moves_in : Option Addr} {sl_moves_in : Array (Option Value)} {oc_moves_in kV_moves_in dc_moves_in pm_moves_in cd_moves_in ct_moves_in : Value}
    {f_is_of : Addr} {od_is_of an_is_of : Option Addr} {sl_is_of : Array (Option Value)} {oc_is_of kV_is_of dc_is_of pm_is_of cd_is_of ct_is_of : Value}
    {f_asked_behind : Addr} {od_asked_behind an_asked_behind : Option Addr} {sl_asked_behind : Array (Option Value)} {oc_asked_behind kV_asked_behind dc_asked_behind pm_asked_behind cd_asked_behind ct_asked_behind : Value}
    {f_law_tpen : Addr} {od_law_tpen an_law_tpen : Option Addr} {sl_law_tpen : Array (Option Value)} {oc_law_tpen kV_law_tpen dc_law_tpen pm_law_tpen cd_law_tpen ct_law_tpen : Value}
    {f_law_tdraw : Addr} {od_law_tdraw an_law_tdraw : Option Addr} {sl_law_tdraw : Array (Option Value)} {oc_law_tdraw kV_law_tdraw dc_law_tdraw pm_law_tdraw cd_law_tdraw ct_law_tdraw : Value}
    {f_law_tnames : Addr} {od_law_tnames an_law_tnames : Option Addr} {sl_law_tnames : Array (Option Value)} {oc_law_tnames kV_law_tnames dc_law_tnames pm_law_tnames cd_law_tnames ct_law_tnames : Value}
    {f_law_tpairs : Addr} {od_law_tpairs an_law_tpairs : Option Addr} {sl_law_tpairs : Array (Option Value)} {oc_law_tpairs kV_law_tpairs dc_law_tpairs pm_law_tpairs cd_law_tpairs ct_law_tpairs : Value}
    {f_law_thead : Addr} {od_law_thead an_law_thead : Option Addr} {sl_law_thead : Array (Option Value)} {oc_law_thead kV_law_thead dc_law_thead pm_law_thead cd_law_thead ct_law_thead : Value}
    {f_law_ttelling : Addr} {od_law_ttelling an_law_ttelling : Option Addr} {sl_law_ttelling : Array (Option Value)} {oc_law_ttelling kV_law_ttelling dc_law_ttelling pm_law_ttelling cd_law_ttelling ct_law_ttelling : Value}
    {f_law_tthing : Addr} {od_law_tthing an_law_tthing : Option Addr} {sl_law_tthing : Array (Option Value)} {oc_law_tthing kV_law_tthing dc_law_tthing pm_law_tthing cd_law_tthing ct_law_tthing : Value}
    {f_law_tof : Addr} {od_law_tof an_law_tof : Option Addr} {sl_law_tof : Array (Option Value)} {oc_law_tof kV_law_tof dc_law_tof pm_law_tof cd_law_tof ct_law_tof : Value}
    {f_law_tfit : Addr} {od_law_tfit an_law_tfit : Option Addr} {sl_law_tfit : Array (Option Value)} {oc_law_tfit kV_law_tfit dc_law_tfit pm_law_tfit cd_law_tfit ct_law_tfit : Value}
    {f_law : Addr} {od_law an_law : Option Addr} {sl_law : Array (Option Value)} {oc_law kV_law dc_law pm_law cd_law ct_law : Value}
    {ad_WORDED : Addr} {oe_WORDED : Option Addr} {it_WORDED : Array Value} {nn_WORDED : Nat} {sq_WORDED : Array (Option Value)}
    {ad_STEP_WORDS : Addr} {es_STEP_WORDS : Array DictEntry} {ep_STEP_WORDS : Nat} {vs_STEP_WORDS : List (Key × Value)}
    (g_FROM : PySem.W.nsIn K mainGlobals "FROM" = some (some (.ref ad_FROM)))
    (gl_FROM : K.lookup ad_FROM = some ⟨.type "tuple", none, .seq it_FROM nn_FROM, sq_FROM⟩)
    (gv_FROM : Vals [.str "from"] it_FROM.toList)
    (g_TO : PySem.W.nsIn K mainGlobals "TO" = some (some (.ref ad_TO)))
    (gl_TO : K.lookup ad_TO = some ⟨.type "tuple", none, .seq it_TO nn_TO, sq_TO⟩)
    (gv_TO : Vals [.str "to"] it_TO.toList)
    (nd_TR : ([ad_FROM, ad_TO] : List Addr).Nodup)
    (aC_Net : PySem.W.nsIn K mainGlobals "Net" = some (some (.ref C_Net)))
    (i0_Net : PySem.W.findIn K (.ref C_Net) "__init__" = some (some (.ref f_Net_init)))
    (in_Net : PySem.W.findIn (without K [ad_FROM, ad_TO]) (.ref C_Net) "__init__" = some (some (.ref f_Net_init)))
    (l_Net_init : K.lookup f_Net_init = some ⟨oc_Net_init, od_Net_init, .func (PySem.W.fnOf "__init__" "Net.__init__" (defArgs s_Net_init) (defBody s_Net_init) (defScope s_Net_init) .none kV_Net_init dc_Net_init pm_Net_init an_Net_init cd_Net_init ct_Net_init), sl_Net_init⟩)
    (n_Net_init : ([ad_FROM, ad_TO] : List Addr).contains f_Net_init = false)
    (cc_Net_init : PySem.W.codeIn (without K [ad_FROM, ad_TO]) cd_Net_init "Net.__init__" = true)
    (k_Net_init : PySem.W.keepIn (without K [ad_FROM, ad_TO]) (.ref f_Net_init) = true)
    (pg_Net : PySem.W.plainGet (without K [ad_FROM, ad_TO]) C_Net Str.empty = true)
    (hd_Net : PySem.W.hasDictIn (without K [ad_FROM, ad_TO]) C_Net = true)
    (po_Net : PySem.W.plainOver (without K [ad_FROM, ad_TO]) C_Net = true)
    (sa_Net : PySem.W.findIn (without K [ad_FROM, ad_TO]) (.ref C_Net) "__setattr__" = some (some (.builtin "object.__setattr__")))
    (mk_Net : PySem.W.makesIn (without K [ad_FROM, ad_TO]) C_Net = true)
    (kc_Net : PySem.W.keepIn (without K [ad_FROM, ad_TO]) (.ref C_Net) = true)
    (fn_Net : PySem.W.isFn (without K [ad_FROM, ad_TO]) (.ref f_Net_init) = true)
    (na_Net_rows : PySem.W.findIn (without K [ad_FROM, ad_TO]) (.ref C_Net) "rows" = some none)
    (na_Net_heads : PySem.W.findIn (without K [ad_FROM, ad_TO]) (.ref C_Net) "heads" = some none)
    (na_Net_marks : PySem.W.findIn (without K [ad_FROM, ad_TO]) (.ref C_Net) "marks" = some none)
    (na_Net_moves : PySem.W.findIn (without K [ad_FROM, ad_TO]) (.ref C_Net) "moves" = some none)
    (a_heads_of : PySem.W.nsIn K mainGlobals "heads_of" = some (some (.ref f_heads_of)))
    (l_heads_of : K.lookup f_heads_of = some ⟨oc_heads_of, od_heads_of, .func (PySem.W.fnOf "heads_of" "heads_of" (defArgs s_heads_of) (defBody s_heads_of) (defScope s_heads_of) .none kV_heads_of dc_heads_of pm_heads_of an_heads_of cd_heads_of ct_heads_of), sl_heads_of⟩)
    (n_heads_of : ([ad_FROM, ad_TO] : List Addr).contains f_heads_of = false)
    (cc_heads_of : PySem.W.codeIn (without K [ad_FROM, ad_TO]) cd_heads_of "heads_of" = true)
    (k_heads_of : PySem.W.keepIn (without K [ad_FROM, ad_TO]) (.ref f_heads_of) = true)
    (a_rows_of : PySem.W.nsIn K mainGlobals "rows_of" = some (some (.ref f_rows_of)))
    (l_rows_of : K.lookup f_rows_of = some ⟨oc_rows_of, od_rows_of, .func (PySem.W.fnOf "rows_of" "rows_of" (defArgs s_rows_of) (defBody s_rows_of) (defScope s_rows_of) .none kV_rows_of dc_rows_of pm_rows_of an_rows_of cd_rows_of ct_rows_of), sl_rows_of⟩)
    (n_rows_of : ([ad_FROM, ad_TO] : List Addr).contains f_rows_of = false)
    (cc_rows_of : PySem.W.codeIn (without K [ad_FROM, ad_TO]) cd_rows_of "rows_of" = true)
    (k_rows_of : PySem.W.keepIn (without K [ad_FROM, ad_TO]) (.ref f_rows_of) = true)
    (a_names_in : PySem.W.nsIn K mainGlobals "names_in" = some (some (.ref f_names_in)))
    (l_names_in : K.lookup f_names_in = some ⟨oc_names_in, od_names_in, .func (PySem.W.fnOf "names_in" "names_in" (defArgs s_names_in) (defBody s_names_in) (defScope s_names_in) .none kV_names_in dc_names_in pm_names_in an_names_in cd_names_in ct_names_in), sl_names_in⟩)
    (n_names_in : ([ad_FROM, ad_TO] : List Addr).contains f_names_in = false)
    (cc_names_in : PySem.W.codeIn (without K [ad_FROM, ad_TO]) cd_names_in "names_in" = true)
    (k_names_in : PySem.W.keepIn (without K [ad_FROM, ad_TO]) (.ref f_names_in) = true)
    (a_steps_in : PySem.W.nsIn K mainGlobals "steps_in" = some (some (.ref f_steps_in)))
    (l_steps_in : K.lookup f_steps_in = some ⟨oc_steps_in, od_steps_in, .func (PySem.W.fnOf "steps_in" "steps_in" (defArgs s_steps_in) (defBody s_steps_in) (defScope s_steps_in) .none kV_steps_in dc_steps_in pm_steps_in an_steps_in cd_steps_in ct_steps_in), sl_steps_in⟩)
    (n_steps_in : ([ad_FROM, ad_TO] : List Addr).contains f_steps_in = false)
    (cc_steps_in : PySem.W.codeIn (without K [ad_FROM, ad_TO]) cd_steps_in "steps_in" = true)
    (k_steps_in : PySem.W.keepIn (without K [ad_FROM, ad_TO]) (.ref f_steps_in) = true)
    (a_moves_in : PySem.W.nsIn K mainGlobals "moves_in" = some (some (.ref f_moves_in)))
    (l_moves_in : K.lookup f_moves_in = some ⟨oc_moves_in, od_moves_in, .func (PySem.W.fnOf "moves_in" "moves_in" (defArgs s_moves_in) (defBody s_moves_in) (defScope s_moves_in) .none kV_moves_in dc_moves_in pm_moves_in an_moves_in cd_moves_in ct_moves_in), sl_moves_in⟩)
    (n_moves_in : ([ad_FROM, ad_TO] : List Addr).contains f_moves_in = false)
    (cc_moves_in : PySem.W.codeIn (without K [ad_FROM, ad_TO]) cd_moves_in "moves_in" = true)
    (k_moves_in : PySem.W.keepIn (without K [ad_FROM, ad_TO]) (.ref f_moves_in) = true)
    (a_is_of : PySem.W.nsIn K mainGlobals "is_of" = some (some (.ref f_is_of)))
    (l_is_of : K.lookup f_is_of = some ⟨oc_is_of, od_is_of, .func (PySem.W.fnOf "is_of" "is_of" (defArgs s_is_of) (defBody s_is_of) (defScope s_is_of) .none kV_is_of dc_is_of pm_is_of an_is_of cd_is_of ct_is_of), sl_is_of⟩)
    (n_is_of : ([ad_FROM, ad_TO] : List Addr).contains f_is_of = false)
    (cc_is_of : PySem.W.codeIn (without K [ad_FROM, ad_TO]) cd_is_of "is_of" = true)
    (k_is_of : PySem.W.keepIn (without K [ad_FROM, ad_TO]) (.ref f_is_of) = true)
    (a_asked_behind : PySem.W.nsIn K mainGlobals "asked_behind" = some (some (.ref f_asked_behind)))
    (l_asked_behind : K.lookup f_asked_behind = some ⟨oc_asked_behind, od_asked_behind, .func (PySem.W.fnOf "asked_behind" "asked_behind" (defArgs s_asked_behind) (defBody s_asked_behind) (defScope s_asked_behind) .none kV_asked_behind dc_asked_behind pm_asked_behind an_asked_behind cd_asked_behind ct_asked_behind), sl_asked_behind⟩)
    (n_asked_behind : ([ad_FROM, ad_TO] : List Addr).contains f_asked_behind = false)
    (cc_asked_behind : PySem.W.codeIn (without K [ad_FROM, ad_TO]) cd_asked_behind "asked_behind" = true)
    (k_asked_behind : PySem.W.keepIn (without K [ad_FROM, ad_TO]) (.ref f_asked_behind) = true)
    (a_law_tpen : PySem.W.nsIn K mainGlobals "_law_tpen" = some (some (.ref f_law_tpen)))
    (l_law_tpen : K.lookup f_law_tpen = some ⟨oc_law_tpen, od_law_tpen, .func (PySem.W.fnOf "_law_tpen" "_law_tpen" (defArgs s_law_tpen) (defBody s_law_tpen) (defScope s_law_tpen) .none kV_law_tpen dc_law_tpen pm_law_tpen an_law_tpen cd_law_tpen ct_law_tpen), sl_law_tpen⟩)
    (n_law_tpen : ([ad_FROM, ad_TO] : List Addr).contains f_law_tpen = false)
    (cc_law_tpen : PySem.W.codeIn (without K [ad_FROM, ad_TO]) cd_law_tpen "_law_tpen" = true)
    (k_law_tpen : PySem.W.keepIn (without K [ad_FROM, ad_TO]) (.ref f_law_tpen) = true)
    (a_law_tdraw : PySem.W.nsIn K mainGlobals "_law_tdraw" = some (some (.ref f_law_tdraw)))
    (l_law_tdraw : K.lookup f_law_tdraw = some ⟨oc_law_tdraw, od_law_tdraw, .func (PySem.W.fnOf "_law_tdraw" "_law_tdraw" (defArgs s_law_tdraw) (defBody s_law_tdraw) (defScope s_law_tdraw) .none kV_law_tdraw dc_law_tdraw pm_law_tdraw an_law_tdraw cd_law_tdraw ct_law_tdraw), sl_law_tdraw⟩)
    (n_law_tdraw : ([ad_FROM, ad_TO] : List Addr).contains f_law_tdraw = false)
    (cc_law_tdraw : PySem.W.codeIn (without K [ad_FROM, ad_TO]) cd_law_tdraw "_law_tdraw" = true)
    (k_law_tdraw : PySem.W.keepIn (without K [ad_FROM, ad_TO]) (.ref f_law_tdraw) = true)
    (a_law_tnames : PySem.W.nsIn K mainGlobals "_law_tnames" = some (some (.ref f_law_tnames)))
    (l_law_tnames : K.lookup f_law_tnames = some ⟨oc_law_tnames, od_law_tnames, .func (PySem.W.fnOf "_law_tnames" "_law_tnames" (defArgs s_law_tnames) (defBody s_law_tnames) (defScope s_law_tnames) .none kV_law_tnames dc_law_tnames pm_law_tnames an_law_tnames cd_law_tnames ct_law_tnames), sl_law_tnames⟩)
    (n_law_tnames : ([ad_FROM, ad_TO] : List Addr).contains f_law_tnames = false)
    (cc_law_tnames : PySem.W.codeIn (without K [ad_FROM, ad_TO]) cd_law_tnames "_law_tnames" = true)
    (k_law_tnames : PySem.W.keepIn (without K [ad_FROM, ad_TO]) (.ref f_law_tnames) = true)
    (a_law_tpairs : PySem.W.nsIn K mainGlobals "_law_tpairs" = some (some (.ref f_law_tpairs)))
    (l_law_tpairs : K.lookup f_law_tpairs = some ⟨oc_law_tpairs, od_law_tpairs, .func (PySem.W.fnOf "_law_tpairs" "_law_tpairs" (defArgs s_law_tpairs) (defBody s_law_tpairs) (defScope s_law_tpairs) .none kV_law_tpairs dc_law_tpairs pm_law_tpairs an_law_tpairs cd_law_tpairs ct_law_tpairs), sl_law_tpairs⟩)
    (n_law_tpairs : ([ad_FROM, ad_TO] : List Addr).contains f_law_tpairs = false)
    (cc_law_tpairs : PySem.W.codeIn (without K [ad_FROM, ad_TO]) cd_law_tpairs "_law_tpairs" = true)
    (k_law_tpairs : PySem.W.keepIn (without K [ad_FROM, ad_TO]) (.ref f_law_tpairs) = true)
    (a_law_thead : PySem.W.nsIn K mainGlobals "_law_thead" = some (some (.ref f_law_thead)))
    (l_law_thead : K.lookup f_law_thead = some ⟨oc_law_thead, od_law_thead, .func (PySem.W.fnOf "_law_thead" "_law_thead" (defArgs s_law_thead) (defBody s_law_thead) (defScope s_law_thead) .none kV_law_thead dc_law_thead pm_law_thead an_law_thead cd_law_thead ct_law_thead), sl_law_thead⟩)
    (n_law_thead : ([ad_FROM, ad_TO] : List Addr).contains f_law_thead = false)
    (cc_law_thead : PySem.W.codeIn (without K [ad_FROM, ad_TO]) cd_law_thead "_law_thead" = true)
    (k_law_thead : PySem.W.keepIn (without K [ad_FROM, ad_TO]) (.ref f_law_thead) = true)
    (a_law_ttelling : PySem.W.nsIn K mainGlobals "_law_ttelling" = some (some (.ref f_law_ttelling)))
    (l_law_ttelling : K.lookup f_law_ttelling = some ⟨oc_law_ttelling, od_law_ttelling, .func (PySem.W.fnOf "_law_ttelling" "_law_ttelling" (defArgs s_law_ttelling) (defBody s_law_ttelling) (defScope s_law_ttelling) .none kV_law_ttelling dc_law_ttelling pm_law_ttelling an_law_ttelling cd_law_ttelling ct_law_ttelling), sl_law_ttelling⟩)
    (n_law_ttelling : ([ad_FROM, ad_TO] : List Addr).contains f_law_ttelling = false)
    (cc_law_ttelling : PySem.W.codeIn (without K [ad_FROM, ad_TO]) cd_law_ttelling "_law_ttelling" = true)
    (k_law_ttelling : PySem.W.keepIn (without K [ad_FROM, ad_TO]) (.ref f_law_ttelling) = true)
    (a_law_tthing : PySem.W.nsIn K mainGlobals "_law_tthing" = some (some (.ref f_law_tthing)))
    (l_law_tthing : K.lookup f_law_tthing = some ⟨oc_law_tthing, od_law_tthing, .func (PySem.W.fnOf "_law_tthing" "_law_tthing" (defArgs s_law_tthing) (defBody s_law_tthing) (defScope s_law_tthing) .none kV_law_tthing dc_law_tthing pm_law_tthing an_law_tthing cd_law_tthing ct_law_tthing), sl_law_tthing⟩)
    (n_law_tthing : ([ad_FROM, ad_TO] : List Addr).contains f_law_tthing = false)
    (cc_law_tthing : PySem.W.codeIn (without K [ad_FROM, ad_TO]) cd_law_tthing "_law_tthing" = true)
    (k_law_tthing : PySem.W.keepIn (without K [ad_FROM, ad_TO]) (.ref f_law_tthing) = true)
    (a_law_tof : PySem.W.nsIn K mainGlobals "_law_tof" = some (some (.ref f_law_tof)))
    (l_law_tof : K.lookup f_law_tof = some ⟨oc_law_tof, od_law_tof, .func (PySem.W.fnOf "_law_tof" "_law_tof" (defArgs s_law_tof) (defBody s_law_tof) (defScope s_law_tof) .none kV_law_tof dc_law_tof pm_law_tof an_law_tof cd_law_tof ct_law_tof), sl_law_tof⟩)
    (n_law_tof : ([ad_FROM, ad_TO] : List Addr).contains f_law_tof = false)
    (cc_law_tof : PySem.W.codeIn (without K [ad_FROM, ad_TO]) cd_law_tof "_law_tof" = true)
    (k_law_tof : PySem.W.keepIn (without K [ad_FROM, ad_TO]) (.ref f_law_tof) = true)
    (a_law_tfit : PySem.W.nsIn K mainGlobals "_law_tfit" = some (some (.ref f_law_tfit)))
    (l_law_tfit : K.lookup f_law_tfit = some ⟨oc_law_tfit, od_law_tfit, .func (PySem.W.fnOf "_law_tfit" "_law_tfit" (defArgs s_law_tfit) (defBody s_law_tfit) (defScope s_law_tfit) .none kV_law_tfit dc_law_tfit pm_law_tfit an_law_tfit cd_law_tfit ct_law_tfit), sl_law_tfit⟩)
    (n_law_tfit : ([ad_FROM, ad_TO] : List Addr).contains f_law_tfit = false)
    (cc_law_tfit : PySem.W.codeIn (without K [ad_FROM, ad_TO]) cd_law_tfit "_law_tfit" = true)
    (k_law_tfit : PySem.W.keepIn (without K [ad_FROM, ad_TO]) (.ref f_law_tfit) = true)
    (a_law : PySem.W.nsIn K mainGlobals "law" = some (some (.ref f_law)))
    (l_law : K.lookup f_law = some ⟨oc_law, od_law, .func (PySem.W.fnOf "law" "law" (defArgs s_law) (defBody s_law) (defScope s_law) .none kV_law dc_law pm_law an_law cd_law ct_law), sl_law⟩)
    (n_law : ([ad_FROM, ad_TO] : List Addr).contains f_law = false)
    (cc_law : PySem.W.codeIn (without K [ad_FROM, ad_TO]) cd_law "law" = true)
    (k_law : PySem.W.keepIn (without K [ad_FROM, ad_TO]) (.ref f_law) = true)
    (z_len : PySem.W.nsIn K mainGlobals "len" = some none)
    (z_isinstance : PySem.W.nsIn K mainGlobals "isinstance" = some none)
    (z_all : PySem.W.nsIn K mainGlobals "all" = some none)
    (z_range : PySem.W.nsIn K mainGlobals "range" = some none)
    (z_bool : PySem.W.nsIn K mainGlobals "bool" = some none)
    (z_int : PySem.W.nsIn K mainGlobals "int" = some none)
    (z_list : PySem.W.nsIn K mainGlobals "list" = some none)
    (z_tuple : PySem.W.nsIn K mainGlobals "tuple" = some none)
    (z_dict : PySem.W.nsIn K mainGlobals "dict" = some none)
    (z_sorted : PySem.W.nsIn K mainGlobals "sorted" = some none)
    (z_enumerate : PySem.W.nsIn K mainGlobals "enumerate" = some none)
    (z_zip : PySem.W.nsIn K mainGlobals "zip" = some none)
    (z_min : PySem.W.nsIn K mainGlobals "min" = some none)
    (g_WORDED : PySem.W.nsIn K mainGlobals "WORDED" = some (some (.ref ad_WORDED)))
    (gl_WORDED : K.lookup ad_WORDED = some ⟨.type "tuple", oe_WORDED, .seq it_WORDED nn_WORDED, sq_WORDED⟩)
    (gz_WORDED : it_WORDED.size ≤ sizeLine) (gv_WORDED : Vals [.str "box", .str "pick"] it_WORDED.toList)
    (gn0_WORDED : ([ad_FROM, ad_TO] : List Addr).contains ad_WORDED = false)
    (g_STEP_WORDS : PySem.W.nsIn K mainGlobals "STEP_WORDS" = some (some (.ref ad_STEP_WORDS)))
    (gl_STEP_WORDS : K.lookup ad_STEP_WORDS = some { cls := .type "dict", data := .dict es_STEP_WORDS ep_STEP_WORDS })
    (gs_STEP_WORDS : (ad_STEP_WORDS == sysModules) = false) (gp_STEP_WORDS : ∀ P : Program, Pairs (mixKind P w) es_STEP_WORDS.toList vs_STEP_WORDS) (gk_STEP_WORDS : ∀ P : Program, KeysOf (mixKind P w) es_STEP_WORDS) (gn_STEP_WORDS : (vs_STEP_WORDS.map (·.1)).Nodup) (gv_STEP_WORDS : KV [(.inr "box", .str "part"), (.inr "pick", .str "case")] vs_STEP_WORDS)
    (gn0_STEP_WORDS : ([ad_FROM, ad_TO] : List Addr).contains ad_STEP_WORDS = false) : TxtT K mg w := by
  have F_heads_of := fun_mk (st := s_heads_of) (without_of l_heads_of n_heads_of) cc_heads_of k_heads_of
  have b_heads_of := F_heads_of.binds (ps := ["T"]) fun _ _ _ _ _ _ us hl => by obtain ⟨a0, us0, rfl, hl0⟩ := lnS (n := 0) hl; obtain rfl := List.eq_nil_of_length_eq_zero hl0; rfl
  have F_rows_of := fun_mk (st := s_rows_of) (without_of l_rows_of n_rows_of) cc_rows_of k_rows_of
  have b_rows_of := F_rows_of.binds (ps := ["T"]) fun _ _ _ _ _ _ us hl => by obtain ⟨a0, us0, rfl, hl0⟩ := lnS (n := 0) hl; obtain rfl := List.eq_nil_of_length_eq_zero hl0; rfl
  have F_names_in := fun_mk (st := s_names_in) (without_of l_names_in n_names_in) cc_names_in k_names_in
  have b_names_in := F_names_in.binds (ps := ["head"]) fun _ _ _ _ _ _ us hl => by obtain ⟨a0, us0, rfl, hl0⟩ := lnS (n := 0) hl; obtain rfl := List.eq_nil_of_length_eq_zero hl0; rfl
  have F_steps_in := fun_mk (st := s_steps_in) (without_of l_steps_in n_steps_in) cc_steps_in k_steps_in
  have b_steps_in := F_steps_in.binds (ps := ["head"]) fun _ _ _ _ _ _ us hl => by obtain ⟨a0, us0, rfl, hl0⟩ := lnS (n := 0) hl; obtain rfl := List.eq_nil_of_length_eq_zero hl0; rfl
  have F_moves_in := fun_mk (st := s_moves_in) (without_of l_moves_in n_moves_in) cc_moves_in k_moves_in
  have b_moves_in := F_moves_in.binds (ps := ["head", "rows"]) fun _ _ _ _ _ _ us hl => by obtain ⟨a0, us0, rfl, hl0⟩ := lnS (n := 1) hl; obtain ⟨a1, us1, rfl, hl1⟩ := lnS (n := 0) hl0; obtain rfl := List.eq_nil_of_length_eq_zero hl1; rfl
  have F_is_of := fun_mk (st := s_is_of) (without_of l_is_of n_is_of) cc_is_of k_is_of
  have b_is_of := F_is_of.binds (ps := ["T", "x", "thing"]) fun _ _ _ _ _ _ us hl => by obtain ⟨a0, us0, rfl, hl0⟩ := lnS (n := 2) hl; obtain ⟨a1, us1, rfl, hl1⟩ := lnS (n := 1) hl0; obtain ⟨a2, us2, rfl, hl2⟩ := lnS (n := 0) hl1; obtain rfl := List.eq_nil_of_length_eq_zero hl2; rfl
  have F_asked_behind := fun_mk (st := s_asked_behind) (without_of l_asked_behind n_asked_behind) cc_asked_behind k_asked_behind
  have b_asked_behind := F_asked_behind.binds (ps := ["net", "row", "thing"]) fun _ _ _ _ _ _ us hl => by obtain ⟨a0, us0, rfl, hl0⟩ := lnS (n := 2) hl; obtain ⟨a1, us1, rfl, hl1⟩ := lnS (n := 1) hl0; obtain ⟨a2, us2, rfl, hl2⟩ := lnS (n := 0) hl1; obtain rfl := List.eq_nil_of_length_eq_zero hl2; rfl
  have F_law_tpen := fun_mk (st := s_law_tpen) (without_of l_law_tpen n_law_tpen) cc_law_tpen k_law_tpen
  have b_law_tpen := F_law_tpen.binds (ps := ["script"]) fun _ _ _ _ _ _ us hl => by obtain ⟨a0, us0, rfl, hl0⟩ := lnS (n := 0) hl; obtain rfl := List.eq_nil_of_length_eq_zero hl0; rfl
  have F_law_tdraw := fun_mk (st := s_law_tdraw) (without_of l_law_tdraw n_law_tdraw) cc_law_tdraw k_law_tdraw
  have b_law_tdraw := F_law_tdraw.binds (ps := ["pen", "many"]) fun _ _ _ _ _ _ us hl => by obtain ⟨a0, us0, rfl, hl0⟩ := lnS (n := 1) hl; obtain ⟨a1, us1, rfl, hl1⟩ := lnS (n := 0) hl0; obtain rfl := List.eq_nil_of_length_eq_zero hl1; rfl
  have F_law_tnames := fun_mk (st := s_law_tnames) (without_of l_law_tnames n_law_tnames) cc_law_tnames k_law_tnames
  have b_law_tnames := F_law_tnames.binds (ps := ["pen", "many"]) fun _ _ _ _ _ _ us hl => by obtain ⟨a0, us0, rfl, hl0⟩ := lnS (n := 1) hl; obtain ⟨a1, us1, rfl, hl1⟩ := lnS (n := 0) hl0; obtain rfl := List.eq_nil_of_length_eq_zero hl1; rfl
  have F_law_tpairs := fun_mk (st := s_law_tpairs) (without_of l_law_tpairs n_law_tpairs) cc_law_tpairs k_law_tpairs
  have b_law_tpairs := F_law_tpairs.binds (ps := ["pen", "words", "names"]) fun _ _ _ _ _ _ us hl => by obtain ⟨a0, us0, rfl, hl0⟩ := lnS (n := 2) hl; obtain ⟨a1, us1, rfl, hl1⟩ := lnS (n := 1) hl0; obtain ⟨a2, us2, rfl, hl2⟩ := lnS (n := 0) hl1; obtain rfl := List.eq_nil_of_length_eq_zero hl2; rfl
  have F_law_thead := fun_mk (st := s_law_thead) (without_of l_law_thead n_law_thead) cc_law_thead k_law_thead
  have b_law_thead := F_law_thead.binds (ps := ["pen", "sort", "words", "names"]) fun _ _ _ _ _ _ us hl => by obtain ⟨a0, us0, rfl, hl0⟩ := lnS (n := 3) hl; obtain ⟨a1, us1, rfl, hl1⟩ := lnS (n := 2) hl0; obtain ⟨a2, us2, rfl, hl2⟩ := lnS (n := 1) hl1; obtain ⟨a3, us3, rfl, hl3⟩ := lnS (n := 0) hl2; obtain rfl := List.eq_nil_of_length_eq_zero hl3; rfl
  have F_law_ttelling := fun_mk (st := s_law_ttelling) (without_of l_law_ttelling n_law_ttelling) cc_law_ttelling k_law_ttelling
  have b_law_ttelling := F_law_ttelling.binds (ps := ["pen", "most", "words", "sorts"]) fun _ _ _ _ _ _ us hl => by obtain ⟨a0, us0, rfl, hl0⟩ := lnS (n := 3) hl; obtain ⟨a1, us1, rfl, hl1⟩ := lnS (n := 2) hl0; obtain ⟨a2, us2, rfl, hl2⟩ := lnS (n := 1) hl1; obtain ⟨a3, us3, rfl, hl3⟩ := lnS (n := 0) hl2; obtain rfl := List.eq_nil_of_length_eq_zero hl3; rfl
  have F_law_tthing := fun_mk (st := s_law_tthing) (without_of l_law_tthing n_law_tthing) cc_law_tthing k_law_tthing
  have b_law_tthing := F_law_tthing.binds (ps := ["pen", "words", "left"]) fun _ _ _ _ _ _ us hl => by obtain ⟨a0, us0, rfl, hl0⟩ := lnS (n := 2) hl; obtain ⟨a1, us1, rfl, hl1⟩ := lnS (n := 1) hl0; obtain ⟨a2, us2, rfl, hl2⟩ := lnS (n := 0) hl1; obtain rfl := List.eq_nil_of_length_eq_zero hl2; rfl
  have F_law_tof := fun_mk (st := s_law_tof) (without_of l_law_tof n_law_tof) cc_law_tof k_law_tof
  have b_law_tof := F_law_tof.binds (ps := ["told", "x", "thing"]) fun _ _ _ _ _ _ us hl => by obtain ⟨a0, us0, rfl, hl0⟩ := lnS (n := 2) hl; obtain ⟨a1, us1, rfl, hl1⟩ := lnS (n := 1) hl0; obtain ⟨a2, us2, rfl, hl2⟩ := lnS (n := 0) hl1; obtain rfl := List.eq_nil_of_length_eq_zero hl2; rfl
  have F_law_tfit := fun_mk (st := s_law_tfit) (without_of l_law_tfit n_law_tfit) cc_law_tfit k_law_tfit
  have b_law_tfit := F_law_tfit.binds (ps := ["pen", "told", "x", "words", "left"]) fun _ _ _ _ _ _ us hl => by obtain ⟨a0, us0, rfl, hl0⟩ := lnS (n := 4) hl; obtain ⟨a1, us1, rfl, hl1⟩ := lnS (n := 3) hl0; obtain ⟨a2, us2, rfl, hl2⟩ := lnS (n := 2) hl1; obtain ⟨a3, us3, rfl, hl3⟩ := lnS (n := 1) hl2; obtain ⟨a4, us4, rfl, hl4⟩ := lnS (n := 0) hl3; obtain rfl := List.eq_nil_of_length_eq_zero hl4; rfl
  have F_law := fun_mk (st := s_law) (without_of l_law n_law) cc_law k_law
  have b_law := F_law.binds (ps := ["script"]) fun _ _ _ _ _ _ us hl => by obtain ⟨a0, us0, rfl, hl0⟩ := lnS (n := 0) hl; obtain rfl := List.eq_nil_of_length_eq_zero hl0; rfl
  have F_Net_init := fun_mk (st := s_Net_init) (without_of l_Net_init n_Net_init) cc_Net_init k_Net_init
  have b_Net_init := F_Net_init.binds (ps := ["self", "T"]) fun _ _ _ _ _ _ us hl => by obtain ⟨a0, us0, rfl, hl0⟩ := lnS (n := 1) hl; obtain ⟨a1, us1, rfl, hl1⟩ := lnS (n := 0) hl0; obtain rfl := List.eq_nil_of_length_eq_zero hl1; rfl
  have aC : adr mg "Net" = C_Net := by unfold adr; rw [PySem.W.mg_of X G aC_Net] <;> rfl
  refine ⟨[(ad_FROM, ⟨.type "tuple", none, .seq it_FROM nn_FROM, sq_FROM⟩, [.str "from"]), (ad_TO, ⟨.type "tuple", none, .seq it_TO nn_TO, sq_TO⟩, [.str "to"])], ?_, ?_, ⟨PySem.W.mg_none_of X G z_len,
    PySem.W.mg_none_of X G z_isinstance,
    PySem.W.mg_none_of X G z_all,
    PySem.W.mg_none_of X G z_range,
    PySem.W.mg_none_of X G z_bool,
    PySem.W.mg_none_of X G z_int,
    PySem.W.mg_none_of X G z_list,
    PySem.W.mg_none_of X G z_tuple,
    PySem.W.mg_none_of X G z_dict,
    PySem.W.mg_none_of X G z_sorted,
    PySem.W.mg_none_of X G z_enumerate,
    PySem.W.mg_none_of X G z_zip,
    PySem.W.mg_none_of X G z_min,
    ⟨ad_WORDED, PySem.W.mg_of X G g_WORDED, fun H => .inr ⟨_, it_WORDED, nn_WORDED, (without_of gl_WORDED gn0_WORDED), rfl, rfl, gz_WORDED, gv_WORDED⟩⟩,
    ⟨.ref ad_FROM, PySem.W.mg_of X G g_FROM, adr_of (PySem.W.mg_of X G g_FROM)⟩,
    ⟨.ref ad_TO, PySem.W.mg_of X G g_TO, adr_of (PySem.W.mg_of X G g_TO)⟩,
    ⟨ad_STEP_WORDS, PySem.W.mg_of X G g_STEP_WORDS, fun P => ⟨_, es_STEP_WORDS, ep_STEP_WORDS, vs_STEP_WORDS, (without_of gl_STEP_WORDS gn0_STEP_WORDS), gs_STEP_WORDS, ⟨rfl, rfl, rfl⟩, rfl, gk_STEP_WORDS P, gp_STEP_WORDS P, gn_STEP_WORDS, gv_STEP_WORDS⟩⟩,
    ⟨f_heads_of, _, F_heads_of, PySem.W.mg_of X G a_heads_of, b_heads_of⟩,
    ⟨f_rows_of, _, F_rows_of, PySem.W.mg_of X G a_rows_of, b_rows_of⟩,
    ⟨f_names_in, _, F_names_in, PySem.W.mg_of X G a_names_in, b_names_in⟩,
    ⟨f_steps_in, _, F_steps_in, PySem.W.mg_of X G a_steps_in, b_steps_in⟩,
    ⟨f_moves_in, _, F_moves_in, PySem.W.mg_of X G a_moves_in, b_moves_in⟩,
    ⟨f_is_of, _, F_is_of, PySem.W.mg_of X G a_is_of, b_is_of⟩,
    ⟨f_asked_behind, _, F_asked_behind, PySem.W.mg_of X G a_asked_behind, b_asked_behind⟩,
    ⟨f_law_tpen, _, F_law_tpen, PySem.W.mg_of X G a_law_tpen, b_law_tpen⟩,
    ⟨f_law_tdraw, _, F_law_tdraw, PySem.W.mg_of X G a_law_tdraw, b_law_tdraw⟩,
    ⟨f_law_tnames, _, F_law_tnames, PySem.W.mg_of X G a_law_tnames, b_law_tnames⟩,
    ⟨f_law_tpairs, _, F_law_tpairs, PySem.W.mg_of X G a_law_tpairs, b_law_tpairs⟩,
    ⟨f_law_thead, _, F_law_thead, PySem.W.mg_of X G a_law_thead, b_law_thead⟩,
    ⟨f_law_ttelling, _, F_law_ttelling, PySem.W.mg_of X G a_law_ttelling, b_law_ttelling⟩,
    ⟨f_law_tthing, _, F_law_tthing, PySem.W.mg_of X G a_law_tthing, b_law_tthing⟩,
    ⟨f_law_tof, _, F_law_tof, PySem.W.mg_of X G a_law_tof, b_law_tof⟩,
    ⟨f_law_tfit, _, F_law_tfit, PySem.W.mg_of X G a_law_tfit, b_law_tfit⟩,
    ⟨f_law, _, F_law, PySem.W.mg_of X G a_law, b_law⟩,
    (by rw [aC]; exact ⟨PySem.W.mg_of X G aC_Net, ⟨pg_Net, hd_Net, po_Net, sa_Net⟩, (by simp only [List.mem_cons, List.mem_nil_iff, or_false, forall_eq_or_imp, forall_eq]; exact ⟨na_Net_rows, na_Net_heads, na_Net_marks, na_Net_moves⟩), f_Net_init, _, ⟨mk_Net, in_Net, fn_Net, kc_Net⟩, F_Net_init, b_Net_init⟩)⟩, ?_⟩
  · intro t ht
    simp only [List.mem_cons, List.mem_nil_iff, or_false] at ht
    rcases ht with rfl | rfl
    · exact ktup_mk gl_FROM gv_FROM (by decide)
    · exact ktup_mk gl_TO gv_TO (by decide)
  · exact nd_TR
  · intro H hH
    have e_FROM : adr mg "FROM" = ad_FROM := by unfold adr; rw [PySem.W.mg_of X G g_FROM] <;> rfl
    have e_TO : adr mg "TO" = ad_TO := by unfold adr; rw [PySem.W.mg_of X G g_TO] <;> rfl
    exact ⟨⟨_, by rw [e_FROM]; exact hH (ad_FROM, ⟨.type "tuple", none, .seq it_FROM nn_FROM, sq_FROM⟩, [.str "from"]) (by simp)⟩, ⟨_, by rw [e_TO]; exact hH (ad_TO, ⟨.type "tuple", none, .seq it_TO nn_TO, sq_TO⟩, [.str "to"]) (by simp)⟩⟩
theorem walk {l : PySem.W.OpenLaw} {q : Program} {loose : List Str} {XP : (Str → Option Value) → Heap → Prop} {YP : World → Heap → Prop} {d : DefRec} {K : Params → PySem.W.Frag} (hn : l.most = some 63) (hdf : d.params.defaults = [])
    (hY : ∀ (w : World) (h : Heap), YP w h → (K w.params).In h) (hname : d.name = "law")
    (F : ∀ (w : World) (mg : Str → Option Value) (h : Heap), (K w.params).In h → h.Ns mainGlobals mg → TxtT (K w.params) mg w) :
    PySem.W.WalkO q loose XP YP l.row.toRowW d [] (fun f vs => PySem.call f vs) :=
  L2.walk_ofT2 (n := 63) (k := 100) (x := "script") hn (by decide) hdf ⟨rfl, by decide, by decide, rfl⟩ hY fun w mg fa h KX G hmg => by
    obtain ⟨ts, hts, nd, T, hk⟩ := F w mg h KX G
    obtain ⟨f, fd, Fu, m, b⟩ := T.t_law
    rw [hname] at hmg
    rw [m] at hmg
    cases hmg
    refine ⟨ts, fd, spLaw (without (K w.params) (ts.map (·.1))) mg, hts, nd, fun s u => ?_, fun base kb nb => ?_, fun H a ns hl ht hS => ⟨a, ns, rfl, hS, hl, hk H ht, fun _ => rfl⟩⟩
    · have := Fu.ex
      obtain ⟨oc, od, kV, doc, pm, an, cdv, ct, osl, rfl, lk, hcd⟩ := this
      exact .of_eq rfl
    · obtain ⟨f', fd', G', m', k', b', oc', od', osl', lk'⟩ := (ok_law T : FnK l.prog w (without (K w.params) (ts.map (·.1))) mg base 100 "law" ["script"] (spLaw (without (K w.params) (ts.map (·.1))) mg))
      rw [m] at m'
      cases m'
      have e : fd = fd' := by
        have hx := Fu.ex
        obtain ⟨oc, od, kV, doc, pm, an, cdv, ct, osl, e1, lk, hcd⟩ := hx
        rw [lk] at lk'
        have := Option.some.inj lk'
        injection this with _ _ h3 _
        injection h3
      rw [e]; exact (G')
end T1
open PySem PySem.W PyProof.Rows L2
set_option maxRecDepth 100000 in
set_option maxHeartbeats 0 in
theorem PySem.Challenge.cw_coilkind_k56_things_of_kinds_holds : PySem.Challenge.rw_coilkind_k56_things_of_kinds.Holds := by
  w_on; o_law; k_head; (case hw => w_witness2)
  k_fill
  refine T1.walk (l := PySem.Challenge.rw_coilkind_k56_things_of_kinds) rfl rfl (fun w h Y => PySem.W.kIn_of Y) rfl ?F
  case F =>
    intro w mg h KX G
    refine' T1.txt_mk KX G (g_FROM := ?g_FROM) (gl_FROM := ?gl_FROM) (gv_FROM := ?gv_FROM) (g_TO := ?g_TO) (gl_TO := ?gl_TO) (gv_TO := ?gv_TO) (nd_TR := ?nd_TR) (aC_Net := ?aC_Net) (i0_Net := ?i0_Net) (in_Net := ?in_Net) (l_Net_init := ?l_Net_init) (n_Net_init := ?n_Net_init) (cc_Net_init := ?cc_Net_init) (k_Net_init := ?k_Net_init) (pg_Net := ?pg_Net) (hd_Net := ?hd_Net) (po_Net := ?po_Net) (sa_Net := ?sa_Net) (mk_Net := ?mk_Net) (kc_Net := ?kc_Net) (fn_Net := ?fn_Net) (na_Net_rows := ?na_Net_rows) (na_Net_heads := ?na_Net_heads) (na_Net_marks := ?na_Net_marks) (na_Net_moves := ?na_Net_moves) (a_heads_of := ?a_heads_of) (l_heads_of := ?l_heads_of) (n_heads_of := ?n_heads_of) (cc_heads_of := ?cc_heads_of) (k_heads_of := ?k_heads_of) (a_rows_of := ?a_rows_of) (l_rows_of := ?l_rows_of) (n_rows_of := ?n_rows_of) (cc_rows_of := ?cc_rows_of) (k_rows_of := ?k_rows_of) (a_names_in := ?a_names_in) (l_names_in := ?l_names_in) (n_names_in := ?n_names_in) (cc_names_in := ?cc_names_in) (k_names_in := ?k_names_in) (a_steps_in := ?a_steps_in) (l_steps_in := ?l_steps_in) (n_steps_in := ?n_steps_in) (cc_steps_in := ?cc_steps_in) (k_steps_in := ?k_steps_in) (a_moves_in := ?a_moves_in) (l_moves_in := ?l_moves_in) (n_moves_in := ?n_moves_in) (cc_moves_in := ?cc_moves_in) (k_moves_in := ?k_moves_in) (a_is_of := ?a_is_of) (l_is_of := ?l_is_of) (n_is_of := ?n_is_of) (cc_is_of := ?cc_is_of) (k_is_of := ?k_is_of) (a_asked_behind := ?a_asked_behind) (l_asked_behind := ?l_asked_behind) (n_asked_behind := ?n_asked_behind) (cc_asked_behind := ?cc_asked_behind) (k_asked_behind := ?k_asked_behind) (a_law_tpen := ?a_law_tpen) (l_law_tpen := ?l_law_tpen) (n_law_tpen := ?n_law_tpen) (cc_law_tpen := ?cc_law_tpen) (k_law_tpen := ?k_law_tpen) (a_law_tdraw := ?a_law_tdraw) (l_law_tdraw := ?l_law_tdraw) (n_law_tdraw := ?n_law_tdraw) (cc_law_tdraw := ?cc_law_tdraw) (k_law_tdraw := ?k_law_tdraw) (a_law_tnames := ?a_law_tnames) (l_law_tnames := ?l_law_tnames) (n_law_tnames := ?n_law_tnames) (cc_law_tnames := ?cc_law_tnames) (k_law_tnames := ?k_law_tnames) (a_law_tpairs := ?a_law_tpairs) (l_law_tpairs := ?l_law_tpairs) (n_law_tpairs := ?n_law_tpairs) (cc_law_tpairs := ?cc_law_tpairs) (k_law_tpairs := ?k_law_tpairs) (a_law_thead := ?a_law_thead) (l_law_thead := ?l_law_thead) (n_law_thead := ?n_law_thead) (cc_law_thead := ?cc_law_thead) (k_law_thead := ?k_law_thead) (a_law_ttelling := ?a_law_ttelling) (l_law_ttelling := ?l_law_ttelling) (n_law_ttelling := ?n_law_ttelling) (cc_law_ttelling := ?cc_law_ttelling) (k_law_ttelling := ?k_law_ttelling) (a_law_tthing := ?a_law_tthing) (l_law_tthing := ?l_law_tthing) (n_law_tthing := ?n_law_tthing) (cc_law_tthing := ?cc_law_tthing) (k_law_tthing := ?k_law_tthing) (a_law_tof := ?a_law_tof) (l_law_tof := ?l_law_tof) (n_law_tof := ?n_law_tof) (cc_law_tof := ?cc_law_tof) (k_law_tof := ?k_law_tof) (a_law_tfit := ?a_law_tfit) (l_law_tfit := ?l_law_tfit) (n_law_tfit := ?n_law_tfit) (cc_law_tfit := ?cc_law_tfit) (k_law_tfit := ?k_law_tfit) (a_law := ?a_law) (l_law := ?l_law) (n_law := ?n_law) (cc_law := ?cc_law) (k_law := ?k_law) (z_len := ?z_len) (z_isinstance := ?z_isinstance) (z_all := ?z_all) (z_range := ?z_range) (z_bool := ?z_bool) (z_int := ?z_int) (z_list := ?z_list) (z_tuple := ?z_tuple) (z_dict := ?z_dict) (z_sorted := ?z_sorted) (z_enumerate := ?z_enumerate) (z_zip := ?z_zip) (z_min := ?z_min) (g_WORDED := ?g_WORDED) (gl_WORDED := ?gl_WORDED) (gn0_WORDED := ?gn0_WORDED) (g_STEP_WORDS := ?g_STEP_WORDS) (gl_STEP_WORDS := ?gl_STEP_WORDS) (gn0_STEP_WORDS := ?gn0_STEP_WORDS) (gz_WORDED := ?gz_WORDED) (gv_WORDED := ?gv_WORDED) (gs_STEP_WORDS := ?gs_STEP_WORDS) (gp_STEP_WORDS := ?gp_STEP_WORDS) (gk_STEP_WORDS := ?gk_STEP_WORDS) (gn_STEP_WORDS := ?gn_STEP_WORDS) (gv_STEP_WORDS := ?gv_STEP_WORDS)
    (case g_FROM => k_is)
    (case gl_FROM => k_is)
    (case gv_FROM => exact .cons ⟨_, rfl⟩ (.nil))
    (case g_TO => k_is)
    (case gl_TO => k_is)
    (case gv_TO => exact .cons ⟨_, rfl⟩ (.nil))
    (case nd_TR => decide)
    (case aC_Net => k_is)
    (case i0_Net => k_is)
    (case in_Net => kernel_rfl)
    (case l_Net_init => k_is)
    (case n_Net_init => kernel_rfl)
    (case cc_Net_init => kernel_rfl)
    (case k_Net_init => kernel_rfl)
    (case pg_Net => kernel_rfl)
    (case hd_Net => kernel_rfl)
    (case po_Net => kernel_rfl)
    (case sa_Net => kernel_rfl)
    (case mk_Net => kernel_rfl)
    (case kc_Net => kernel_rfl)
    (case fn_Net => kernel_rfl)
    (case na_Net_rows => kernel_rfl)
    (case na_Net_heads => kernel_rfl)
    (case na_Net_marks => kernel_rfl)
    (case na_Net_moves => kernel_rfl)
    (case a_heads_of => k_is)
    (case l_heads_of => k_is)
    (case n_heads_of => kernel_rfl)
    (case cc_heads_of => kernel_rfl)
    (case k_heads_of => kernel_rfl)
    (case a_rows_of => k_is)
    (case l_rows_of => k_is)
    (case n_rows_of => kernel_rfl)
    (case cc_rows_of => kernel_rfl)
    (case k_rows_of => kernel_rfl)
    (case a_names_in => k_is)
    (case l_names_in => k_is)
    (case n_names_in => kernel_rfl)
    (case cc_names_in => kernel_rfl)
    (case k_names_in => kernel_rfl)
    (case a_steps_in => k_is)
    (case l_steps_in => k_is)
    (case n_steps_in => kernel_rfl)
    (case cc_steps_in => kernel_rfl)
    (case k_steps_in => kernel_rfl)
    (case a_moves_in => k_is)
    (case l_moves_in => k_is)
    (case n_moves_in => kernel_rfl)
    (case cc_moves_in => kernel_rfl)
    (case k_moves_in => kernel_rfl)
    (case a_is_of => k_is)
    (case l_is_of => k_is)
    (case n_is_of => kernel_rfl)
    (case cc_is_of => kernel_rfl)
    (case k_is_of => kernel_rfl)
    (case a_asked_behind => k_is)
    (case l_asked_behind => k_is)
    (case n_asked_behind => kernel_rfl)
    (case cc_asked_behind => kernel_rfl)
    (case k_asked_behind => kernel_rfl)
    (case a_law_tpen => k_is)
    (case l_law_tpen => k_is)
    (case n_law_tpen => kernel_rfl)
    (case cc_law_tpen => kernel_rfl)
    (case k_law_tpen => kernel_rfl)
    (case a_law_tdraw => k_is)
    (case l_law_tdraw => k_is)
    (case n_law_tdraw => kernel_rfl)
    (case cc_law_tdraw => kernel_rfl)
    (case k_law_tdraw => kernel_rfl)
    (case a_law_tnames => k_is)
    (case l_law_tnames => k_is)
    (case n_law_tnames => kernel_rfl)
    (case cc_law_tnames => kernel_rfl)
    (case k_law_tnames => kernel_rfl)
    (case a_law_tpairs => k_is)
    (case l_law_tpairs => k_is)
    (case n_law_tpairs => kernel_rfl)
    (case cc_law_tpairs => kernel_rfl)
    (case k_law_tpairs => kernel_rfl)
    (case a_law_thead => k_is)
    (case l_law_thead => k_is)
    (case n_law_thead => kernel_rfl)
    (case cc_law_thead => kernel_rfl)
    (case k_law_thead => kernel_rfl)
    (case a_law_ttelling => k_is)
    (case l_law_ttelling => k_is)
    (case n_law_ttelling => kernel_rfl)
    (case cc_law_ttelling => kernel_rfl)
    (case k_law_ttelling => kernel_rfl)
    (case a_law_tthing => k_is)
    (case l_law_tthing => k_is)
    (case n_law_tthing => kernel_rfl)
    (case cc_law_tthing => kernel_rfl)
    (case k_law_tthing => kernel_rfl)
    (case a_law_tof => k_is)
    (case l_law_tof => k_is)
    (case n_law_tof => kernel_rfl)
    (case cc_law_tof => kernel_rfl)
    (case k_law_tof => kernel_rfl)
    (case a_law_tfit => k_is)
    (case l_law_tfit => k_is)
    (case n_law_tfit => kernel_rfl)
    (case cc_law_tfit => kernel_rfl)
    (case k_law_tfit => kernel_rfl)
    (case a_law => k_is)
    (case l_law => k_is)
    (case n_law => kernel_rfl)
    (case cc_law => kernel_rfl)
    (case k_law => kernel_rfl)
    (case z_len => k_is)
    (case z_isinstance => k_is)
    (case z_all => k_is)
    (case z_range => k_is)
    (case z_bool => k_is)
    (case z_int => k_is)
    (case z_list => k_is)
    (case z_tuple => k_is)
    (case z_dict => k_is)
    (case z_sorted => k_is)
    (case z_enumerate => k_is)
    (case z_zip => k_is)
    (case z_min => k_is)
    (case g_WORDED => k_is)
    (case gl_WORDED => k_is)
    (case gn0_WORDED => kernel_rfl)
    (case g_STEP_WORDS => k_is)
    (case gl_STEP_WORDS => k_is)
    (case gn0_STEP_WORDS => kernel_rfl)
    (case gz_WORDED => decide)
    (case gv_WORDED => exact .cons ⟨_, rfl⟩ (.cons ⟨_, rfl⟩ (.nil)))
    (case gs_STEP_WORDS => decide)
    (case gp_STEP_WORDS => intro P; exact .cons (kv := ((Sum.inr "box", _) : Key × Value)) (mixKind_str _ _ _ _) rfl (.cons (kv := ((Sum.inr "pick", _) : Key × Value)) (mixKind_str _ _ _ _) rfl (.nil)))
    (case gk_STEP_WORDS => intro P e he; simp only [List.mem_toArray, Array.mem_toArray, List.mem_cons, List.mem_nil_iff, or_false] at he; rcases he with rfl | rfl <;> exact ⟨.inr _, mixKind_str _ _ _ _, rfl⟩)
    (case gn_STEP_WORDS => decide)
    (case gv_STEP_WORDS => exact .cons ⟨rfl, ⟨_, rfl⟩⟩ (.cons ⟨rfl, ⟨_, rfl⟩⟩ (.nil)))

