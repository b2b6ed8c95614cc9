import PyProof.Rows.All
import Wide.All
import OpenK.AllK
import Wide.FinOn
import Lean
import PyProof.EqAt
import PyProof.EqKinds
import PyProof.TupleCall
import PyProof.DictCompW
import PyProof.AutoListH
import PyProof.EnumMake
import PyProof.ZipIter
import PyProof.AttrMissSeq
import KE.KDictOf
import PyProof.ReprLen
import PyProof.StrLawsRepr
import KE.KUnpackStar
import PyProof.DictWalks
import PyProof.Rows.DictUnroll
import PyProof.Rows.Range3
import PyProof.Rows.ChunkEnd
import PyProof.Rows.ChunkLeaf
import PyProof.StrCalls2
import PyProof.StrLawsTight
import PyProof.StrLawsChain
import PyProof.Rows.StrSplitJoin
import PyProof.Conv_int_bool
import PyProof.Rows.TupMore
import PyProof.StrLawsIn
import PyProof.Rows.StrCut
import PyProof.StrCalls
import PyProof.CallFns
import PyProof.FString5
import PyProof.NsCount
import KE.KItemsList
import PyProof.NeKinds
import PyProof.DictItems
import KE.KPairComp
import PyProof.DictValues
import PyProof.SumWalk
import PyProof.ConsumeWalk
import PyProof.SumAny
import KE.KRevIter
import PyProof.FactsAll.range_2
import PyProof.WalksMore
import PyProof.MinMaxWalk
import PyProof.SeqI3
import KE.KDictList
import KE.KStrOpen
import PyProof.NeData
import PyProof.Rows.SetFrom
import PyProof.SetRoads
import PyProof.CollectIter
import PyProof.TupleOfGen
import PySem.Challenge.RW_coilkind_k55_things_known
set_option Elab.async false
set_option linter.all false
set_option maxRecDepth 100000
namespace L2
open PySem PySem.Spec PyProof.Rows
abbrev Key := Sum Int Str
def keyIs : Key → Value → Bool
  | .inl k, v => Value.isInt k v
  | .inr x, v => Value.isStrOf x v
def keyH (w : World) : Key → Int
  | .inl k => hashInt k
  | .inr x => hashStr w x
theorem keyIs_shape : ∀ {k : Key} {v : Value}, keyIs k v = true → (∃ i t, k = Sum.inl i ∧ v = Value.int i t) ∨ (∃ x t, k = Sum.inr x ∧ v = Value.str x t)
  | .inl i, v, h => by
    obtain ⟨t, e⟩ := Value.isInt_shape (k := i) (v := v) h
    exact .inl ⟨i, t, rfl, e⟩
  | .inr x, v, h => by
    obtain ⟨t, e⟩ := Value.isStrOf_shape (x := x) (v := v) h
    exact .inr ⟨x, t, rfl, e⟩
theorem keyIs_int (i : Int) (t : Tok) : keyIs (.inl i) (.int i t) = true := by simp [keyIs, Value.isInt]
theorem keyIs_str (x : Str) (t : Tok) : keyIs (.inr x) (.str x t) = true := by simp [keyIs, Value.isStrOf]
theorem key_ll (a b : Int) : decide ((Sum.inl a : Key) = Sum.inl b) = (a == b) := by
  by_cases e : a = b
  · subst e; simp
  · have h : ¬ (Sum.inl a : Key) = Sum.inl b := fun q => e (Sum.inl.inj q)
    rw [decide_eq_false h]
    exact (beq_eq_false_iff_ne.mpr e).symm
theorem key_rr (a b : Str) : decide ((Sum.inr a : Key) = Sum.inr b) = decide (a = b) := by
  by_cases e : a = b
  · subst e; simp
  · have h : ¬ (Sum.inr a : Key) = Sum.inr b := fun q => e (Sum.inr.inj q)
    rw [decide_eq_false h, decide_eq_false e]
theorem key_lr (a : Int) (b : Str) : decide ((Sum.inl a : Key) = Sum.inr b) = false := decide_eq_false (fun q => nomatch q)
theorem key_rl (a : Str) (b : Int) : decide ((Sum.inr a : Key) = Sum.inl b) = false := decide_eq_false (fun q => nomatch q)
def mixKind (prog : Program) (w : World) : PySem.KeyKind prog w Key where
  is := keyIs
  hash := keyH w
  inj := fun v a b ha hb => by
    rcases keyIs_shape ha with ⟨i, t, rfl, rfl⟩ | ⟨x, t, rfl, rfl⟩
    · rcases keyIs_shape hb with ⟨j, u, rfl, e⟩ | ⟨y, u, rfl, e⟩
      · injection e with e1 _; rw [e1]
      · exact nomatch e
    · rcases keyIs_shape hb with ⟨j, u, rfl, e⟩ | ⟨y, u, rfl, e⟩
      · exact nomatch e
      · injection e with e1 _; rw [e1]
  byValue := fun k v h => by
    rcases keyIs_shape h with ⟨i, t, rfl, rfl⟩ | ⟨x, t, rfl, rfl⟩ <;> rfl
  pyHash := fun hv h => by
    rcases keyIs_shape hv with ⟨i, t, rfl, rfl⟩ | ⟨x, t, rfl, rfl⟩
    · exact wpAny_pyHash_int h
    · exact wpAny_pyHash_str h
  eqBool := fun hu hv h => by
    rcases keyIs_shape hu with ⟨i, t, rfl, rfl⟩ | ⟨x, t, rfl, rfl⟩
    · rcases keyIs_shape hv with ⟨j, u, rfl, rfl⟩ | ⟨y, u, rfl, rfl⟩
      · rw [key_ll] at h; exact wpAny_eqBool_int h
      · rw [key_lr] at h; exact SeqAt.EqAt.int_str i t y u _ _ _ _ h
    · rcases keyIs_shape hv with ⟨j, u, rfl, rfl⟩ | ⟨y, u, rfl, rfl⟩
      · rw [key_rl] at h; exact SeqAt.EqAt.str_int x t j u _ _ _ _ h
      · rw [key_rr] at h; exact wpAny_eqBool_str h
  «strs» := fun k x t v h => by
    rcases keyIs_shape h with ⟨i, u, rfl, e⟩ | ⟨y, u, rfl, e⟩
    · exact nomatch e
    · injection e with e1 _
      subst e1
      cases v <;> rfl
theorem mixKind_int (prog : Program) (w : World) (i : Int) (t : Tok) : (mixKind prog w).is (.inl i) (.int i t) = true := keyIs_int i t
theorem mixKind_str (prog : Program) (w : World) (x : Str) (t : Tok) : (mixKind prog w).is (.inr x) (.str x t) = true := keyIs_str x t
end L2
namespace L2
open PySem PySem.Spec PyProof.Rows
inductive V where
  | non | bl (b : Bool) | int (i : Int) | str (x : Str) | byt (b : Array UInt8) | flt (b : UInt64) | ref (a : Addr) | ty (n : String)
  deriving DecidableEq
def RelV : V → Value → Prop
  | .non, u => u = Value.none
  | .bl b, u => u = Value.bool b
  | .int i, u => ∃ t, u = Value.int i t
  | .str x, u => ∃ t, u = Value.str x t
  | .byt b, u => ∃ t, u = Value.bytes b t
  | .flt b, u => ∃ t, u = Value.float b t
  | .ref a, u => u = Value.ref a
  | .ty n, u => u = Value.type n
abbrev Vals : List V → List Value → Prop := Paired RelV
theorem Vals.length {xs : List V} {us : List Value} (r : Vals xs us) : xs.length = us.length := Paired.length r
theorem Vals.get : ∀ {xs : List V} {us : List Value} {i : Nat} {x : V}, Vals xs us → xs[i]? = some x → ∃ u, us[i]? = some u ∧ RelV x u
  | _, _, _, _, .nil, e => by simp at e
  | _, _, 0, _, .cons r _, e => by simp at e; subst e; exact ⟨_, rfl, r⟩
  | _, _, i + 1, x, .cons _ t, e => by
    obtain ⟨u, h1, h2⟩ := Vals.get (i := i) (x := x) t (by simpa using e)
    exact ⟨u, by simpa using h1, h2⟩
theorem Vals.set {x : V} {u : Value} (r : RelV x u) : ∀ {xs : List V} {us : List Value} (i : Nat), Vals xs us → Vals (xs.set i x) (us.set i u)
  | _, _, _, .nil => .nil
  | _, _, 0, .cons _ t => .cons r t
  | _, _, i + 1, .cons q t => .cons q (Vals.set r i t)
theorem Vals.append : ∀ {xs ys : List V} {us ws : List Value}, Vals xs us → Vals ys ws → Vals (xs ++ ys) (us ++ ws)
  | _, _, _, _, .nil, s => s
  | _, _, _, _, .cons r t, s => .cons r (Vals.append t s)
theorem Vals.take : ∀ {xs : List V} {us : List Value} (n : Nat), Vals xs us → Vals (xs.take n) (us.take n)
  | _, _, 0, _ => .nil
  | _, _, _ + 1, .nil => .nil
  | _, _, n + 1, .cons r t => .cons r (Vals.take n t)
theorem Vals.drop : ∀ {xs : List V} {us : List Value} (n : Nat), Vals xs us → Vals (xs.drop n) (us.drop n)
  | _, _, 0, r => r
  | _, _, _ + 1, .nil => .nil
  | _, _, n + 1, .cons _ t => Vals.drop n t
def RelO : Option V → Option Value → Prop
  | some v, some u => RelV v u
  | none, none => True
  | _, _ => False
def KV {κ : Type} : List (κ × V) → List (κ × Value) → Prop := Paired fun (p : κ × V) (q : κ × Value) => p.1 = q.1 ∧ RelV p.2 q.2
def kV : Key → V
  | .inl i => .int i
  | .inr x => .str x
inductive HO where
    | lst (xs : List V)
    | tup (xs : List V)
    | dK (kvs : List (Key × V)) | dT (kvs : List (List Key × V))
    | set (S : Int → Bool) (n : Nat)
    | ins (C dx : Addr) (fs : List (Str × V))
    | own (x : Addr)
    | xd (fs : List (Str × V))
    | met (f x : Addr)
    | rng (lo hi : Int)
    | frz (o : Obj) (u : HO)
    | tbl (ps : Array Value)
    | ext (φ : Heap → Prop)
abbrev Hp := Addr → Option HO
def upd (H : Hp) (a : Addr) (o : HO) : Hp := fun b => if b = a then some o else H b
theorem upd_same {H : Hp} {a : Addr} {o : HO} : upd H a o a = some o := by unfold upd; rw [if_pos rfl]
theorem upd_ne {H : Hp} {a b : Addr} {o : HO} (h : b ≠ a) : upd H a o b = H b := by unfold upd; rw [if_neg h]
theorem upd_upd {H : Hp} {a : Addr} {o u : HO} : upd (upd H a o) a u = upd H a u := by
  funext b; unfold upd; split <;> rfl
theorem ne_of {H : Hp} {a b : Addr} {o u : HO} (h : H a = some o) (h' : H b = some u) (d : o ≠ u) : a ≠ b := by
  intro e; subst e; rw [h] at h'; exact d (Option.some.inj h')
theorem ne_of_none {H : Hp} {a b : Addr} {o : HO} (h : H a = some o) (h' : H b = none) : a ≠ b := by
  intro e; subst e; rw [h] at h'; cases h'
def NoDct (h : Heap) (a : Addr) : Prop := ∀ o, h.get? a = some o → o.dict = none
theorem NoDct.new {h : Heap} {ob : Obj} (h0 : ob.isFreed = false) (hd : ob.dict = none) : NoDct (h.push ob) h.objs.size := fun o q => by rw [Heap.get?_push_size _ h0] at q; cases q; exact hd
def RdT (H : Hp) (b : Addr) (ys : List V) : Prop := H b = some (.tup ys) ∨ ∃ o, H b = some (.frz o (.tup ys))
theorem RdT.upd {H : Hp} {b a : Addr} {ys : List V} {o : HO} (r : RdT H b ys) (ne : ∀ u, H b = some u → b ≠ a) : RdT (L2.upd H a o) b ys := by
  rcases r with r | ⟨ob, r⟩
  · exact .inl (by rw [upd_ne (ne _ r)]; exact r)
  · exact .inr ⟨ob, by rw [upd_ne (ne _ r)]; exact r⟩
section
variable (P : Program) (w : World)
def ObjOk (H : Hp) (h : Heap) (a : Addr) : HO → Prop
  | .lst xs => xs.length ≤ sizeLine ∧ ∃ (its : List Value) (n : Nat), Vals xs its ∧ h.get? a = some { cls := .type "list", data := .seq its.toArray n }
  | .tup xs => (xs.length ≤ sizeLine ∧ NoDct h a) ∧ ∃ its : List Value, Vals xs its ∧ IsTup h a its.toArray
  | .dK kvs => kvs.length ≤ sizeLine ∧ (a == sysModules) = false ∧ ∃ vs, KV kvs vs ∧ h.DictOf (mixKind P w) a vs
  | .dT kvs => kvs.length ≤ sizeLine ∧ (a == sysModules) = false ∧ ∃ xs : List (List Key × Addr × Value),
      Paired (fun (p : List Key × V) (q : List Key × Addr × Value) => p.1 = q.1 ∧ RdT H q.2.1 (p.1.map kV) ∧ RelV p.2 q.2.2) kvs xs ∧
      ∃ o es ep, h.get? a = some o ∧ o.ExactDict ∧ o.data = .dict es ep ∧ es.toList = xs.map (entryOfKey (tupleKind (mixKind P w))) ∧ (xs.map (·.1)).Nodup
  | .set S n => h.SetOf (intKind P w) a S n
  | .ins C dx fs => H dx = some (.own a) ∧ fs.length ≤ 1000 ∧ dx ≠ a ∧ h.get? a = some (PySem.W.instObj C dx) ∧
      ∃ mA, h.Ns1 dx mA ∧ (∀ f, RelO (fs.lookup f) (mA f)) ∧ PySem.Within mA (fs.map (·.1))
  | .own _ => ∃ o, h.get? a = some o
  | .xd fs => ∃ mA, h.Ns1 a mA ∧ ∀ f, RelO (fs.lookup f) (mA f)
  | .rng lo hi => ∃ t u v, h.get? a = some { cls := .type "range", data := .fields #[.int lo t, .int hi u, .int 1 v] }
  | .frz o u => h.get? a = some o ∧ ObjOk H h a u
  | .tbl ps => h.get? a = some { cls := .none, data := .fields ps }
  | .met f x => h.get? a = some (PySem.W.methodObj (.ref f) (.ref x))
  | .ext φ => φ h ∧ (∃ o, h.get? a = some o) ∧ ∀ h1 h2 : Heap, φ h1 → (∀ o, h1.get? a = some o → h2.get? a = some o) → φ h2
def HOk (H : Hp) (h : Heap) : Prop := ∀ a o, H a = some o → ObjOk P w H h a o
end
section
variable {P : Program} {w : World} {H H' : Hp} {h h' : Heap} {a : Addr} {o : HO}
theorem ObjOk.lt (x : ObjOk P w H h a o) : a < h.objs.size := by
  cases o with
  | lst xs => obtain ⟨_, _, _, _, e⟩ := x; exact Heap.lt_size e
  | tup xs => obtain ⟨_, _, _, p⟩ := x; exact p.lt
  | dK kvs => obtain ⟨_, _, _, _, o, _, _, e, _⟩ := x; exact Heap.lt_size e
  | dT kvs => obtain ⟨_, _, _, _, o, _, _, e, _⟩ := x; exact Heap.lt_size e
  | set S n => obtain ⟨o, _, _, _, e, _⟩ := x; exact Heap.lt_size e
  | ins C dx fs => obtain ⟨_, _, _, e, _⟩ := x; exact Heap.lt_size e
  | own y => obtain ⟨_, e⟩ := x; exact Heap.lt_size e
  | xd fs => obtain ⟨_, ⟨_, _, _, e, _⟩, _⟩ := x; exact Heap.lt_size e
  | rng lo hi => obtain ⟨_, _, _, e⟩ := x; exact Heap.lt_size e
  | frz ob u => obtain ⟨e, _⟩ := x; exact Heap.lt_size e
  | tbl ps => exact Heap.lt_size (show h.get? a = some _ from x)
  | met f y => exact Heap.lt_size (show h.get? a = some _ from x)
  | ext φ => obtain ⟨_, ⟨_, e⟩, _⟩ := x; exact Heap.lt_size e
theorem Paired.mapP {α β : Type} {F G : α → β → Prop} : ∀ {l₁ : List α} {l₂ : List β}, Paired F l₁ l₂ → (∀ a b, F a b → G a b) → Paired G l₁ l₂
  | _, _, .nil, _ => .nil
  | _, _, .cons r t, f => .cons (f _ _ r) (Paired.mapP t f)
theorem ObjOk.stay (x : ObjOk P w H h a o) (k : ∀ b u, (b = a ∨ H b = some (.own a)) → h.get? b = some u → h'.get? b = some u)
    (ho : ∀ b, H b = some (.own a) → H' b = some (.own a)) (ht : ∀ b xs, RdT H b xs → RdT H' b xs) : ObjOk P w H' h' a o := by
  induction o with
  | lst xs => obtain ⟨z, its, n, r, e⟩ := x; exact ⟨z, its, n, r, k _ _ (.inl rfl) e⟩
  | tup xs => obtain ⟨⟨z, nd⟩, its, r, ob, e, c⟩ := x; exact ⟨⟨z, fun o q => by rw [k _ _ (.inl rfl) e] at q; cases q; exact nd _ e⟩, its, r, ob, k _ _ (.inl rfl) e, c⟩
  | dK kvs => obtain ⟨z, y, vs, r, ob, es, ep, e, c⟩ := x; exact ⟨z, y, vs, r, ob, es, ep, k _ _ (.inl rfl) e, c⟩
  | dT kvs =>
    obtain ⟨z, y, xs, r, ob, es, ep, e, c⟩ := x
    exact ⟨z, y, xs, Paired.mapP r fun p q z => ⟨z.1, ht _ _ z.2.1, z.2.2⟩, ob, es, ep, k _ _ (.inl rfl) e, c⟩
  | set S n => obtain ⟨ob, es, ep, t, e, c⟩ := x; exact ⟨ob, es, ep, t, k _ _ (.inl rfl) e, c⟩
  | ins C dx fs =>
    obtain ⟨d, z, ne, e, mA, ⟨od, es, ep, e2, c⟩, r⟩ := x
    exact ⟨ho _ d, z, ne, k _ _ (.inl rfl) e, mA, ⟨od, es, ep, k _ _ (.inr d) e2, c⟩, r⟩
  | own y => obtain ⟨ob, e⟩ := x; exact ⟨ob, k _ _ (.inl rfl) e⟩
  | xd fs => obtain ⟨mA, ⟨od, es, ep, e, c⟩, r⟩ := x; exact ⟨mA, ⟨od, es, ep, k _ _ (.inl rfl) e, c⟩, r⟩
  | rng lo hi => obtain ⟨t, u, v, e⟩ := x; exact ⟨t, u, v, k _ _ (.inl rfl) e⟩
  | frz ob u ih => obtain ⟨e, q⟩ := x; exact ⟨k _ _ (.inl rfl) e, ih q⟩
  | tbl ps =>
    have e : h.get? a = some { cls := .none, data := .fields ps } := x
    show h'.get? a = some { cls := .none, data := .fields ps }
    exact k a _ (.inl rfl) e
  | met f y =>
    have e : h.get? a = some (PySem.W.methodObj (.ref f) (.ref y)) := x
    show h'.get? a = some (PySem.W.methodObj (.ref f) (.ref y))
    exact k a _ (.inl rfl) e
  | ext φ => obtain ⟨p, ⟨o, e⟩, st⟩ := x; exact ⟨st _ _ p fun o q => k _ _ (.inl rfl) q, ⟨o, k _ _ (.inl rfl) e⟩, st⟩
theorem HOk.lt (x : HOk P w H h) (e : H a = some o) : a < h.objs.size := (x a o e).lt
theorem HOk.fresh (x : HOk P w H h) (e : h.objs.size ≤ a) : H a = none := by
  cases q : H a with
  | none => rfl
  | some u => exact absurd (Nat.lt_of_lt_of_le (x.lt q) e) (Nat.lt_irrefl _)
theorem HOk.kept (x : HOk P w H h) (k : ∀ b u, h.get? b = some u → h'.get? b = some u) : HOk P w H h' := fun a o e =>
  (x a o e).stay (fun b u _ q => k b u q) (fun _ q => q) fun _ _ q => q
theorem HOk.laid (x : HOk P w H h) (k : ∀ b u, h.get? b = some u → h'.get? b = some u) (hp : h.objs.size ≤ a) (new : ObjOk P w (upd H a o) h' a o) : HOk P w (upd H a o) h' := fun b u e => by
  have hn := x.fresh hp
  by_cases hb : b = a
  · subst hb; rw [upd_same] at e; cases e; exact new
  · rw [upd_ne hb] at e
    exact (x b u e).stay (fun c v _ q => k c v q) (fun c q => by rw [upd_ne (ne_of_none q hn)]; exact q) fun c xs q => q.upd fun u hu => ne_of_none hu hn
end
def Rd (H : Hp) (a : Addr) (u : HO) : Prop := H a = some u ∨ ∃ o, H a = some (.frz o u)
theorem Rd.ok {P : Program} {w : World} {H : Hp} {h : Heap} {a : Addr} {u : HO} (r : Rd H a u) (x : HOk P w H h) : ObjOk P w H h a u := by
  rcases r with r | ⟨o, r⟩
  · exact x a u r
  · obtain ⟨_, q⟩ := x a _ r
    exact q
def Mut : Option HO → Prop
  | some (.lst _) => True
  | some (.dK _) => True
  | some (.dT _) => True
  | some (.set _ _) => True
  | some (.ins _ _ _) => True
  | some (.ext _) => True
  | _ => False
section
variable {P : Program} {w : World} {H : Hp} {h h' : Heap} {x e : Addr} {o' : HO}
theorem HOk.write (ok : HOk P w H h) (mu : Mut (H x)) (he : e = x ∨ H e = some (.own x)) (k : ∀ b u, b ≠ e → h.get? b = some u → h'.get? b = some u) (heo : ∃ u, h'.get? e = some u)
    (new : ObjOk P w (upd H x o') h' x o') : HOk P w (upd H x o') h' := fun b u q => by
  have nown : ∀ c y, H c = some (.own y) → c ≠ x := fun c y r z => by subst z; rw [r] at mu; exact mu
  have ntup : ∀ c xs, H c = some (.tup xs) → c ≠ x := fun c xs r z => by subst z; rw [r] at mu; exact mu
  by_cases hb : b = x
  · subst hb; rw [upd_same] at q; cases q; exact new
  · rw [upd_ne hb] at q
    by_cases hbe : b = e
    · have q' : H b = some (.own x) := by
        rcases he with z | z
        · exact absurd (hbe.trans z) hb
        · rw [hbe]; exact z
      rw [q] at q'; cases q'
      obtain ⟨v, hv⟩ := heo
      exact ⟨v, by rw [hbe]; exact hv⟩
    · refine (ok b u q).stay (fun c v hc r => k c v ?_ r) (fun c r => by rw [upd_ne (nown c b r)]; exact r) fun c xs r => r.upd fun _ _ z => by
        subst z
        rcases r with r | ⟨_, r⟩ <;> (rw [r] at mu; exact mu)
      rcases hc with rfl | hc
      · exact hbe
      · rintro rfl
        rcases he with z | z
        · exact nown c b hc z
        · rw [hc] at z; cases z; exact hb rfl
end
structure Un (fs ex : List Addr) (H H' : Hp) (h h' : Heap) : Prop where
  keep : ∀ b o, h.get? b = some o → H b = none → b ∉ fs → b ∉ ex → h'.get? b = some o
  slot : ∀ b o, h.get? b = some o → H b = none → b ∈ fs → b ∉ ex → ∃ sl, h'.get? b = some { o with slots := sl }
  free : ∀ b o, h.get? b = some o → H b = none → b ∉ ex → H' b = none
  there : ∀ b o, h.get? b = some o → b ∉ ex → ∃ o', h'.get? b = some o'
  tups : ∀ b xs, H b = some (.tup xs) → H' b = some (.tup xs)
  frzs : ∀ b o u, H b = some (.frz o u) → H' b = some (.frz o u)
  tbls : ∀ b ps, H b = some (.tbl ps) → ∃ more, H' b = some (.tbl (ps ++ more))
section
variable {fs fs' ex ex' : List Addr} {H H1 H2 : Hp} {h h1 h2 h' : Heap} {a x e : Addr} {o : HO}
theorem Un.any (u : Un fs ex H H1 h h1) {b : Addr} {ob : Obj} (q : h.get? b = some ob) (n : H b = none) (hx : b ∉ ex) : ∃ sl, h1.get? b = some { ob with slots := sl } := by
  by_cases hb : b ∈ fs
  · exact u.slot b ob q n hb hx
  · exact ⟨ob.slots, u.keep b ob q n hb hx⟩
theorem Un.trans (a : Un fs ex H H1 h h1) (b : Un fs ex H1 H2 h1 h2) : Un fs ex H H2 h h2 where
  keep := fun c ob q n hc hx => b.keep c ob (a.keep c ob q n hc hx) (a.free c ob q n hx) hc hx
  slot := fun c ob q n hc hx => by
    obtain ⟨sl, e1⟩ := a.slot c ob q n hc hx
    obtain ⟨sl', e2⟩ := b.slot c _ e1 (a.free c ob q n hx) hc hx
    exact ⟨sl', e2⟩
  free := fun c ob q n hx => by
    obtain ⟨o', e1⟩ := a.there c ob q hx
    exact b.free c o' e1 (a.free c ob q n hx) hx
  there := fun c ob q hx => by
    obtain ⟨o', e1⟩ := a.there c ob q hx
    exact b.there c o' e1 hx
  tups := fun c xs q => b.tups c xs (a.tups c xs q)
  frzs := fun c ob xs q => b.frzs c ob xs (a.frzs c ob xs q)
  tbls := fun c ps q => by
    obtain ⟨m1, e1⟩ := a.tbls c ps q
    obtain ⟨m2, e2⟩ := b.tbls c _ e1
    exact ⟨m1 ++ m2, by rw [e2, Array.append_assoc]⟩
theorem Un.kept (k : ∀ b u, h.get? b = some u → h'.get? b = some u) : Un fs ex H H h h' :=
  ⟨fun b ob q _ _ _ => k b ob q, fun b ob q _ _ _ => ⟨ob.slots, k b ob q⟩, fun _ _ _ n _ => n, fun b ob q _ => ⟨ob, k b ob q⟩, fun _ _ q => q, fun _ _ _ q => q, fun _ ps q => ⟨#[], by rw [q]; simp⟩⟩
theorem Un.refl : Un fs ex H H h h := Un.kept fun _ _ q => q
theorem Un.laid (k : ∀ b u, h.get? b = some u → h'.get? b = some u) (hp : h.objs.size ≤ a) (hn : H a = none) : Un fs ex H (upd H a o) h h' where
  keep := fun b u q _ _ _ => k b u q
  slot := fun b u q _ _ _ => ⟨u.slots, k b u q⟩
  free := fun b u q n _ => by rw [upd_ne (Nat.ne_of_lt (Nat.lt_of_lt_of_le (Heap.lt_size q) hp))]; exact n
  there := fun b u q _ => ⟨u, k b u q⟩
  tups := fun b xs q => by rw [upd_ne (ne_of_none q hn)]; exact q
  frzs := fun b u xs q => by rw [upd_ne (ne_of_none q hn)]; exact q
  tbls := fun b ps q => ⟨#[], by rw [upd_ne (ne_of_none q hn), q]; simp⟩
theorem Un.write (mu : Mut (H x)) (he : e = x ∨ H e = some (.own x)) (k : ∀ b u, b ≠ e → h.get? b = some u → h'.get? b = some u) (heo : ∃ u, h'.get? e = some u) : Un fs ex H (upd H x o) h h' := by
  have hx : ∀ b, H b = none → b ≠ x := fun b n z => by subst z; rw [n] at mu; exact mu
  have hb : ∀ b, H b = none → b ≠ e := fun b n z => by
    subst z
    rcases he with r | r
    · exact hx b n r
    · rw [n] at r; cases r
  have hm : ∀ b u, H b = some u → ¬ Mut (some u) → b ≠ x := fun b u q nm z => by subst z; rw [q] at mu; exact nm mu
  refine ⟨fun b u q n _ _ => k b u (hb b n) q, fun b u q n _ _ => ⟨u.slots, k b u (hb b n) q⟩, fun b u q n _ => by rw [upd_ne (hx b n)]; exact n, fun b u q _ => ?_,
    fun b xs q => by rw [upd_ne (hm b _ q fun z => z)]; exact q, fun b u xs q => by rw [upd_ne (hm b _ q fun z => z)]; exact q, fun b ps q => ⟨#[], by rw [upd_ne (hm b _ q fun z => z), q]; simp⟩⟩
  by_cases hbe : b = e
  · subst hbe; exact heo
  · exact ⟨u, k b u hbe q⟩
end
def trk (h : Heap) (H : Hp) : List Addr := (List.range h.objs.size).filter fun a => (H a).isSome
def hidT (h : Heap) (H : Hp) : Heap := PySem.W.hideAll h (trk h H)
theorem hidT_size (h : Heap) (H : Hp) : (hidT h H).objs.size = h.objs.size := PySem.W.hideAll_size _ _
theorem hidT_get {h : Heap} {H : Hp} {b : Addr} {o : Obj} (e : h.get? b = some o) (n : H b = none) : (hidT h H).get? b = some o :=
  PySem.W.hideAll_get _ e fun hm => by
    have q : (H b).isSome = true := (List.mem_filter.mp hm).2
    rw [n] at q; simp at q
theorem of_hidT {h : Heap} {H : Hp} {b : Addr} {o : Obj} (e : (hidT h H).get? b = some o) : h.get? b = some o ∧ H b = none := by
  have e' : h.get? b = some o := PySem.W.of_hideAll (trk h H) e
  refine ⟨e', ?_⟩
  cases q : H b with
  | none => rfl
  | some x =>
    have hm : b ∈ trk h H := List.mem_filter.mpr ⟨List.mem_range.mpr (Heap.lt_size e'), by simp [q]⟩
    have z : (hidT h H).get? b = none := PySem.W.hideAll_none (trk h H) hm
    rw [z] at e; cases e
end L2
namespace L2
open PySem PySem.Spec PyProof.Rows
structure Mod (K : PySem.W.Frag) (mg : Str → Option Value) (base : Heap) : Prop where
  kin : K.In base
  glob : base.Ns mainGlobals mg
  blt : ∃ mb, base.Ns builtinsNs mb ∧ ∀ x : Str, x ≠ "__name__" → mb x = bootBuiltins x
  nolimit : base.NoLimit
structure Cx where
  prog : Program
  w : World
  K : PySem.W.Frag
  mg : Str → Option Value
  base : Heap
  A : Around
  N : List Str
  s₀ : Shared
  H₀ : Hp
  env : Env
  outer : List Env
  stack : List Env
  ex : List Addr
  fn : Str → Bool
  calm : Bool
  pn : List (Addr × Obj)
  xe : Value → Shared → Prop
def frs (l : List Env) : List Addr := l.filterMap (·.frame)
abbrev Cx.fs (X : Cx) : List Addr := frs X.outer
def Vis (sc : Scope) (x : Str) : Prop := sc.names.lookup x = some .local ∨ sc.names.lookup x = some .cell ∨ sc.names.lookup x = some .free
def Loc (sc : Scope) (x : Str) : Prop := sc.names.lookup x = some .local ∨ sc.names.lookup x = some .cell
def Look (env : Env) (h : Heap) (m : Str → Option Value) (x : Str) (u : Value) : Prop :=
  (env.kindOf x = some .local ∧ m x = some u) ∨ ((env.kindOf x = some .cell ∨ env.kindOf x = some .free) ∧ ∃ c, env.cells.lookup x = some c ∧ h.IsCell c (some u))
structure Cx.Ok (X : Cx) : Prop where
  mod : Mod X.K X.mg X.base
  kind : X.env.scope.kind = .function
  glob : X.env.globals = mainGlobals
  blt : X.env.builtins = builtinsNs
  above : X.s₀.heap.objs.size ≤ X.env.locals
  inj : ∀ x y c, X.env.cells.lookup x = some c → X.env.cells.lookup y = some c → x = y
  has : ∀ x, (X.env.kindOf x = some .cell ∨ X.env.kindOf x = some .free) → ∃ c, X.env.cells.lookup x = some c
  cab : ∀ x c, X.fn x = true → X.env.cells.lookup x = some c → X.s₀.heap.objs.size ≤ c
  hd : X.calm = true → X.A.handled = none
  frames : X.A.frames = some X.stack
  stk : X.stack = X.outer ∨ (X.stack = X.env :: X.outer ∧ X.env.frame = some X.env.locals)
  exf : ∀ b ∈ X.ex, b ≠ X.env.locals ∧ ∀ x c, X.env.cells.lookup x = some c → c ≠ b
  bs : ∀ b o, X.base.get? b = some o → X.s₀.heap.get? b = some o ∧ X.H₀ b = none
  bsz : X.base.objs.size ≤ X.s₀.heap.objs.size
  noex : ∀ b o, X.base.get? b = some o → b ∉ X.ex
  exfs : ∀ b ∈ X.ex, b ∉ X.fs
  funs : X.s₀.heap.FunFrames X.base X.outer
  frf : ∀ b ∈ X.fs, X.H₀ b = none
structure Inv (X : Cx) (pins : List (Addr × Obj)) (σ : List (Option V)) (H : Hp) (s : Shared) : Prop where
  ok : X.Ok
  os : s.os = X.s₀.os
  bare : AllBare s.gens
  base : Un X.fs X.ex X.H₀ H X.s₀.heap s.heap
  loc : ∃ m, s.heap.Ns X.env.locals m ∧ ∀ (i : Nat) (x : Str) (v : V), X.N[i]? = some x → σ[i]? = some (some v) → Vis X.env.scope x → ∃ u, RelV v u ∧ Look X.env s.heap m x u
  cell : ∀ x c, X.env.cells.lookup x = some c → ∃ v, s.heap.IsCell c v
  free : H X.env.locals = none
  freeC : ∀ x c, X.env.cells.lookup x = some c → H c = none
  pin : ∀ p ∈ X.pn ++ pins, s.heap.get? p.1 = some p.2 ∧ H p.1 = none ∧ p.1 ≠ X.env.locals ∧ p.1 ∉ X.fs ∧ ∀ v, p.2.data ≠ .cell v
  hok : HOk X.prog X.w H s.heap
  len : σ.length = X.N.length
section
variable {X : Cx} {pins : List (Addr × Obj)} {σ : List (Option V)} {H H' : Hp} {s : Shared} {h' : Heap}
theorem Cx.Ok.nofr (ok : X.Ok) {b : Addr} {o : Obj} (e : X.base.get? b = some o) : b ∉ X.fs := fun hb => by
  have := (ok.funs.mem hb).1
  rw [e] at this; cases this
theorem Inv.bs (I : Inv X pins σ H s) : ∀ b o, X.base.get? b = some o → s.heap.get? b = some o ∧ H b = none := fun b o e =>
  ⟨I.base.keep b o (I.ok.bs b o e).1 (I.ok.bs b o e).2 (I.ok.nofr e) (I.ok.noex b o e), I.base.free b o (I.ok.bs b o e).1 (I.ok.bs b o e).2 (I.ok.noex b o e)⟩
theorem Inv.bk (I : Inv X pins σ H s) : ∀ b o, X.base.get? b = some o → s.heap.get? b = some o := fun b o e => (I.bs b o e).1
theorem Inv.mod (I : Inv X pins σ H s) : Mod X.K X.mg X.base := I.ok.mod
theorem Inv.kIn (I : Inv X pins σ H s) : X.K.In s.heap := I.ok.mod.kin.keeps I.bk
theorem Inv.lt (I : Inv X pins σ H s) : X.env.locals < s.heap.objs.size := let ⟨_, hn, _⟩ := I.loc; hn.lt
theorem Inv.sz (I : Inv X pins σ H s) : X.s₀.heap.objs.size ≤ s.heap.objs.size := Nat.le_trans I.ok.above (Nat.le_of_lt I.lt)
theorem Inv.nofs (I : Inv X pins σ H s) {a : Addr} (h : s.heap.objs.size ≤ a) : a ∉ X.fs := fun hb => by
  obtain ⟨_, o, ho, _⟩ := I.ok.funs.mem hb
  exact absurd (Nat.lt_of_lt_of_le (Heap.lt_size ho) (Nat.le_trans I.sz h)) (Nat.lt_irrefl _)
theorem Inv.cne (I : Inv X pins σ H s) : ∀ x c, X.env.cells.lookup x = some c → c ≠ X.env.locals := fun x c e z => by
  obtain ⟨v, o, ho, hd⟩ := I.cell x c e
  obtain ⟨m, ⟨o', es, ep, ho', hd', _⟩, _⟩ := I.loc
  rw [z, ho'] at ho; cases ho; rw [hd'] at hd; cases hd
theorem Inv.funs (I : Inv X pins σ H s) : s.heap.FunFrames X.base X.outer := by
  have all : ∀ (l : List Env), (∀ b ∈ frs l, b ∈ X.fs) → X.s₀.heap.FunFrames X.base l → s.heap.FunFrames X.base l := by
    intro l
    induction l with
    | nil => intro _ _; trivial
    | cons env r ih =>
      intro hs hl
      obtain ⟨hk, ⟨L, o, hf, hn, ho, hd⟩, hr⟩ := hl
      have hL : L ∈ X.fs := hs L (by unfold frs; rw [List.filterMap_cons, hf]; exact List.mem_cons_self)
      obtain ⟨sl, e⟩ := I.base.slot L o ho (I.ok.frf L hL) hL fun z => I.ok.exfs L z hL
      exact ⟨hk, ⟨L, _, hf, hn, e, hd⟩, ih (fun b hb => hs b (by unfold frs; rw [List.filterMap_cons, hf]; exact List.mem_cons_of_mem _ hb)) hr⟩
  exact all X.outer (fun _ hb => hb) I.ok.funs
theorem Inv.stack (I : Inv X pins σ H s) : s.heap.FunFrames X.base X.stack := by
  rcases I.ok.stk with e | ⟨e, hf⟩
  · rw [e]; exact I.funs
  · rw [e]
    obtain ⟨m, hn, _⟩ := I.loc
    refine .cons (by rw [I.ok.kind]; decide) hf hn ?_ I.funs
    exact Heap.get?_none_of_le (Nat.le_trans I.ok.bsz I.ok.above)
theorem Inv.stkSub (I : Inv X pins σ H s) : ∀ b ∈ frs X.stack, b ∈ X.env.locals :: X.fs := fun b hb => by
  rcases I.ok.stk with e | ⟨e, hf⟩
  · rw [e] at hb; exact List.mem_cons_of_mem _ hb
  · rw [e] at hb
    unfold frs at hb
    rw [List.filterMap_cons, hf] at hb
    exact hb
theorem Inv.stkFree (I : Inv X pins σ H s) : ∀ b ∈ frs X.stack, H b = none := fun b hb => by
  rcases List.mem_cons.mp (I.stkSub b hb) with e | hb
  · rw [e]; exact I.free
  · obtain ⟨_, o, ho, _⟩ := I.ok.funs.mem hb
    exact I.base.free b o ho (I.ok.frf b hb) fun z => I.ok.exfs b z hb
theorem Inv.step {g' : Array GenState} {t' : Nat} {d' : Drawn} {ch : List Addr} (I : Inv X pins σ H s)
    (hch : ∀ b ∈ ch, (b ∈ X.ex ∨ X.s₀.heap.objs.size ≤ b) ∧ b ≠ X.env.locals ∧ (∀ x c, X.env.cells.lookup x = some c → c ≠ b) ∧ ∀ p ∈ X.pn ++ pins, p.1 ≠ b)
    (keep : ∀ b o, b ≠ X.env.locals → b ∉ X.fs → b ∉ ch → s.heap.get? b = some o → H b = none → h'.get? b = some o)
    (slot : ∀ b o, b ≠ X.env.locals → b ∈ X.fs → b ∉ ch → s.heap.get? b = some o → H b = none → ∃ sl, h'.get? b = some { o with slots := sl }) (free : ∀ b o, b ∉ ch → s.heap.get? b = some o → H b = none → H' b = none)
    (there : ∀ b o, b ∉ ch → s.heap.get? b = some o → ∃ o', h'.get? b = some o')
    (tups : ∀ b xs, H b = some (.tup xs) → H' b = some (.tup xs)) (frzs : ∀ b o u, H b = some (.frz o u) → H' b = some (.frz o u)) (tbls : ∀ b ps, H b = some (.tbl ps) → ∃ more, H' b = some (.tbl (ps ++ more)))
    (ns : ∀ m, s.heap.Ns X.env.locals m → h'.Ns X.env.locals m) (hok : HOk X.prog X.w H' h') (hg : AllBare g') :
    Inv X pins σ H' { s with heap := h', gens := g', drawn := d', toks := t' } := by
  have neL : ∀ b o, X.s₀.heap.get? b = some o → b ≠ X.env.locals := fun b o e => Nat.ne_of_lt (Nat.lt_of_lt_of_le (Heap.lt_size e) I.ok.above)
  have neC : ∀ b o, X.s₀.heap.get? b = some o → b ∉ X.ex → b ∉ ch := fun b o e hx hb => by
    rcases (hch b hb).1 with z | z
    · exact hx z
    · exact absurd (Nat.lt_of_lt_of_le (Heap.lt_size e) z) (Nat.lt_irrefl _)
  have cellK : ∀ x c, X.env.cells.lookup x = some c → ∀ v, s.heap.IsCell c v → h'.IsCell c v := fun x c e v ⟨o, ho, hd⟩ => by
    have nch : c ∉ ch := fun z => (hch c z).2.2.1 x c e rfl
    by_cases hc : c ∈ X.fs
    · obtain ⟨sl, q⟩ := slot c o (I.cne x c e) hc nch ho (I.freeC x c e)
      exact ⟨_, q, hd⟩
    · exact ⟨o, keep c o (I.cne x c e) hc nch ho (I.freeC x c e), hd⟩
  refine ⟨I.ok, I.os, hg, ⟨fun b o e n hb hx => ?_, fun b o e n hb hx => ?_, fun b o e n hx => ?_, fun b o e hx => ?_, fun b xs e => tups b xs (I.base.tups b xs e), fun b o xs e => frzs b o xs (I.base.frzs b o xs e), fun b ps e => ?_⟩, ?_, fun x c e => ?_, ?_, fun x c e => ?_, fun p hp => ?_, hok, I.len⟩
  · exact keep b o (neL b o e) hb (neC b o e hx) (I.base.keep b o e n hb hx) (I.base.free b o e n hx)
  · obtain ⟨sl, e1⟩ := I.base.slot b o e n hb hx
    obtain ⟨sl', e2⟩ := slot b _ (neL b o e) hb (neC b o e hx) e1 (I.base.free b o e n hx)
    exact ⟨sl', e2⟩
  · obtain ⟨o', e1⟩ := I.base.there b o e hx
    exact free b o' (neC b o e hx) e1 (I.base.free b o e n hx)
  · obtain ⟨o', e1⟩ := I.base.there b o e hx
    exact there b o' (neC b o e hx) e1
  · obtain ⟨m1, e1⟩ := I.base.tbls b ps e
    obtain ⟨m2, e2⟩ := tbls b _ e1
    exact ⟨m1 ++ m2, by rw [e2, Array.append_assoc]⟩
  · obtain ⟨m, hn, hl⟩ := I.loc
    refine ⟨m, ns m hn, fun i x v e1 e2 e3 => ?_⟩
    obtain ⟨u, r, l⟩ := hl i x v e1 e2 e3
    refine ⟨u, r, ?_⟩
    rcases l with l | ⟨k, c, e, z⟩
    · exact .inl l
    · exact .inr ⟨k, c, e, cellK x c e _ z⟩
  · obtain ⟨v, z⟩ := I.cell x c e
    exact ⟨v, cellK x c e v z⟩
  · obtain ⟨m, ⟨o, _, _, ho, _⟩, _⟩ := I.loc
    exact free _ o (fun z => (hch _ z).2.1 rfl) ho I.free
  · obtain ⟨v, o, ho, hd⟩ := I.cell x c e
    exact free c o (fun z => (hch c z).2.2.1 x c e rfl) ho (I.freeC x c e)
  · obtain ⟨e, n, ne, nf, d⟩ := I.pin p hp
    have nch : p.1 ∉ ch := fun z => (hch p.1 z).2.2.2 p hp rfl
    exact ⟨keep p.1 p.2 ne nf nch e n, free p.1 p.2 nch e n, ne, nf, d⟩
theorem Inv.un {t' : Nat} (I : Inv X pins σ H s) (u : Un X.fs [] H H' s.heap h') (hok : HOk X.prog X.w H' h') : Inv X pins σ H' { s with heap := h', toks := t' } := by
  obtain ⟨m, ⟨o, es, ep, ho, r⟩, _⟩ := id I.loc
  obtain ⟨sl, hL⟩ := u.any ho I.free (by simp)
  exact I.step (g' := s.gens) (d' := s.drawn) (ch := []) (fun _ z => nomatch z) (fun b o _ hb _ e n => u.keep b o e n hb (by simp)) (fun b o _ hb _ e n => u.slot b o e n hb (by simp)) (fun b o _ e n => u.free b o e n (by simp)) (fun b o _ e => u.there b o e (by simp)) u.tups u.frzs u.tbls (fun m' hm => by
    obtain ⟨o', es', ep', ho', r'⟩ := hm
    rw [ho] at ho'; cases ho'
    exact ⟨_, es', ep', hL, r'⟩) hok I.bare
theorem Inv.call {g' : Array GenState} {t' : Nat} {d' : Drawn} {ch : List Addr} (I : Inv X pins σ H s) (u : Un (frs X.stack) ch H H' s.heap h') (hok : HOk X.prog X.w H' h') (hg : AllBare g')
    (hch : ∀ b ∈ ch, (b ∈ X.ex ∨ X.s₀.heap.objs.size ≤ b) ∧ b ≠ X.env.locals ∧ (∀ x c, X.env.cells.lookup x = some c → c ≠ b) ∧ ∀ p ∈ X.pn ++ pins, p.1 ≠ b) :
    Inv X pins σ H' { s with heap := h', gens := g', drawn := d', toks := t' } := by
  obtain ⟨m, ⟨o, es, ep, ho, r⟩, _⟩ := id I.loc
  obtain ⟨sl, hL⟩ := u.any ho I.free fun z => (hch _ z).2.1 rfl
  exact I.step (ch := ch) hch (fun b o hL hb hc e n => u.keep b o e n (fun z => (List.mem_cons.mp (I.stkSub b z)).elim hL hb) hc) (fun b o _ _ hc e n => u.any e n hc) (fun b o hc e n => u.free b o e n hc) (fun b o hc e => u.there b o e hc) u.tups u.frzs u.tbls (fun m' hm => by
    obtain ⟨o', es', ep', ho', r'⟩ := hm
    rw [ho] at ho'; cases ho'
    exact ⟨_, es', ep', hL, r'⟩) hok hg
theorem Inv.turned {t' : Nat} {it : Addr} (I : Inv X pins σ H s) (k : ∀ b o, b ≠ it → s.heap.get? b = some o → h'.get? b = some o) (hn : H it = none) (hL : it ≠ X.env.locals)
    (h1 : it ∈ X.ex ∨ X.s₀.heap.objs.size ≤ it) (h2 : ∀ x c, X.env.cells.lookup x = some c → c ≠ it) (h3 : ∀ p ∈ X.pn ++ pins, p.1 ≠ it) : Inv X pins σ H { s with heap := h', toks := t' } := by
  have nit : ∀ b u, H b = some u → b ≠ it := fun b u e z => by rw [z, hn] at e; cases e
  refine I.step (g' := s.gens) (d' := s.drawn) (ch := [it]) (fun b hb => ?_) (fun b o _ _ hc e _ => k b o (fun z => hc (by simp [z])) e) (fun b o _ _ hc e _ => ⟨o.slots, k b o (fun z => hc (by simp [z])) e⟩) (fun _ _ _ _ n => n)
    (fun b o hc e => ⟨o, k b o (fun z => hc (by simp [z])) e⟩) (fun _ _ e => e) (fun _ _ _ e => e) (fun b ps e => ⟨#[], by rw [e]; simp⟩) (fun m hm => ?_) (fun b u e => ?_) I.bare
  · have e : b = it := by simpa using hb
    subst e
    exact ⟨h1, hL, h2, h3⟩
  · obtain ⟨o, es, ep, ho, r⟩ := hm
    exact ⟨o, es, ep, k _ o (Ne.symm hL) ho, r⟩
  · refine (I.hok b u e).stay (fun c v hc q => k c v ?_ q) (fun _ q => q) fun _ _ q => q
    rcases hc with z | z
    · rw [z]; exact nit b u e
    · exact nit c _ z
theorem Inv.tok (I : Inv X pins σ H s) (t : Nat) : Inv X pins σ H { s with toks := t } := I.un (h' := s.heap) (t' := t) Un.refl I.hok
theorem Inv.kept {t' : Nat} (I : Inv X pins σ H s) (k : ∀ b u, s.heap.get? b = some u → h'.get? b = some u) : Inv X pins σ H { s with heap := h', toks := t' } := I.un (Un.kept k) (I.hok.kept k)
theorem Inv.laid {a : Addr} {o : HO} {t' : Nat} (I : Inv X pins σ H s) (k : ∀ b u, s.heap.get? b = some u → h'.get? b = some u) (hp : s.heap.objs.size ≤ a) (new : ObjOk X.prog X.w (upd H a o) h' a o) :
    Inv X pins σ (upd H a o) { s with heap := h', toks := t' } := I.un (Un.laid k hp (I.hok.fresh hp)) (I.hok.laid k hp new)
theorem Inv.write {x e : Addr} {o : HO} {t' : Nat} (I : Inv X pins σ H s) (mu : Mut (H x)) (he : e = x ∨ H e = some (.own x)) (k : ∀ b u, b ≠ e → s.heap.get? b = some u → h'.get? b = some u) (heo : ∃ u, h'.get? e = some u)
    (new : ObjOk X.prog X.w (upd H x o) h' x o) : Inv X pins σ (upd H x o) { s with heap := h', toks := t' } := I.un (Un.write mu he k heo) (I.hok.write mu he k heo new)
theorem Inv.pins_of {pins' : List (Addr × Obj)} (I : Inv X pins σ H s) (h : ∀ p ∈ pins', s.heap.get? p.1 = some p.2 ∧ H p.1 = none ∧ p.1 ≠ X.env.locals ∧ p.1 ∉ X.fs ∧ ∀ v, p.2.data ≠ .cell v) : Inv X pins' σ H s :=
  ⟨I.ok, I.os, I.bare, I.base, I.loc, I.cell, I.free, I.freeC, fun p hp => (List.mem_append.mp hp).elim (fun z => I.pin p (List.mem_append_left _ z)) (h p), I.hok, I.len⟩
theorem nodup_ix {N : List Str} (hN : N.Nodup) {i j : Nat} {x : Str} (a : N[i]? = some x) (b : N[j]? = some x) : i = j := by
  obtain ⟨h1, e1⟩ := List.getElem?_eq_some_iff.mp a
  obtain ⟨h2, e2⟩ := List.getElem?_eq_some_iff.mp b
  exact (List.getElem_inj hN).mp (e1.trans e2.symm)
theorem store_ok2 {M : Model} {A : Around} {E : Value → Shared → Prop} {i : Nat} {x : Str} {v : V} {u : Value} {Q : Unit → Shared → Prop} (I : Inv X pins σ H s) (hN : X.N.Nodup) (hi : X.N[i]? = some x) (hx : Loc X.env.scope x) (r : RelV v u)
    (h : ∀ s', Inv X pins (σ.set i (some v)) H s' → (∃ a, Heap.SameBut a s.heap s'.heap ∧ (a = X.env.locals ∨ X.env.cells.lookup x = some a)) → Q () s') (hf : X.fn x = true ∨ X.env.scope.names.lookup x = some .local := by first | exact .inl rfl | exact .inr rfl | assumption) : wpAny M A (storeName X.env x u) Q E s := by
  obtain ⟨m, hn, hl⟩ := id I.loc
  have hcls : (X.env.scope.kind == .class || (X.env.scope.kind == .module && X.env.locals != X.env.globals)) = false := by rw [I.ok.kind]; rfl
  have hiσ : i < σ.length := by rw [I.len]; exact (List.getElem?_eq_some_iff.mp hi).1
  have cne := I.cne
  have tracked : ∀ {a : Addr} {h' : Heap}, (∃ o, s.heap.get? a = some o ∧ H a = none) → Heap.SameBut a s.heap h' → HOk X.prog X.w H h' := fun {a h'} ha hs b ob e => by
    obtain ⟨_, _, hfree⟩ := ha
    refine (I.hok b ob e).stay (fun c w' hc q => (hs.2 c ?_).trans q) (fun _ q => q) fun _ _ q => q
    rintro rfl
    rcases hc with rfl | hc
    · rw [hfree] at e; cases e
    · rw [hfree] at hc; cases hc
  rcases hx with hk | hk
  · refine wpAny_storeName_local hk hn (fun h' hn' hs => ?_) hcls
    obtain ⟨oL, _, _, hoL, _⟩ := id hn
    refine h _ ⟨I.ok, I.os, I.bare, ⟨fun b o e n hb hx => ?_, fun b o e n hb hx => ?_, I.base.free, fun b o e hx => ?_, I.base.tups, I.base.frzs, I.base.tbls⟩, ⟨_, hn', fun j y v' e1 e2 e3 => ?_⟩, fun y c e => ?_, I.free, I.freeC, fun p hp => ?_, tracked ⟨oL, hoL, I.free⟩ hs, by simpa using I.len⟩ ⟨_, hs, .inl rfl⟩
    · exact (hs.2 b (Nat.ne_of_lt (Nat.lt_of_lt_of_le (Heap.lt_size e) I.ok.above))).trans (I.base.keep b o e n hb hx)
    · obtain ⟨sl, e1⟩ := I.base.slot b o e n hb hx
      exact ⟨sl, (hs.2 b (Nat.ne_of_lt (Nat.lt_of_lt_of_le (Heap.lt_size e) I.ok.above))).trans e1⟩
    · obtain ⟨o', e1⟩ := I.base.there b o e hx
      exact ⟨o', (hs.2 b (Nat.ne_of_lt (Nat.lt_of_lt_of_le (Heap.lt_size e) I.ok.above))).trans e1⟩
    · by_cases hj : j = i
      · subst hj
        rw [hi] at e1; cases e1
        rw [List.getElem?_set_self hiσ] at e2
        cases e2
        exact ⟨u, r, .inl ⟨hk, by simp⟩⟩
      · rw [List.getElem?_set_ne (Ne.symm hj)] at e2
        obtain ⟨u', r', q⟩ := hl j y v' e1 e2 e3
        refine ⟨u', r', ?_⟩
        rcases q with ⟨k, e⟩ | ⟨k, c, e, z⟩
        · refine .inl ⟨k, ?_⟩
          have : y ≠ x := fun e => hj (nodup_ix hN e1 (e ▸ hi))
          simp [this, e]
        · exact .inr ⟨k, c, e, z.sameBut hs (cne y c e)⟩
    · obtain ⟨w', z⟩ := I.cell y c e
      exact ⟨w', z.sameBut hs (cne y c e)⟩
    · obtain ⟨e, n, ne, nf, d⟩ := I.pin p hp
      exact ⟨(hs.2 p.1 ne).trans e, n, ne, nf, d⟩
  · have hfn : X.fn x = true := by
      rcases hf with z | z
      · exact z
      · rw [z] at hk; cases hk
    obtain ⟨c, hc⟩ := I.ok.has x (.inl hk)
    obtain ⟨w', z⟩ := I.cell x c hc
    refine wpAny_storeName_cell I.ok.kind hk hc z (fun h' hc' hs => ?_)
    obtain ⟨oc, hoc, hocd⟩ := id z
    refine h { s with heap := h' } ⟨I.ok, I.os, I.bare, ⟨fun b o e n hb hx => ?_, fun b o e n hb hx => ?_, I.base.free, fun b o e hx => ?_, I.base.tups, I.base.frzs, I.base.tbls⟩, ⟨m, hn.sameBut hs (Ne.symm (cne x c hc)), fun j y v' e1 e2 e3 => ?_⟩, fun y c' e => ?_, I.free, I.freeC, fun p hp => ?_, tracked ⟨oc, hoc, I.freeC x c hc⟩ hs, by simpa using I.len⟩ ⟨c, hs, .inr hc⟩
    · exact (hs.2 b (Nat.ne_of_lt (Nat.lt_of_lt_of_le (Heap.lt_size e) (I.ok.cab x c hfn hc)))).trans (I.base.keep b o e n hb hx)
    · obtain ⟨sl, e1⟩ := I.base.slot b o e n hb hx
      exact ⟨sl, (hs.2 b (Nat.ne_of_lt (Nat.lt_of_lt_of_le (Heap.lt_size e) (I.ok.cab x c hfn hc)))).trans e1⟩
    · obtain ⟨o', e1⟩ := I.base.there b o e hx
      exact ⟨o', (hs.2 b (Nat.ne_of_lt (Nat.lt_of_lt_of_le (Heap.lt_size e) (I.ok.cab x c hfn hc)))).trans e1⟩
    · by_cases hj : j = i
      · subst hj
        rw [hi] at e1; cases e1
        rw [List.getElem?_set_self hiσ] at e2
        cases e2
        exact ⟨u, r, .inr ⟨.inl hk, c, hc, hc'⟩⟩
      · rw [List.getElem?_set_ne (Ne.symm hj)] at e2
        obtain ⟨u', r', q⟩ := hl j y v' e1 e2 e3
        refine ⟨u', r', ?_⟩
        rcases q with q | ⟨k, c', e, z'⟩
        · exact .inl q
        · refine .inr ⟨k, c', e, z'.sameBut hs ?_⟩
          rintro rfl
          exact hj (nodup_ix hN e1 (I.ok.inj _ _ _ e hc ▸ hi))
    · by_cases hcc : c' = c
      · subst hcc; exact ⟨_, hc'⟩
      · obtain ⟨w2, z2⟩ := I.cell y c' e
        exact ⟨w2, z2.sameBut hs hcc⟩
    · obtain ⟨e, n, ne, nf, d⟩ := I.pin p hp
      refine ⟨(hs.2 p.1 ?_).trans e, n, ne, nf, d⟩
      intro q
      rw [q, hoc] at e
      have q' : oc = p.2 := Option.some.inj e
      exact d w' (by rw [← q']; exact hocd)
theorem store_ok {M : Model} {A : Around} {E : Value → Shared → Prop} {i : Nat} {x : Str} {v : V} {u : Value} {Q : Unit → Shared → Prop} (I : Inv X pins σ H s) (hN : X.N.Nodup) (hi : X.N[i]? = some x) (hx : Loc X.env.scope x) (r : RelV v u)
    (h : ∀ s', Inv X pins (σ.set i (some v)) H s' → Q () s') (hf : X.fn x = true ∨ X.env.scope.names.lookup x = some .local := by first | exact .inl rfl | exact .inr rfl | assumption) : wpAny M A (storeName X.env x u) Q E s :=
  store_ok2 I hN hi hx r (fun s' I' _ => h s' I') hf
theorem Inv.call' {s' : Shared} {ch : List Addr} (I : Inv X pins σ H s) (ho : s'.os = s.os) (u : Un (frs X.stack) ch H H' s.heap s'.heap) (hok : HOk X.prog X.w H' s'.heap) (hg : AllBare s'.gens)
    (hch : ∀ b ∈ ch, (b ∈ X.ex ∨ X.s₀.heap.objs.size ≤ b) ∧ b ≠ X.env.locals ∧ (∀ x c, X.env.cells.lookup x = some c → c ≠ b) ∧ ∀ p ∈ X.pn ++ pins, p.1 ≠ b) : Inv X pins σ H' s' := by
  obtain ⟨h', g', d', t', o'⟩ := s'
  have e : o' = s.os := ho
  subst e
  exact I.call (g' := g') (t' := t') (d' := d') u hok hg hch
end
abbrev XK := Value → Option Addr → Hp → Prop
abbrev St := List (Option V)
abbrev VK := V → Hp → Prop
abbrev TE := St → Hp → VK → Prop
abbrev TT := St → Hp → (Bool → Hp → Prop) → Prop
abbrev TA := St → Hp → (List V → Hp → Prop) → Prop
structure Ends where
  nx : St → Hp → Prop
  rt : VK
  bk : St → Hp → Prop := fun _ _ => False
  ct : St → Hp → Prop := fun _ _ => False
abbrev TS := Ends → St → Hp → Prop
def EP (X : Cx) (pins : List (Addr × Obj)) (σ : St) (Q : VK) (u : Value) (s' : Shared) : Prop := ∃ v H', Inv X pins σ H' s' ∧ RelV v u ∧ Q v H'
def TP (X : Cx) (pins : List (Addr × Obj)) (σ : St) (Q : Bool → Hp → Prop) (b : Bool) (s' : Shared) : Prop := ∃ H', Inv X pins σ H' s' ∧ Q b H'
def AP (X : Cx) (pins : List (Addr × Obj)) (σ : St) (Q : List V → Hp → Prop) (us : List Value) (s' : Shared) : Prop := ∃ vs H', Inv X pins σ H' s' ∧ Vals vs us ∧ Q vs H'
def SP (X : Cx) (pins : List (Addr × Obj)) (D : Ends) (f : Flow) (s' : Shared) : Prop :=
  match f with
  | .next => ∃ σ' H', Inv X pins σ' H' s' ∧ D.nx σ' H'
  | .brk => ∃ σ' H', Inv X pins σ' H' s' ∧ D.bk σ' H'
  | .cont => ∃ σ' H', Inv X pins σ' H' s' ∧ D.ct σ' H'
  | .ret u => ∃ v σ' H', Inv X pins σ' H' s' ∧ RelV v u ∧ D.rt v H'
def PE (X : Cx) (e : Expr) (t : TE) : Prop :=
  ∀ (pins : List (Addr × Obj)) (s : Shared) (σ : St) (H : Hp) (Q : VK), Inv X pins σ H s → t σ H Q → wpAny (model X.prog X.w) X.A (eval e X.env) (EP X pins σ Q) X.xe s
def PT (X : Cx) (e : Expr) (t : TT) : Prop :=
  ∀ (pins : List (Addr × Obj)) (s : Shared) (σ : St) (H : Hp) (Q : Bool → Hp → Prop), Inv X pins σ H s → t σ H Q → wpAny (model X.prog X.w) X.A (isTrue e X.env (eval e X.env)) (TP X pins σ Q) X.xe s
def PW (X : Cx) (e : Expr) (t : TT) : Prop :=
  ∀ (whole : Sem Value) (pins : List (Addr × Obj)) (s : Shared) (σ : St) (H : Hp) (Q : Bool → Hp → Prop), Inv X pins σ H s → t σ H Q → wpAny (model X.prog X.w) X.A (isTrue e X.env whole) (TP X pins σ Q) X.xe s
theorem PW.pt {X : Cx} {e : Expr} {t : TT} (h : PW X e t) : PT X e t := h _
def PA (X : Cx) (es : List Expr) (t : TA) : Prop :=
  ∀ (pos : Pos) (pins : List (Addr × Obj)) (s : Shared) (σ : St) (H : Hp) (Q : List V → Hp → Prop), Inv X pins σ H s → t σ H Q → wpAny (model X.prog X.w) X.A (spliced (backTo pos (starEach es X.env))) (AP X pins σ Q) X.xe s
def PS (X : Cx) (st : Stmt) (t : TS) : Prop :=
  ∀ (pins : List (Addr × Obj)) (s : Shared) (σ : St) (H : Hp) (D : Ends), Inv X pins σ H s → t D σ H → wpAny (model X.prog X.w) X.A (exec st X.env) (SP X pins D) X.xe s
def PSs (X : Cx) (st : List Stmt) (t : TS) : Prop :=
  ∀ (pins : List (Addr × Obj)) (s : Shared) (σ : St) (H : Hp) (D : Ends), Inv X pins σ H s → t D σ H → wpAny (model X.prog X.w) X.A (execs st X.env) (SP X pins D) X.xe s
theorem thn {α : Type} {t : Sem α} {Q Q' : α → Shared → Prop} {M : Model} {A : Around} {E : Value → Shared → Prop} {s : Shared} (h : wpAny M A t Q E s) (hQ : ∀ a s, Q a s → Q' a s) : wpAny M A t Q' E s := wpAny_mono h hQ fun _ _ x => x
end L2
namespace L2
open PySem PySem.Spec PyProof.Rows
section
variable {X : Cx}
def tVar (i : Nat) : TE := fun σ H Q => ∃ v, σ[i]? = some (some v) ∧ Q v H
def tC (v : V) : TE := fun _ H Q => Q v H
theorem pe_var {i : Nat} {x : Str} {pos : Pos} (hN : X.N[i]? = some x) (hv : Vis X.env.scope x) (hd : (x == ("__debug__" : Str)) = false := by decide) (hcd : (x == ("__classdict__" : Str)) = false := by decide) : PE X (.Name x pos) (tVar i) := by
  intro pins s σ H Q I h
  obtain ⟨v, e, h⟩ := h
  obtain ⟨m, hn, hl⟩ := I.loc
  obtain ⟨u, r, l⟩ := hl i x v hN e hv
  have fin : EP X pins σ Q u s := ⟨v, H, I, r, h⟩
  rcases l with ⟨hk, hm⟩ | ⟨hk, c, hc, hcell⟩
  · exact wpAny_Name (wpAny_loadName_local I.ok.kind hk hn hm fin) hd
  · rcases hk with hk | hk
    · exact wpAny_Name (wpAny_loadName_cell I.ok.kind hk hc hcell fin) hd
    · exact wpAny_Name (wpAny_loadName_free I.ok.kind hk hc hcell fin hcd) hd
theorem pe_int {i j pos} : PE X (.Constant (.int i) j pos) (tC (.int i)) := fun _ _ _ H _ I h => wpAny_Constant_int ⟨.int i, H, I.tok _, ⟨_, rfl⟩, h⟩
theorem pe_bl {b j pos} : PE X (.Constant (.bool b) j pos) (tC (.bl b)) := fun _ _ _ H _ I h => Constant_bool ⟨.bl b, H, I, rfl, h⟩
theorem pe_non {j pos} : PE X (.Constant .none j pos) (tC .non) := fun _ _ _ H _ I h => Constant_none ⟨.non, H, I, rfl, h⟩
theorem pe_str {x j pos} : PE X (.Constant (.str x) j pos) (tC (.str x)) := fun _ _ _ H _ I h => Calls.Constant_str ⟨.str x, H, I.tok _, ⟨_, rfl⟩, h⟩
def Gl (X : Cx) (x : Str) : Prop := X.env.kindOf x = some .globalImplicit
theorem ld_glob {E : Value → Shared → Prop} {pins : List (Addr × Obj)} {s : Shared} {σ : St} {H : Hp} {x : Str} {u : Value} {pos : Pos} {Q : Value → Shared → Prop} (I : Inv X pins σ H s) (hg : Gl X x) (hm : X.mg x = some u) (h : Q u s)
    (hd : (x == ("__debug__" : Str)) = false := by decide) : wpAny (model X.prog X.w) X.A (eval (.Name x pos) X.env) Q E s :=
  Calls.Name_function_global I.ok.kind hg (Calls.loadGlobal_global (by rw [I.ok.glob]; exact I.mod.glob.keeps I.bk) hm h) hd
theorem ld_blt {E : Value → Shared → Prop} {pins : List (Addr × Obj)} {s : Shared} {σ : St} {H : Hp} {x : Str} {u : Value} {pos : Pos} {Q : Value → Shared → Prop} (I : Inv X pins σ H s) (hg : Gl X x) (hm : X.mg x = none) (hv : bootBuiltins x = some u) (h : Q u s)
    (hn : x ≠ "__name__" := by decide) (hd : (x == ("__debug__" : Str)) = false := by decide) : wpAny (model X.prog X.w) X.A (eval (.Name x pos) X.env) Q E s := by
  obtain ⟨mb, h1, h2⟩ := I.mod.blt
  exact Calls.Name_function_global I.ok.kind hg (Calls.loadGlobal_builtin (by rw [I.ok.glob]; exact I.mod.glob.keeps I.bk) hm (by rw [I.ok.blt]; exact h1.keeps I.bk) ((h2 x hn).trans hv) h) hd
theorem pe_glob {x : Str} {v : V} {u : Value} {pos : Pos} (hg : Gl X x) (hm : X.mg x = some u) (r : RelV v u) (hd : (x == ("__debug__" : Str)) = false := by decide) : PE X (.Name x pos) (tC v) :=
  fun _ _ _ H _ I h => ld_glob I hg hm ⟨v, H, I, r, h⟩ hd
theorem pe_bltn {x : Str} {v : V} {u : Value} {pos : Pos} (hg : Gl X x) (hm : X.mg x = none) (hv : bootBuiltins x = some u) (r : RelV v u) (hn : x ≠ "__name__" := by decide) (hd : (x == ("__debug__" : Str)) = false := by decide) : PE X (.Name x pos) (tC v) :=
  fun _ _ _ H _ I h => ld_blt I hg hm hv ⟨v, H, I, r, h⟩ hn hd
variable {a b : Expr} {ta tb : TE} {pos : Pos}
def tB (t : TE) : TT := fun σ H Q => t σ H fun x H1 => ∃ c, x = .bl c ∧ Q c H1
theorem pt_val {e : Expr} {t : TE} (h : PE X e t) (he : ∀ whole, isTrue e X.env whole = (do let v ← whole; standAt e.pos; holding [v] (truthy v)) := by intro _; rfl) : PT X e (tB t) := by
  intro pins s σ H Q I hw
  refine isTrue_plain (thn (h pins s σ H _ I hw) fun v s1 ⟨x, H1, I1, r1, q1⟩ => ?_) (he _)
  obtain ⟨d, rfl, q⟩ := q1
  cases r1
  exact wpAny_truthy_bool ⟨H1, I1, q⟩
variable {tA tB' : TT} {rest : List Expr}
def tAnd (t u : TT) : TT := fun σ H Q => t σ H fun c H1 => if c = true then u σ H1 Q else Q false H1
def tOr (t u : TT) : TT := fun σ H Q => t σ H fun c H1 => if c = true then Q true H1 else u σ H1 Q
def tNot (t : TT) : TT := fun σ H Q => t σ H fun c H1 => Q (!c) H1
theorem pw_and1 (ha : PT X a tA) : PW X (.BoolOp .And [a] pos) tA := by
  intro wh pins s σ H Q I h
  refine isTrue_and (thn (ha pins s σ H Q I h) fun c s1 e => ?_)
  cases c with
  | true => exact isTrue_and_nil e
  | false => exact e
theorem pw_or1 (ha : PT X a tA) : PW X (.BoolOp .Or [a] pos) tA := by
  intro wh pins s σ H Q I h
  refine isTrue_or (thn (ha pins s σ H Q I h) fun c s1 e => ?_)
  cases c with
  | false => exact isTrue_or_nil e
  | true => exact e
theorem pw_and (ha : PT X a tA) (hb : PW X (.BoolOp .And (b :: rest) pos) tB') : PW X (.BoolOp .And (a :: b :: rest) pos) (tAnd tA tB') := by
  intro wh pins s σ H Q I h
  refine isTrue_and (thn (ha pins s σ H _ I h) ?_)
  rintro c s1 ⟨H1, I1, q1⟩
  cases c with
  | true => exact hb wh pins s1 σ H1 Q I1 q1
  | false => exact ⟨H1, I1, q1⟩
theorem pw_or (ha : PT X a tA) (hb : PW X (.BoolOp .Or (b :: rest) pos) tB') : PW X (.BoolOp .Or (a :: b :: rest) pos) (tOr tA tB') := by
  intro wh pins s σ H Q I h
  refine isTrue_or (thn (ha pins s σ H _ I h) ?_)
  rintro c s1 ⟨H1, I1, q1⟩
  cases c with
  | true => exact ⟨H1, I1, q1⟩
  | false => exact hb wh pins s1 σ H1 Q I1 q1
theorem pt_not (ha : PT X a tA) : PT X (.UnaryOp .Not a pos) (tNot tA) := by
  intro pins s σ H Q I h
  exact isTrue_not (ha pins s σ H (fun c H1 => Q (!c) H1) I h)
def tAndV (ta tb : TE) : TE := fun σ H Q => ta σ H fun x H1 => ∃ c, x = .bl c ∧ if c = true then tb σ H1 Q else Q (.bl false) H1
theorem pe_one {op} {t : TE} (h : PE X a t) : PE X (.BoolOp op [a] pos) t := fun pins s σ H Q I hw => BoolOp_one (h pins s σ H Q I hw)
theorem pe_and (ha : PE X a ta) (hb : PE X (.BoolOp .And (b :: rest) pos) tb) : PE X (.BoolOp .And (a :: b :: rest) pos) (tAndV ta tb) := by
  intro pins s σ H Q I h
  refine BoolOp_and (thn (ha pins s σ H _ I h) ?_)
  rintro v s1 ⟨x, H1, I1, r1, q1⟩
  obtain ⟨c, rfl, q1⟩ := q1
  cases r1
  refine wpAny_truthy_bool ?_
  cases c with
  | true => exact hb pins s1 σ H1 Q I1 q1
  | false => exact ⟨.bl false, H1, I1, rfl, q1⟩
end
end L2
namespace L2
open PySem PySem.Spec PyProof.Rows
def SqL (K : PySem.W.Frag) (H : Hp) (a : Addr) (xs : List V) : Prop :=
  Rd H a (.lst xs) ∨
    ∃ (o : Obj) (its : Array Value) (n : Nat), K.lookup a = some o ∧ o.cls = .type "list" ∧ o.dict = none ∧ o.data = .seq its n ∧ its.size ≤ sizeLine ∧ Vals xs its.toList
def SqT (K : PySem.W.Frag) (H : Hp) (a : Addr) (xs : List V) : Prop :=
  Rd H a (.tup xs) ∨
    ∃ (o : Obj) (its : Array Value) (n : Nat), K.lookup a = some o ∧ o.cls = .type "tuple" ∧ o.data = .seq its n ∧ its.size ≤ sizeLine ∧ Vals xs its.toList
def absV : Value → Option V
  | .none => some .non
  | .bool b => some (.bl b)
  | .int i _ => some (.int i)
  | .str x _ => some (.str x)
  | .bytes b _ => some (.byt b)
  | .float b _ => some (.flt b)
  | .ref a => some (.ref a)
  | .type n => some (.ty n)
  | _ => none
theorem RelV.abs {x : V} {u : Value} (r : RelV x u) : absV u = some x := by
  cases x with
  | non => cases r; rfl
  | bl _ => cases r; rfl
  | int _ => obtain ⟨t, rfl⟩ := r; rfl
  | str _ => obtain ⟨t, rfl⟩ := r; rfl
  | byt _ => obtain ⟨t, rfl⟩ := r; rfl
  | flt _ => obtain ⟨t, rfl⟩ := r; rfl
  | ref _ => cases r; rfl
  | ty _ => cases r; rfl
theorem RelV.inj {x y : V} {u : Value} (r : RelV x u) (q : RelV y u) : x = y := Option.some.inj (r.abs.symm.trans q.abs)
theorem Vals.inj : ∀ {xs ys : List V} {us : List Value}, Vals xs us → Vals ys us → xs = ys
  | _, _, _, .nil, .nil => rfl
  | _, _, _, .cons r t, .cons r' t' => by rw [r.inj r', Vals.inj t t']
section
variable {X : Cx} {pins : List (Addr × Obj)} {σ : St} {H : Hp} {s : Shared} {a : Addr} {xs ys : List V}
theorem SqL.of {K : PySem.W.Frag} (h : H a = some (.lst xs)) : SqL K H a xs := .inl (.inl h)
theorem SqT.of {K : PySem.W.Frag} (h : H a = some (.tup xs)) : SqT K H a xs := .inl (.inl h)
theorem Inv.list (I : Inv X pins σ H s) (h : SqL X.K H a xs) : ∃ its : List Value, Vals xs its ∧ PlainL s.heap a its.toArray ∧ xs.length ≤ sizeLine := by
  rcases h with h | ⟨o, its, n, hk, hc, hd, hs, hz, r⟩
  · obtain ⟨z, its, n, r, e⟩ := h.ok I.hok
    exact ⟨its, r, ⟨_, n, e, rfl, rfl, rfl⟩, z⟩
  · refine ⟨its.toList, r, ⟨o, n, I.kIn a o hk, hc, hd, by simpa using hs⟩, ?_⟩
    have e := r.length
    simp only [Array.length_toList] at e
    omega
theorem Inv.tuple (I : Inv X pins σ H s) (h : SqT X.K H a xs) : ∃ its : List Value, Vals xs its ∧ IsTup s.heap a its.toArray ∧ xs.length ≤ sizeLine := by
  rcases h with h | ⟨o, its, n, hk, hc, hs, hz, r⟩
  · obtain ⟨⟨z, _⟩, its, r, p⟩ := h.ok I.hok
    exact ⟨its, r, p, z⟩
  · refine ⟨its.toList, r, ⟨o, I.kIn a o hk, hc, n, by simpa using hs⟩, ?_⟩
    have e := r.length
    simp only [Array.length_toList] at e
    omega
theorem Inv.list_inj (I : Inv X pins σ H s) (h : SqL X.K H a xs) (h' : SqL X.K H a ys) : xs = ys := by
  obtain ⟨its, r, ⟨o, n, e, _, _, d⟩, _⟩ := I.list h
  obtain ⟨its', r', ⟨o', n', e', _, _, d'⟩, _⟩ := I.list h'
  rw [e] at e'; cases e'
  rw [d] at d'
  injection d' with d1 _
  have : its = its' := by simpa using congrArg Array.toList d1
  subst this
  exact r.inj r'
theorem Inv.tuple_inj (I : Inv X pins σ H s) (h : SqT X.K H a xs) (h' : SqT X.K H a ys) : xs = ys := by
  obtain ⟨its, r, ⟨o, e, _, n, d⟩, _⟩ := I.tuple h
  obtain ⟨its', r', ⟨o', e', _, n', d'⟩, _⟩ := I.tuple h'
  rw [e] at e'; cases e'
  rw [d] at d'
  injection d' with d1 _
  have : its = its' := by simpa using congrArg Array.toList d1
  subst this
  exact r.inj r'
end
abbrev Cx.wish (X : Cx) (E : Value → Shared → Prop) : Cx := { X with xe := E }
abbrev Cx.nox (X : Cx) : Cx := X.wish fun _ _ => False
theorem Cx.Ok.wish {X : Cx} (ok : X.Ok) (E : Value → Shared → Prop) : (X.wish E).Ok :=
  ⟨ok.mod, ok.kind, ok.glob, ok.blt, ok.above, ok.inj, ok.has, ok.cab, ok.hd, ok.frames, ok.stk, ok.exf, ok.bs, ok.bsz, ok.noex, ok.exfs, ok.funs, ok.frf⟩
theorem Cx.Ok.unwish {X : Cx} {E : Value → Shared → Prop} (ok : (X.wish E).Ok) : X.Ok :=
  ⟨ok.mod, ok.kind, ok.glob, ok.blt, ok.above, ok.inj, ok.has, ok.cab, ok.hd, ok.frames, ok.stk, ok.exf, ok.bs, ok.bsz, ok.noex, ok.exfs, ok.funs, ok.frf⟩
section
variable {X : Cx} {pins : List (Addr × Obj)} {σ : St} {H : Hp} {s : Shared} {E : Value → Shared → Prop}
theorem Inv.wish (I : Inv X pins σ H s) (E : Value → Shared → Prop) : Inv (X.wish E) pins σ H s := ⟨I.ok.wish E, I.os, I.bare, I.base, I.loc, I.cell, I.free, I.freeC, I.pin, I.hok, I.len⟩
theorem Inv.unwish (I : Inv (X.wish E) pins σ H s) : Inv X pins σ H s := ⟨I.ok.unwish, I.os, I.bare, I.base, I.loc, I.cell, I.free, I.freeC, I.pin, I.hok, I.len⟩
theorem SP.unwish {D : Ends} {f : Flow} {s' : Shared} (h : SP (X.wish E) pins D f s') : SP X pins D f s' := by
  cases f with
  | next => obtain ⟨σ', H', I, q⟩ := h; exact ⟨σ', H', I.unwish, q⟩
  | brk => obtain ⟨σ', H', I, q⟩ := h; exact ⟨σ', H', I.unwish, q⟩
  | cont => obtain ⟨σ', H', I, q⟩ := h; exact ⟨σ', H', I.unwish, q⟩
  | ret u => obtain ⟨v, σ', H', I, r, q⟩ := h; exact ⟨v, σ', H', I.unwish, r, q⟩
theorem PSs.nox {st : List Stmt} {t : TS} (h : PSs X.nox st t) : PSs X st t := fun pins s σ H D I hw =>
  wpAny_mono (h pins s σ H D (I.wish _) hw) (fun _ _ q => q.unwish) fun _ _ z => False.elim z
end
section
variable {X : Cx} {st : Stmt} {rest : List Stmt} {t u : TS} {e : Expr} {te : TE} {pos : Pos}
def tNext : TS := fun D σ H => D.nx σ H
def tSeq (t u : TS) : TS := fun D σ H => t { D with nx := u D } σ H
theorem pss_nil : PSs X [] tNext := fun _ _ σ H _ I h => wpAny_execs_nil ⟨σ, H, I, h⟩
theorem pss_cons (h1 : PS X st t) (h2 : PSs X rest u) : PSs X (st :: rest) (tSeq t u) := by
  intro pins s σ H D I h
  refine wpAny_execs_cons (thn (h1 pins s σ H { D with nx := u D } I h) fun f s1 q => ?_)
  cases f with
  | next =>
    obtain ⟨σ', H', I', q⟩ := q
    exact h2 pins s1 σ' H' D I' q
  | ret v => exact q
  | brk => exact q
  | cont => exact q
theorem pss_one (h1 : PS X st t) : PSs X [st] t := by
  intro pins s σ H D I h
  refine wpAny_execs_cons (thn (h1 pins s σ H D I h) fun f s1 q => ?_)
  cases f with
  | next => exact wpAny_execs_nil q
  | ret v => exact q
  | brk => exact q
  | cont => exact q
theorem Inv.quiet {pins : List (Addr × Obj)} {σ : St} {H : Hp} {s : Shared} (I : Inv X pins σ H s) : interactive X.env = false := by simp [interactive, I.ok.kind]
def tDrop (te : TE) : TS := fun D σ H => te σ H fun _ H1 => D.nx σ H1
theorem ps_expr (he : PE X e te) (hs : swapsWith e none pos.line X.env = pure false := by rfl) : PS X (.Expr e pos) (tDrop te) := by
  intro pins s σ H D I h
  exact wpAny_Expr_any (thn (he pins s σ H _ I h) fun v s1 ⟨x, H1, I1, r1, q1⟩ => ⟨σ, H1, I1, q1⟩) I.quiet hs
def tRet (te : TE) : TS := fun D σ H => te σ H D.rt
theorem ps_ret (he : PE X e te) : PS X (.Return (some e) pos) (tRet te) := by
  intro pins s σ H D I h
  exact wpAny_Return_some (thn (he pins s σ H _ I h) fun v s1 ⟨x, H1, I1, r1, q1⟩ => ⟨x, σ, H1, I1, r1, q1⟩)
def tIfS (c : TT) (t u : TS) : TS := fun D σ H => c σ H fun b H1 => if b = true then t D σ H1 else u D σ H1
theorem ps_if {c : Expr} {a b : List Stmt} {tc : TT} (hc : PT X c tc) (ha : PSs X a t) (hb : PSs X b u) : PS X (.If c a b pos) (tIfS tc t u) := by
  intro pins s σ H D I h
  refine wpAny_If (thn (hc pins s σ H _ I h) ?_)
  rintro d s1 ⟨H1, I1, q1⟩
  cases d with
  | true => exact ha pins s1 σ H1 D I1 q1
  | false => exact hb pins s1 σ H1 D I1 q1
end
abbrev TG := V → St → Hp → (St → Hp → Prop) → Prop
abbrev TGs := List V → St → Hp → (St → Hp → Prop) → Prop
def PG (X : Cx) (target : Expr) (t : TG) : Prop :=
  ∀ (pins : List (Addr × Obj)) (s : Shared) (σ : St) (H : Hp) (v : V) (u : Value) (Q : St → Hp → Prop), Inv X pins σ H s → RelV v u → t v σ H Q →
    wpAny (model X.prog X.w) X.A (assign target X.env u) (fun _ s' => ∃ σ' H', Inv X pins σ' H' s' ∧ Q σ' H') X.xe s
def PGs (X : Cx) (ts : List Expr) (t : TGs) : Prop :=
  ∀ (pins : List (Addr × Obj)) (s : Shared) (σ : St) (H : Hp) (vs : List V) (us : List Value) (Q : St → Hp → Prop), Inv X pins σ H s → Vals vs us → t vs σ H Q →
    wpAny (model X.prog X.w) X.A (assignInOrder ((assignEach ts X.env).map (·.2)) us) (fun _ s' => ∃ σ' H', Inv X pins σ' H' s' ∧ Q σ' H') X.xe s
abbrev TSet := V → V → V → Hp → (Hp → Prop) → Prop
def PSet (X : Cx) (t : TSet) : Prop :=
  ∀ (pins : List (Addr × Obj)) (s : Shared) (σ : St) (H : Hp) (o i v : V) (ov iv u : Value) (Q : Hp → Prop), Inv X pins σ H s → RelV o ov → RelV i iv → RelV v u → t o i v H Q →
    wpAny (model X.prog X.w) X.A (setItem ov iv u) (fun _ s' => ∃ H', Inv X pins σ H' s' ∧ Q H') X.xe s
abbrev TIp := V → V → Hp → VK → Prop
def PIp (X : Cx) (op : Operator) (t : TIp) : Prop :=
  ∀ (pins : List (Addr × Obj)) (s : Shared) (σ : St) (H : Hp) (x y : V) (v u : Value) (Q : VK), Inv X pins σ H s → RelV x v → RelV y u → t x y H Q →
    wpAny (model X.prog X.w) X.A (inplaceOp op v u) (EP X pins σ Q) X.xe s
section
variable {X : Cx} {pos : Pos}
def gName (i : Nat) : TG := fun v σ H Q => Q (σ.set i (some v)) H
theorem pg_name {i : Nat} {x : Str} (hN : X.N.Nodup) (hi : X.N[i]? = some x) (hx : Loc X.env.scope x) (hf : X.fn x = true ∨ X.env.scope.names.lookup x = some .local := by first | exact .inl rfl | exact .inr rfl | assumption) : PG X (.Name x pos) (gName i) := by
  intro pins s σ H v u Q I r h
  exact wpAny_assign_Name (store_ok I hN hi hx r (fun s' I' => ⟨_, H, I', h⟩) hf)
def gNil : TGs := fun vs σ H Q => vs = [] ∧ Q σ H
def gCons (t : TG) (u : TGs) : TGs := fun vs σ H Q => ∃ v r, vs = v :: r ∧ t v σ H fun σ' H' => u r σ' H' Q
theorem pgs_nil : PGs X [] gNil := by
  intro pins s σ H vs us Q I r h
  obtain ⟨e, h⟩ := h
  subst e
  cases r
  exact assignInOrder_nil ⟨σ, H, I, h⟩
theorem pgs_cons {e : Expr} {es : List Expr} {t : TG} {u : TGs} (h1 : PG X e t) (h2 : PGs X es u)
    (hs : (assignEach (e :: es) X.env).map (·.2) = assign e X.env :: (assignEach es X.env).map (·.2) := by rfl) : PGs X (e :: es) (gCons t u) := by
  intro pins s σ H vs us Q I r h
  obtain ⟨v, vr, e1, h⟩ := h
  subst e1
  cases r with
  | cons r rr =>
    rw [hs]
    refine assignInOrder_cons (thn (h1 pins s σ H _ _ _ I r h) ?_)
    rintro _ s1 ⟨σ1, H1, I1, q1⟩
    exact h2 pins s1 σ1 H1 _ _ Q I1 rr q1
def gTup (K : PySem.W.Frag) (n : Nat) (t : TGs) : TG := fun v σ H Q => ∃ a xs, v = .ref a ∧ SqT K H a xs ∧ xs.length = n ∧ t xs σ H Q
theorem pg_tup {es : List Expr} {k : Nat} {t : TGs} {n : Nat} (hc : X.calm = true) (h : PGs X es t)
    (hn : (assignEach es X.env).length = n := by rfl) (hst : (assignEach es X.env).findIdx? (·.1) = none := by rfl) : PG X (.Tuple es k pos) (gTup X.K n t) := by
  intro pins s σ H v u Q I r hw
  obtain ⟨a, xs, e1, hq, hl, hw⟩ := hw
  subst e1
  cases r
  obtain ⟨its, rv, ht, hz⟩ := I.tuple hq
  refine assign_Tuple_tuple (I.ok.hd hc) ht (by simp [hn, ← hl, rv.length]) hst fun h' hx => ?_
  have I1 : Inv X pins σ H { s with heap := h' } := I.kept (t' := s.toks) fun b o e => hx b o (Nat.ne_of_lt (Heap.lt_size e)) e
  exact h pins _ σ H xs _ Q I1 (by simpa using rv) hw
def gSub (to ti : TE) (t : TSet) : TG := fun v σ H Q => to σ H fun o H1 => ti σ H1 fun i H2 => t o i v H2 fun H3 => Q σ H3
theorem pg_sub {o i : Expr} {to ti : TE} {t : TSet} (ho : PE X o to) (hi : PE X i ti) (hs : PSet X t)
    (ha : ∀ v, assign (.Subscript o i pos) X.env v = (do
      let ov ← holding [v] (eval o X.env)
      let iv ← holding [v, ov] (eval i X.env)
      standAt pos
      holding [v, ov, iv] (setItem ov iv v)
      release [v, ov, iv] []) := by intro _; rfl) : PG X (.Subscript o i pos) (gSub to ti t) := by
  intro pins s σ H v u Q I r h
  rw [ha]
  refine wpAny_bind (wpAny_holding (thn (ho pins s σ H _ I h) ?_))
  rintro ov s1 ⟨x, H1, I1, r1, q1⟩
  refine wpAny_bind (wpAny_holding (thn (hi pins s1 σ H1 _ I1 q1) ?_))
  rintro iv s2 ⟨y, H2, I2, r2, q2⟩
  refine wpAny_bind (wpAny_standAt (wpAny_bind (wpAny_holding (thn (hs pins s2 σ H2 x y v ov iv u _ I2 r1 r2 r q2) ?_))))
  rintro _ s3 ⟨H3, I3, q3⟩
  exact wpAny_release ⟨σ, H3, I3, q3⟩
def tAsg (te : TE) (g : TG) : TS := fun D σ H => te σ H fun x H1 => g x σ H1 D.nx
theorem ps_asg {tg e : Expr} {te : TE} {g : TG} (he : PE X e te) (hg : PG X tg g) (hs : swapsWithSole [tg] e pos.line X.env = pure false := by rfl) (hw : swappedStores [tg] e X.env = pure none := by rfl)
    (h1 : (assignEach [tg] X.env).map (·.2) = [assign tg X.env] := by rfl) : PS X (.Assign [tg] e pos) (tAsg te g) := by
  intro pins s σ H D I h
  refine wpAny_Assign_stores (thn (he pins s σ H _ I h) fun v s1 ⟨x, H1, I1, r1, q1⟩ => ?_) hs hw
  rw [h1]
  exact thn (hg pins s1 σ H1 x v _ I1 r1 q1) fun _ s2 q => q
theorem ps_set {i : Nat} {x : Str} {e : Expr} {te : TE} {pos' : Pos} (hN : X.N.Nodup) (hi : X.N[i]? = some x) (hx : Loc X.env.scope x) (he : PE X e te) (hs : swapsWith e (some (.Name x pos')) pos.line X.env = pure false := by rfl) (hf : X.fn x = true ∨ X.env.scope.names.lookup x = some .local := by first | exact .inl rfl | exact .inr rfl | assumption) :
    PS X (.Assign [.Name x pos'] e pos) (tAsg te (gName i)) := by
  intro pins s σ H D I h
  refine wpAny_Assign_Name (thn (he pins s σ H _ I h) fun v s1 ⟨y, H1, I1, r1, q1⟩ => ?_) hs
  exact store_ok I1 hN hi hx r1 (fun s2 I2 => ⟨_, H1, I2, q1⟩) hf
def tAug (i : Nat) (te : TE) (ti : TIp) : TS := fun D σ H => ∃ x, σ[i]? = some (some x) ∧ te σ H fun y H1 => ti x y H1 fun z H2 => D.nx (σ.set i (some z)) H2
theorem ps_aug {i : Nat} {x : Str} {e : Expr} {te : TE} {op : Operator} {ti : TIp} {pos' : Pos} (hN : X.N.Nodup) (hi : X.N[i]? = some x) (hx : Loc X.env.scope x) (he : PE X e te) (ho : PIp X op ti) (hf : X.fn x = true ∨ X.env.scope.names.lookup x = some .local := by first | exact .inl rfl | exact .inr rfl | assumption) :
    PS X (.AugAssign (.Name x pos') op e pos) (tAug i te ti) := by
  intro pins s σ H D I h
  obtain ⟨v, e1, h⟩ := h
  obtain ⟨m, hn, hl⟩ := I.loc
  have vis : Vis X.env.scope x := by rcases hx with k | k; exact .inl k; exact .inr (.inl k)
  obtain ⟨u, r, l⟩ := hl i x v hi e1 vis
  refine wpAny_AugAssign_Name ?_
  have go : wpAny (model X.prog X.w) X.A (eval e X.env) (fun w s₂ => wpAny (model X.prog X.w) X.A (inplaceOp op u w) (fun r s₃ => wpAny (model X.prog X.w) X.A (storeName X.env x r) (fun _ => SP X pins D .next) X.xe s₃) X.xe s₂) X.xe s := by
    refine thn (he pins s σ H _ I h) ?_
    rintro w s1 ⟨y, H1, I1, r1, q1⟩
    refine thn (ho pins s1 σ H1 v y u w _ I1 r r1 q1) ?_
    rintro z s2 ⟨zv, H2, I2, r2, q2⟩
    exact store_ok I2 hN hi hx r2 (fun s3 I3 => ⟨_, H2, I3, q2⟩) hf
  rcases l with ⟨hk, hm⟩ | ⟨hk, c, hc, hcell⟩
  · exact wpAny_loadName_local I.ok.kind hk hn hm go
  · rcases hk with hk | hk
    · exact wpAny_loadName_cell I.ok.kind hk hc hcell go
    · rcases hx with k | k
      · have : X.env.scope.names.lookup x = some .free := hk
        rw [k] at this; cases this
      · have : X.env.scope.names.lookup x = some .free := hk
        rw [k] at this; cases this
def ipI (f : Int → Int → Int) : TIp := fun x y H Q => ∃ i j, x = .int i ∧ y = .int j ∧ Q (.int (f i j)) H
theorem ip_add : PIp X .Add (ipI fun i j => i + j) := by
  intro pins s σ H x y v u Q I r1 r2 h
  obtain ⟨i, j, e1, e2, q⟩ := h
  subst e1; subst e2
  obtain ⟨t, rfl⟩ := r1
  obtain ⟨t', rfl⟩ := r2
  exact iadd_int ⟨.int _, H, I.tok _, ⟨_, rfl⟩, q⟩
end
section
variable {X : Cx} {pos : Pos}
def tWhile (c : TT) (tb : TS) : TS := fun D σ H => ∃ W : Nat → St → Hp → Prop, (∃ m, W m σ H) ∧ ∀ m σ H, W m σ H →
  c σ H fun b H1 => if b = true then ∃ N : St → Hp → Prop, (∀ σ' H', N σ' H' → ∃ m', m' < m ∧ W m' σ' H') ∧ tb { D with nx := N, ct := N, bk := D.nx } σ H1 else D.nx σ H1
theorem ps_while {c : Expr} {body : List Stmt} {tc : TT} {tb : TS} (hp : PassesOwn (model X.prog X.w) X.A X.env X.xe) (hc : PT X c tc) (hb : PSs X body tb) : PS X (.While c body [] pos) (tWhile tc tb) := by
  intro pins s σ H D I h
  obtain ⟨W, ⟨m0, w0⟩, turn⟩ := h
  refine wpAny_While (codeAny_whileLoop (fun n s' => ∃ σ' H', Inv X pins σ' H' s' ∧ W n σ' H') ?_ m0 ⟨σ, H, I, w0⟩)
  rintro n s1 ⟨σ1, H1, I1, w1⟩
  refine wpAny_passesOwn hp (thn (hc pins s1 σ1 H1 _ I1 (turn n σ1 H1 w1)) ?_)
  rintro b s2 ⟨H2, I2, q2⟩
  cases b with
  | true =>
    obtain ⟨N, hN, q2⟩ := q2
    rw [if_pos rfl]
    refine wpAny_passesOwn hp (thn (hb pins s2 σ1 H2 _ I2 q2) fun f s3 q3 => ?_)
    cases f with
    | next =>
      obtain ⟨σ3, H3, I3, n3⟩ := q3
      obtain ⟨m', hm, w3⟩ := hN σ3 H3 n3
      exact ⟨m', hm, σ3, H3, I3, w3⟩
    | cont =>
      obtain ⟨σ3, H3, I3, n3⟩ := q3
      obtain ⟨m', hm, w3⟩ := hN σ3 H3 n3
      exact ⟨m', hm, σ3, H3, I3, w3⟩
    | brk => exact q3
    | ret v => exact q3
  | false =>
    rw [if_neg Bool.false_ne_true]
    exact wpAny_execs_nil ⟨σ1, H2, I2, q2⟩
end
structure It where
  go : Nat → Hp → Prop
  yld : Nat → Hp → V → Hp → Prop
  stop : Nat → Hp → Prop
def FpOk (X : Cx) (pins : List (Addr × Obj)) (H : Hp) (b : Addr) : Prop :=
  H b = none ∧ b ≠ X.env.locals ∧ b ∉ X.fs ∧ (b ∈ X.ex ∨ X.s₀.heap.objs.size ≤ b) ∧ (∀ x c, X.env.cells.lookup x = some c → c ≠ b) ∧ ∀ p ∈ X.pn ++ pins, p.1 ≠ b
theorem Inv.fpOk {X : Cx} {pins : List (Addr × Obj)} {σ : St} {H H' : Hp} {s : Shared} {b : Addr} (I : Inv X pins σ H s) (hb : s.heap.objs.size ≤ b) (hn : H' b = none) : FpOk X pins H' b := by
  refine ⟨hn, Nat.ne_of_gt (Nat.lt_of_lt_of_le I.lt hb), I.nofs hb, .inr (Nat.le_trans I.sz hb), fun x c e z => ?_, fun p hp z => ?_⟩
  · obtain ⟨v, q⟩ := I.cell x c e
    exact absurd (Nat.lt_of_lt_of_le q.lt (by rw [z]; exact hb)) (Nat.lt_irrefl _)
  · exact absurd (Nat.lt_of_lt_of_le (Heap.lt_size (I.pin p hp).1) (by rw [z]; exact hb)) (Nat.lt_irrefl _)
structure Turn (P : Program) (w : World) (K : PySem.W.Frag) (tg : Expr) (J : It) (fp : List Addr) (it : Addr) (tn : Nat → Heap → Prop) : Prop where
  mem : it ∈ fp
  obj : ∀ i h, tn i h → ∀ b ∈ fp, ∃ o, h.get? b = some o ∧ ∀ v, o.data ≠ .cell v
  keep : ∀ i h h', tn i h → (∀ b ∈ fp, ∀ o, h.get? b = some o → h'.get? b = some o) → tn i h'
  item : ∀ (X : Cx), X.prog = P → X.w = w → X.K = K → X.calm = true → ∀ (i : Nat) (pins : List (Addr × Obj)) (s : Shared) (σ : St) (H : Hp) (E : Value → Shared → Prop), Inv X pins σ H s → (∀ b ∈ fp, FpOk X pins H b) → tn i s.heap → J.go i H →
    wpAny (model P w) X.A (pyNext (.ref it)) (fun r s1 => ∃ u, r = some u ∧
      wpAny (model P w) X.A (letOwnedTupleGo tg (.ref it) u) (fun _ s2 => ∃ x H', Inv X pins σ H' s2 ∧ RelV x u ∧ J.yld i H x H' ∧ tn (i + 1) s2.heap ∧ ∀ b ∈ fp, H' b = none) E s1) E s
  done : ∀ (X : Cx), X.prog = P → X.w = w → X.K = K → X.calm = true → ∀ (i : Nat) (pins : List (Addr × Obj)) (s : Shared) (σ : St) (H : Hp) (E : Value → Shared → Prop), Inv X pins σ H s → (∀ b ∈ fp, FpOk X pins H b) → tn i s.heap → J.stop i H →
    wpAny (model P w) X.A (pyNext (.ref it)) (fun r s1 => r = none ∧ Inv X pins σ H s1) E s
  self : ∀ (A : Around) (i : Nat) (s : Shared) (Q : Value → Shared → Prop) (E : Value → Shared → Prop), tn i s.heap → Q (.ref it) s → wpAny (model P w) A (pyIter (.ref it)) Q E s
abbrev TI := St → Hp → (It → Hp → Prop) → Prop
def PIE (X : Cx) (pins : List (Addr × Obj)) (σ : St) (tg : Expr) (R : It → Hp → Prop) (itv : Value) (s2 : Shared) : Prop :=
  ∃ (it : Addr) (fp : List Addr) (tn : Nat → Heap → Prop) (J : It) (H' : Hp), itv = .ref it ∧ Inv X pins σ H' s2 ∧ Turn X.prog X.w X.K tg J fp it tn ∧ tn 0 s2.heap ∧ (∀ b ∈ fp, FpOk X pins H' b) ∧ R J H'
def PI (X : Cx) (tg iter : Expr) (wi : TI) : Prop :=
  ∀ (pins : List (Addr × Obj)) (s : Shared) (σ : St) (H : Hp) (R : It → Hp → Prop), Inv X pins σ H s → wi σ H R →
    wpAny (model X.prog X.w) X.A (eval iter X.env) (fun v s1 => wpAny (model X.prog X.w) X.A (pyIter v) (PIE X pins σ tg R) X.xe s1) X.xe s
theorem go_of {M : Model} {A : Around} {E : Value → Shared → Prop} {s : Shared} {tg : Expr} {it : Addr} {u : Value} {o : Obj} {n : String} {vs : Array Value} {Q : Unit → Shared → Prop} (ho : s.heap.get? it = some o) (hc : o.cls = .type n) (hd : o.data = .fields vs)
    (hn : ["enumerate", "zip", "dict_itemiterator", "dict_reverseitemiterator", "odict_iterator", "itertools.zip_longest", "itertools.pairwise"].contains n = false) (hQ : Q () s) : wpAny M A (letOwnedTupleGo tg (.ref it) u) Q E s := by
  unfold letOwnedTupleGo
  cases tg <;> first
    | exact wpAny_pure hQ
    | (cases u <;> first
        | exact wpAny_pure hQ
        | (refine wpAny_bind (wpAny_load ho ?_)
           rw [hc, hd]
           show wpAny M A (if (["enumerate", "zip", "dict_itemiterator", "dict_reverseitemiterator", "odict_iterator", "itertools.zip_longest", "itertools.pairwise"].contains n && vs[0]? == some (rawInt _)) = true then _ else _) Q E s
           rw [if_neg (by intro h; rw [hn, Bool.false_and] at h; cases h)]
           exact wpAny_pure hQ))
def Itl (K : PySem.W.Frag) (a : Addr) : It :=
  ⟨fun i H => ∃ xs x, SqL K H a xs ∧ xs[i]? = some x, fun i H x H' => H' = H ∧ ∀ xs, SqL K H a xs → xs[i]? = some x, fun i H => ∃ xs, SqL K H a xs ∧ xs.length ≤ i⟩
def Itt (K : PySem.W.Frag) (a : Addr) : It :=
  ⟨fun i H => ∃ xs x, SqT K H a xs ∧ xs[i]? = some x, fun i H x H' => H' = H ∧ ∀ xs, SqT K H a xs → xs[i]? = some x, fun i H => ∃ xs, SqT K H a xs ∧ xs.length ≤ i⟩
def Itr (lo : Int) (n : Nat) : It := ⟨fun i _ => i < n, fun i H x H' => H' = H ∧ x = .int (lo + i), fun i _ => n ≤ i⟩
theorem turn_list {P : Program} {w : World} {K : PySem.W.Frag} {tg : Expr} (a it : Addr) : Turn P w K tg (Itl K a) [it] it (fun i h => h.IsListIter it a i) where
  mem := by simp
  obj := fun i h st b hb => by
    have e : b = it := by simpa using hb
    subst e
    obtain ⟨o, e, c, d⟩ := st
    exact ⟨o, e, fun v z => by rw [d] at z; cases z⟩
  keep := fun i h h' st k => st.at fun o e => k it (by simp) o e
  item := by
    intro X hP hw hK hc i pins s σ H E I hf st hg
    subst hP hw hK
    obtain ⟨xs, x, hq, hx⟩ := hg
    obtain ⟨its, rv, p, hz⟩ := I.list hq
    obtain ⟨u, hu, ru⟩ := rv.get hx
    obtain ⟨f0, f1, f2, f3, f4, f5⟩ := hf it (by simp)
    refine wpAny_pyNext_list_item st p.isList (x := u) (by simpa using hu) fun h' st' sb => ?_
    have I1 : Inv X pins σ H { s with heap := h' } := I.turned (t' := s.toks) (fun b o hb e => (sb.2 b hb).trans e) f0 f1 f3 f4 f5
    obtain ⟨o, e, c, d⟩ := id st'
    exact ⟨u, rfl, go_of (s := { s with heap := h' }) e c d (by decide) ⟨x, H, I1, ru, ⟨rfl, fun ys hy => by rw [I.list_inj hy hq]; exact hx⟩, st', fun b hb => (hf b hb).1⟩⟩
  done := by
    intro X hP hw hK hc i pins s σ H E I hf st hg
    subst hP hw hK
    obtain ⟨xs, hq, hx⟩ := hg
    obtain ⟨its, rv, p, hz⟩ := I.list hq
    obtain ⟨f0, f1, f2, f3, f4, f5⟩ := hf it (by simp)
    have hl := rv.length
    exact wpAny_pyNext_list_end (I.ok.hd hc) st p.isList (by simp; omega) fun h' eb => ⟨rfl, I.turned (t' := s.toks) (fun b o hb e => eb b o hb e) f0 f1 f3 f4 f5⟩
  self := fun _ _ _ _ _ st h => wpAny_pyIter_listiter st h
theorem turn_tuple {P : Program} {w : World} {K : PySem.W.Frag} {tg : Expr} (a it : Addr) : Turn P w K tg (Itt K a) [it] it (fun i h => h.IsTupleIter it a i) where
  mem := by simp
  obj := fun i h st b hb => by
    have e : b = it := by simpa using hb
    subst e
    obtain ⟨o, e, c, d⟩ := st
    exact ⟨o, e, fun v z => by rw [d] at z; cases z⟩
  keep := fun i h h' st k => st.at fun o e => k it (by simp) o e
  item := by
    intro X hP hw hK hc i pins s σ H E I hf st hg
    subst hP hw hK
    obtain ⟨xs, x, hq, hx⟩ := hg
    obtain ⟨its, rv, p, hz⟩ := I.tuple hq
    obtain ⟨u, hu, ru⟩ := rv.get hx
    obtain ⟨f0, f1, f2, f3, f4, f5⟩ := hf it (by simp)
    refine wpAny_pyNext_tuple_item st (show s.heap.IsTuple a its.toArray from p) (x := u) (by simpa using hu) fun h' st' sb => ?_
    have I1 : Inv X pins σ H { s with heap := h' } := I.turned (t' := s.toks) (fun b o hb e => (sb.2 b hb).trans e) f0 f1 f3 f4 f5
    obtain ⟨o, e, c, d⟩ := id st'
    exact ⟨u, rfl, go_of (s := { s with heap := h' }) e c d (by decide) ⟨x, H, I1, ru, ⟨rfl, fun ys hy => by rw [I.tuple_inj hy hq]; exact hx⟩, st', fun b hb => (hf b hb).1⟩⟩
  done := by
    intro X hP hw hK hc i pins s σ H E I hf st hg
    subst hP hw hK
    obtain ⟨xs, hq, hx⟩ := hg
    obtain ⟨its, rv, p, hz⟩ := I.tuple hq
    obtain ⟨f0, f1, f2, f3, f4, f5⟩ := hf it (by simp)
    have hl := rv.length
    exact wpAny_pyNext_tuple_end (I.ok.hd hc) st (show s.heap.IsTuple a its.toArray from p) (by simp; omega) fun h' eb => ⟨rfl, I.turned (t' := s.toks) (fun b o hb e => eb b o hb e) f0 f1 f3 f4 f5⟩
  self := fun _ _ _ _ _ st h => wpAny_pyIter_tupleiter st h
theorem turn_range {P : Program} {w : World} {K : PySem.W.Frag} {tg : Expr} (it : Addr) (lo : Int) (n : Nat) : Turn P w K tg (Itr lo n) [it] it (fun i h => IsRangeIter h it (lo + (i : Nat) * 1) ((n : Int) - (i : Nat)) 1) where
  mem := by simp
  obj := fun i h st b hb => by
    have e : b = it := by simpa using hb
    subst e
    exact ⟨_, st, fun v z => by
      have z' : Data.fields _ = Data.cell v := z
      cases z'⟩
  keep := fun i h h' st k => k it (by simp) _ st
  item := by
    intro X hP hw hK hc i pins s σ H E I hf st hg
    subst hP hw hK
    obtain ⟨f0, f1, f2, f3, f4, f5⟩ := hf it (by simp)
    have W := Walks.range (prog := X.prog) (w := X.w) (I.ok.hd hc) it lo 1 n
    refine W.item i s _ _ hg st fun v h' tk hv st' kk => ?_
    obtain ⟨t, rfl⟩ := hv
    have I1 : Inv X pins σ H { s with heap := h', toks := tk } := I.turned (fun b o hb e => kk b o (by simpa using hb) e) f0 f1 f3 f4 f5
    refine ⟨_, rfl, go_of (s := { s with heap := h', toks := tk }) (n := "range_iterator") st' rfl rfl (by decide) ⟨.int (lo + i), H, I1, ⟨t, ?_⟩, ⟨rfl, rfl⟩, st', fun b hb => (hf b hb).1⟩⟩
    rw [Int.mul_one]
  done := by
    intro X hP hw hK hc i pins s σ H E I hf st hg
    subst hP hw hK
    obtain ⟨f0, f1, f2, f3, f4, f5⟩ := hf it (by simp)
    exact wpAny_pyNext_range_end (I.ok.hd hc) st (by have : n ≤ i := hg; omega) fun h' eb => ⟨rfl, I.turned (t' := s.toks) (fun b o hb e => eb b o hb e) f0 f1 f3 f4 f5⟩
  self := fun _ _ _ _ _ st h => wpAny_pyIter_rangeiter st h
end L2
namespace L2
open PySem PySem.Spec PyProof.Rows
section
variable {X : Cx} {tg : Expr}
theorem range_it {pins : List (Addr × Obj)} {σ : St} {H : Hp} {s : Shared} {R : It → Hp → Prop} {E : Value → Shared → Prop} {lo hi : Int} {t u v : Tok} {tk : Nat} (I : Inv X pins σ H s) (h1 : -(2 ^ 62) ≤ lo) (h2 : lo < 2 ^ 62) (h3 : -(2 ^ 62) ≤ hi) (h4 : hi < 2 ^ 62)
    (q : R (Itr lo (hi - lo).toNat) H) : wpAny (model X.prog X.w) X.A (pyIter (.ref s.heap.objs.size)) (PIE X pins σ tg R) E { s with heap := s.heap.push { cls := .type "range", data := .fields #[.int lo t, .int hi u, .int 1 v] }, toks := tk } := by
  refine wpAny_pyIter_range (IsRange.new ..) (small_one h1 h2 h3 h4) ?_
  have I1 : Inv X pins σ H { s with heap := s.heap.push { cls := .type "range", data := .fields #[.int lo t, .int hi u, .int 1 v] }, toks := tk } := I.kept fun b o e => Heap.get?_push_of_some _ e
  refine ⟨(s.heap.push { cls := .type "range", data := .fields #[.int lo t, .int hi u, .int 1 v] }).objs.size, [(s.heap.push { cls := .type "range", data := .fields #[.int lo t, .int hi u, .int 1 v] }).objs.size], _, _, H, rfl,
    I1.kept (t' := tk) fun b o e => Heap.get?_push_of_some _ e, turn_range _ lo (hi - lo).toNat, ?_, fun b hb => ?_, q⟩
  · have e1 : lo + ((0 : Nat) : Int) * 1 = lo := by simp
    have e2 : (((hi - lo).toNat : Nat) : Int) - ((0 : Nat) : Int) = Builtin.Range.rangeSize lo hi 1 := by rw [rangeSize_one]; split <;> omega
    show IsRangeIter _ _ (lo + ((0 : Nat) : Int) * 1) ((((hi - lo).toNat : Nat) : Int) - ((0 : Nat) : Int)) 1
    rw [e1, e2]
    exact Heap.get?_push_size _ rfl
  · have e : b = (s.heap.push { cls := .type "range", data := .fields #[.int lo t, .int hi u, .int 1 v] }).objs.size := by simpa using hb
    subst e
    exact I1.fpOk (Nat.le_refl _) (I1.hok.fresh (Nat.le_refl _))
def iRng1 (ta : TA) : TI := fun σ H R => ta σ H fun vs H1 => ∃ j : Int, vs = [.int j] ∧ -(2 ^ 62) ≤ j ∧ j < 2 ^ 62 ∧ R (Itr 0 j.toNat) H1
theorem pi_range1 {a : Expr} {ta : TA} {p pos : Pos} (hg : Gl X "range") (hm : X.mg "range" = none) (ha : PA X [a] ta) (hs : starEach [a] X.env = [(false, eval a X.env)] := by rfl) : PI X tg (.Call (.Name "range" p) [a] [] pos) (iRng1 ta) := by
  intro pins s σ H R I h
  refine Call_ (ld_blt I hg hm boot_range (PyProof.Rows.callWith_type1 (thn (ha pos pins s σ H _ I h) fun us s1 ⟨vs, H1, I1, r1, q1⟩ => ?_) hs rfl))
  obtain ⟨j, e, q1, q2, q⟩ := q1
  subst e
  cases r1 with
  | cons r rr =>
    cases rr
    obtain ⟨t, rfl⟩ := r
    exact call_range_1 (range_it I1 (by omega) (by omega) q1 q2 (by simpa using q))
def tFor (wi : TI) (g : TG) (tb : TS) : TS := fun D σ H => wi σ H fun J H1 => ∃ W : Nat → Nat → St → Hp → Prop, (∃ m, W 0 m σ H1) ∧ ∀ i m σ H, W i m σ H →
  (J.stop i H ∧ D.nx σ H) ∨ (J.go i H ∧ ∃ N : St → Hp → Prop, (∀ σ' H', N σ' H' → ∃ m', m' < m ∧ W (i + 1) m' σ' H') ∧ ∀ x H', J.yld i H x H' → g x σ H' fun σ2 H2 => tb { D with nx := N, ct := N, bk := D.nx } σ2 H2)
def pinsAt (fp : List Addr) (h : Heap) : List (Addr × Obj) := fp.filterMap fun b => (h.get? b).map fun o => (b, o)
theorem mem_pinsAt {fp : List Addr} {h : Heap} {b : Addr} {o : Obj} (hb : b ∈ fp) (e : h.get? b = some o) : (b, o) ∈ pinsAt fp h := List.mem_filterMap.mpr ⟨b, hb, by rw [e]; rfl⟩
theorem of_pinsAt {fp : List Addr} {h : Heap} {p : Addr × Obj} (hp : p ∈ pinsAt fp h) : p.1 ∈ fp ∧ h.get? p.1 = some p.2 := by
  obtain ⟨b, hb, e⟩ := List.mem_filterMap.mp hp
  cases q : h.get? b with
  | none => rw [q] at e; cases e
  | some o =>
    rw [q] at e
    have e' : (b, o) = p := Option.some.inj e
    subst e'
    exact ⟨hb, q⟩
theorem Inv.pinned {pins : List (Addr × Obj)} {σ : St} {H : Hp} {s : Shared} {fp : List Addr} (I : Inv X pins σ H s) (hf : ∀ b ∈ fp, FpOk X pins H b) (ho : ∀ b ∈ fp, ∃ o, s.heap.get? b = some o ∧ ∀ v, o.data ≠ .cell v) : Inv X (pins ++ pinsAt fp s.heap) σ H s :=
  I.pins_of fun p hp => (List.mem_append.mp hp).elim (fun z => I.pin p (List.mem_append_right _ z)) fun z => by
    obtain ⟨hb, e⟩ := of_pinsAt z
    obtain ⟨f0, f1, f2, _⟩ := hf p.1 hb
    obtain ⟨o, e', d⟩ := ho p.1 hb
    rw [e] at e'; cases e'
    exact ⟨e, f0, f1, f2, d⟩
theorem Inv.unpinned {pins pl : List (Addr × Obj)} {σ : St} {H : Hp} {s : Shared} (I : Inv X (pins ++ pl) σ H s) : Inv X pins σ H s := I.pins_of fun p hp => I.pin p (List.mem_append_right _ (List.mem_append_left _ hp))
theorem ps_for {iter : Expr} {body : List Stmt} {wi : TI} {g : TG} {tb : TS} {pos : Pos} (hp : PassesOwn (model X.prog X.w) X.A X.env X.xe) (hc : X.calm = true) (hi : PI X tg iter wi) (hg : PG X tg g) (hb : PSs X body tb)
    (hs : ∀ x, foldedSetIterable iter X.env x = pure x := by intro _; rfl) : PS X (.For tg iter body [] pos) (tFor wi g tb) := by
  intro pins s σ H D I h
  refine wpAny_For (thn (hi pins s σ H _ I h) fun v s1 h1 => thn h1 fun itv s2 h2 => ?_) hs
  obtain ⟨it, fp, tn, J, H2, e, I2, T, st2, f2, W, ⟨m0, w0⟩, turn⟩ := h2
  subst e
  -- what stays true of the iterator's objects through the loop
  have stat : ∀ {H' : Hp}, (∀ b ∈ fp, H' b = none) → ∀ b ∈ fp, FpOk X pins H' b := fun hn b hb => ⟨hn b hb, (f2 b hb).2⟩
  refine codeAny_forLoop_any (fun n s' => ∃ i σ' H', Inv X pins σ' H' s' ∧ tn i s'.heap ∧ (∀ b ∈ fp, H' b = none) ∧ W i n σ' H') ?_ m0 ⟨0, σ, H2, I2, st2, fun b hb => (f2 b hb).1, w0⟩
  rintro n s3 ⟨i, σ3, H3, I3, st3, fr3, w3⟩
  rcases turn i n σ3 H3 w3 with ⟨stop, qn⟩ | ⟨go, N, hN, step⟩
  · refine wpAny_passesOwn hp (thn (T.done X rfl rfl rfl hc i pins s3 σ3 H3 X.xe I3 (stat fr3) st3 stop) ?_)
    rintro r s4 ⟨hr, I4⟩
    subst hr
    exact wpAny_execs_nil ⟨σ3, H3, I4, qn⟩
  · refine wpAny_passesOwn hp (thn (T.item X rfl rfl rfl hc i pins s3 σ3 H3 X.xe I3 (stat fr3) st3 go) ?_)
    rintro r s4 ⟨u, hr, h4⟩
    subst hr
    refine wpAny_passesOwn hp (thn h4 ?_)
    rintro _ s5 ⟨x, H5, I5, r5, y5, st5, fr5⟩
    have I5' := I5.pinned (stat fr5) (T.obj _ _ st5)
    refine wpAny_passesOwn hp (thn (hg _ s5 σ3 H5 x u _ I5' r5 (step x H5 y5)) ?_)
    rintro _ s6 ⟨σ6, H6, I6, q6⟩
    refine wpAny_passesOwn hp (thn (hb _ s6 σ6 H6 _ I6 q6) fun f s7 q7 => ?_)
    have again : ∀ {σ7 : St} {H7 : Hp}, Inv X (pins ++ pinsAt fp s5.heap) σ7 H7 s7 → N σ7 H7 → ∃ m, m < n ∧ ∃ i σ' H', Inv X pins σ' H' s7 ∧ tn i s7.heap ∧ (∀ b ∈ fp, H' b = none) ∧ W i m σ' H' := fun {σ7 H7} I7 n7 => by
      obtain ⟨m', hm, w7⟩ := hN σ7 H7 n7
      refine ⟨m', hm, i + 1, σ7, H7, I7.unpinned, T.keep _ _ _ st5 fun b hb o e => (I7.pin (b, o) (List.mem_append_right _ (List.mem_append_right _ (mem_pinsAt hb e)))).1, fun b hb => ?_, w7⟩
      obtain ⟨o, e, d⟩ := T.obj _ _ st5 b hb
      exact (I7.pin (b, o) (List.mem_append_right _ (List.mem_append_right _ (mem_pinsAt hb e)))).2.1
    cases f with
    | next => obtain ⟨σ7, H7, I7, n7⟩ := q7; exact again I7 n7
    | cont => obtain ⟨σ7, H7, I7, n7⟩ := q7; exact again I7 n7
    | brk => obtain ⟨σ7, H7, I7, q7⟩ := q7; exact ⟨σ7, H7, I7.unpinned, q7⟩
    | ret v => obtain ⟨x7, σ7, H7, I7, r7, q7⟩ := q7; exact ⟨x7, σ7, H7, I7.unpinned, r7, q7⟩
end
end L2
namespace L2
open PySem PySem.Spec PyProof.Rows
abbrev R2 := V → V → Hp → VK → Prop
def OpR (X : Cx) (f : Value → Value → Sem Value) (r : R2) : Prop :=
  ∀ (pins : List (Addr × Obj)) (s : Shared) (σ : St) (H : Hp) (x y : V) (v u : Value) (Q : VK), Inv X pins σ H s → RelV x v → RelV y u → r x y H Q →
    wpAny (model X.prog X.w) X.A (f v u) (EP X pins σ Q) X.xe s
def UnR (X : Cx) (f : Value → Sem Value) (r : V → Hp → VK → Prop) : Prop :=
  ∀ (pins : List (Addr × Obj)) (s : Shared) (σ : St) (H : Hp) (x : V) (v : Value) (Q : VK), Inv X pins σ H s → RelV x v → r x H Q →
    wpAny (model X.prog X.w) X.A (f v) (EP X pins σ Q) X.xe s
def CallR (X : Cx) (f : Value) (r : List V → Hp → VK → Prop) : Prop :=
  ∀ (pins : List (Addr × Obj)) (s : Shared) (σ : St) (H : Hp) (xs : List V) (us : List Value) (Q : VK), Inv X pins σ H s → Vals xs us → r xs H Q →
    wpAny (model X.prog X.w) X.A (call f us) (EP X pins σ Q) X.xe s
def TruR (X : Cx) (r : V → Hp → (Bool → Hp → Prop) → Prop) : Prop :=
  ∀ (pins : List (Addr × Obj)) (s : Shared) (σ : St) (H : Hp) (x : V) (v : Value) (Q : Bool → Hp → Prop), Inv X pins σ H s → RelV x v → r x H Q →
    wpAny (model X.prog X.w) X.A (truthy v) (TP X pins σ Q) X.xe s
def tOp (r : R2) (ta tb : TE) : TE := fun σ H Q => ta σ H fun x H1 => tb σ H1 fun y H2 => r x y H2 Q
def tUn (r : V → Hp → VK → Prop) (ta : TE) : TE := fun σ H Q => ta σ H fun x H1 => r x H1 Q
def rI (C : Int → Int → Prop) (g : Int → Int → V) : R2 := fun x y H Q => ∃ i j, x = .int i ∧ y = .int j ∧ C i j ∧ Q (g i j) H
def rI0 (g : Int → Int → V) : R2 := fun x y H Q => ∃ i j, x = .int i ∧ y = .int j ∧ Q (g i j) H
def rU (g : Int → V) : V → Hp → VK → Prop := fun x H Q => ∃ i, x = .int i ∧ Q (g i) H
section
variable {X : Cx} {a b c : Expr} {ta tb tc : TE} {pos : Pos}
theorem binT (ha : PE X a ta) (hb : PE X b tb) {pins : List (Addr × Obj)} {s : Shared} {σ : St} {H : Hp} {R : V → V → Hp → Prop} (I : Inv X pins σ H s)
    (h : ta σ H fun x H1 => tb σ H1 fun y H2 => R x y H2) {Q : Value → Shared → Prop} {f : Value → Value → Sem Value}
    (hf : ∀ v u s2 x y H2, Inv X pins σ H2 s2 → RelV x v → RelV y u → R x y H2 → wpAny (model X.prog X.w) X.A (f v u) Q X.xe s2) :
    wpAny (model X.prog X.w) X.A (eval a X.env) (fun v s₁ => wpAny (model X.prog X.w) X.A (eval b X.env) (fun u s₂ => wpAny (model X.prog X.w) X.A (f v u) Q X.xe s₂) X.xe s₁) X.xe s := by
  refine thn (ha pins s σ H _ I h) ?_
  rintro v s1 ⟨x, H1, I1, r1, q1⟩
  refine thn (hb pins s1 σ H1 _ I1 q1) ?_
  rintro u s2 ⟨y, H2, I2, r2, q2⟩
  exact hf v u s2 x y H2 I2 r1 r2 q2
theorem pe_op {op : Operator} {r : R2} (ho : OpR X (binaryOp op) r) (ha : PE X a ta) (hb : PE X b tb) : PE X (.BinOp a op b pos) (tOp r ta tb) := by
  intro pins s σ H Q I h
  exact wpAny_BinOp (binT ha hb I h fun v u s2 x y H2 I2 rx ry q => ho pins s2 σ H2 x y v u Q I2 rx ry q)
theorem pe_un {op : UnaryOp} {r : V → Hp → VK → Prop} (ho : UnR X (unaryOp op) r) (ha : PE X a ta) : PE X (.UnaryOp op a pos) (tUn r ta) := by
  intro pins s σ H Q I h
  exact UnaryOp_ (thn (ha pins s σ H _ I h) fun v s1 ⟨x, H1, I1, r1, q1⟩ => ho pins s1 σ H1 x v Q I1 r1 q1)
theorem opI {f : Value → Value → Sem Value} {C : Int → Int → Prop} {g : Int → Int → Int}
    (rule : ∀ (i j : Int) (t u : Tok) (s : Shared) (Q : Value → Shared → Prop) (E : Value → Shared → Prop), C i j → Q (.int (g i j) s.toks) { s with toks := s.toks + 1 } → wpAny (model X.prog X.w) X.A (f (.int i t) (.int j u)) Q E s) :
    OpR X f (rI C fun i j => .int (g i j)) := by
  intro pins s σ H x y v u Q I rx ry h
  obtain ⟨i, j, rfl, rfl, hc, q⟩ := h
  obtain ⟨t, rfl⟩ := rx
  obtain ⟨t', rfl⟩ := ry
  exact rule i j t t' s _ _ hc ⟨.int (g i j), H, I.tok _, ⟨_, rfl⟩, q⟩
theorem opI0 {f : Value → Value → Sem Value} {g : Int → Int → Int}
    (rule : ∀ (i j : Int) (t u : Tok) (s : Shared) (Q : Value → Shared → Prop) (E : Value → Shared → Prop), Q (.int (g i j) s.toks) { s with toks := s.toks + 1 } → wpAny (model X.prog X.w) X.A (f (.int i t) (.int j u)) Q E s) :
    OpR X f (rI0 fun i j => .int (g i j)) := by
  intro pins s σ H x y v u Q I rx ry h
  obtain ⟨i, j, rfl, rfl, q⟩ := h
  obtain ⟨t, rfl⟩ := rx
  obtain ⟨t', rfl⟩ := ry
  exact rule i j t t' s _ _ ⟨.int (g i j), H, I.tok _, ⟨_, rfl⟩, q⟩
theorem opB0 {f : Value → Value → Sem Value} {g : Int → Int → Bool}
    (rule : ∀ (i j : Int) (t u : Tok) (s : Shared) (Q : Value → Shared → Prop) (E : Value → Shared → Prop), Q (.bool (g i j)) s → wpAny (model X.prog X.w) X.A (f (.int i t) (.int j u)) Q E s) :
    OpR X f (rI0 fun i j => .bl (g i j)) := by
  intro pins s σ H x y v u Q I rx ry h
  obtain ⟨i, j, rfl, rfl, q⟩ := h
  obtain ⟨t, rfl⟩ := rx
  obtain ⟨t', rfl⟩ := ry
  exact rule i j t t' s _ _ ⟨.bl (g i j), H, I, rfl, q⟩
def CDiv (i j : Int) : Prop := 0 < j ∧ j < 1073741824
def CPow (i j : Int) : Prop := 0 ≤ j ∧ j ≤ 1000000 ∧ i.natAbs < 2 ^ 64
def CMul (i j : Int) : Prop := (-(2 ^ 64) < i ∧ i < 2 ^ 64) ∨ (-(2 ^ 64) < j ∧ j < 2 ^ 64)
theorem CMul.ok {i j : Int} (h : CMul i j) : IntMulOk i j := by
  rcases h with ⟨h1, h2⟩ | ⟨h1, h2⟩
  · exact .of_left (intBits_le_64 h1 h2)
  · exact .of_right (intBits_le_64 h1 h2)
theorem op_add : OpR X (binaryOp .Add) (rI0 fun i j => .int (i + j)) := opI0 fun _ _ _ _ _ _ _ q => add_int q
theorem op_sub : OpR X (binaryOp .Sub) (rI0 fun i j => .int (i - j)) := opI0 fun _ _ _ _ _ _ _ q => sub_int q
theorem op_mul : OpR X (binaryOp .Mult) (rI CMul fun i j => .int (i * j)) := opI fun _ _ _ _ _ _ _ hc q => mul_int q hc.ok
theorem op_fdiv : OpR X (binaryOp .FloorDiv) (rI CDiv fun i j => .int (i / j)) := opI fun i j _ _ _ _ _ hc q => by
  have h1 : (0 : Int) < j := hc.1
  have h2 : j < 1073741824 := hc.2
  exact floordiv_int (by omega) (by rw [Int.fdiv_eq_ediv_of_nonneg i (by omega)]; exact q) (.inl (PyProof.noPylong_small (by omega)))
theorem op_mod : OpR X (binaryOp .Mod) (rI (fun _ j => 0 < j) fun i j => .int (i % j)) := opI fun i j _ _ _ _ _ hc q => by
  have h1 : (0 : Int) < j := hc
  exact mod_int' (by omega) (by rw [Int.fmod_eq_emod_of_nonneg i (by omega)]; exact q)
theorem op_pow : OpR X (binaryOp .Pow) (rI CPow fun i j => .int (i ^ j.toNat)) := opI fun _ _ _ _ _ _ _ hc q => pow_int_small hc.1 hc.2.1 hc.2.2 q
theorem unI {f : Value → Sem Value} {g : Int → Int}
    (rule : ∀ (i : Int) (t : Tok) (s : Shared) (Q : Value → Shared → Prop) (E : Value → Shared → Prop), Q (.int (g i) s.toks) { s with toks := s.toks + 1 } → wpAny (model X.prog X.w) X.A (f (.int i t)) Q E s) :
    UnR X f (rU fun i => .int (g i)) := by
  intro pins s σ H x v Q I rx h
  obtain ⟨i, rfl, q⟩ := h
  obtain ⟨t, rfl⟩ := rx
  exact rule i t s _ _ ⟨.int (g i), H, I.tok _, ⟨_, rfl⟩, q⟩
theorem un_neg : UnR X (unaryOp .USub) (rU fun i => .int (-i)) := unI fun _ _ _ _ _ q => neg_int q
end
def scal : V → V → Bool
  | .non, .non => true | .non, .int _ => true | .int _, .non => true | .non, .bl _ => true | .bl _, .non => true | .non, .str _ => true | .str _, .non => true
  | .int _, .int _ => true | .bl _, .bl _ => true | .str _, .str _ => true | .byt _, .byt _ => true
  | .int _, .str _ => true | .str _, .int _ => true | .bl _, .str _ => true | .str _, .bl _ => true
  | _, _ => false
def rEq : R2 := fun x y H Q => scal x y = true ∧ Q (.bl (decide (x = y))) H
def rNe : R2 := fun x y H Q => scal x y = true ∧ Q (.bl (!decide (x = y))) H
theorem dec_int {i j : Int} : decide (V.int i = V.int j) = (i == j) := by
  rw [Bool.eq_iff_iff]
  simp
theorem dec_bl {i j : Bool} : decide (V.bl i = V.bl j) = (i == j) := by
  rw [Bool.eq_iff_iff]
  simp
theorem dec_str {i j : Str} : decide (V.str i = V.str j) = (i == j) := by
  rw [Bool.eq_iff_iff]
  simp
theorem dec_byt {i j : Array UInt8} : decide (V.byt i = V.byt j) = (i.toList == j.toList) := by
  rw [Bool.eq_iff_iff]
  cases i
  cases j
  simp
section
variable {X : Cx} {a b c : Expr} {ta tb tc : TE} {pos : Pos}
theorem fin_bl {pins : List (Addr × Obj)} {σ : St} {H : Hp} {s : Shared} {Q : VK} {k k' : Bool} (I : Inv X pins σ H s) (q : Q (.bl k) H) (e : k = k') : EP X pins σ Q (.bool k') s := by
  subst e
  exact ⟨.bl k, H, I, rfl, q⟩
theorem op_eq : OpR X (compareOp .Eq) rEq := by
  intro pins s σ H x y v u Q I rx ry h
  obtain ⟨hs, q⟩ := h
  cases x with
  | non =>
    cases rx
    cases y with
    | non => cases ry; exact PySem.EqNone.eq_none_none (fin_bl I q (by simp))
    | bl j => cases ry; exact PySem.EqNone.eq_none_bool (fin_bl I q (by simp))
    | int j => obtain ⟨t', rfl⟩ := ry; exact PySem.EqNone.eq_none_int (fin_bl I q (by simp))
    | str j => obtain ⟨t', rfl⟩ := ry; exact PySem.EqNone.eq_none_str (fin_bl I q (by simp))
    | _ => exact absurd (show false = true from hs) Bool.false_ne_true
  | bl i =>
    cases rx
    cases y with
    | non => cases ry; exact PySem.EqNone.eq_bool_none (fin_bl I q (by simp))
    | bl j => cases ry; exact eq_bool (fin_bl I q dec_bl)
    | str j => obtain ⟨t', rfl⟩ := ry; exact PySem.EqMixed.eq_bool_str (fin_bl I q (by simp))
    | _ => exact absurd (show false = true from hs) Bool.false_ne_true
  | int i =>
    obtain ⟨t, rfl⟩ := rx
    cases y with
    | non => cases ry; exact PySem.EqNone.eq_int_none (fin_bl I q (by simp))
    | int j => obtain ⟨t', rfl⟩ := ry; exact eq_int (fin_bl I q dec_int)
    | str j => obtain ⟨t', rfl⟩ := ry; exact PySem.EqMixed.eq_int_str (fin_bl I q (by simp))
    | _ => exact absurd (show false = true from hs) Bool.false_ne_true
  | str i =>
    obtain ⟨t, rfl⟩ := rx
    cases y with
    | non => cases ry; exact PySem.EqNone.eq_str_none (fin_bl I q (by simp))
    | bl j => cases ry; exact PySem.EqMixed.eq_str_bool (fin_bl I q (by simp))
    | int j => obtain ⟨t', rfl⟩ := ry; exact PySem.EqMixed.eq_str_int (fin_bl I q (by simp))
    | str j => obtain ⟨t', rfl⟩ := ry; exact eq_str (fin_bl I q dec_str)
    | _ => exact absurd (show false = true from hs) Bool.false_ne_true
  | byt i =>
    obtain ⟨t, rfl⟩ := rx
    cases y with
    | byt j => obtain ⟨t', rfl⟩ := ry; exact PySem.W.eq_bytes (fin_bl I q dec_byt)
    | _ => exact absurd (show false = true from hs) Bool.false_ne_true
  | _ => cases y <;> exact absurd (show false = true from hs) Bool.false_ne_true
theorem op_ne : OpR X (compareOp .NotEq) rNe := by
  intro pins s σ H x y v u Q I rx ry h
  obtain ⟨hs, q⟩ := h
  cases x with
  | non =>
    cases rx
    cases y with
    | non => cases ry; exact PySem.EqNone.ne_none_none (fin_bl I q (by simp))
    | bl j => cases ry; exact PySem.EqNone.ne_none_bool (fin_bl I q (by simp))
    | int j => obtain ⟨t', rfl⟩ := ry; exact PySem.EqNone.ne_none_int (fin_bl I q (by simp))
    | str j => obtain ⟨t', rfl⟩ := ry; exact PySem.EqNone.ne_none_str (fin_bl I q (by simp))
    | _ => exact absurd (show false = true from hs) Bool.false_ne_true
  | bl i =>
    cases rx
    cases y with
    | non => cases ry; exact PySem.EqNone.ne_bool_none (fin_bl I q (by simp))
    | bl j => cases ry; exact ne_bool (fin_bl I q (congrArg not dec_bl))
    | str j => obtain ⟨t', rfl⟩ := ry; exact PySem.EqMixed.ne_bool_str (fin_bl I q (by simp))
    | _ => exact absurd (show false = true from hs) Bool.false_ne_true
  | int i =>
    obtain ⟨t, rfl⟩ := rx
    cases y with
    | non => cases ry; exact PySem.EqNone.ne_int_none (fin_bl I q (by simp))
    | int j => obtain ⟨t', rfl⟩ := ry; exact ne_int (fin_bl I q (congrArg not dec_int))
    | str j => obtain ⟨t', rfl⟩ := ry; exact PySem.EqMixed.ne_int_str (fin_bl I q (by simp))
    | _ => exact absurd (show false = true from hs) Bool.false_ne_true
  | str i =>
    obtain ⟨t, rfl⟩ := rx
    cases y with
    | non => cases ry; exact PySem.EqNone.ne_str_none (fin_bl I q (by simp))
    | bl j => cases ry; exact PySem.EqMixed.ne_str_bool (fin_bl I q (by simp))
    | int j => obtain ⟨t', rfl⟩ := ry; exact PySem.EqMixed.ne_str_int (fin_bl I q (by simp))
    | str j => obtain ⟨t', rfl⟩ := ry; exact ne_str (fin_bl I q (congrArg not dec_str))
    | _ => exact absurd (show false = true from hs) Bool.false_ne_true
  | byt i =>
    obtain ⟨t, rfl⟩ := rx
    cases y with
    | byt j => obtain ⟨t', rfl⟩ := ry; exact PySem.W.ne_bytes (fin_bl I q (congrArg not dec_byt))
    | _ => exact absurd (show false = true from hs) Bool.false_ne_true
  | _ => cases y <;> exact absurd (show false = true from hs) Bool.false_ne_true
theorem op_lt : OpR X (compareOp .Lt) (rI0 fun i j => .bl (decide (i < j))) := opB0 fun _ _ _ _ _ _ _ q => lt_int q
theorem op_le : OpR X (compareOp .LtE) (rI0 fun i j => .bl (decide (i ≤ j))) := opB0 fun _ _ _ _ _ _ _ q => le_int q
theorem op_gt : OpR X (compareOp .Gt) (rI0 fun i j => .bl (decide (j < i))) := opB0 fun _ _ _ _ _ _ _ q => gt_int q
theorem op_ge : OpR X (compareOp .GtE) (rI0 fun i j => .bl (decide (j ≤ i))) := opB0 fun _ _ _ _ _ _ _ q => ge_int q
theorem op_lt_str : OpR X (compareOp .Lt) (fun x y H Q => ∃ i j, x = .str i ∧ y = .str j ∧ Q (.bl (decide (i.cps.toList < j.cps.toList))) H) := by
  intro pins s σ H x y v u Q I rx ry h
  obtain ⟨i, j, rfl, rfl, q⟩ := h
  obtain ⟨t, rfl⟩ := rx
  obtain ⟨t', rfl⟩ := ry
  exact lt_str (fin_bl I q rfl)
theorem op_in_str : OpR X (compareOp .In) (fun x y H Q => ∃ i j, x = .str i ∧ y = .str j ∧ Q (.bl (!(Builtin.Str.occurrences j i 0 j.length 1).isEmpty)) H) := by
  intro pins s σ H x y v u Q I rx ry h
  obtain ⟨i, j, rfl, rfl, q⟩ := h
  obtain ⟨t, rfl⟩ := rx
  obtain ⟨t', rfl⟩ := ry
  exact in_str (fin_bl I q rfl)
theorem op_notN : OpR X (compareOp .IsNot) (fun x y H Q => y = .non ∧ Q (.bl (!decide (x = .non))) H) := by
  intro pins s σ H x y v u Q I rx ry h
  obtain ⟨rfl, q⟩ := h
  cases ry
  refine isnot_none_gen (fin_bl I q ?_)
  cases x <;> first
    | (cases rx; rfl)
    | (obtain ⟨t, rfl⟩ := rx; rfl)
theorem op_notin_str : OpR X (compareOp .NotIn) (fun x y H Q => ∃ i j, x = .str i ∧ y = .str j ∧ Q (.bl (!(!(Builtin.Str.occurrences j i 0 j.length 1).isEmpty))) H) := by
  intro pins s σ H x y v u Q I rx ry h
  obtain ⟨i, j, rfl, rfl, q⟩ := h
  obtain ⟨t, rfl⟩ := rx
  obtain ⟨t', rfl⟩ := ry
  exact notIn_str (fin_bl I q rfl)
theorem nomark (b : Expr) {op : CmpOp} (h : op ≠ .In := by decide) (h2 : op ≠ .NotIn := by decide) : behindInMarks op b = false := by
  have e1 : (op == CmpOp.In) = false := by cases op <;> first | rfl | exact absurd rfl h
  have e2 : (op == CmpOp.NotIn) = false := by cases op <;> first | rfl | exact absurd rfl h2
  cases b <;> simp [behindInMarks, e1, e2]
theorem pe_cmpR {op : CmpOp} {r : R2} (ho : OpR X (compareOp op) r) (ha : PE X a ta) (hb : PE X b tb) (hm : behindInMarks op b = false) : PE X (.Compare a [op] [b] pos) (tOp r ta tb) := by
  intro pins s σ H Q I h
  exact wpAny_Compare1 (binT ha hb I h fun v u s2 x y H2 I2 rx ry q => ho pins s2 σ H2 x y v u Q I2 rx ry q) hm
def tTest (t : TE) : TT := fun σ H Q => t σ H fun x H' => ∃ k, x = .bl k ∧ Q k H'
theorem pt_cmpR {op : CmpOp} {r : R2} (ho : OpR X (compareOp op) r) (ha : PE X a ta) (hb : PE X b tb) (hm : behindInMarks op b = false) : PT X (.Compare a [op] [b] pos) (tTest (tOp r ta tb)) := by
  intro pins s σ H Q I h
  refine wpAny_isTrue_Compare1 (thn (ha pins s σ H _ I h) fun v s1 ⟨x, H1, I1, r1, q1⟩ => thn (hb pins s1 σ H1 _ I1 q1) fun u s2 ⟨y, H2, I2, r2, q2⟩ =>
    thn (ho pins s2 σ H2 x y v u _ I2 r1 r2 q2) fun c s3 ⟨z, H3, I3, r3, k, e, q3⟩ => ?_) hm
  subst e
  cases r3
  exact wpAny_truthy_bool ⟨H3, I3, q3⟩
def tChain (r r' : R2) (ta tb tc : TE) : TE := fun σ H Q => ta σ H fun x H1 => tb σ H1 fun y H2 => r x y H2 fun z H3 => ∃ k, z = .bl k ∧
  (if k = true then tc σ H3 fun w' H4 => r' y w' H4 Q else Q (.bl false) H3)
theorem pt_chain {op op' : CmpOp} {r r' : R2} (ho : OpR X (compareOp op) r) (ho' : OpR X (compareOp op') r') (ha : PE X a ta) (hb : PE X b tb) (hc : PE X c tc)
    (hm : lastMarks [op, op'] [b, c] = false := by with_unfolding_all rfl) : PT X (.Compare a [op, op'] [b, c] pos) (tTest (tChain r r' ta tb tc)) := by
  intro pins s σ H Q I h
  refine isTrue_chain (thn (ha pins s σ H _ I h) fun v s1 ⟨x, H1, I1, r1, q1⟩ => test_link (thn (hb pins s1 σ H1 _ I1 q1) fun u s2 ⟨y, H2, I2, r2, q2⟩ =>
    thn (ho pins s2 σ H2 x y v u _ I2 r1 r2 q2) fun d s3 ⟨z, H3, I3, r3, k, e, q3⟩ => ?_)) hm
  subst e
  cases r3
  refine wpAny_truthy_bool ?_
  cases k with
  | false =>
    obtain ⟨k', e', q'⟩ := q3
    cases e'
    exact ite_ff ⟨H3, I3, q'⟩
  | true =>
    refine ite_tt (test_last (thn (hc pins s3 σ H3 _ I3 q3) fun w' s4 ⟨z', H4, I4, r4, q4⟩ => thn (ho' pins s4 σ H4 y z' u w' _ I4 r2 r4 q4) fun d' s5 ⟨z2, H5, I5, r5, k2, e2, q5⟩ => ?_))
    subst e2
    cases r5
    exact wpAny_truthy_bool ⟨H5, I5, q5⟩
def TruV (K : PySem.W.Frag) (x : V) (H : Hp) (k : Bool) : Prop :=
  match x with
  | .non => k = false
  | .bl b => k = b
  | .int i => k = (i != 0)
  | .str y => y.length ≤ sizeLine ∧ k = ((y.length : Int) != 0)
  | .byt y => y.size ≤ sizeLine ∧ k = ((y.size : Int) != 0)
  | .ref p => (∃ xs, SqL K H p xs ∧ k = !xs.isEmpty) ∨ (∃ xs, SqT K H p xs ∧ k = !xs.isEmpty) ∨ ∃ kvs, H p = some (.dK kvs) ∧ k = !kvs.isEmpty
  | _ => False
theorem isEmpty_kv {κ : Type} {kvs : List (κ × V)} {vs : List (κ × Value)} (r : KV kvs vs) : (!vs.isEmpty) = !kvs.isEmpty := by
  cases r <;> rfl
theorem isEmpty_of {xs : List V} {its : List Value} (r : Vals xs its) : (!its.toArray.isEmpty) = !xs.isEmpty := by
  cases r <;> simp
theorem line63 : (sizeLine : Nat) < 2 ^ 63 := by rw [sizeLine_eq]; decide
theorem tru_ok : TruR X (fun x H Q => ∃ k, TruV X.K x H k ∧ Q k H) := by
  intro pins s σ H x v Q I rx h
  obtain ⟨k, e, q⟩ := h
  have hl := line63
  have hs : sizeLine = 16777216 := sizeLine_eq
  cases x with
  | non =>
    cases rx
    have e' : k = false := e
    subst e'
    exact truthy_none ⟨H, I, q⟩
  | bl b =>
    cases rx
    have e' : k = b := e
    subst e'
    exact wpAny_truthy_bool ⟨H, I, q⟩
  | int i =>
    obtain ⟨t, rfl⟩ := rx
    have e' : k = (i != 0) := e
    subst e'
    exact PySem.P.truthy_int ⟨H, I, q⟩
  | str y =>
    obtain ⟨t, rfl⟩ := rx
    obtain ⟨hy, e'⟩ : y.length ≤ sizeLine ∧ k = ((y.length : Int) != 0) := e
    subst e'
    exact PySem.P.truthy_str (by omega) ⟨H, I.tok _, q⟩
  | byt y =>
    obtain ⟨t, rfl⟩ := rx
    obtain ⟨hy, e'⟩ : y.size ≤ sizeLine ∧ k = ((y.size : Int) != 0) := e
    subst e'
    exact PySem.W.truthy_bytes (by omega) ⟨H, I.tok _, q⟩
  | ref p =>
    cases rx
    have e' : (∃ xs, SqL X.K H p xs ∧ k = !xs.isEmpty) ∨ (∃ xs, SqT X.K H p xs ∧ k = !xs.isEmpty) ∨ ∃ kvs, H p = some (.dK kvs) ∧ k = !kvs.isEmpty := e
    rcases e' with ⟨xs, hx, e'⟩ | ⟨xs, hx, e'⟩ | ⟨kvs, hx, e'⟩
    · subst e'
      obtain ⟨its, r, pl, hz⟩ := I.list hx
      have hlen := r.length
      exact wpAny_truthy_list pl.isList (by simp only [List.size_toArray]; omega) ⟨H, I.tok _, by rw [isEmpty_of r]; exact q⟩
    · subst e'
      obtain ⟨its, r, pl, hz⟩ := I.tuple hx
      have hlen := r.length
      exact truthy_tuple pl (by simp only [List.size_toArray]; omega) ⟨H, I.tok _, by rw [isEmpty_of r]; exact q⟩
    · subst e'
      obtain ⟨hz, hS, vs, r, m⟩ : kvs.length ≤ sizeLine ∧ (p == sysModules) = false ∧ ∃ vs, KV kvs vs ∧ s.heap.DictOf (mixKind X.prog X.w) p vs := I.hok p _ hx
      have hlen : kvs.length = vs.length := Paired.length r
      exact wpAny_truthy_dict hS m (by omega) ⟨H, I.tok _, by rw [isEmpty_kv r]; exact q⟩
  | _ => exact (show False from e).elim
theorem pt_truth (ha : PE X a ta) (he : ∀ whole, isTrue a X.env whole = (do let v ← whole; standAt a.pos; holding [v] (truthy v))) :
    PT X a (fun σ H Q => ta σ H fun x H' => ∃ k, TruV X.K x H' k ∧ Q k H') := by
  intro pins s σ H Q I h
  exact isTrue_plain (thn (ha pins s σ H _ I h) fun v s1 ⟨x, H1, I1, r1, q1⟩ => tru_ok pins s1 σ H1 x v Q I1 r1 q1) (he _)
theorem op_add_str : OpR X (binaryOp .Add) (fun x y H Q => ∃ i j, x = .str i ∧ y = .str j ∧ i.length + j.length ≤ sizeLine ∧ Q (.str (i ++ j)) H) := by
  intro pins s σ H x y v u Q I rx ry h
  obtain ⟨i, j, rfl, rfl, hz, q⟩ := h
  obtain ⟨t, rfl⟩ := rx
  obtain ⟨t', rfl⟩ := ry
  exact add_str (fun t' tk => ⟨.str (i ++ j), H, I.tok _, ⟨_, rfl⟩, q⟩) hz
theorem vals1 {x : V} {us : List Value} (r : Vals [x] us) : ∃ u, us = [u] ∧ RelV x u := by
  cases r with
  | cons r1 r2 => cases r2; exact ⟨_, rfl, r1⟩
def LenV (K : PySem.W.Frag) (x : V) (H : Hp) (n : Nat) : Prop :=
  match x with
  | .str y => y.length ≤ sizeLine ∧ n = y.length
  | .byt y => y.size ≤ sizeLine ∧ n = y.size
  | .ref p => (∃ xs, SqL K H p xs ∧ n = xs.length) ∨ ∃ xs, SqT K H p xs ∧ n = xs.length
  | _ => False
theorem call_len : CallR X (.builtin "len") (fun xs H Q => ∃ x n, xs = [x] ∧ LenV X.K x H n ∧ Q (.int n) H) := by
  intro pins s σ H xs us Q I r h
  obtain ⟨x, n, rfl, e, q⟩ := h
  obtain ⟨u, rfl, rx⟩ := vals1 r
  have hl := line63
  have hs : sizeLine = 16777216 := sizeLine_eq
  cases x with
  | str y =>
    obtain ⟨t, rfl⟩ := rx
    obtain ⟨hy, e'⟩ : y.length ≤ sizeLine ∧ n = y.length := e
    subst e'
    exact len_str (by omega) ⟨.int _, H, I.tok _, ⟨_, rfl⟩, q⟩
  | byt y =>
    obtain ⟨t, rfl⟩ := rx
    obtain ⟨hy, e'⟩ : y.size ≤ sizeLine ∧ n = y.size := e
    subst e'
    exact PySem.W.len_bytes (by omega) ⟨.int _, H, I.tok _, ⟨_, rfl⟩, q⟩
  | ref p =>
    cases rx
    have e' : (∃ xs, SqL X.K H p xs ∧ n = xs.length) ∨ ∃ xs, SqT X.K H p xs ∧ n = xs.length := e
    rcases e' with ⟨xs, hx, e'⟩ | ⟨xs, hx, e'⟩
    · subst e'
      obtain ⟨its, r', pl, hz⟩ := I.list hx
      have hlen := r'.length
      exact Calls.call_len_list pl.isList (by simp only [List.size_toArray]; omega) ⟨.int xs.length, H, I.tok _, ⟨_, by simp only [List.size_toArray]; rw [hlen]⟩, q⟩
    · subst e'
      obtain ⟨its, r', pl, hz⟩ := I.tuple hx
      have hlen := r'.length
      exact len_tuple pl (by simp only [List.size_toArray]; omega) ⟨.int xs.length, H, I.tok _, ⟨_, by simp only [List.size_toArray]; rw [hlen]⟩, q⟩
  | _ => exact (show False from e).elim
end
end L2
namespace L2
open PySem PySem.Spec PyProof.Rows
structure ObjM (h : Heap) (x dx C : Addr) (mA : Str → Option Value) : Prop where
  obj : h.get? x = some (PySem.W.instObj C dx)
  ns : h.Ns1 dx mA
  ne : dx ≠ x
theorem lookIn_ns {h : Heap} {dx : Addr} {mA : Str → Option Value} (n : h.Ns1 dx mA) : ∃ od, h.get? dx = some od ∧ ∀ name, PySem.W.lookIn name od = some (mA name) := by
  obtain ⟨o, es, ep, ho, hd, hk, _, hm⟩ := n
  refine ⟨o, ho, fun name => ?_⟩
  have e := hm name
  unfold nsFind findBy at e
  rw [← Array.find?_toList] at e
  unfold PySem.W.lookIn
  rw [hd]
  dsimp only
  split
  · rename_i y q
    rw [q] at e
    exact congrArg some e
  · rename_i q
    rw [q] at e
    have a : es.toList.any (·.refKey) = false := by
      rw [List.any_eq_false]
      intro y hy
      obtain ⟨z, t, hkey⟩ := hk y (Array.mem_toList_iff.mp hy)
      simp [DictEntry.refKey, hkey]
    have a' : ¬ es.toList.any (·.refKey) = true := by rw [a]; exact Bool.false_ne_true
    rw [if_neg a']
    exact congrArg some e
theorem ObjM.look {h : Heap} {x dx C : Addr} {mA : Str → Option Value} (I : ObjM h x dx C mA) : ∃ od, PySem.W.InstAt h x (PySem.W.instObj C dx) C (some od) ∧ ∀ name, PySem.W.lookIn name od = some (mA name) :=
  let ⟨od, ho, hl⟩ := lookIn_ns I.ns
  ⟨od, ⟨I.obj, rfl, rfl, ho⟩, hl⟩
section
variable {prog : Program} {w : World} {A : Around} {E : Value → Shared → Prop} {s : Shared} {K : PySem.W.Frag} {x dx C f : Addr} {mA : Str → Option Value} {name : Str} {v : Value}
end
theorem RelO.some_of {v : V} {o : Option Value} (r : RelO (some v) o) : ∃ u, o = some u ∧ RelV v u := by
  cases o with
  | none => exact (show False from r).elim
  | some u => exact ⟨u, rfl, r⟩
section
variable {P : Program} {w : World} {H H' : Hp} {h h' : Heap} {a C dx : Addr} {fs fs' : List (Str × V)}
theorem ins_get (hok : HOk P w H h) (e : H a = some (.ins C dx fs)) : ∃ mA, ObjM h a dx C mA ∧ (∀ f, RelO (fs.lookup f) (mA f)) ∧ PySem.Within mA (fs.map (·.1)) ∧ fs.length ≤ 1000 ∧ H dx = some (.own a) := by
  obtain ⟨d, z, ne, ob, mA, n, r, q⟩ := (show ObjOk P w H h a (.ins C dx fs) from hok a _ e)
  exact ⟨mA, ⟨ob, n, ne⟩, r, q, z, d⟩
end
structure Cls (K : PySem.W.Frag) (C : Addr) : Prop where
  pg : PySem.W.plainGet K C Str.empty = true
  hd : PySem.W.hasDictIn K C = true
  po : PySem.W.plainOver K C = true
  sa : PySem.W.findIn K (.ref C) "__setattr__" = some (some (.builtin "object.__setattr__"))
theorem Cls.get {K : PySem.W.Frag} {C : Addr} (c : Cls K C) (f : Str) : PySem.W.plainGet K C f = true := c.pg
section
variable {X : Cx} {pins : List (Addr × Obj)} {σ : St} {H : Hp} {s : Shared} {a C dx : Addr} {fs : List (Str × V)} {f : Str} {v : V} {A : Around} {E : Value → Shared → Prop}
end
section
variable {X : Cx} {o e value : Expr} {f : Str} {pos pos' tpos : Pos} {ta tv : TE}
end
section
variable {X : Cx} {pins : List (Addr × Obj)} {σ : St} {H : Hp} {s : Shared} {A : Around} {E : Value → Shared → Prop} {Q : Value → Shared → Prop} {c : Value} {b : Bool}
inductive TyOf (K : PySem.W.Frag) (H : Hp) : V → Value → Prop where
  | non : TyOf K H .non (.type "NoneType")
  | bl (x : Bool) : TyOf K H (.bl x) (.type "bool")
  | int (i : Int) : TyOf K H (.int i) (.type "int")
  | str (x : Str) : TyOf K H (.str x) (.type "str")
  | flt (x : UInt64) : TyOf K H (.flt x) (.type "float")
  | lst {a : Addr} {xs : List V} (e : H a = some (.lst xs)) : TyOf K H (.ref a) (.type "list")
  | frz {a : Addr} {o : Obj} {xs : List V} (e : H a = some (.frz o (.lst xs))) : TyOf K H (.ref a) (.type "list")
  | tup {a : Addr} {xs : List V} (e : H a = some (.tup xs)) : TyOf K H (.ref a) (.type "tuple")
  | dK {a : Addr} {kvs : List (Key × V)} (e : H a = some (.dK kvs)) : TyOf K H (.ref a) (.type "dict")
  | dT {a : Addr} {kvs : List (List Key × V)} (e : H a = some (.dT kvs)) : TyOf K H (.ref a) (.type "dict")
  | ins {a C dx : Addr} {fs : List (Str × V)} (e : H a = some (.ins C dx fs)) (cl : Cls K C) (ha : PySem.W.findIn K (.ref C) "__class__" = some (some (.builtin "object.__class__")))
      (hn : PySem.W.specialIn K (.builtin "object.__class__") "__get__" = some (some (.builtin "getset_descriptor.__get__"))) (htk : PySem.W.takesIn K (.builtin "object.__class__") = some true)
      (hm : PySem.W.mroIn K C (.type "object") = some true) : TyOf K H (.ref a) (.ref C)
theorem isinst_ok {x : V} {u t : Value} (I : Inv X pins σ H s) (rx : RelV x u) (ty : TyOf X.K H x t) (e : PySem.W.kitOne X.K t c = some b) (h : ∀ tk, Q (.bool b) { s with toks := tk }) :
    wpAny (model X.prog X.w) A (call (.builtin "isinstance") [u, c]) Q E s := by
  cases ty with
  | non => cases (show u = Value.none from rx); exact PySem.W.kia_one PySem.W.kitx_none I.kIn True.intro e (fun z => nomatch z) h
  | bl y => cases (show u = Value.bool y from rx); exact PySem.W.kia_one PySem.W.kitx_bool I.kIn True.intro e (fun z => nomatch z) h
  | int i => obtain ⟨t, q⟩ := (show ∃ t, u = Value.int i t from rx); cases q; exact PySem.W.kia_one PySem.W.kitx_int I.kIn True.intro e (fun z => nomatch z) h
  | str y => obtain ⟨t, q⟩ := (show ∃ t, u = Value.str y t from rx); cases q; exact PySem.W.kia_one PySem.W.kitx_str I.kIn True.intro e (fun z => nomatch z) h
  | flt y => obtain ⟨t, q⟩ := (show ∃ t, u = Value.float y t from rx); cases q; exact PySem.W.kia_one PySem.W.kitx_float I.kIn True.intro e (fun z => nomatch z) h
  | @lst a xs ea =>
    cases (show u = Value.ref a from rx)
    obtain ⟨_, _, n, _, h1⟩ := (show ObjOk X.prog X.w H s.heap a (.lst xs) from I.hok a _ ea)
    exact PySem.W.kia_one PySem.W.kitx_list I.kIn ⟨_, h1, rfl⟩ e (fun z => nomatch z) h
  | @frz a ob xs ea =>
    cases (show u = Value.ref a from rx)
    obtain ⟨_, _, _, n, _, h1⟩ := (show ObjOk X.prog X.w H s.heap a (.frz ob (.lst xs)) from I.hok a _ ea)
    exact PySem.W.kia_one PySem.W.kitx_list I.kIn ⟨_, h1, rfl⟩ e (fun z => nomatch z) h
  | @tup a xs ea =>
    cases (show u = Value.ref a from rx)
    obtain ⟨_, _, _, p⟩ := (show ObjOk X.prog X.w H s.heap a (.tup xs) from I.hok a _ ea)
    obtain ⟨o, h1, h2, _⟩ := p
    exact PySem.W.kia_one PySem.W.kitx_tuple I.kIn ⟨o, h1, h2⟩ e (fun z => nomatch z) h
  | @dK a kvs ea =>
    cases (show u = Value.ref a from rx)
    obtain ⟨_, _, vs, _, p⟩ := (show ObjOk X.prog X.w H s.heap a (.dK kvs) from I.hok a _ ea)
    obtain ⟨o, es, ep, h1, h2, _⟩ := p
    exact PySem.W.kia_one PySem.W.kitx_dict I.kIn ⟨o, h1, h2.1⟩ e (fun z => nomatch z) h
  | @dT a kvs ea =>
    cases (show u = Value.ref a from rx)
    obtain ⟨_, _, xs, _, o, es, ep, h1, h2, _⟩ := (show ObjOk X.prog X.w H s.heap a (.dT kvs) from I.hok a _ ea)
    exact PySem.W.kia_one PySem.W.kitx_dict I.kIn ⟨o, h1, h2.1⟩ e (fun z => nomatch z) h
  | @ins a C dx fs ea cl ha hn htk hm =>
    cases (show u = Value.ref a from rx)
    obtain ⟨mA, O, _⟩ := ins_get I.hok ea
    obtain ⟨od, J, _⟩ := O.look
    exact PySem.W.kia_one (PySem.W.kitx_own (cl.get _) cl.hd ha hn htk hm) I.kIn J e (fun z => nomatch z) h
end
end L2
namespace L2
open PySem PySem.Spec PyProof.Rows
structure Room (k : Nat) (A : Around) : Prop where
  hd : A.handled = none
  dp : A.depth + 3 * k + 5 < recursionLimit
  un : A.units + 16 * k + 200 < cLine
  gd : A.guards = some []
theorem Room.mono {j k : Nat} {A : Around} (r : Room k A) (h : j ≤ k) : Room j A := ⟨r.hd, by have := r.dp; omega, by have := r.un; omega, r.gd⟩
theorem Room.deeper {k : Nat} {A : Around} (r : Room (k + 1) A) (env : Env) : Room k (A.deeper env) :=
  ⟨r.hd, by have := r.dp; show A.depth + 1 + 3 * k + 5 < _; omega, by have := r.un; show A.units + 3 + 16 * k + 200 < _; omega, r.gd⟩
theorem Room.depth {k : Nat} {A : Around} (r : Room k A) : A.depth < recursionLimit := by have := r.dp; omega
theorem Room.units {k : Nat} {A : Around} (r : Room k A) : A.units + 64 < cLine := by have := r.un; omega
def tNil : TA := fun _ H Q => Q [] H
def tCons (ta : TE) (tr : TA) : TA := fun σ H Q => ta σ H fun x H1 => tr σ H1 fun xs H2 => Q (x :: xs) H2
section
variable {X : Cx} {e : Expr} {es : List Expr} {te : TE} {t : TA} {pos : Pos}
theorem pa_nil : PA X [] tNil := fun _ _ _ _ H Q I h => Calls.spliced_nil ⟨[], H, I, .nil, h⟩
theorem pa_cons (ha : PE X e te) (hr : PA X es t) (hs : starEach (e :: es) X.env = (false, eval e X.env) :: starEach es X.env := by rfl) : PA X (e :: es) (tCons te t) := by
  intro pos pins s σ H Q I h
  rw [hs]
  show wpAny _ _ (spliced ((false, eval e X.env) :: backTo pos (starEach es X.env))) _ _ s
  refine Calls.spliced_cons (thn (ha pins s σ H _ I h) ?_)
  rintro u s1 ⟨x, H1, I1, r1, q1⟩
  exact thn (hr pos pins s1 σ H1 _ I1 q1) fun us s2 ⟨xs, H2, I2, r2, q2⟩ => ⟨x :: xs, H2, I2, .cons r1 r2, q2⟩
def tTup (t : TA) : TE := fun σ H Q => t σ H fun xs H1 => xs.length ≤ sizeLine ∧ ∀ p, H1 p = none → Q (.ref p) (upd H1 p (.tup xs))
def tLst (t : TA) : TE := fun σ H Q => t σ H fun xs H1 => xs.length ≤ sizeLine ∧ ∀ p, H1 p = none → Q (.ref p) (upd H1 p (.lst xs))
theorem pe_tup {x1} (h : PA X es t) : PE X (.Tuple es x1 pos) (tTup t) := by
  intro pins s σ H Q I hq
  refine wpAny_Tuple_spliced (thn (h pos pins s σ H _ I hq) fun us s1 ⟨xs, H1, I1, r, z, q⟩ => ⟨by rw [← r.length]; exact z, ?_⟩)
  have hf : H1 s1.heap.objs.size = none := I1.hok.fresh (Nat.le_refl _)
  refine ⟨.ref s1.heap.objs.size, upd H1 s1.heap.objs.size (.tup xs), I1.laid (t' := s1.toks) (fun b u e => Heap.get?_push_of_some _ e) (Nat.le_refl _) ?_, rfl, q _ hf⟩
  exact ⟨⟨z, NoDct.new rfl rfl⟩, us, r, ⟨_, Heap.get?_push_size _ rfl, rfl, _, rfl⟩⟩
theorem pe_lst (h : PA X es t) : PE X (.List es pos) (tLst t) := by
  intro pins s σ H Q I hq
  refine wpAny_List_spliced (thn (h pos pins s σ H _ I hq) fun us s1 ⟨xs, H1, I1, r, z, q⟩ => ⟨by rw [← r.length]; exact z, ?_⟩)
  have hf : H1 s1.heap.objs.size = none := I1.hok.fresh (Nat.le_refl _)
  refine ⟨.ref s1.heap.objs.size, upd H1 s1.heap.objs.size (.lst xs), I1.laid (t' := s1.toks) (fun b u e => Heap.get?_push_of_some _ e) (Nat.le_refl _) ?_, rfl, q _ hf⟩
  exact ⟨z, us, 0, r, Heap.get?_push_size _ rfl⟩
end
abbrev Sp := List V → Hp → VK → XK → Prop
abbrev CXT := List Env → Hp → Shared → XK → Value → Shared → Prop
structure Env0 (P : Program) (w : World) (K : PySem.W.Frag) (mg : Str → Option Value) (base : Heap) (A : Around) (outer : List Env) (s : Shared) (H : Hp) : Prop where
  frames : A.frames = some outer
  mod : Mod K mg base
  bs : ∀ b o, base.get? b = some o → s.heap.get? b = some o ∧ H b = none
  bsz : base.objs.size ≤ s.heap.objs.size
  funs : s.heap.FunFrames base outer
  frf : ∀ b ∈ frs outer, H b = none
  hok : HOk P w H s.heap
  bare : AllBare s.gens
def CE (outer : List Env) (P : Program) (w : World) (H : Hp) (s : Shared) (Q : VK) (u : Value) (s' : Shared) : Prop :=
  ∃ v H', s'.os = s.os ∧ AllBare s'.gens ∧ Un (frs outer) [] H H' s.heap s'.heap ∧ HOk P w H' s'.heap ∧ RelV v u ∧ Q v H'
def CR (CX : CXT) (outer : List Env) (P : Program) (w : World) (H : Hp) (s : Shared) (Q : VK) (E : XK) (r : Result) (s' : Shared) : Prop :=
  match r with
  | .ok (.ret u) => CE outer P w H s Q u s'
  | .ok _ => False
  | .error e => CX outer H s E e s'
structure FnOk (P : Program) (w : World) (K : PySem.W.Frag) (mg : Str → Option Value) (base : Heap) (CX : CXT) (k : Nat) (f : Addr) (fd : FuncData) (ps : List Str) (sp : Sp) : Prop where
  len : ∀ vs H Q E, sp vs H Q E → vs.length = ps.length
  run : ∀ (A : Around) (outer : List Env) (s : Shared) (H : Hp) (args : Args) (us : List Value) (vs : List V) (Q : VK) (E : XK), Room k A → Env0 P w K mg base A outer s H → BindsTo s fd args (ps.zip us) → Vals vs us → sp vs H Q E →
    codeAny (model P w) A (.call (.ref f) args) (CR CX outer P w H s Q E) s
theorem FnOk.imp {P : Program} {w : World} {K : PySem.W.Frag} {mg : Str → Option Value} {base : Heap} {CX : CXT} {k : Nat} {f : Addr} {fd : FuncData} {ps : List Str} {sp sp' : Sp} (F : FnOk P w K mg base CX k f fd ps sp)
    (h : ∀ vs H Q E, sp' vs H Q E → sp vs H Q E) : FnOk P w K mg base CX k f fd ps sp' :=
  ⟨fun vs H Q E q => F.len vs H Q E (h _ _ _ _ q), fun A outer s H args us vs Q E hr he hb hv hs => F.run A outer s H args us vs Q E hr he hb hv (h _ _ _ _ hs)⟩
section
variable {X : Cx} {pins : List (Addr × Obj)} {σ : St} {H : Hp} {s s' : Shared}
theorem Inv.env0 (I : Inv X pins σ H s) : Env0 X.prog X.w X.K X.mg X.base X.A X.stack s H :=
  ⟨I.ok.frames, I.ok.mod, I.bs, Nat.le_trans I.ok.bsz I.sz, I.stack, I.stkFree, I.hok, I.bare⟩
theorem Inv.after {Q : VK} {u : Value} (I : Inv X pins σ H s) (h : CE X.stack X.prog X.w H s Q u s') : EP X pins σ Q u s' := by
  obtain ⟨v, H', os, bare, un, hok, r, q⟩ := h
  obtain ⟨hh, g, d, t, os'⟩ := s'
  obtain rfl : os' = s.os := os
  exact ⟨v, H', I.call (h' := hh) (g' := g) (d' := d) (t' := t) (ch := []) un hok bare (fun b z => absurd z (by simp)), r, q⟩
end
def tCall (sp : Sp) (dvs : List V) (E : XK) (t : TA) : TE := fun σ H Q => t σ H fun vs H1 => sp (vs ++ dvs) H1 Q E
def Binds (K : PySem.W.Frag) (fd : FuncData) (ps : List Str) (ds : List Value) : Prop :=
  ∀ (s : Shared) (us : List Value), K.In s.heap → (us ++ ds).length = ps.length → BindsTo s fd ⟨us, []⟩ (ps.zip (us ++ ds))
theorem Binds.all {K : PySem.W.Frag} {fd : FuncData} {ps : List Str} (h : ∀ us : List Value, us.length = ps.length → bindArgs fd ⟨us, []⟩ = pure (ps.zip us)) : Binds K fd ps [] := fun s us _ hl => by
  rw [List.append_nil] at hl ⊢
  exact .of_eq (h us hl)
def Passes (CX : CXT) (X : Cx) (E : XK) : Prop := ∀ (pins : List (Addr × Obj)) (σ : St) (H : Hp) (s : Shared) (e : Value) (s' : Shared), Inv X pins σ H s → CX X.stack H s E e s' → X.xe e s'
section
variable {X : Cx} {CX : CXT} {k : Nat} {f C : Addr} {fd : FuncData} {ps : List Str} {sp : Sp} {dvs : List V} {ds : List Value} {E : XK} {x m : Str} {p pos apos : Pos} {e o : Expr} {es : List Expr} {ta : TE} {t : TA}
theorem run_fn {pins : List (Addr × Obj)} {σ : St} {H : Hp} {s : Shared} {Q : VK} {us : List Value} {vs : List V} (F : FnOk X.prog X.w X.K X.mg X.base CX k f fd ps sp) (hr : Room k X.A) (hb : Binds X.K fd ps ds) (hd : Vals dvs ds) (hx : Passes CX X E)
    (I : Inv X pins σ H s) (r : Vals vs us) (h : sp (vs ++ dvs) H Q E) : wpAny (model X.prog X.w) X.A (call (.ref f) us) (EP X pins σ Q) X.xe s := by
  have r2 : Vals (vs ++ dvs) (us ++ ds) := r.append hd
  have hl : (us ++ ds).length = ps.length := by rw [← r2.length]; exact F.len _ _ _ _ h
  refine wpAny_call (codeAny_mono (F.run X.A X.stack s H ⟨us, []⟩ (us ++ ds) (vs ++ dvs) Q E hr I.env0 (hb s us I.kIn hl) r2 h) fun r s' hq => ?_)
  cases r with
  | error e => exact hx pins σ H s e s' I hq
  | ok fl =>
    cases fl with
    | ret u => exact I.after hq
    | next => exact False.elim hq
    | brk => exact False.elim hq
    | cont => exact False.elim hq
theorem pe_call (F : FnOk X.prog X.w X.K X.mg X.base CX k f fd ps sp) (hr : Room k X.A) (hg : Gl X x) (hm : X.mg x = some (.ref f)) (hk : PySem.W.keepIn X.K (.ref f) = true) (hb : Binds X.K fd ps ds) (hd : Vals dvs ds) (hx : Passes CX X E)
    (ha : PA X (e :: es) t) (hdb : (x == ("__debug__" : Str)) = false := by decide) (he : starEach (e :: es) X.env = (false, eval e X.env) :: starEach es X.env := by rfl) (hpl : (backTo pos (starEach es X.env)).any (·.1) = false := by rfl) :
    PE X (.Call (.Name x p) (e :: es) [] pos) (tCall sp dvs E t) := by
  intro pins s σ H Q I h
  refine wpAny_Call_Name_kw (ld_glob I hg hm ?_ hdb)
  refine PySem.W.callWith_K (h₀ := X.base) I.ok.mod.kin hk (thn (ha pos pins s σ H _ I h) fun us s1 ⟨vs, H1, I1, r, q⟩ => ⟨I1.kIn, ?_⟩) he hpl
  exact run_fn F hr hb hd hx I1 r q
end
section
variable {X : Cx} {CX : CXT} {k : Nat} {f C : Addr} {fd : FuncData} {ps ks : List Str} {sp : Sp} {E : XK} {x m : Str} {p pos apos kpos : Pos} {e o : Expr} {es : List Expr} {kws : List Keyword} {te ta : TE} {t tk : TA} {nm : Option Str}
variable {g : List Value → List Value → List Value} {gV : List V → List V → List V}
end
structure FnScope (N P : List Str) (sc : Scope) : Prop where
  kind : sc.kind = .function
  co : sc.isCoroutine = false
  gen : sc.isGenerator = false
  nd : N.Nodup
  pre : N.take P.length = P
  par : ∀ x ∈ P, sc.names.lookup x = some .local ∨ sc.names.lookup x = some .cell
  nofree : ∀ y ∈ sc.names, y.2 ≠ .free
theorem bindL_out {kindOf : Str → Option NameKind} {x : Str} : ∀ {binds : List (Str × Value)} {m : Str → Option Value}, (∀ v, (x, v) ∉ binds) → bindL kindOf binds m x = m x
  | [], _, _ => rfl
  | (n, v) :: r, m, h => by
    unfold bindL
    rw [bindL_out fun w hw => h w (List.mem_cons_of_mem _ hw)]
    split
    · have : x ≠ n := by rintro rfl; exact h v List.mem_cons_self
      simp [this]
    · rfl
theorem bindC_out {kindOf : Str → Option NameKind} {x : Str} : ∀ {binds : List (Str × Value)} {m : Str → Option Value}, (∀ v, (x, v) ∉ binds) → bindC kindOf binds m x = m x
  | [], _, _ => rfl
  | (n, v) :: r, m, h => by
    unfold bindC
    rw [bindC_out fun w hw => h w (List.mem_cons_of_mem _ hw)]
    split
    · rfl
    · have : x ≠ n := by rintro rfl; exact h v List.mem_cons_self
      simp [this]
theorem bindL_get {kindOf : Str → Option NameKind} {x : Str} {v : Value} : ∀ {P : List Str} {vs : List Value} {i : Nat} {m : Str → Option Value}, P.Nodup → P[i]? = some x → vs[i]? = some v → kindOf x = some .local →
    bindL kindOf (P.zip vs) m x = some v
  | [], _, _, _, _, h, _, _ => by simp at h
  | _ :: _, [], _, _, _, _, h, _ => by simp at h
  | p :: P, w :: vs, 0, m, nd, h1, h2, hk => by
    simp at h1 h2; subst h1; subst h2
    show bindL kindOf ((p, w) :: P.zip vs) m p = _
    unfold bindL
    rw [bindL_out fun v hv => (List.nodup_cons.mp nd).1 (List.of_mem_zip hv).1, if_pos hk]
    simp
  | p :: P, w :: vs, i + 1, m, nd, h1, h2, hk => by
    show bindL kindOf ((p, w) :: P.zip vs) m x = _
    unfold bindL
    exact bindL_get (i := i) (List.nodup_cons.mp nd).2 (by simpa using h1) (by simpa using h2) hk
theorem bindC_get {kindOf : Str → Option NameKind} {x : Str} {v : Value} : ∀ {P : List Str} {vs : List Value} {i : Nat} {m : Str → Option Value}, P.Nodup → P[i]? = some x → vs[i]? = some v → kindOf x ≠ some .local →
    bindC kindOf (P.zip vs) m x = some v
  | [], _, _, _, _, h, _, _ => by simp at h
  | _ :: _, [], _, _, _, _, h, _ => by simp at h
  | p :: P, w :: vs, 0, m, nd, h1, h2, hk => by
    simp at h1 h2; subst h1; subst h2
    show bindC kindOf ((p, w) :: P.zip vs) m p = _
    unfold bindC
    rw [bindC_out fun v hv => (List.nodup_cons.mp nd).1 (List.of_mem_zip hv).1, if_neg hk]
    simp
  | p :: P, w :: vs, i + 1, m, nd, h1, h2, hk => by
    show bindC kindOf ((p, w) :: P.zip vs) m x = _
    unfold bindC
    exact bindC_get (i := i) (List.nodup_cons.mp nd).2 (by simpa using h1) (by simpa using h2) hk
def start (N : List Str) (vs : List V) : St := vs.map some ++ List.replicate (N.length - vs.length) none
def cxOf (CX : CXT) (P : Program) (w : World) (K : PySem.W.Frag) (mg : Str → Option Value) (base : Heap) (N : List Str) (qual : Str) (scope : Scope) (f : Addr) (cd : Value) (A : Around) (outer : List Env) (s : Shared) (H : Hp) (E : XK) : Cx where
  prog := P
  w := w
  K := K
  mg := mg
  base := base
  A := A.deeper (envOfC qual scope s.heap.objs.size f cd)
  N := N
  s₀ := s
  H₀ := H
  env := envOfC qual scope s.heap.objs.size f cd
  outer := outer
  stack := envOfC qual scope s.heap.objs.size f cd :: outer
  ex := []
  calm := true
  fn := fun _ => true
  pn := []
  xe := fun e s' => wpAny (model P w) (A.deeper (envOfC qual scope s.heap.objs.size f cd)) (leaving (envOfC qual scope s.heap.objs.size f cd) e) (fun _ s'' => CX outer H s E e s'') (fun e' s'' => CX outer H s E e' s'') s'
theorem cell_has {sc : Scope} {n : Nat} {x : Str} (h : sc.names.lookup x = some .cell) : ∃ c, (cellsFrom n sc.names []).lookup x = some c := by
  have q := PySem.W.cellsFrom_some sc.names n [] (.inl h)
  exact Option.isSome_iff_exists.mp q
theorem inv_start {CX : CXT} {P : Program} {w : World} {K : PySem.W.Frag} {mg : Str → Option Value} {base : Heap} {N ps : List Str} {qual : Str} {scope : Scope} {f : Addr} {cd : Value} {A : Around} {outer : List Env} {s s1 : Shared} {H : Hp} {E : XK} {us : List Value} {vs : List V}
    (S : FnScope N ps scope) (hd : A.handled = none) (e0 : Env0 P w K mg base A outer s H) (hl : vs.length = ps.length) (r : Vals vs us)
    (x : InCallC s s.heap.objs.size (bindL (envOfC qual scope s.heap.objs.size f cd).kindOf (ps.zip us) fun _ => none) (cellsFrom (s.heap.objs.size + 1) scope.names []) (bindC (envOfC qual scope s.heap.objs.size f cd).kindOf (ps.zip us) fun _ => none) s1) :
    Inv (cxOf CX P w K mg base N qual scope f cd A outer s H E) [] (start N vs) H s1 := by
  have hpl : ps.length ≤ N.length := by have := congrArg List.length S.pre; rw [List.length_take] at this; omega
  obtain ⟨h1, tk, rfl, hk⟩ := x.done
  have noA : ∀ b : Addr, b ∉ (cxOf CX P w K mg base N qual scope f cd A outer s H E).ex := fun b z => absurd (show b ∈ ([] : List Addr) from z) (by simp)
  refine ⟨⟨e0.mod, S.kind, rfl, rfl, Nat.le_refl _, fun y z c h1 h2 => ?_, fun y hy => ?_, fun y c _ h => ?_, fun _ => hd, Around.frames_deeper e0.frames, .inr ⟨rfl, rfl⟩, fun b z => absurd z (noA b), e0.bs, e0.bsz, fun b _ _ => noA b, fun b z => absurd z (noA b), e0.funs, e0.frf⟩,
    rfl, e0.bare, Un.kept hk, ⟨_, x.toInCall.ns, fun i y v h1 h2 h3 => ?_⟩, fun y c h => ⟨_, x.cell y c h⟩, e0.hok.fresh (Nat.le_refl _), fun y c h => ?_, fun p hp => absurd (show p ∈ ([] : List (Addr × Obj)) from hp) (by simp), e0.hok.kept hk, ?_⟩
  · exact name_of_addr x.apart (PySem.mem_of_lookup h1) (PySem.mem_of_lookup h2)
  · have hy : scope.names.lookup y = some .cell ∨ scope.names.lookup y = some .free := hy
    rcases hy with hy | hy
    · exact cell_has hy
    · exact absurd rfl (S.nofree _ (PySem.mem_of_lookup hy))
  · exact Nat.le_of_lt (x.above y c (PySem.mem_of_lookup h))
  · have hi : i < vs.length := by
      unfold start at h2
      by_cases hi : i < vs.length
      · exact hi
      · rw [List.getElem?_append_right (by simpa using hi)] at h2
        rw [List.getElem?_replicate] at h2
        split at h2 <;> cases h2
    have ha : vs[i]? = some v := by
      unfold start at h2
      rw [List.getElem?_append_left (by simpa using hi), List.getElem?_map] at h2
      cases e : vs[i]? with
      | none => rw [e] at h2; cases h2
      | some a => rw [e] at h2; cases h2; rfl
    obtain ⟨u, hu, rv⟩ := r.get ha
    have hp : ps[i]? = some y := by
      rw [← S.pre, List.getElem?_take_of_lt (by omega)]; exact h1
    have ndP : ps.Nodup := by rw [← S.pre]; exact S.nd.sublist (List.take_sublist _ _)
    refine ⟨u, rv, ?_⟩
    rcases S.par y (List.mem_of_getElem? hp) with k | k
    · exact .inl ⟨k, bindL_get ndP hp hu k⟩
    · obtain ⟨c, e⟩ := cell_has (n := s.heap.objs.size + 1) k
      refine .inr ⟨.inl k, c, e, ?_⟩
      have q := x.cell y c e
      rw [bindC_get ndP hp hu (by show scope.names.lookup y ≠ _; rw [k]; decide)] at q
      exact q
  · exact e0.hok.fresh (Nat.le_of_lt (x.above y c (PySem.mem_of_lookup h)))
  · unfold start
    show _ = N.length
    rw [List.length_append, List.length_map, List.length_replicate]
    omega
theorem fn_of {CX : CXT} {P : Program} {w : World} {K : PySem.W.Frag} {mg : Str → Option Value} {base : Heap} {k : Nat} {f : Addr} {name qual : Str} {params : Arguments} {body : List Stmt} {scope : Scope} {dV kV doc pm cdv ct oc : Value} {an od : Option Addr}
    {osl : Array (Option Value)} {N ps : List Str} {sp : Sp} (lk : K.lookup f = some ⟨oc, od, .func (PySem.W.fnOf name qual params body scope dV kV doc pm an cdv ct), osl⟩) (hcd : PySem.W.codeIn K cdv qual = true) (S : FnScope N ps scope)
    (len : ∀ vs H Q E, sp vs H Q E → vs.length = ps.length)
    (hbody : ∀ (A : Around) (outer : List Env) (s : Shared) (H : Hp) (vs : List V) (Q : VK) (E : XK), Room k (A.deeper (envOfC qual scope s.heap.objs.size f cdv)) → sp vs H Q E →
      ∃ t, PSs (cxOf CX P w K mg base N qual scope f cdv A outer s H E) body t ∧ t { nx := fun _ H' => Q .non H', rt := Q } (start N vs) H) :
    FnOk P w K mg base CX (k + 1) f (PySem.W.fnOf name qual params body scope dV kV doc pm an cdv ct) ps sp := by
  refine ⟨len, fun A outer s H args us vs Q E hr e0 hb r hsp => ?_⟩
  have hl := len _ _ _ _ hsp
  have KX : K.In s.heap := e0.mod.kin.keeps fun b o e => (e0.bs b o e).1
  have lim : s.heap.NoLimit := e0.mod.nolimit.keeps fun b o e => (e0.bs b o e).1
  have hkind : ∀ y ∈ ps.zip us, scope.names.lookup y.1 = some .local ∨ (scope.names.lookup y.1 = some .cell ∧ ((cellsFrom (s.heap.objs.size + 1) scope.names []).lookup y.1).isSome = true) := fun ⟨n, v⟩ hy => by
    rcases S.par n (List.of_mem_zip hy).1 with q | q
    · exact .inl q
    · exact .inr ⟨q, PySem.W.cellsFrom_some _ _ _ (.inl q)⟩
  refine codeAny_call_function hr.depth (KX _ _ lk) rfl S.co S.gen rfl (PySem.W.codeRec_of KX hcd) (hb _ _ _ _ ?_)
  refine wpAny_newFunctionEnv_cells S.kind hkind fun env he s1 x => ?_
  subst he
  refine ⟨lim.keeps x.toInCall.keep, codeAny_func ?_⟩
  obtain ⟨t, ht, hq⟩ := hbody A outer s H vs Q E (hr.deeper _) hsp
  have I : Inv (cxOf CX P w K mg base N qual scope f cdv A outer s H E) [] (start N vs) H s1 := inv_start S hr.hd e0 hl r x
  refine wpAny_mono (ht [] s1 (start N vs) H _ I hq) (fun fl s' hs => ?_) fun e s' hs => hs
  have fin : ∀ {σ' : St} {H' : Hp} {v : V} {u : Value}, Inv (cxOf CX P w K mg base N qual scope f cdv A outer s H E) [] σ' H' s' → RelV v u → Q v H' → CE outer P w H s Q u s' :=
    fun {σ' H' v u} J rv q => ⟨v, H', J.os, J.bare, J.base, J.hok, rv, q⟩
  cases fl with
  | ret u =>
    obtain ⟨v, σ', H', J, rv, q⟩ := hs
    exact fin J rv q
  | next =>
    obtain ⟨σ', H', J, q⟩ := hs
    exact fin (v := V.non) (u := Value.none) J rfl q
  | brk =>
    obtain ⟨_, _, _, q⟩ := hs
    exact False.elim q
  | cont =>
    obtain ⟨_, _, _, q⟩ := hs
    exact False.elim q
end L2
namespace L2
open PySem PySem.Spec PyProof.Rows
section
variable {X : Cx} {x : Str} {p pos : Pos} {e : Expr} {es : List Expr} {t : TA} {id T : String} {r : List V → Hp → VK → Prop}
def tCB (r : List V → Hp → VK → Prop) (t : TA) : TE := fun σ H Q => t σ H fun vs H1 => r vs H1 Q
theorem pe_callB (hc : CallR X (.builtin id) r) (hg : Gl X x) (hm : X.mg x = none) (hv : bootBuiltins x = some (.builtin id)) (ha : PA X (e :: es) t) (hn : x ≠ "__name__" := by decide) (hdb : (x == ("__debug__" : Str)) = false := by decide)
    (he : starEach (e :: es) X.env = (false, eval e X.env) :: starEach es X.env := by rfl) (hpl : (backTo pos (starEach es X.env)).any (·.1) = false := by rfl) : PE X (.Call (.Name x p) (e :: es) [] pos) (tCB r t) := by
  intro pins s σ H Q I h
  refine wpAny_Call_Name_kw (ld_blt I hg hm hv ?_ hn hdb)
  exact PyProof.Rows.callWith_builtin1 (thn (ha pos pins s σ H _ I h) fun us s1 ⟨vs, H1, I1, r1, q1⟩ => hc pins s1 σ H1 vs us Q I1 r1 q1) he hpl
theorem pe_callTy (hc : CallR X (.type T) r) (hg : Gl X x) (hm : X.mg x = none) (hv : bootBuiltins x = some (.type T)) (ha : PA X (e :: es) t) (hn : x ≠ "__name__" := by decide) (hdb : (x == ("__debug__" : Str)) = false := by decide)
    (he : starEach (e :: es) X.env = (false, eval e X.env) :: starEach es X.env := by rfl) (hpl : (backTo pos (starEach es X.env)).any (·.1) = false := by rfl) : PE X (.Call (.Name x p) (e :: es) [] pos) (tCB r t) := by
  intro pins s σ H Q I h
  refine wpAny_Call_Name_kw (ld_blt I hg hm hv ?_ hn hdb)
  exact PyProof.Rows.callWith_type1 (thn (ha pos pins s σ H _ I h) fun us s1 ⟨vs, H1, I1, r1, q1⟩ => hc pins s1 σ H1 vs us Q I1 r1 q1) he hpl
end
end L2
namespace HT
open PySem PyProof.Rows
section
open PySem.SeqAt
open PySem.AutoSeq1 (wpAny_loadPart')
open PySem.MeetsSeq PySem.MeetsSeq2 PySem.MeetsSeq3
end
section
variable {prog : Program} {w : World} {A : Around} {E : Value → Shared → Prop} {s : Shared}
theorem cat_tup {t b : Addr} {vs ws : List Value} {Q : Value → Shared → Prop} (ht : IsTup s.heap t vs.toArray) (hb : IsTup s.heap b ws.toArray) (hv : vs ≠ [])
    (h1 : ws = [] → Q (.ref t) s) (h2 : ws ≠ [] → Q (.ref s.heap.objs.size) { s with heap := s.heap.push { cls := .type "tuple", data := .seq (vs ++ ws).toArray } })
    (hsz : vs.length + ws.length ≤ sizeLine) : wpAny (model prog w) A (binaryOp .Add (.ref t) (.ref b)) Q E s := by
  obtain ⟨⟨cls, dd, data, sl⟩, ho, hc, n, hd⟩ := id ht
  obtain ⟨⟨cls2, dd2, data2, sl2⟩, ho2, hc2, n2, hd2⟩ := id hb
  simp only at hc hd hc2 hd2
  subst hc hd hc2 hd2
  have e : vs.toArray ++ ws.toArray = (vs ++ ws).toArray := by simp
  by_cases hw : ws = []
  · exact concat_meets ⟨_, ho, rfl⟩ ⟨_, ho2, rfl⟩ noFill_tuple_add seq_tuple_add PySem.F.slot_tuple_add PySem.F.entry_tuple_add (PySem.F.args_tuple_add_2 _ _)
      (tuple_addW1 t b vs.toArray ws.toArray n n2 dd dd2 sl sl2 (by simpa using hv) (by simp [hw])) ⟨ho, ho2, h1 hw⟩
  · refine concat_meets ⟨_, ho, rfl⟩ ⟨_, ho2, rfl⟩ noFill_tuple_add seq_tuple_add PySem.F.slot_tuple_add PySem.F.entry_tuple_add (PySem.F.args_tuple_add_2 _ _)
      (tuple_addW2 t b vs.toArray ws.toArray n n2 dd dd2 sl sl2 (by simpa using hv) (by simpa using hw) (by rw [List.size_toArray, List.size_toArray]; exact hsz)) ⟨ho, ho2, ?_⟩
    rw [e]
    exact h2 hw
def sIx (n d : Nat) : Option Int → Nat
  | none => d
  | some v => if v < 0 then (v + (n : Int)).toNat else min v.toNat n
theorem sIx_none (n d : Nat) : sIx n d none = d := rfl
theorem sIx_nat (n d k : Nat) : sIx n d (some (k : Int)) = min k n := by
  show (if (k : Int) < 0 then ((k : Int) + (n : Int)).toNat else min (k : Int).toNat n) = min k n
  rw [if_neg (by omega), Int.toNat_natCast]
theorem sIx_le (n d : Nat) (hd : d ≤ n) (o : Option Int) : sIx n d o ≤ n := by
  cases o with
  | none => exact hd
  | some v =>
    show (if v < 0 then (v + (n : Int)).toNat else min v.toNat n) ≤ n
    by_cases hv : v < 0
    · rw [if_pos hv]; omega
    · rw [if_neg hv]; exact Nat.min_le_right _ _
theorem clip_eq (v : Int) (n d : Nat) : (if v < 0 then max (v + (n : Int)) 0 else min v (n : Int)) = ((sIx n d (some v) : Nat) : Int) := by
  show (if v < 0 then max (v + (n : Int)) 0 else min v (n : Int)) = (((if v < 0 then (v + (n : Int)).toNat else min v.toNat n) : Nat) : Int)
  by_cases hv : v < 0
  · simp only [if_pos hv]; omega
  · simp only [if_neg hv]; omega
theorem adjust_gen (lo hi : Option Int) (n : Nat) : Builtin.Slice.sliceAdjust lo hi 1 (n : Int) = (((sIx n 0 lo : Nat) : Int), ((sIx n n hi : Nat) : Int)) := by
  have h1 : ¬ ((1 : Int) < 0) := by omega
  unfold Builtin.Slice.sliceAdjust
  simp only [h1, if_false]
  refine Prod.ext ?_ ?_
  · cases lo with
    | none => rfl
    | some v => exact clip_eq v n 0
  · cases hi with
    | none => rfl
    | some v => exact clip_eq v n n
theorem places_gen (i j : Nat) : Builtin.Slice.slicePlaces (i : Int) (j : Int) 1 = j - i := by
  unfold Builtin.Slice.slicePlaces
  have h1 : (1 : Int) > 0 := by omega
  simp only [h1, if_true, Int.ediv_one]
  split <;> omega
theorem slicePart_ {v : Value} {o : Option Int} {Q : Option Int → Shared → Prop} (p : IsPart v o) (h : Q o s) : wpAny (model prog w) A (Builtin.Slice.slicePartIndex v) Q E s := by
  cases p with
  | none => exact slicePart_none h
  | int i t => exact slicePart_int h
theorem sliceApplied_gen {sl : Addr} {vl vu : Value} {lo hi : Option Int} {n : Nat} {Q : Int × Int × Nat → Shared → Prop} (hs : s.heap.IsSliceOf sl vl vu .none) (pl : IsPart vl lo) (pu : IsPart vu hi)
    (h : Q (((sIx n 0 lo : Nat) : Int), 1, sIx n n hi - sIx n 0 lo) s) : wpAny (model prog w) A (Builtin.Slice.sliceApplied (.ref sl) (pure (n : Int))) Q E s := by
  obtain ⟨os, hos, hcs, hds⟩ := id hs
  unfold Builtin.Slice.sliceApplied Builtin.Slice.sliceFields
  refine wpAny_bind (wpAny_bind (wpAny_field hos hds (x := vl) rfl (wpAny_bind (wpAny_field hos hds (x := vu) rfl (wpAny_bind (wpAny_field hos hds (x := .none) rfl (wpAny_pure ?_)))))))
  refine wpAny_bind (slicePart_none ?_)
  show wpAny _ _ (if ((1 : Int) == 0) = true then _ else _) _ _ s
  rw [if_neg (by decide)]
  refine wpAny_bind (slicePart_ pl (wpAny_bind (slicePart_ pu (wpAny_bind (wpAny_pure ?_)))))
  show wpAny _ _ (match Builtin.Slice.sliceAdjust lo hi 1 (n : Int) with | (lo, hi) => pure (lo, (1 : Int), Builtin.Slice.slicePlaces lo hi 1)) _ _ s
  rw [adjust_gen lo hi n]
  show wpAny _ _ (pure (((sIx n 0 lo : Nat) : Int), (1 : Int), Builtin.Slice.slicePlaces ((sIx n 0 lo : Nat) : Int) ((sIx n n hi : Nat) : Int) 1)) _ _ s
  rw [places_gen]
  exact wpAny_pure h
theorem pick_gen (xs : Array Value) (i k : Nat) : ((List.range k).filterMap fun (m : Nat) => xs[((i : Int) + (m : Int) * 1).toNat]?).toArray = ((xs.toList.drop i).take k).toArray := by
  have e : (fun (m : Nat) => xs[((i : Int) + (m : Int) * 1).toNat]?) = fun m => xs[i + m]? := by
    funext m
    have : ((i : Int) + (m : Int) * 1).toNat = i + m := by omega
    rw [this]
  rw [e]
  have := pick_run xs i k
  rw [List.filterMap_map] at this
  have e2 : ((fun x => xs[x]?) ∘ fun x => i + x) = fun m => xs[i + m]? := rfl
  rw [e2] at this
  rw [this]
theorem getItem_tuple_cut {t sl : Addr} {items : Array Value} {vl vu : Value} {lo hi : Option Int} {Q : Value → Shared → Prop} (ht : IsTup s.heap t items) (hs : s.heap.IsSliceOf sl vl vu .none) (pl : IsPart vl lo) (pu : IsPart vu hi)
    (hw : ¬ (sIx items.size 0 lo = 0 ∧ sIx items.size items.size hi = items.size))
    (h : Q (.ref s.heap.objs.size) { s with heap := s.heap.push { cls := .type "tuple", data := .seq ((items.toList.drop (sIx items.size 0 lo)).take (sIx items.size items.size hi - sIx items.size 0 lo)).toArray } })
    (hsz : items.size ≤ sizeLine) : wpAny (model prog w) A (getItem (.ref t) (.ref sl)) Q E s := by
  have htake : sizeOk (.seq ((items.toList.drop (sIx items.size 0 lo)).take (sIx items.size items.size hi - sIx items.size 0 lo)).toArray) := by
    show ((items.toList.drop (sIx items.size 0 lo)).take (sIx items.size items.size hi - sIx items.size 0 lo)).toArray.size ≤ sizeLine
    rw [List.size_toArray, List.length_take, List.length_drop, Array.length_toList]
    omega
  have hj : sIx items.size items.size hi ≤ items.size := sIx_le _ _ (Nat.le_refl _) hi
  obtain ⟨os, hos, hcs, hds⟩ := id hs
  have hTs : s.TypeIs (.ref sl) "slice" := ⟨os, hos, hcs⟩
  unfold getItem
  try with_reducible refine wpAny_holding ?_
  first | refine wpAny_bind (wpAny_pure ?_) | skip
  refine wpAny_bind (wpAny_sequenceKey ht.typeIs (by decide) ?_)
  refine wpAny_bind (wpAny_callSpecial?_slot (name := Str.ofString "__getitem__") ht.typeIs PyProof.Rows.slot_tuple_getitem
    (wpAny_call_entry PyProof.Rows.slot_tuple_getitem ht.typeIs entry_tuple_getitem ?_ (args_tuple_getitem _ _)))
  show wpAny _ _ (Builtin.Tuple.tupleItemsOf (.ref t) >>= _) _ _ s
  refine wpAny_bind (tupleItemsOf_ ht ?_)
  refine wpAny_bind (wpAny_typeOf hTs ?_)
  rw [if_pos (by decide)]
  refine wpAny_bind (sliceApplied_gen hs pl pu ?_)
  have hno : ¬ ((((sIx items.size 0 lo : Nat) : Int) == 0 && (1 : Int) == 1 && (sIx items.size items.size hi - sIx items.size 0 lo) == items.size) = true) := by
    intro q
    rw [Bool.and_eq_true, Bool.and_eq_true] at q
    have q1 : ((sIx items.size 0 lo : Nat) : Int) = 0 := eq_of_beq q.1.1
    have q2 : sIx items.size items.size hi - sIx items.size 0 lo = items.size := eq_of_beq q.2
    exact hw ⟨by omega, by omega⟩
  show wpAny _ _ (if (((sIx items.size 0 lo : Nat) : Int) == 0 && (1 : Int) == 1 && (sIx items.size items.size hi - sIx items.size 0 lo) == items.size) = true then _ else _) _ _ s
  rw [if_neg hno, pick_gen]
  first
    | exact wpAny_bind (m := Builtin.Tuple.tupleExact _) (wpAny_newObj_type (wpAny_pure ⟨_, rfl, wpAny_pure h⟩) htake)
    | exact wpAny_bind (m := Builtin.Tuple.tupleExact _) (wpAny_newObj_type (wpAny_bind (wpAny_pure (wpAny_pure ⟨_, rfl, wpAny_pure h⟩))) htake)
    | exact wpAny_bind (wpAny_bind (m := Builtin.Tuple.tupleExact _) (wpAny_newObj_type (wpAny_pure (wpAny_pure ⟨_, rfl, wpAny_pure h⟩)) htake))
    | exact wpAny_bind (wpAny_bind (m := Builtin.Tuple.tupleExact _) (wpAny_newObj_type (wpAny_pure ⟨_, rfl, wpAny_pure h⟩) htake))
end
end HT
namespace L2
open PySem PySem.Spec PyProof.Rows
abbrev TO := St → Hp → (Option Int → Hp → Prop) → Prop
def PO (X : Cx) (e : Option Expr) (t : TO) : Prop :=
  ∀ (pins : List (Addr × Obj)) (s : Shared) (σ : St) (H : Hp) (Q : Option Int → Hp → Prop), Inv X pins σ H s → t σ H Q →
    wpAny (model X.prog X.w) X.A (evalPart e X.env) (fun u s' => ∃ o H', Inv X pins σ H' s' ∧ IsPart u o ∧ Q o H') X.xe s
def tNoPart : TO := fun _ H Q => Q none H
def tPart (t : TE) : TO := fun σ H Q => t σ H fun x H1 => ∃ i, x = .int i ∧ Q (some i) H1
section
variable {X : Cx} {e : Expr} {te : TE} {lo hi : Option Expr} {tl th : TO} {pos p2 : Pos}
theorem po_none : PO X none tNoPart := by
  intro pins s σ H Q I h
  rw [evalPart_none]
  exact wpAny_pure ⟨none, H, I, .none, h⟩
theorem po_some (h : PE X e te) : PO X (some e) (tPart te) := by
  intro pins s σ H Q I hw
  rw [evalPart_some]
  refine thn (h pins s σ H _ I hw) ?_
  rintro u s1 ⟨x, H1, I1, r1, q1⟩
  obtain ⟨i, rfl, q⟩ := q1
  obtain ⟨t, rfl⟩ := r1
  exact ⟨some i, H1, I1, .int i t, q⟩
def SlR (X : Cx) (r : V → Option Int → Option Int → Hp → VK → Prop) : Prop :=
  ∀ (pins : List (Addr × Obj)) (s : Shared) (σ : St) (H : Hp) (x : V) (v vl vu : Value) (lo hi : Option Int) (sl : Addr) (Q : VK), Inv X pins σ H s → RelV x v → s.heap.IsSliceOf sl vl vu .none → IsPart vl lo → IsPart vu hi → r x lo hi H Q →
    ∃ T id, typeLookup (.type T) "__getitem__" = pure (some (.builtin id)) ∧ s.TypeIs v T ∧ wpAny (model X.prog X.w) X.A (getItem v (.ref sl)) (EP X pins σ Q) X.xe s
theorem SlR.or {r r' : V → Option Int → Option Int → Hp → VK → Prop} (h : SlR X r) (h' : SlR X r') : SlR X (fun x lo hi H Q => r x lo hi H Q ∨ r' x lo hi H Q) := by
  intro pins s σ H x v vl vu lo hi sl Q I rx hs pl pu q
  rcases q with q | q
  · exact h pins s σ H x v vl vu lo hi sl Q I rx hs pl pu q
  · exact h' pins s σ H x v vl vu lo hi sl Q I rx hs pl pu q
def tSl (r : V → Option Int → Option Int → Hp → VK → Prop) (te : TE) (tl th : TO) : TE := fun σ H Q => te σ H fun x H1 => tl σ H1 fun l H2 => th σ H2 fun u H3 => r x l u H3 Q
theorem pe_slice {r : V → Option Int → Option Int → Hp → VK → Prop} (hr : SlR X r) (he : PE X e te) (hl : PO X lo tl) (hu : PO X hi th) : PE X (.Subscript e (.Slice lo hi none p2) pos) (tSl r te tl th) := by
  intro pins s σ H Q I h
  refine Subscript_ (thn (he pins s σ H _ I h) ?_)
  rintro v s1 ⟨x, H1, I1, r1, q1⟩
  refine wpAny_Slice (thn (hl pins s1 σ H1 _ I1 q1) fun vl s2 ⟨l, H2, I2, pl, q2⟩ => thn (hu pins s2 σ H2 _ I2 q2) fun vu s3 ⟨u, H3, I3, pu, q3⟩ => ?_)
  rw [evalPart_none]
  refine wpAny_pure ?_
  have I4 : Inv X pins σ H3 { s3 with heap := s3.heap.push { cls := .type "slice", data := .fields #[vl, vu, .none] } } := I3.kept (t' := s3.toks) fun b ob q => Heap.get?_push_of_some _ q
  obtain ⟨T, id, hT, ht, hg⟩ := hr pins { s3 with heap := s3.heap.push { cls := .type "slice", data := .fields #[vl, vu, .none] } } σ H3 x v vl vu l u s3.heap.objs.size Q I4 r1 (Heap.IsSliceOf.new ..) pl pu q3
  show wpAny (model X.prog X.w) X.A (subscriptTail e (.Slice lo hi none p2) v (.ref s3.heap.objs.size)) (EP X pins σ Q) X.xe { s3 with heap := s3.heap.push { cls := .type "slice", data := .fields #[vl, vu, .none] } }
  exact tail_any (ops := [.ref s3.heap.objs.size, v]) ht hT hg (by with_unfolding_all rfl)
def cutV (xs : List V) (lo hi : Option Int) : List V := (xs.drop (HT.sIx xs.length 0 lo)).take (HT.sIx xs.length xs.length hi - HT.sIx xs.length 0 lo)
theorem cutV_length (xs : List V) (lo hi : Option Int) : (cutV xs lo hi).length ≤ xs.length := by
  unfold cutV
  rw [List.length_take, List.length_drop]
  omega
def rSlT (K : PySem.W.Frag) : V → Option Int → Option Int → Hp → VK → Prop := fun x lo hi H Q => ∃ a xs, x = .ref a ∧ SqT K H a xs ∧
  ¬ (HT.sIx xs.length 0 lo = 0 ∧ HT.sIx xs.length xs.length hi = xs.length) ∧ ∀ p, H p = none → Q (.ref p) (upd H p (.tup (cutV xs lo hi)))
theorem sl_tup : SlR X (rSlT X.K) := by
  intro pins s σ H x v vl vu lo hi sl Q I rx hs pl pu h
  obtain ⟨a, xs, rfl, hx, hw, q⟩ := h
  cases rx
  obtain ⟨its, r, ht, hz⟩ := I.tuple hx
  have hlen : its.toArray.size = xs.length := by rw [List.size_toArray]; exact r.length.symm
  refine ⟨"tuple", _, PyProof.Rows.slot_tuple_getitem.lookup, ht.typeIs, ?_⟩
  refine HT.getItem_tuple_cut ht hs pl pu (by rw [hlen]; exact hw) ?_ (by rw [hlen]; exact hz)
  rw [hlen]
  refine ⟨.ref s.heap.objs.size, _, I.laid (t' := s.toks) (o := .tup (cutV xs lo hi)) (fun b ob q => Heap.get?_push_of_some _ q) (Nat.le_refl _) ?_, rfl, q _ (I.hok.fresh (Nat.le_refl _))⟩
  exact ⟨⟨Nat.le_trans (cutV_length xs lo hi) hz, NoDct.new rfl rfl⟩, _, (r.drop (HT.sIx xs.length 0 lo)).take (HT.sIx xs.length xs.length hi - HT.sIx xs.length 0 lo), IsTup.new _ _⟩
def rCatT (K : PySem.W.Frag) : R2 := fun x y H Q => ∃ a b xs ys, x = .ref a ∧ y = .ref b ∧ SqT K H a xs ∧ SqT K H b ys ∧ xs ≠ [] ∧ xs.length + ys.length ≤ sizeLine ∧
  (ys = [] → Q (.ref a) H) ∧ (ys ≠ [] → ∀ p, H p = none → Q (.ref p) (upd H p (.tup (xs ++ ys))))
theorem Vals.nil_iff {xs : List V} {us : List Value} (r : Vals xs us) : us = [] ↔ xs = [] := by
  cases r with
  | nil => simp
  | cons _ _ => simp
theorem op_catT : OpR X (binaryOp .Add) (rCatT X.K) := by
  intro pins s σ H x y v u Q I rx ry h
  obtain ⟨a, b, xs, ys, rfl, rfl, ha, hb, hx, hz, q1, q2⟩ := h
  cases rx
  cases ry
  obtain ⟨its, r1, p1, _⟩ := I.tuple ha
  obtain ⟨its2, r2, p2, _⟩ := I.tuple hb
  refine HT.cat_tup p1 p2 (fun z => hx (r1.nil_iff.mp z)) (fun z => ⟨.ref a, H, I, rfl, q1 (r2.nil_iff.mp z)⟩) (fun z => ?_) (by rw [← r1.length, ← r2.length]; exact hz)
  refine ⟨.ref s.heap.objs.size, _, I.laid (t' := s.toks) (o := .tup (xs ++ ys)) (fun b ob q => Heap.get?_push_of_some _ q) (Nat.le_refl _) ?_, rfl, q2 (fun w => z (r2.nil_iff.mpr w)) _ (I.hok.fresh (Nat.le_refl _))⟩
  exact ⟨⟨by rw [List.length_append]; exact hz, NoDct.new rfl rfl⟩, _, r1.append r2, IsTup.new _ _⟩
end
end L2
namespace L2
open PySem PySem.Spec PyProof.Rows
def ixN (n : Nat) (i : Int) : Option Nat := if 0 ≤ i then (if i < n then some i.toNat else none) else if -(n : Int) ≤ i then some (i + n).toNat else none
def atI {α : Type} (xs : List α) (i : Int) : Option α := (ixN xs.length i).bind fun j => xs[j]?
theorem ixN_seq {n : Nat} {i : Int} {j : Nat} (h : ixN n i = some j) : seqIndex? i n = some j ∧ j < n ∧ -(n : Int) ≤ i ∧ i < n := by
  unfold ixN at h
  by_cases h0 : 0 ≤ i
  · rw [if_pos h0] at h
    by_cases h1 : i < n
    · rw [if_pos h1] at h
      have e : i.toNat = j := Option.some.inj h
      exact ⟨by rw [seqIndex_of h0 h1, e], by omega, by omega, h1⟩
    · rw [if_neg h1] at h; cases h
  · rw [if_neg h0] at h
    by_cases h1 : -(n : Int) ≤ i
    · rw [if_pos h1] at h
      have e : (i + n).toNat = j := Option.some.inj h
      exact ⟨by rw [seqIndex_neg (by omega) h1, e], by omega, h1, by omega⟩
    · rw [if_neg h1] at h; cases h
theorem atI_get {α : Type} {xs : List α} {i : Int} {v : α} (h : atI xs i = some v) : ∃ j, seqIndex? i xs.length = some j ∧ xs[j]? = some v ∧ j < xs.length ∧ -(xs.length : Int) ≤ i ∧ i < xs.length := by
  unfold atI at h
  cases e : ixN xs.length i with
  | none => rw [e] at h; cases h
  | some j =>
    rw [e] at h
    obtain ⟨h1, h2, h3, h4⟩ := ixN_seq e
    exact ⟨j, h1, h, h2, h3, h4⟩
theorem atI_nat {α : Type} {xs : List α} {j : Nat} {v : α} (h : xs[j]? = some v) : atI xs (j : Int) = some v := by
  have hj : j < xs.length := (List.getElem?_eq_some_iff.mp h).1
  have e : ixN xs.length (j : Int) = some j := by
    unfold ixN
    rw [if_pos (by omega), if_pos (by omega)]; simp
  unfold atI; rw [e]; exact h
def PlainIx (b : Expr) : Prop := ∀ o i, subscripted b false o i = operate [o, i] (getItem o i)
def IxR (X : Cx) (r : R2) : Prop :=
  ∀ (value slice : Expr) (pins : List (Addr × Obj)) (s : Shared) (σ : St) (H : Hp) (x y : V) (v u : Value) (Q : VK), Inv X pins σ H s → RelV x v → RelV y u → r x y H Q →
    subscripted slice false v u = operate [v, u] (getItem v u) → wpAny (model X.prog X.w) X.A (subscriptTail value slice v u) (EP X pins σ Q) X.xe s
def MtR (X : Cx) (id : String) (r : V → List V → Hp → VK → Prop) : Prop :=
  ∀ (pins : List (Addr × Obj)) (s : Shared) (σ : St) (H : Hp) (x : V) (xs : List V) (v : Value) (us : List Value) (Q : VK), Inv X pins σ H s → RelV x v → Vals xs us → r x xs H Q →
    wpAny (model X.prog X.w) X.A (call (.builtin id) (v :: us)) (EP X pins σ Q) X.xe s
section
variable {X : Cx} {a b : Expr} {ta tb : TE} {pos : Pos}
theorem pe_ix {r : R2} (hr : IxR X r) (ha : PE X a ta) (hb : PE X b tb) (hs : PlainIx b) : PE X (.Subscript a b pos) (tOp r ta tb) := by
  intro pins s σ H Q I h
  exact Subscript_ (binT ha hb I h fun v u s2 x y H2 I2 rx ry q => hr a b pins s2 σ H2 x y v u Q I2 rx ry q (hs _ _))
def rIxL (K : PySem.W.Frag) : R2 := fun x y H Q => ∃ p xs i v, x = .ref p ∧ y = .int i ∧ SqL K H p xs ∧ atI xs i = some v ∧ Q v H
def rIxT (K : PySem.W.Frag) : R2 := fun x y H Q => ∃ p xs i v, x = .ref p ∧ y = .int i ∧ SqT K H p xs ∧ atI xs i = some v ∧ Q v H
def rIxS : R2 := fun x y H Q => ∃ z i c, x = .str z ∧ y = .int i ∧ z.length ≤ sizeLine ∧ atI z.cps.toList i = some c ∧ Q (.str ⟨#[c]⟩) H
theorem ix_list : IxR X (rIxL X.K) := by
  intro value slice pins s σ H x y v u Q I rx ry h hs
  obtain ⟨p, xs, i, z, rfl, rfl, hq, he, q⟩ := h
  cases rx
  obtain ⟨t, rfl⟩ := ry
  obtain ⟨its, r, pl, hz⟩ := I.list hq
  obtain ⟨j, h1, h2, h3, h4, h5⟩ := atI_get he
  obtain ⟨w, ew, rw'⟩ := r.get h2
  have hl := r.length
  have hn := line63
  have fin : EP X pins σ Q w s := ⟨z, H, I, rw', q⟩
  by_cases h0 : 0 ≤ i
  · have hj : i.toNat = j := by
      rw [seqIndex_of h0 h5] at h1
      exact Option.some.inj h1
    exact item_listR pl.isList h0 (by omega) (by rw [hj]; simpa using ew) fin hs
  · have hj : (i + (its.toArray.size : Int)).toNat = j := by
      rw [seqIndex_neg (by omega) h4] at h1
      rw [List.size_toArray, ← hl]
      exact Option.some.inj h1
    exact subscriptTail_builtinR (x := w) pl.isList.typeIs slot_list_getitem.lookup
      (wpAny_getItem_list_neg (Q := fun r s' => r = w ∧ EP X pins σ Q r s') pl.isList (by omega) (by rw [List.size_toArray] <;> omega) (by omega) (by rw [hj]; simpa using ew) ⟨rfl, fin⟩) hs
theorem ix_tup : IxR X (rIxT X.K) := by
  intro value slice pins s σ H x y v u Q I rx ry h hs
  obtain ⟨p, xs, i, z, rfl, rfl, hq, he, q⟩ := h
  cases rx
  obtain ⟨t, rfl⟩ := ry
  obtain ⟨its, r, pl, hz⟩ := I.tuple hq
  obtain ⟨j, h1, h2, h3, h4, h5⟩ := atI_get he
  obtain ⟨w, ew, rw'⟩ := r.get h2
  have hl := r.length
  have hn := line63
  have fin : EP X pins σ Q w s := ⟨z, H, I, rw', q⟩
  exact subscriptTail_builtinR (x := w) pl.typeIs slot_tuple_getitem.lookup
    (getItem_tuple (j := j) (Q := fun r s' => r = w ∧ EP X pins σ Q r s') pl (by omega) (by omega) (by rw [List.size_toArray, ← hl]; exact h1) (by simpa using ew) ⟨rfl, fin⟩) hs
theorem ix_str : IxR X rIxS := by
  intro value slice pins s σ H x y v u Q I rx ry h hs
  obtain ⟨z, i, c, rfl, rfl, hz, he, q⟩ := h
  obtain ⟨t, rfl⟩ := rx
  obtain ⟨t', rfl⟩ := ry
  obtain ⟨j, h1, h2, h3, h4, h5⟩ := atI_get he
  have hl : z.cps.toList.length = z.length := by simp [Str.length]
  rw [hl] at h1 h4 h5
  have hn := line63
  exact tail_any (typeIs_str s z t) slot_str_getitem.lookup (getItem_str (c := c) (by
    have e1 : decide (i < -(2 ^ 63 : Int)) = false := decide_eq_false (by omega)
    have e2 : decide (i ≥ 2 ^ 63) = false := decide_eq_false (by omega)
    rw [e1, e2, Bool.or_false]) (by rw [h1]; simpa using h2) ⟨.str ⟨#[c]⟩, H, I.tok _, ⟨_, rfl⟩, q⟩) hs
theorem mapSeq_set (its : List Value) (n j : Nat) (u : Value) : Obj.mapSeq (·.setIfInBounds j u) { cls := .type "list", data := .seq its.toArray n } = { cls := .type "list", data := .seq (its.set j u).toArray n } := by
  simp [Obj.mapSeq]
theorem Inv.lst {pins : List (Addr × Obj)} {σ : St} {H : Hp} {s : Shared} {p : Addr} {xs : List V} (I : Inv X pins σ H s) (h : H p = some (.lst xs)) :
    ∃ (its : List Value) (n : Nat), Vals xs its ∧ s.heap.get? p = some { cls := .type "list", data := .seq its.toArray n } ∧ xs.length ≤ sizeLine := by
  obtain ⟨z, its, n, r, e⟩ := I.hok p _ h
  exact ⟨its, n, r, e, z⟩
theorem Inv.lstUpd {pins : List (Addr × Obj)} {σ : St} {H : Hp} {s : Shared} {p : Addr} {xs ys : List V} {its its' : List Value} {n n' : Nat} {f : Obj → Obj} (I : Inv X pins σ H s) (h : H p = some (.lst xs))
    (ho : s.heap.get? p = some { cls := .type "list", data := .seq its.toArray n }) (hf : f { cls := .type "list", data := .seq its.toArray n } = { cls := .type "list", data := .seq its'.toArray n' }) (r : Vals ys its') (hz : ys.length ≤ sizeLine) (t : Nat) :
    Inv X pins σ (upd H p (.lst ys)) { s with heap := s.heap.update p f, toks := t } := by
  have e : (s.heap.update p f).get? p = some { cls := .type "list", data := .seq its'.toArray n' } := by
    rw [Heap.get?_update_self f ho (by rw [hf] <;> rfl), hf]
  refine I.write (x := p) (e := p) (by rw [h]; trivial) (.inl rfl) (fun b u hb q => (Heap.get?_update_other _ _ (Ne.symm hb)).trans q) ⟨_, e⟩ ?_
  exact ⟨hz, its', n', r, e⟩
def rSetL : V → V → V → Hp → (Hp → Prop) → Prop := fun o i v H Q => ∃ p xs k j, o = .ref p ∧ i = .int k ∧ H p = some (.lst xs) ∧ ixN xs.length k = some j ∧ Q (upd H p (.lst (xs.set j v)))
theorem set_list : PSet X rSetL := by
  intro pins s σ H o i v ov iv u Q I ro ri rv h
  obtain ⟨p, xs, k, j, rfl, rfl, hp, hj, q⟩ := h
  cases ro
  obtain ⟨t, rfl⟩ := ri
  obtain ⟨its, n, r, ho, hz⟩ := I.lst hp
  obtain ⟨h1, h2, h3, h4⟩ := ixN_seq hj
  have hl := r.length
  have hn := line63
  have I' : Inv X pins σ (upd H p (.lst (xs.set j v))) { s with heap := s.heap.update p (Obj.mapSeq (·.setIfInBounds j u)) } :=
    I.lstUpd hp ho (mapSeq_set its n j u) (r.set rv j) (by rw [List.length_set]; exact hz) s.toks
  by_cases h0 : 0 ≤ k
  · have hk : k.toNat = j := by
      rw [seqIndex_of h0 h4] at h1
      exact Option.some.inj h1
    exact PySem.W.ki_setAt ho h0 (by omega) (by rw [List.size_toArray, ← hl]; exact h4) (by rw [hk]; exact ⟨_, I', q⟩)
  · have hk : (k + (its.toArray.size : Int)).toNat = j := by
      rw [seqIndex_neg (by omega) h3] at h1
      rw [List.size_toArray, ← hl]
      exact Option.some.inj h1
    exact PySem.W.ki_setBack ho (by omega) (by rw [List.size_toArray, ← hl]; exact h3) (by omega) (by rw [hk]; exact ⟨_, I', q⟩)
theorem slice_bounds (lo hi : Option Int) (n : Nat) : (sliceBounds lo hi none n).1 = ((HT.sIx n 0 lo : Nat) : Int) ∧ (sliceBounds lo hi none n).2.1 = ((HT.sIx n n hi : Nat) : Int) ∧ (sliceBounds lo hi none n).2.2 = 1 := by
  refine ⟨?_, ?_, rfl⟩
  · cases lo with
    | none => simp [sliceBounds, HT.sIx]
    | some i =>
      simp only [sliceBounds, HT.sIx, Option.getD_none, show (1 : Int) > 0 by decide, if_true]
      by_cases h : i < 0
      · simp only [h, if_true] <;> omega
      · simp only [h, if_false] <;> omega
  · cases hi with
    | none => simp [sliceBounds, HT.sIx]
    | some i =>
      simp only [sliceBounds, HT.sIx, Option.getD_none, show (1 : Int) > 0 by decide, if_true]
      by_cases h : i < 0
      · simp only [h, if_true] <;> omega
      · simp only [h, if_false] <;> omega
theorem slicePick_cut (its : List Value) (lo hi : Option Int) : slicePick its.toArray lo hi none = ((its.drop (HT.sIx its.length 0 lo)).take (HT.sIx its.length its.length hi - HT.sIx its.length 0 lo)).toArray := by
  obtain ⟨h1, h2, h3⟩ := slice_bounds lo hi its.toArray.size
  unfold slicePick
  rw [h1, h2, h3]
  simp only [sliceRange_one, pick_run, List.size_toArray] <;> rfl
def rSlL (K : PySem.W.Frag) : V → Option Int → Option Int → Hp → VK → Prop := fun x lo hi H Q => ∃ a xs, x = .ref a ∧ SqL K H a xs ∧ ∀ p, H p = none → Q (.ref p) (upd H p (.lst (cutV xs lo hi)))
theorem sl_list : SlR X (rSlL X.K) := by
  intro pins s σ H x v vl vu lo hi sl Q I rx hs pl pu h
  obtain ⟨a, xs, rfl, hx, q⟩ := h
  cases rx
  obtain ⟨its, r, ht, hz⟩ := I.list hx
  have hlen := r.length
  refine ⟨"list", _, slot_list_getitem.lookup, ht.isList.typeIs, ?_⟩
  refine wpAny_getItem_list_slice ht.isList hs pl pu .none (by simp) ?_ (by rw [List.size_toArray] <;> omega)
  rw [slicePick_cut, ← hlen]
  refine ⟨.ref s.heap.objs.size, _, I.laid (t' := s.toks) (o := .lst (cutV xs lo hi)) (fun b ob q => Heap.get?_push_of_some _ q) (Nat.le_refl _) ?_, rfl, q _ (I.hok.fresh (Nat.le_refl _))⟩
  exact ⟨Nat.le_trans (cutV_length xs lo hi) hz, _, 0, (r.drop (HT.sIx xs.length 0 lo)).take (HT.sIx xs.length xs.length hi - HT.sIx xs.length 0 lo), Heap.get?_push_size _ rfl⟩
def flatV : V → Bool
  | .non => true
  | .bl _ => true
  | .int _ => true
  | .str _ => true
  | _ => false
def eqV : V → V → Bool
  | .non, .non => true
  | .bl a, .bl b => a == b
  | .bl a, .int b => (if a then 1 else 0) == b
  | .int a, .bl b => a == (if b then 1 else 0)
  | .int a, .int b => a == b
  | .str a, .str b => a == b
  | _, _ => false
theorem eqAt_V {A : Around} {s : Shared} {y x : V} {u v : Value} (ry : RelV y u) (rx : RelV x v) (fy : flatV y = true) (fx : flatV x = true) : SeqAt.EqAt A s u v (eqV y x) := by
  cases y with
  | non =>
    cases ry
    cases x with
    | non => cases rx; exact SeqAt.EqAt.same _
    | bl b => cases rx; exact SeqAt.EqAt.none_bool b
    | int b => obtain ⟨t, rfl⟩ := rx; exact SeqAt.EqAt.none_int b t
    | str b => obtain ⟨t, rfl⟩ := rx; exact SeqAt.EqAt.none_str b t
    | _ => exact absurd (show false = true from fx) Bool.false_ne_true
  | bl a =>
    cases ry
    cases x with
    | non => cases rx; exact SeqAt.EqAt.bool_none a
    | bl b => cases rx; exact SeqAt.EqAt.bool_bool a b
    | int b => obtain ⟨t, rfl⟩ := rx; exact SeqAt.EqAt.bool_int a b t
    | str b => obtain ⟨t, rfl⟩ := rx; exact SeqAt.EqAt.bool_str a b t
    | _ => exact absurd (show false = true from fx) Bool.false_ne_true
  | int a =>
    obtain ⟨t', rfl⟩ := ry
    cases x with
    | non => cases rx; exact SeqAt.EqAt.int_none a t'
    | bl b => cases rx; exact SeqAt.EqAt.int_bool a t' b
    | int b => obtain ⟨t, rfl⟩ := rx; exact SeqAt.EqAt.int_int a t' b t
    | str b => obtain ⟨t, rfl⟩ := rx; exact SeqAt.EqAt.int_str a t' b t
    | _ => exact absurd (show false = true from fx) Bool.false_ne_true
  | str a =>
    obtain ⟨t', rfl⟩ := ry
    cases x with
    | non => cases rx; exact SeqAt.EqAt.str_none a t'
    | bl b => cases rx; exact SeqAt.EqAt.str_bool a t' b
    | int b => obtain ⟨t, rfl⟩ := rx; exact SeqAt.EqAt.str_int a t' b t
    | str b => obtain ⟨t, rfl⟩ := rx; exact SeqAt.EqAt.str_str a t' b t
    | _ => exact absurd (show false = true from fx) Bool.false_ne_true
  | _ => exact absurd (show false = true from fy) Bool.false_ne_true
def eqU (x : V) (u : Value) : Bool := match u with
  | .none => eqV .non x
  | .bool b => eqV (.bl b) x
  | .int i _ => eqV (.int i) x
  | .str z _ => eqV (.str z) x
  | _ => false
theorem eqU_of {x y : V} {u : Value} (r : RelV y u) (f : flatV y = true) : eqU x u = eqV y x := by
  cases y with
  | non => cases r; rfl
  | bl b => cases r; rfl
  | int i => obtain ⟨t, rfl⟩ := r; rfl
  | str z => obtain ⟨t, rfl⟩ := r; rfl
  | _ => exact absurd (show false = true from f) Bool.false_ne_true
theorem any_eqU {x : V} : ∀ {xs : List V} {us : List Value}, Vals xs us → xs.all flatV = true → us.any (eqU x) = xs.any fun y => eqV y x
  | _, _, .nil, _ => rfl
  | y :: xs, u :: us, .cons r t, f => by
    rw [List.all_cons, Bool.and_eq_true] at f
    rw [List.any_cons, List.any_cons, eqU_of r f.1, any_eqU t f.2]
theorem mem_eqAt {A : Around} {s : Shared} {x : V} {v : Value} (rx : RelV x v) (fx : flatV x = true) : ∀ {xs : List V} {us : List Value}, Vals xs us → xs.all flatV = true → ∀ u ∈ us, SeqAt.EqAt A s u v (eqU x u)
  | _, _, .nil, _ => fun u hu => by cases hu
  | y :: xs, u :: us, .cons r t, f => fun u' hu => by
    rw [List.all_cons, Bool.and_eq_true] at f
    rcases List.mem_cons.mp hu with rfl | hu
    · rw [eqU_of r f.1]; exact eqAt_V r rx f.1 fx
    · exact mem_eqAt rx fx t f.2 u' hu
def inV (x : V) (xs : List V) : Bool := xs.any fun y => eqV y x
def rIn (K : PySem.W.Frag) (neg : Bool) : R2 := fun x y H Q => ∃ p xs, y = .ref p ∧ (SqL K H p xs ∨ SqT K H p xs) ∧ flatV x = true ∧ xs.all flatV = true ∧ Q (.bl (if neg then !inV x xs else inV x xs)) H
theorem op_in_seq : OpR X (compareOp .In) (rIn X.K false) := by
  intro pins s σ H x y v u Q I rx ry h
  obtain ⟨p, xs, rfl, hq, fx, fs, q⟩ := h
  cases ry
  rcases hq with hq | hq
  · obtain ⟨its, r, pl, hz⟩ := I.list hq
    refine SeqAt.in_listAt (eqU x) pl.isList (fun w hw => mem_eqAt rx fx r fs w (by simpa using hw)) ⟨.bl _, H, I, rfl, ?_⟩
    rw [show its.toArray.any (eqU x) = its.any (eqU x) by simp, any_eqU r fs]
    exact q
  · obtain ⟨its, r, pl, hz⟩ := I.tuple hq
    refine SeqAt.in_tupleAt (eqU x) pl (fun w hw => mem_eqAt rx fx r fs w (by simpa using hw)) ⟨.bl _, H, I, rfl, ?_⟩
    rw [show its.toArray.any (eqU x) = its.any (eqU x) by simp, any_eqU r fs]
    exact q
theorem op_notIn_seq : OpR X (compareOp .NotIn) (rIn X.K true) := by
  intro pins s σ H x y v u Q I rx ry h
  obtain ⟨p, xs, rfl, hq, fx, fs, q⟩ := h
  cases ry
  rcases hq with hq | hq
  · obtain ⟨its, r, pl, hz⟩ := I.list hq
    refine SeqAt.notIn_listAt (eqU x) pl.isList (fun w hw => mem_eqAt rx fx r fs w (by simpa using hw)) ⟨.bl _, H, I, rfl, ?_⟩
    rw [show its.toArray.any (eqU x) = its.any (eqU x) by simp, any_eqU r fs]
    exact q
  · obtain ⟨its, r, pl, hz⟩ := I.tuple hq
    refine SeqAt.notIn_tupleAt (eqU x) pl (fun w hw => mem_eqAt rx fx r fs w (by simpa using hw)) ⟨.bl _, H, I, rfl, ?_⟩
    rw [show its.toArray.any (eqU x) = its.any (eqU x) by simp, any_eqU r fs]
    exact q
theorem call_tuple_of : CallR X (.type "tuple") (fun xs H Q => ∃ p ys, xs = [.ref p] ∧ ((SqL X.K H p ys ∧ ∀ l, H l = none → Q (.ref l) (upd H l (.tup ys))) ∨ (SqT X.K H p ys ∧ Q (.ref p) H))) := by
  intro pins s σ H xs us Q I r h
  obtain ⟨p, ys, rfl, h⟩ := h
  obtain ⟨u, rfl, rx⟩ := vals1 r
  cases rx
  rcases h with ⟨hq, q⟩ | ⟨hq, q⟩
  · obtain ⟨its, r', pl, hz⟩ := I.list hq
    have hlen := r'.length
    refine call_tuple_list pl.isList (fun h' kp => ?_) (by simp only [List.size_toArray] <;> omega)
    have I1 : Inv X pins σ H { s with heap := h' } := I.kept (t' := s.toks) kp
    have I2 : Inv X pins σ (upd H h'.objs.size (.tup ys)) { s with heap := h'.push { cls := .type "tuple", data := .seq its.toArray } } :=
      I1.laid (t' := s.toks) (fun b o e => Heap.get?_push_of_some _ e) (Nat.le_refl _) (show ObjOk X.prog X.w _ _ _ (.tup ys) from ⟨⟨hz, NoDct.new rfl rfl⟩, its, r', IsTup.new _ _⟩)
    exact ⟨.ref h'.objs.size, _, I2, rfl, q _ (I1.hok.fresh (Nat.le_refl _))⟩
  · obtain ⟨its, r', pl, hz⟩ := I.tuple hq
    exact call_tuple_same pl ⟨.ref p, H, I, rfl, q⟩
def tyV (K : PySem.W.Frag) (T : String) (x : V) (H : Hp) : Prop := match x with
  | .str _ => T = "str"
  | .int _ => T = "int"
  | .ref p => (T = "list" ∧ ∃ xs, SqL K H p xs) ∨ (T = "tuple" ∧ ∃ o, K.lookup p = some o ∧ o.cls = .type "tuple" ∧ o.dict = none) ∨
      (T = "dict" ∧ ((∃ kvs, H p = some (.dK kvs)) ∨ ∃ kvs, H p = some (.dT kvs))) ∨ (T = "set" ∧ ∃ S n, H p = some (.set S n))
  | _ => False
theorem tyV_is {pins : List (Addr × Obj)} {σ : St} {H : Hp} {s : Shared} {T : String} {x : V} {v : Value} (I : Inv X pins σ H s) (r : RelV x v) (ty : tyV X.K T x H) :
    s.TypeIs v T ∧ ∀ a, v = .ref a → ∃ ob, s.heap.get? a = some ob ∧ ob.dict = none := by
  cases x with
  | str z =>
    obtain ⟨t, rfl⟩ := r
    cases (show T = "str" from ty)
    exact ⟨typeIs_str s z t, fun _ e => nomatch e⟩
  | int i =>
    obtain ⟨t, rfl⟩ := r
    cases (show T = "int" from ty)
    exact ⟨typeIs_int s i t, fun _ e => nomatch e⟩
  | ref p =>
    cases r
    rcases ty with ⟨rfl, xs, hq⟩ | ⟨rfl, o, hk, hc, hd⟩ | ⟨rfl, hk⟩ | ⟨rfl, S, n, hk⟩
    · obtain ⟨its, _, pl, _⟩ := I.list hq
      refine ⟨pl.isList.typeIs, fun a e => ?_⟩
      cases e
      obtain ⟨o, n, e, c, hd, _⟩ := pl
      exact ⟨o, e, hd⟩
    · refine ⟨⟨o, I.kIn p o hk, hc⟩, fun a e => ?_⟩
      cases e
      exact ⟨o, I.kIn _ o hk, hd⟩
    · have z : ∃ o, s.heap.get? p = some o ∧ o.ExactDict := by
        rcases hk with ⟨kvs, hk⟩ | ⟨kvs, hk⟩
        · obtain ⟨_, _, _, _, o, _, _, e, ex, _⟩ := I.hok p _ hk
          exact ⟨o, e, ex⟩
        · obtain ⟨_, _, _, _, o, _, _, e, ex, _⟩ := I.hok p _ hk
          exact ⟨o, e, ex⟩
      obtain ⟨o, e, ex⟩ := z
      refine ⟨⟨o, e, ex.1⟩, fun a e2 => ?_⟩
      cases e2
      exact ⟨o, e, ex.2.1⟩
    · obtain ⟨o, _, _, _, e, ex, _⟩ := I.hok p _ hk
      refine ⟨⟨o, e, ex.1⟩, fun a e2 => ?_⟩
      cases e2
      exact ⟨o, e, ex.2.1⟩
  | _ => exact False.elim ty
def tBM0 (K : PySem.W.Frag) (T : String) (r : V → List V → Hp → VK → Prop) (to : TE) : TE := fun σ H Q => to σ H fun x H1 => tyV K T x H1 ∧ r x [] H1 Q
def tBM (K : PySem.W.Frag) (T : String) (r : V → List V → Hp → VK → Prop) (to : TE) (t : TA) : TE := fun σ H Q => to σ H fun x H1 => tyV K T x H1 ∧ t σ H1 fun xs H2 => r x xs H2 Q
variable {o e : Expr} {es : List Expr} {to : TE} {t : TA} {name : Str} {apos cpos : Pos} {T id : String} {r : V → List V → Hp → VK → Prop}
theorem pe_bm0 (pa : PlainAttrs T) (slot : Slot T name id) (hty : typeOf (.builtin id) = pure (.type "method_descriptor")) (hm : MtR X id r) (ho : PE X o to)
    (hbase : attributeBase o name X.env (eval o X.env) = eval o X.env := by rfl) (hline : (apos.endLine == cpos.line) = true := by rfl) : PE X (.Call (.Attribute o name apos) [] [] cpos) (tBM0 X.K T r to) := by
  intro pins s σ H Q I h
  refine wpAny_Call_method0_late hbase hline (thn (ho pins s σ H _ I h) ?_)
  rintro v s1 ⟨x, H1, I1, r1, ty, q1⟩
  obtain ⟨h1, h2⟩ := tyV_is I1 r1 ty
  exact ⟨T, id, pa, slot, hty, h1, h2, Calls.callWith_builtin rfl (PySem.evalArgs_none (hm pins s1 σ H1 x [] v [] Q I1 r1 .nil q1))⟩
theorem pe_bm (pa : PlainAttrs T) (slot : Slot T name id) (hty : typeOf (.builtin id) = pure (.type "method_descriptor")) (hm : MtR X id r) (ho : PE X o to) (ha : PA X (e :: es) t)
    (hbase : attributeBase o name X.env (eval o X.env) = eval o X.env := by rfl)
    (hfew : ((backTo cpos (starEach (e :: es) X.env)).all (fun x => !x.1) && (backToKw cpos (keywordEach [] X.env)).all (fun x => x.1.isSome)
      && decide ((e :: es).length + ([] : List Keyword).length + (if ([] : List Keyword).isEmpty then 0 else 1) < 30)) = true := by rfl)
    (hline : (apos.endLine == cpos.line) = true := by rfl) (hs : starEach (e :: es) X.env = (false, eval e X.env) :: starEach es X.env := by rfl) (hplain : (backTo cpos (starEach es X.env)).any (·.1) = false := by rfl) :
    PE X (.Call (.Attribute o name apos) (e :: es) [] cpos) (tBM X.K T r to t) := by
  intro pins s σ H Q I h
  refine wpAny_Call_method_late hbase hfew hline rfl (thn (ho pins s σ H _ I h) ?_)
  rintro v s1 ⟨x, H1, I1, r1, ty, q1⟩
  obtain ⟨h1, h2⟩ := tyV_is I1 r1 ty
  refine ⟨T, id, pa, slot, hty, h1, h2, ?_⟩
  have hA := ha cpos pins s1 σ H1 _ I1 q1
  rw [hs] at hA ⊢
  refine Calls.callWith_builtin (by show (false || (backTo cpos (starEach es X.env)).any (·.1)) = false; rw [hplain] <;> rfl) (Calls.evalArgs_plain ?_)
  exact thn hA fun us s2 ⟨vs, H2, I2, r2, q2⟩ => hm pins s2 σ H2 x vs v us Q I2 r1 r2 q2
/- xs.append(e), list.index on a module's tuple .. are MtR facts of 06m -/
end
end L2
namespace L2
open PySem PySem.Spec PyProof.Rows
def MtM (X : Cx) (id : String) (r : V → List V → Hp → VK → Prop) : Prop :=
  ∀ (pins : List (Addr × Obj)) (s : Shared) (σ : St) (H : Hp) (x : V) (xs : List V) (v : Value) (us : List Value) (Q : VK), Inv X pins σ H s → RelV x v → Vals xs us → r x xs H Q →
    wpAny (model X.prog X.w) X.A (call (.builtin id) (v :: us)) (EP X pins σ Q) X.xe s
theorem Vals.one : ∀ {x : V} {us : List Value}, Vals [x] us → ∃ u, us = [u] ∧ RelV x u
  | _, _, .cons r .nil => ⟨_, rfl, r⟩
theorem Vals.two : ∀ {x y : V} {us : List Value}, Vals [x, y] us → ∃ u v, us = [u, v] ∧ RelV x u ∧ RelV y v
  | _, _, _, .cons r (.cons q .nil) => ⟨_, _, rfl, r, q⟩
theorem Vals.zero : ∀ {us : List Value}, Vals [] us → us = []
  | _, .nil => rfl
theorem Vals.dropLast {xs : List V} {us : List Value} (h : Vals xs us) : Vals xs.dropLast us.dropLast := by
  induction h with
  | nil => exact .nil
  | cons r t ih =>
    cases t with
    | nil => exact .nil
    | cons q t' => exact .cons r ih
theorem Vals.eraseIdx : ∀ {xs : List V} {us : List Value} (i : Nat), Vals xs us → Vals (xs.eraseIdx i) (us.eraseIdx i)
  | _, _, _, .nil => .nil
  | _, _, 0, .cons _ t => t
  | _, _, i + 1, .cons r t => .cons r (Vals.eraseIdx i t)
theorem erase_last {α : Type} (l : List α) : l.eraseIdx (l.length - 1) = l.dropLast := by
  induction l with
  | nil => rfl
  | cons a r ih =>
    cases r with
    | nil => rfl
    | cons b r =>
      have e : (a :: b :: r).length - 1 = ((b :: r).length - 1) + 1 := by
        have h1 : (a :: b :: r).length = r.length + 2 := rfl
        have h2 : (b :: r).length = r.length + 1 := rfl
        omega
      rw [e, List.eraseIdx_cons_succ, ih]
      all_goals rfl
theorem len_erase {α : Type} : ∀ (l : List α) (i : Nat), (l.eraseIdx i).length ≤ l.length
  | [], _ => Nat.le_refl _
  | _ :: _, 0 => Nat.le_succ _
  | _ :: r, i + 1 => Nat.succ_le_succ (len_erase r i)
section
variable {X : Cx} {pins : List (Addr × Obj)} {σ : St} {H : Hp} {s : Shared} {l b : Addr} {xs ys zs : List V}
theorem Inv.lset {its its' : List Value} {n : Nat} {f : Array Value → Array Value} {t' : Nat} (I : Inv X pins σ H s) (hH : H l = some (.lst xs))
    (e : s.heap.get? l = some { cls := .type "list", data := .seq its.toArray n }) (hf : f its.toArray = its'.toArray) (hv : Vals ys its') (hz : ys.length ≤ sizeLine) :
    Inv X pins σ (upd H l (.lst ys)) { s with heap := s.heap.update l (Obj.mapSeq f), toks := t' } := by
  have q := PySem.IsL.update e f
  rw [hf] at q
  refine I.write (x := l) (e := l) (by rw [hH]; exact trivial) (.inl rfl) (fun b' u hb hu => (Heap.get?_update_other s.heap (Obj.mapSeq f) (Ne.symm hb)).trans hu) ⟨_, q⟩ ?_
  exact ⟨hz, its', _, hv, q⟩
theorem Inv.lnew {its : List Value} {t' : Nat} (I : Inv X pins σ H s) (hv : Vals ys its) (hz : ys.length ≤ sizeLine) :
    Inv X pins σ (upd H s.heap.objs.size (.lst ys)) { s with heap := s.heap.push { cls := .type "list", data := .seq its.toArray }, toks := t' } :=
  I.laid (fun _ _ q => Heap.get?_push_of_some _ q) (Nat.le_refl _) ⟨hz, its, 0, hv, Heap.get?_push_size _ rfl⟩
theorem Inv.fresh (I : Inv X pins σ H s) : H s.heap.objs.size = none := I.hok.fresh (Nat.le_refl _)
theorem Inv.lstM (I : Inv X pins σ H s) (hH : H l = some (.lst xs)) : xs.length ≤ sizeLine ∧ ∃ (its : List Value) (n : Nat), Vals xs its ∧ xs.length = its.length ∧ s.heap.get? l = some { cls := .type "list", data := .seq its.toArray n } := by
  obtain ⟨z, its, n, r, e⟩ := I.hok l _ hH
  exact ⟨z, its, n, r, r.length, e⟩
theorem notLongL {n : Nat} (h : n ≤ sizeLine) : Builtin.List.listTooLong n = false := by
  unfold Builtin.List.listTooLong
  exact decide_eq_false (by omega)
end
section
variable {X : Cx}
def rAppend : V → List V → Hp → VK → Prop := fun x vs H Q => ∃ l xs y, x = .ref l ∧ vs = [y] ∧ H l = some (.lst xs) ∧ xs.length < sizeLine ∧ Q .non (upd H l (.lst (xs ++ [y])))
theorem mt_append : MtM X "list.append" rAppend := by
  intro pins s σ H x vs v us Q I rx rv h
  obtain ⟨l, xs, y, rfl, rfl, hH, hz, q⟩ := h
  cases rx
  obtain ⟨u, rfl, ru⟩ := rv.one
  obtain ⟨z, its, n, r, hl, e⟩ := I.lstM hH
  refine call_meets F.slot_list_append ⟨_, e, rfl⟩ F.entry_list_append (F.args_list_append_2 _ _) (PySem.list_append l its.toArray n u (by rw [List.size_toArray]; omega)) ⟨e, ?_⟩
  refine ⟨.non, _, I.lset (its' := its ++ [u]) hH e (by simp) (r.append (.cons ru .nil)) ?_, rfl, q⟩
  rw [List.length_append, List.length_singleton]
  omega
def rExtend : V → List V → Hp → VK → Prop := fun x vs H Q => ∃ l b xs zs, x = .ref l ∧ vs = [.ref b] ∧ H l = some (.lst xs) ∧ H b = some (.lst zs) ∧ xs.length + zs.length ≤ sizeLine ∧ Q .non (upd H l (.lst (xs ++ zs)))
theorem mt_extend : MtM X "list.extend" rExtend := by
  intro pins s σ H x vs v us Q I rx rv h
  obtain ⟨l, b, xs, zs, rfl, rfl, hH, hB, hz, q⟩ := h
  cases rx
  obtain ⟨u, rfl, ru⟩ := rv.one
  cases ru
  obtain ⟨z, its, n, r, hl, e⟩ := I.lstM hH
  obtain ⟨z2, its2, n2, r2, hl2, e2⟩ := I.lstM hB
  have hsz : its.toArray.size + its2.toArray.size ≤ sizeLine := by rw [List.size_toArray, List.size_toArray]; omega
  have hlong : ¬ (!its.toArray.isEmpty && Builtin.List.listTooLong (its.toArray.size + its2.toArray.size)) = true := by
    rw [notLongL hsz, Bool.and_false]
    exact Bool.false_ne_true
  refine call_meets F.slot_list_extend ⟨_, e, rfl⟩ F.entry_list_extend (F.args_list_extend_2 _ _)
    (AutoSeq1.list_extend_list_list_0 l its.toArray n b its2.toArray n2 hlong (by rw [List.size_toArray]; omega) (by omega)) ⟨e, e2, ?_⟩
  refine ⟨.non, _, I.lset (its' := its ++ its2) hH e (by simp) (r.append r2) ?_, rfl, q⟩
  rw [List.length_append]
  omega
def rPop : V → List V → Hp → VK → Prop := fun x vs H Q => ∃ l xs y, x = .ref l ∧ vs = [] ∧ H l = some (.lst xs) ∧ xs[xs.length - 1]? = some y ∧ Q y (upd H l (.lst xs.dropLast))
theorem mt_pop : MtM X "list.pop" rPop := by
  intro pins s σ H x vs v us Q I rx rv h
  obtain ⟨l, xs, y, rfl, rfl, hH, hy, q⟩ := h
  cases rx
  have hus := rv.zero
  subst hus
  obtain ⟨z, its, n, r, hl, e⟩ := I.lstM hH
  obtain ⟨u, hu, ru⟩ := r.get hy
  have hy' : its.toArray[its.toArray.size - 1]? = some u := by
    show its.toArray[its.length - 1]? = some u
    rw [← Array.getElem?_toList, ← hl]
    exact hu
  refine call_meets F.slot_list_pop ⟨_, e, rfl⟩ F.entry_list_pop (F.args_list_pop_1 _) (MeetsSeq.list_pop_last l its.toArray n u hy' (by rw [List.size_toArray]; omega)) ⟨e, ?_⟩
  refine ⟨y, _, I.lset (its' := its.dropLast) hH e ?_ r.dropLast ?_, ru, q⟩
  · show its.toArray.eraseIdxIfInBounds (its.toArray.size - 1) = its.dropLast.toArray
    rw [List.size_toArray, List.eraseIdxIfInBounds_toArray, erase_last]
  · rw [List.length_dropLast]
    omega
def rPopAt : V → List V → Hp → VK → Prop := fun x vs H Q => ∃ l xs i k y, x = .ref l ∧ vs = [.int i] ∧ H l = some (.lst xs) ∧ -(2 ^ 63) ≤ i ∧ i < 2 ^ 63 ∧ seqIndex? i xs.length = some k ∧ xs[k]? = some y ∧ Q y (upd H l (.lst (xs.eraseIdx k)))
theorem mt_popAt : MtM X "list.pop" rPopAt := by
  intro pins s σ H x vs v us Q I rx rv h
  obtain ⟨l, xs, i, k, y, rfl, rfl, hH, h1, h2, hk, hy, q⟩ := h
  cases rx
  obtain ⟨u, rfl, ru⟩ := rv.one
  obtain ⟨t, rfl⟩ := ru
  obtain ⟨z, its, n, r, hl, e⟩ := I.lstM hH
  obtain ⟨w, hw, rw'⟩ := r.get hy
  refine call_meets F.slot_list_pop ⟨_, e, rfl⟩ F.entry_list_pop (F.args_list_pop_2 _ _)
    (MeetsSeq.list_pop_at l its.toArray n i t k w (fitsIndex_both h1 h2) (by rw [List.size_toArray, ← hl]; exact hk) (by rw [← Array.getElem?_toList]; exact hw) (by rw [List.size_toArray]; omega)) ⟨e, ?_⟩
  refine ⟨y, _, I.lset (its' := its.eraseIdx k) hH e ?_ (r.eraseIdx k) ?_, rw', q⟩
  · show its.toArray.eraseIdxIfInBounds k = (its.eraseIdx k).toArray
    rw [List.eraseIdxIfInBounds_toArray]
  · have := len_erase xs k
    omega
def rCat : R2 := fun x y H Q => ∃ l b xs zs, x = .ref l ∧ y = .ref b ∧ H l = some (.lst xs) ∧ H b = some (.lst zs) ∧ xs.length + zs.length ≤ sizeLine ∧ ∀ p, H p = none → Q (.ref p) (upd H p (.lst (xs ++ zs)))
theorem op_cat : OpR X (binaryOp .Add) rCat := by
  intro pins s σ H x y v u Q I rx ry h
  obtain ⟨l, b, xs, zs, rfl, rfl, hH, hB, hz, q⟩ := h
  cases rx
  cases ry
  obtain ⟨z, its, n, r, hl, e⟩ := I.lstM hH
  obtain ⟨z2, its2, n2, r2, hl2, e2⟩ := I.lstM hB
  refine PySem.P.add_list e e2 ?_ (by rw [List.size_toArray, List.size_toArray]; omega)
  have ea : its.toArray ++ its2.toArray = (its ++ its2).toArray := by simp
  rw [ea]
  exact ⟨.ref _, _, I.lnew (t' := s.toks) (r.append r2) (by rw [List.length_append]; omega), rfl, q _ I.fresh⟩
end
section
variable {prog : Program} {w : World} {A : Around} {E : Value → Shared → Prop} {s : Shared}
end
section
variable {X : Cx}
end
end L2
namespace L2
open PySem PySem.Spec PyProof.Rows
section
variable {κ : Type} [DecidableEq κ]
def valV (kvs : List (κ × V)) (k : κ) : Option V := (kvs.find? fun kv => decide (kv.1 = k)).map (·.2)
def putK (kvs : List (κ × V)) (k : κ) (v : V) : List (κ × V) :=
  if (kvs.any fun kv => decide (kv.1 = k)) = true then kvs.map (fun kv => if kv.1 = k then (kv.1, v) else kv) else kvs ++ [(k, v)]
theorem valV_pos {p : κ × V} {r : List (κ × V)} {k : κ} (e : p.1 = k) : valV (p :: r) k = some p.2 := by simp [valV, List.find?_cons, e]
theorem valV_neg {p : κ × V} {r : List (κ × V)} {k : κ} (e : ¬ p.1 = k) : valV (p :: r) k = valV r k := by simp [valV, List.find?_cons, e]
theorem valV_any (k : κ) : ∀ kvs : List (κ × V), (kvs.any fun kv => decide (kv.1 = k)) = (valV kvs k).isSome
  | [] => rfl
  | p :: r => by
    rw [List.any_cons]
    by_cases e : p.1 = k
    · simp only [valV_pos e, decide_eq_true e, Bool.true_or, Option.isSome_some]
    · rw [valV_neg e, decide_eq_false e, Bool.false_or]; exact valV_any k r
theorem valV_map (k j : κ) (y : V) : ∀ kvs : List (κ × V), valV (kvs.map fun kv => if kv.1 = k then (kv.1, y) else kv) j = (valV kvs j).map fun x => if j = k then y else x
  | [] => rfl
  | p :: r => by
    have ih := valV_map k j y r
    rw [List.map_cons]
    by_cases h : p.1 = k
    · rw [if_pos h]
      by_cases e : p.1 = j
      · rw [valV_pos (p := (p.1, y)) e, valV_pos e, Option.map_some, if_pos (e.symm.trans h)]
      · rw [valV_neg (p := (p.1, y)) e, valV_neg e, ih]
    · rw [if_neg h]
      by_cases e : p.1 = j
      · rw [valV_pos (p := p) e, valV_pos e, Option.map_some, if_neg (fun z => h (e.trans z))]
      · rw [valV_neg (p := p) e, valV_neg e, ih]
theorem valV_snoc (k j : κ) (y : V) : ∀ kvs : List (κ × V), valV kvs k = none → valV (kvs ++ [(k, y)]) j = if j = k then some y else valV kvs j
  | [], _ => by
    by_cases e : k = j
    · rw [if_pos e.symm]; exact valV_pos (p := (k, y)) e
    · rw [if_neg (fun z => e z.symm)]; exact valV_neg (p := (k, y)) e
  | p :: r, hn => by
    rw [List.cons_append]
    have hk : ¬ p.1 = k := fun z => by rw [valV_pos z] at hn; cases hn
    rw [valV_neg hk] at hn
    have ih := valV_snoc k j y r hn
    by_cases e : p.1 = j
    · rw [valV_pos e, valV_pos e, if_neg (fun z => hk (e.trans z))]
    · rw [valV_neg e, valV_neg e, ih]
theorem valV_put (kvs : List (κ × V)) (k j : κ) (y : V) : valV (putK kvs k y) j = if j = k then some y else valV kvs j := by
  unfold putK
  by_cases a : (kvs.any fun kv => decide (kv.1 = k)) = true
  · rw [if_pos a, valV_map]
    rw [valV_any] at a
    by_cases e : j = k
    · obtain ⟨x, hx⟩ := Option.isSome_iff_exists.mp a
      rw [if_pos e, e, hx, Option.map_some, if_pos rfl]
    · rw [if_neg e]
      cases valV kvs j with
      | none => rfl
      | some x => rw [Option.map_some, if_neg e]
  · rw [if_neg a]
    refine valV_snoc k j y kvs ?_
    rw [valV_any] at a
    cases q : valV kvs k with
    | none => rfl
    | some x => rw [q] at a; exact (a rfl).elim
theorem length_putK (kvs : List (κ × V)) (k : κ) (v : V) : (putK kvs k v).length ≤ kvs.length + 1 := by
  unfold putK
  split
  · rw [List.length_map]; omega
  · rw [List.length_append, List.length_cons, List.length_nil]; omega
theorem putK_new {kvs : List (κ × V)} {k : κ} (v : V) (h : valV kvs k = none) : putK kvs k v = kvs ++ [(k, v)] := by
  unfold putK
  rw [valV_any, h]
  exact if_neg (by decide)
theorem RelO.isSome_eq {o : Option V} {u : Option Value} (r : RelO o u) : o.isSome = u.isSome := by
  cases o with
  | none => cases u with
    | none => rfl
    | some _ => exact (show False from r).elim
  | some _ => cases u with
    | none => exact (show False from r).elim
    | some _ => rfl
theorem RelO.getD {o : Option V} {u : Option Value} {d : V} {d' : Value} (r : RelO o u) (rd : RelV d d') : RelV (o.getD d) (u.getD d') := by
  cases o with
  | none => cases u with
    | none => exact rd
    | some _ => exact (show False from r).elim
  | some _ => cases u with
    | none => exact (show False from r).elim
    | some _ => exact r
theorem KV.val {kvs : List (κ × V)} {vs : List (κ × Value)} (r : KV kvs vs) (k : κ) : RelO (valV kvs k) (valueAt vs k) := by
  unfold KV at r
  induction r with
  | nil => exact True.intro
  | @cons p q ps qs h t ih =>
    obtain ⟨h1, h2⟩ := h
    by_cases e : p.1 = k
    · have e' : q.1 = k := h1.symm.trans e
      have b : valueAt (q :: qs) k = some q.2 := by simp [valueAt, List.find?_cons, e']
      rw [valV_pos e, b]; exact h2
    · have e' : ¬ q.1 = k := fun z => e (h1.trans z)
      have b : valueAt (q :: qs) k = valueAt qs k := by simp [valueAt, List.find?_cons, e']
      rw [valV_neg e, b]; exact ih
theorem KV.any {kvs : List (κ × V)} {vs : List (κ × Value)} (r : KV kvs vs) (k : κ) : (kvs.any fun kv => decide (kv.1 = k)) = vs.any fun kv => decide (kv.1 = k) := by
  unfold KV at r
  induction r with
  | nil => rfl
  | cons h t ih => rw [List.any_cons, List.any_cons, ih, h.1]
theorem KV.repl {kvs : List (κ × V)} {vs : List (κ × Value)} (r : KV kvs vs) (k : κ) {y : V} {u : Value} (ry : RelV y u) :
    KV (kvs.map fun kv => if kv.1 = k then (kv.1, y) else kv) (vs.map fun kv => if kv.1 = k then (kv.1, u) else kv) := by
  unfold KV at r ⊢
  induction r with
  | nil => exact .nil
  | @cons p q ps qs h t ih =>
    rw [List.map_cons, List.map_cons]
    refine .cons ?_ ih
    obtain ⟨h1, h2⟩ := h
    by_cases e : p.1 = k
    · rw [if_pos e, if_pos (h1.symm.trans e)]; exact ⟨h1, ry⟩
    · rw [if_neg e, if_neg (fun z => e (h1.trans z))]; exact ⟨h1, h2⟩
theorem KV.put {kvs : List (κ × V)} {vs : List (κ × Value)} (r : KV kvs vs) (k : κ) {y : V} {u : Value} (ry : RelV y u) : KV (putK kvs k y) (stored vs k u) := by
  unfold putK stored
  rw [r.any k]
  by_cases e : (vs.any fun kv => decide (kv.1 = k)) = true
  · rw [if_pos e, if_pos e]; exact r.repl k ry
  · rw [if_neg e, if_neg e]; exact Paired.snoc r ⟨rfl, ry⟩
theorem KV.length {kvs : List (κ × V)} {vs : List (κ × Value)} (r : KV kvs vs) : kvs.length = vs.length := Paired.length r
end
theorem kV_is {P : Program} {w : World} {k : Key} {u : Value} (r : RelV (kV k) u) : (mixKind P w).is k u = true := by
  cases k with
  | inl i => obtain ⟨t, e⟩ := (show ∃ t, u = Value.int i t from r); subst e; exact mixKind_int P w i t
  | inr x => obtain ⟨t, e⟩ := (show ∃ t, u = Value.str x t from r); subst e; exact mixKind_str P w x t
theorem items_are {P : Program} {w : World} : ∀ {ks : List Key} {us : List Value}, Vals (ks.map kV) us → ItemsAre (mixKind P w) ks us
  | [], _, r => by rw [List.map_nil] at r; cases r; exact .nil
  | k :: ks, _, r => by
    rw [List.map_cons] at r
    cases r with
    | cons h t => exact .cons (kV_is h) (items_are t)
abbrev KT (H : Hp) : List (List Key × V) → List (List Key × Addr × Value) → Prop := Paired fun p q => p.1 = q.1 ∧ RdT H q.2.1 (p.1.map kV) ∧ RelV p.2 q.2.2
theorem KT.val {H : Hp} {kvs : List (List Key × V)} {xs : List (List Key × Addr × Value)} (r : KT H kvs xs) (k : List Key) : RelO (valV kvs k) ((atKey xs k).map (·.2)) := by
  induction r with
  | nil => exact True.intro
  | @cons p q ps qs h t ih =>
    obtain ⟨h1, _, h2⟩ := h
    by_cases e : p.1 = k
    · have e' : q.1 = k := h1.symm.trans e
      have b : atKey (q :: qs) k = some q.2 := by simp [atKey, List.find?_cons, e']
      rw [valV_pos e, b]; exact h2
    · have e' : ¬ q.1 = k := fun z => e (h1.trans z)
      have b : atKey (q :: qs) k = atKey qs k := by simp [atKey, List.find?_cons, e']
      rw [valV_neg e, b]; exact ih
theorem KT.repl {H : Hp} {kvs : List (List Key × V)} {xs : List (List Key × Addr × Value)} (r : KT H kvs xs) (k : List Key) {y : V} {u : Value} (ry : RelV y u) :
    KT H (kvs.map fun kv => if kv.1 = k then (kv.1, y) else kv) (xs.map (putAt k u)) := by
  induction r with
  | nil => exact .nil
  | @cons p q ps qs h t ih =>
    rw [List.map_cons, List.map_cons]
    refine .cons ?_ ih
    obtain ⟨h1, h2, h3⟩ := h
    unfold putAt
    by_cases e : p.1 = k
    · rw [if_pos e, if_pos (h1.symm.trans e)]; exact ⟨h1, h2, ry⟩
    · rw [if_neg e, if_neg (fun z => e (h1.trans z))]; exact ⟨h1, h2, h3⟩
theorem KT.put {H : Hp} {kvs : List (List Key × V)} {xs : List (List Key × Addr × Value)} (r : KT H kvs xs) (k : List Key) {b : Addr} {y : V} {u : Value} (hb : RdT H b (k.map kV)) (ry : RelV y u) :
    KT H (putK kvs k y) (storedH xs k b u) := by
  have e : (kvs.any fun kv => decide (kv.1 = k)) = (atKey xs k).isSome := by
    rw [valV_any, (r.val k).isSome_eq, Option.isSome_map]
  unfold putK storedH
  rw [e]
  by_cases q : (atKey xs k).isSome = true
  · rw [if_pos q, if_pos q]; exact r.repl k ry
  · rw [if_neg q, if_neg q]; exact Paired.snoc r ⟨rfl, hb, ry⟩
theorem KT.keeps {H H' : Hp} {kvs : List (List Key × V)} {xs : List (List Key × Addr × Value)} (r : KT H kvs xs) (ht : ∀ b ys, RdT H b ys → RdT H' b ys) : KT H' kvs xs :=
  Paired.mapP r fun _ _ z => ⟨z.1, ht _ _ z.2.1, z.2.2⟩
section
variable {P : Program} {w : World} {H : Hp} {h : Heap} {a : Addr}
theorem rd_of {u : HO} (ok : HOk P w H h) (e : Rd H a u) : ObjOk P w H h a u := e.ok ok
theorem dk_rd {kvs : List (Key × V)} (ok : HOk P w H h) (e : Rd H a (.dK kvs)) : kvs.length ≤ sizeLine ∧ (a == sysModules) = false ∧ ∃ vs, KV kvs vs ∧ h.DictOf (mixKind P w) a vs :=
  show ObjOk P w H h a (.dK kvs) from rd_of ok e
theorem dk_of {kvs : List (Key × V)} (ok : HOk P w H h) (e : H a = some (.dK kvs)) : kvs.length ≤ sizeLine ∧ (a == sysModules) = false ∧ ∃ vs, KV kvs vs ∧ h.DictOf (mixKind P w) a vs := dk_rd ok (.inl e)
theorem key_of {ks : List Key} (ok : HOk P w H h) (e : RdT H a (ks.map kV)) : (tupleKind (mixKind P w)).is h ks a := by
  have qq : ObjOk P w H h a (.tup (ks.map kV)) := by
    rcases e with e | ⟨_, e⟩
    · exact ok a _ e
    · exact (ok a _ e).2
  obtain ⟨_, its, r, o, h1, h2, n, h3⟩ := qq
  exact ⟨o, its.toArray, n, h1, h2, h3, by simpa using items_are r⟩
theorem dt_rd {kvs : List (List Key × V)} (ok : HOk P w H h) (e : Rd H a (.dT kvs)) : kvs.length ≤ sizeLine ∧ (a == sysModules) = false ∧
    ∃ xs, KT H kvs xs ∧ h.DictOfH (tupleKind (mixKind P w)) a xs := by
  obtain ⟨z, y, xs, r, o, es, ep, h1, h2, h3, h4, h5⟩ := (show ObjOk P w H h a (.dT kvs) from rd_of ok e)
  refine ⟨z, y, xs, r, o, es, ep, h1, h2, h3, h4, fun x hx => ?_, h5⟩
  have all : ∀ {l : List (List Key × V)} {m : List (List Key × Addr × Value)}, KT H l m → ∀ x ∈ m, (tupleKind (mixKind P w)).is h x.1 x.2.1 := by
    intro l m q
    induction q with
    | nil => intro x hx; exact nomatch hx
    | @cons p q ps qs hq t ih =>
      intro x hx
      rcases List.mem_cons.mp hx with e | hx
      · subst e
        exact key_of ok (by rw [← hq.1]; exact hq.2.1)
      · exact ih x hx
  exact all r x hx
theorem dt_of {kvs : List (List Key × V)} (ok : HOk P w H h) (e : H a = some (.dT kvs)) : kvs.length ≤ sizeLine ∧ (a == sysModules) = false ∧
    ∃ xs, KT H kvs xs ∧ h.DictOfH (tupleKind (mixKind P w)) a xs := dt_rd ok (.inl e)
end
def DGet (H : Hp) (a : Addr) (y : V) (r : Option V) : Prop :=
  (∃ kvs k, Rd H a (.dK kvs) ∧ y = kV k ∧ r = valV kvs k) ∨ ∃ kvs k b, Rd H a (.dT kvs) ∧ y = .ref b ∧ RdT H b (k.map kV) ∧ r = valV kvs k
def DPut (H : Hp) (a : Addr) (y v : V) (H' : Hp) : Prop :=
  (∃ kvs k, H a = some (.dK kvs) ∧ y = kV k ∧ kvs.length < sizeLine ∧ H' = upd H a (.dK (putK kvs k v))) ∨
  ∃ kvs k b, H a = some (.dT kvs) ∧ y = .ref b ∧ RdT H b (k.map kV) ∧ kvs.length < sizeLine ∧ H' = upd H a (.dT (putK kvs k v))
theorem DGet.k {H : Hp} {a : Addr} {kvs : List (Key × V)} {k : Key} (e : H a = some (.dK kvs)) : DGet H a (kV k) (valV kvs k) := .inl ⟨kvs, k, .inl e, rfl, rfl⟩
theorem DPut.k {H : Hp} {a : Addr} {kvs : List (Key × V)} {k : Key} {v : V} (e : H a = some (.dK kvs)) (hl : kvs.length < sizeLine) : DPut H a (kV k) v (upd H a (.dK (putK kvs k v))) := .inl ⟨kvs, k, e, rfl, hl, rfl⟩
section
variable {X : Cx} {pins : List (Addr × Obj)} {σ : St} {H : Hp} {s : Shared} {a : Addr} {y v : V} {u r : Value} {o : Option V} {A : Around} {E : Value → Shared → Prop}
theorem Inv.big (I : Inv X pins σ H s) : sysModules < s.heap.objs.size := by
  have h : mainGlobals < s.heap.objs.size := (I.mod.glob.keeps I.bk).lt
  exact Nat.lt_trans (by decide) h
theorem d_getItem {Q : Value → Shared → Prop} (hu : A.units + 1 < cLine) (I : Inv X pins σ H s) (g : DGet H a y (some v)) (ry : RelV y u) (h : ∀ w' s', Inv X pins σ H s' → RelV v w' → Q w' s') :
    wpAny (model X.prog X.w) A (getItem (.ref a) u) Q E s := by
  rcases g with ⟨kvs, k, e, ey, l⟩ | ⟨kvs, k, b, e, ey, eb, l⟩
  · subst ey
    obtain ⟨z, hd, vs, rel, dd⟩ := dk_rd I.hok e
    obtain ⟨w', hw, rw'⟩ := RelO.some_of (v := v) (o := valueAt vs k) (by rw [l]; exact rel.val k)
    exact wpAny_getItem_of (kV_is ry) dd.mapOf hw (h w' _ (I.tok _) rw')
  · subst ey
    cases (show u = Value.ref b from ry)
    obtain ⟨z, hd, xs, rel, dd⟩ := dt_rd I.hok e
    obtain ⟨w', hw, rw'⟩ := RelO.some_of (v := v) (o := (atKey xs k).map (·.2)) (by rw [l]; exact rel.val k)
    obtain ⟨p, hp, hp2⟩ := Option.map_eq_some_iff.mp hw
    refine wpAny_getItem_heap (tupleKind_room_in1 hu) (key_of I.hok eb) dd hp ?_
    rw [hp2]
    exact h w' _ (I.tok _) rw'
theorem d_write {h' : Heap} {t' : Nat} {ob : HO} (I : Inv X pins σ H s) (mu : Mut (H a)) (hs : Heap.SameBut a s.heap h') (he : ∃ q, h'.get? a = some q) (new : ObjOk X.prog X.w (upd H a ob) h' a ob) :
    Inv X pins σ (upd H a ob) { s with heap := h', toks := t' } :=
  I.write (x := a) (e := a) mu (.inl rfl) (fun b q hb z => (hs.2 b hb).trans z) he new
theorem dk_new {P : Program} {w : World} {H' : Hp} {h' : Heap} {kvs : List (Key × V)} {vs : List (Key × Value)} (z : kvs.length ≤ sizeLine) (hd : (a == sysModules) = false) (rel : KV kvs vs) (dd : h'.DictOf (mixKind P w) a vs) :
    ObjOk P w H' h' a (.dK kvs) := ⟨z, hd, vs, rel, dd⟩
theorem d_setItem {H' : Hp} {Q : Unit → Shared → Prop} (hu : A.units + 1 < cLine) (I : Inv X pins σ H s) (g : DPut H a y v H') (ry : RelV y u) (rv : RelV v r) (h : ∀ s', Inv X pins σ H' s' → Q () s') :
    wpAny (model X.prog X.w) A (setItem (.ref a) u r) Q E s := by
  rcases g with ⟨kvs, k, e, ey, l, eH⟩ | ⟨kvs, k, b, e, ey, eb, l, eH⟩
  · subst ey eH
    obtain ⟨z, hd, vs, rel, dd⟩ := dk_of I.hok e
    have hz : vs.length ≤ sizeLine := by rw [← rel.length]; exact z
    have hl : (putK kvs k v).length ≤ sizeLine := by have := length_putK kvs k v; omega
    refine wpAny_setItem_pairs (hsz := hz) (kV_is ry) dd fun h' dd' hs => h _ ?_
    have he : ∃ q, h'.get? a = some q := let ⟨q, _, _, hq, _⟩ := dd'; ⟨q, hq⟩
    exact d_write I (by rw [e]; exact True.intro) hs he (dk_new hl hd (rel.put k rv) dd')
  · subst ey eH
    cases (show u = Value.ref b from ry)
    obtain ⟨z, hd, xs, rel, dd⟩ := dt_of I.hok e
    have hz : xs.length ≤ sizeLine := by rw [← Paired.length rel]; exact z
    have hl : (putK kvs k v).length ≤ sizeLine := by have := length_putK kvs k v; omega
    refine wpAny_setItem_heap (hsz := hz) (tupleKind_room_in1 hu) (key_of I.hok eb) dd fun h' dd' hs => h _ ?_
    obtain ⟨q, es, ep, hq, h2, h3, h4, _, h5⟩ := dd'
    refine d_write I (by rw [e]; exact True.intro) hs ⟨q, hq⟩ ⟨hl, hd, _, (rel.put k eb rv).keeps fun c ys ec => ?_, q, es, ep, hq, h2, h3, h4, h5⟩
    refine ec.upd fun u hu z => ?_
    subst z
    rcases ec with ec | ⟨_, ec⟩ <;> (rw [e] at ec; cases ec)
end
section
variable {X : Cx} {pins : List (Addr × Obj)} {σ : St} {H : Hp} {s : Shared} {a : Addr} {kvs : List (Key × V)} {k : Key} {u : Value} {A : Around} {E : Value → Shared → Prop}
theorem d_len {Q : Value → Shared → Prop} (I : Inv X pins σ H s) (e : Rd H a (.dK kvs)) (h : ∀ t s', Inv X pins σ H s' → Q (.int kvs.length t) s') : wpAny (model X.prog X.w) A (call (.builtin "len") [.ref a]) Q E s := by
  obtain ⟨z, hd, vs, rel, dd⟩ := dk_rd I.hok e
  refine call_len_dict hd dd (by rw [← rel.length]; rw [sizeLine_eq] at z; omega) ?_
  rw [← rel.length]
  exact h _ _ (I.tok _)
end
def NoSl (i : Expr) : Prop := ∀ ov iv, subscripted i false ov iv = operate [ov, iv] (getItem ov iv)
theorem subD_of {prog : Program} {w : World} {A : Around} {E : Value → Shared → Prop} {s : Shared} {env : Env} {value slice : Expr} {pos : Pos} {T id : String} {Q : Value → Shared → Prop}
    (hl : typeLookup (.type T) "__getitem__" = pure (some (.builtin id))) (hs : NoSl slice)
    (h : wpAny (model prog w) A (eval value env) (fun o s₁ => wpAny (model prog w) A (eval slice env) (fun i s₂ => s₂.TypeIs o T ∧ wpAny (model prog w) A (getItem o i) Q E s₂) E s₁) E s) :
    wpAny (model prog w) A (eval (.Subscript value slice pos) env) Q E s := by
  refine Subscript_ (wpAny_mono h (fun o s₁ h₁ => wpAny_mono h₁ (fun i s₂ h₂ => ?_) fun _ _ x => x) fun _ _ x => x)
  obtain ⟨hT, h₂⟩ := h₂
  unfold subscriptTail
  refine wpAny_bind ?_
  rw [getitemInPython_of_ne hT.not_modules]
  refine wpAny_bind (wpAny_specialOf hT hl ?_)
  have fin : wpAny (model prog w) A (subscripted slice false o i) (fun r s₃ => wpAny (model prog w) A (letTemporaryGo value o r >>= fun _ => pure r) Q E s₃) E s₂ := by
    rw [hs o i]
    exact wpAny_operating (wpAny_mono h₂ (fun r s₃ h₃ => wpAny_bind (wpAny_letTemporaryGo (wpAny_pure h₃))) fun _ _ x => x)
  first
    | exact wpAny_pure (wpAny_bind fin)
    | exact wpAny_bind (wpAny_pure (wpAny_bind fin))
    | exact wpAny_bind fin
theorem dict_typeIs {X : Cx} {pins : List (Addr × Obj)} {σ : St} {H : Hp} {s : Shared} {a : Addr} {y : V} {o : Option V} (I : Inv X pins σ H s) (g : DGet H a y o) : s.TypeIs (.ref a) "dict" := by
  rcases g with ⟨kvs, k, e, _, _⟩ | ⟨kvs, k, b, e, _, _, _⟩
  · obtain ⟨_, _, vs, _, dd⟩ := dk_rd I.hok e
    exact dd.typeIs
  · obtain ⟨_, _, xs, _, dd⟩ := dt_rd I.hok e
    exact dd.typeIs
def tDGet (td ty : TE) : TE := fun σ H Q => td σ H fun x H1 => ty σ H1 fun y H2 => ∃ a v, x = .ref a ∧ DGet H2 a y (some v) ∧ Q v H2
def sDPut (td ty tv : TE) : TS := fun D σ H => tv σ H fun v H1 => td σ H1 fun x H2 => ty σ H2 fun y H3 => ∃ a H4, x = .ref a ∧ DPut H3 a y v H4 ∧ D.nx σ H4
section
variable {X : Cx} {o i e value : Expr} {pos pos' tpos : Pos} {td ty tv : TE}
theorem pe_dget (hu : X.A.units + 1 < cLine) (ho : PE X o td) (hi : PE X i ty) (hs : NoSl i) : PE X (.Subscript o i pos) (tDGet td ty) := by
  intro pins s σ H Q I h
  refine subD_of PySem.F.slot_dict_getitem.lookup hs (thn (ho pins s σ H _ I h) fun u s1 ⟨x, H1, I1, rx, q1⟩ => thn (hi pins s1 σ H1 _ I1 q1) fun iv s2 ⟨y, H2, I2, ry, a, v, ex, g, q2⟩ => ?_)
  subst ex
  obtain rfl : u = Value.ref a := rx
  exact ⟨dict_typeIs I2 g, d_getItem hu I2 g ry fun w' s3 I3 rw' => ⟨v, H2, I3, rw', q2⟩⟩
theorem ps_dput (hu : X.A.units + 1 < cLine) (ho : PE X o td) (hi : PE X i ty) (hv : PE X value tv) (hs : swapsWith value (some (.Subscript o i pos')) pos.line X.env = pure false) :
    PS X (.Assign [.Subscript o i pos'] value pos) (sDPut td ty tv) := by
  intro pins s σ H D I h
  refine wpAny_Assign_Subscript (thn (hv pins s σ H _ I h) fun r s1 ⟨v, H1, I1, rv, q1⟩ => thn (ho pins s1 σ H1 _ I1 q1) fun u s2 ⟨x, H2, I2, rx, q2⟩ => thn (hi pins s2 σ H2 _ I2 q2) fun iv s3 ⟨y, H3, I3, ry, a, H4, ex, g, q3⟩ => ?_) hs
  subst ex
  obtain rfl : u = Value.ref a := rx
  exact d_setItem hu I3 g ry rv fun s4 I4 => ⟨σ, H4, I4, q3⟩
end
theorem dk_empty {P : Program} {w : World} {H : Hp} (h : Heap) (hb : sysModules < h.objs.size) : ObjOk P w H (h.push { cls := .type "dict", data := .dict #[] }) h.objs.size (.dK []) :=
  ⟨Nat.zero_le _, beq_eq_false_iff_ne.mpr (Ne.symm (Nat.ne_of_lt hb)), [], .nil, Heap.DictOf.new h⟩
def tDNewK : TE := fun _ H Q => ∀ p, H p = none → Q (.ref p) (upd H p (.dK []))
section
variable {X : Cx} {pos : Pos}
theorem pe_dnewK : PE X (.Dict [] [] pos) tDNewK := fun pins s σ H Q I h =>
  wpAny_Dict_empty ⟨.ref s.heap.objs.size, _, I.laid (a := s.heap.objs.size) (o := .dK []) (t' := s.toks) (fun _ _ q => Heap.get?_push_of_some _ q) (Nat.le_refl _) (dk_empty s.heap I.big), rfl, h _ (I.hok.fresh (Nat.le_refl _))⟩
end
def tPairs : List (TE × TE) → St → Hp → (List (V × V) → Hp → Prop) → Prop
  | [], _, H, Q => Q [] H
  | (tk, tv) :: r, σ, H, Q => tk σ H fun x H1 => tv σ H1 fun y H2 => tPairs r σ H2 fun ps H3 => Q ((x, y) :: ps) H3
abbrev VV : List (V × V) → List (Value × Value) → Prop := Paired fun p q => RelV p.1 q.1 ∧ RelV p.2 q.2
def PPs (X : Cx) (pos : Pos) (keys : List (Option Expr)) (values : List Expr) (trs : List (TE × TE)) : Prop :=
  ∀ (pins : List (Addr × Obj)) (s : Shared) (σ : St) (H : Hp) (Q : List (V × V) → Hp → Prop), Inv X pins σ H s → tPairs trs σ H Q →
    wpAny (model X.prog X.w) X.A (evalPairs (pairTrees keys values X.env pos)) (fun vs s' => ∃ ps H', Inv X pins σ H' s' ∧ VV ps vs ∧ Q ps H') X.xe s
theorem pps_nil {X : Cx} {pos : Pos} : PPs X pos [] [] [] := fun pins s σ H Q I h => pairTrees_nil_walk ⟨[], H, I, .nil, h⟩
theorem pps_cons {X : Cx} {pos : Pos} {k v : Expr} {ks : List (Option Expr)} {vs : List Expr} {tk tv : TE} {trs : List (TE × TE)} (hk : PE X k tk) (hv : PE X v tv) (hr : PPs X pos ks vs trs) :
    PPs X pos (some k :: ks) (v :: vs) ((tk, tv) :: trs) := fun pins s σ H Q I h =>
  pairTrees_cons_walk (thn (hk pins s σ H _ I h) fun u s1 ⟨x, H1, I1, rx, q1⟩ => thn (hv pins s1 σ H1 _ I1 q1) fun w2 s2 ⟨y, H2, I2, ry, q2⟩ =>
    thn (hr pins s2 σ H2 _ I2 q2) fun ws s3 ⟨ps, H3, I3, rel, q3⟩ => ⟨(x, y) :: ps, H3, I3, .cons ⟨rx, ry⟩ rel, q3⟩)
def mergeK (kvs more : List (Key × V)) : List (Key × V) := more.foldl (fun acc kv => putK acc kv.1 kv.2) kvs
theorem KV.merge : ∀ {more : List (Key × V)} {rs : List (Key × Value)} {kvs : List (Key × V)} {vs : List (Key × Value)}, KV more rs → KV kvs vs → KV (mergeK kvs more) (merged vs rs) := by
  intro more rs kvs vs r
  unfold KV at r
  induction r generalizing kvs vs with
  | nil => intro q; exact q
  | @cons p q ps qs h t ih =>
    intro r0
    have e : KV (putK kvs p.1 p.2) (stored vs q.1 q.2) := by
      have := r0.put p.1 h.2
      rw [← h.1]; exact this
    exact ih e
theorem length_mergeK : ∀ (more kvs : List (Key × V)), (mergeK kvs more).length ≤ kvs.length + more.length
  | [], kvs => by show kvs.length ≤ kvs.length + 0; omega
  | p :: r, kvs => by
    have h1 := length_mergeK r (putK kvs p.1 p.2)
    have h2 := length_putK kvs p.1 p.2
    show (mergeK (putK kvs p.1 p.2) r).length ≤ _
    rw [List.length_cons]; omega
theorem carries_of {P : Program} {w : World} : ∀ {kvs : List (Key × V)} {ws : List (Value × Value)}, VV (kvs.map fun kv => (kV kv.1, kv.2)) ws → ∃ rs, Carries (mixKind P w) ws rs ∧ KV kvs rs
  | [], _, r => by rw [List.map_nil] at r; cases r; exact ⟨[], True.intro, .nil⟩
  | p :: kvs, _, r => by
    rw [List.map_cons] at r
    cases r with
    | @cons a b as bs h t =>
      obtain ⟨rs, c, q⟩ := carries_of (P := P) (w := w) t
      obtain ⟨b1, b2⟩ := b
      exact ⟨(p.1, b2) :: rs, ⟨kV_is h.1, rfl, c⟩, .cons ⟨rfl, h.2⟩ q⟩
def tDisp (trs : List (TE × TE)) : TE := fun σ H Q => ∀ p, H p = none → tPairs trs σ (upd H p (.dK [])) fun ps H2 => H2 p = some (.dK []) ∧ ∃ kvs : List (Key × V), ps = kvs.map (fun kv => (kV kv.1, kv.2)) ∧ kvs.length ≤ 15 ∧ Q (.ref p) (upd H2 p (.dK (mergeK [] kvs)))
theorem pe_disp {X : Cx} {pos : Pos} {keys : List (Option Expr)} {values : List Expr} {trs : List (TE × TE)} (h : PPs X pos keys values trs) (hall : keys.all (·.isSome) = true) (hl : keys.length = values.length) (h0 : keys ≠ [])
    (h15 : keys.length ≤ 15) : PE X (.Dict keys values pos) (tDisp trs) := by
  intro pins s σ H Q I q
  have hn := I.hok.fresh (Nat.le_refl s.heap.objs.size)
  have I1 := I.laid (a := s.heap.objs.size) (o := .dK []) (h' := s.heap.push { cls := .type "dict", data := .dict #[] }) (t' := s.toks) (fun _ _ q => Heap.get?_push_of_some _ q) (Nat.le_refl _) (dk_empty s.heap I.big)
  refine wpAny_Dict_walk (knd := mixKind X.prog X.w) hall hl h0 h15 (thn (h pins _ σ _ _ I1 (q _ hn)) ?_)
  rintro ws s2 ⟨ps, H2, I2, rel, e, kvs, ep, lk, q2⟩
  subst ep
  obtain ⟨rs, c, rk⟩ := carries_of (P := X.prog) (w := X.w) rel
  obtain ⟨z, hd, vs0, r0, dd⟩ := dk_of I2.hok e
  cases r0
  refine ⟨rs, c, dd, fun h' dd' hs => ⟨.ref s.heap.objs.size, _, ?_, rfl, q2⟩⟩
  have hz : (mergeK [] kvs).length ≤ sizeLine := by
    have h1 := length_mergeK kvs []
    rw [List.length_nil] at h1
    rw [sizeLine_eq]; omega
  have he : ∃ q, h'.get? s.heap.objs.size = some q := let ⟨q, _, _, hq, _⟩ := dd'; ⟨q, hq⟩
  exact d_write I2 (by rw [e]; exact True.intro) hs he (dk_new hz hd (rk.merge .nil) dd')
section
variable {X : Cx} {pins : List (Addr × Obj)} {σ : St} {H : Hp} {s : Shared} {a : Addr} {y d : V} {u r : Value} {o : Option V} {A : Around} {E : Value → Shared → Prop}
end
section
variable {X : Cx} {o e f : Expr} {apos cpos : Pos} {td ty tx : TE}
end
section
variable {X : Cx} {pins : List (Addr × Obj)} {σ : St} {H : Hp} {s : Shared} {a : Addr} {kvs : List (Key × V)} {A : Around} {E : Value → Shared → Prop}
end
section
variable {X : Cx} {pins : List (Addr × Obj)} {σ : St} {H : Hp} {s : Shared} {a : Addr} {y : V} {u : Value} {A : Around} {E : Value → Shared → Prop}
end
end L2
namespace Att
open PySem PySem.W PySem.Calls PyProof.Rows
theorem ints_of_wellAll {P : Params} {h : Heap} : ∀ (ns : List Int) (vs : List Value), WellAll P h vs (ns.map WData.int) → IntsAre vs ns := by
  intro ns
  induction ns with
  | nil =>
    intro vs w
    rw [List.map_nil] at w
    cases w
    exact .nil
  | cons n ns ih =>
    intro vs w
    rw [List.map_cons] at w
    cases w with
    | cons a b =>
      cases a
      exact .cons _ _ (ih _ b)
theorem script_of {l : OpenLaw} {n : Nat} (hn : l.most = some n) {P : Params} {h : Heap} {args : List WData} {vals : List Value}
    (hpre : l.row.toRowW.claim.pre args = true) (hwl : WellAll P h vals args) :
    ∃ a vs ns, vals = [Value.ref a] ∧ args = [WData.list (ns.map WData.int)] ∧ h.get? a = some { cls := .type "list", data := .seq vs.toArray } ∧ IntsAre vs ns ∧ ns.length ≤ n := by
  have hsh : WShape.hasAll [] args [.list .int] = true := (pre_splitW hpre).1
  have hc : l.pre.holds [] { args := args } = true := (pre_splitW hpre).2
  obtain ⟨d, r, rfl, h1, h2⟩ := hasAllW_cons hsh
  obtain rfl := hasAllW_nil h2
  obtain ⟨xs, rfl, h3⟩ := hasW_list h1
  obtain ⟨ns, rfl⟩ := items_int h3
  have hlen : ns.length ≤ n := by
    unfold OpenLaw.pre at hc
    have h4 : (WTm.not (.lt (.lit (.int (n : Int))) (.len (.arg 0)))).holds [] { args := [.list (ns.map .int)] } = true := by
      have h4 := (holds_andW hc).1
      rw [hn] at h4
      exact h4
    have h5 := condW_of h4 (w_not (w_lt w_lit (w_len_list (w_arg rfl))))
    rw [List.length_map] at h5
    refine Nat.le_of_not_lt fun q => ?_
    have q' : (n : Int) < ((ns.length : Nat) : Int) := by omega
    first
      | (rw [decide_eq_true q'] at h5; exact absurd h5 (by decide))
      | (simp at h5; omega)
  cases hwl with
  | cons w1 w2 =>
    cases w2
    cases w1 with
    | list ho hall => exact ⟨_, _, ns, rfl, rfl, ho, ints_of_wellAll ns _ hall, hlen⟩
theorem post_true (l : OpenLaw) (args : List WData) : l.row.toRowW.claim.post args (.bool true) args = true :=
  postW_of (r := l.row.toRowW) (X := (true == true))
    (show WShape.has [] (.bool true) .bool = true by first | rfl | decide | simp [WShape.has, WShape.arms, WShape.armsAll])
    (show (WTm.eq .res (.lit (.bool true))).value [] { args := args, res := some (.bool true), after := args } = some (.bool (true == true)) from w_eq_bool (w_res rfl) w_lit) rfl
theorem attach_call {l : OpenLaw} {n : Nat} {q : Program} {loose : List Str} {XP : (Str → Option Value) → Heap → Prop} {YP : World → Heap → Prop} {d : DefRec}
    (hn : l.most = some n) (hdf : d.params.defaults = [])
    (call : ∀ (w : World) (s₀ s₁ : Shared) (mg mb : Str → Option Value) (fa : Addr) (o : Obj) (pm cd doc : Value) (a : Addr) (vs : List Value) (ns : List Int),
      Ground q loose [] XP w s₀ mg mb s₁.heap → YP w s₁.heap →
      s₁.heap.get? fa = some o → o.data = .func (docDef d.name d.params d.body d.scope pm cd doc) → s₁.heap.CodeRec cd d.name → mg d.name = some (.ref fa) →
      s₁.heap.get? a = some { cls := .type "list", data := .seq vs.toArray } → IntsAre vs ns → ns.length ≤ n → s₁.gens = #[] →
      codeAny (model l.prog w) callerA (.call (.ref fa) ⟨[.ref a], []⟩) (fun r s' => r = .ok (.ret (.bool true)) ∧ OldK s₁.heap s'.heap ∧ s'.os = s₁.os ∧ AllBare s'.gens) s₁) :
    WalkO q loose XP YP l.row.toRowW d [] (fun f vs => PySem.call f vs) := by
  intro w s₀ s₁ mg mb G Y fa o pm cd doc dV kV ho hd hcd hD hmg hg args vals as hpre hlay hrd hwl hlo
  obtain rfl : dV = .none := Dflts.none hD hdf
  obtain rfl : kV = .none := Dflts.noKw hD
  obtain ⟨a, vs, ns, rfl, rfl, hobj, hints, hlen⟩ := script_of hn hpre hwl
  refine enter_call (codeAny_mono (call w s₀ s₁ mg mb fa o pm cd doc a vs ns G Y ho (fd_plain hd) hcd hmg hobj hints hlen hg) fun r s' hq => ?_)
  obtain ⟨rfl, h2, h3, h4⟩ := hq
  exact ⟨.inl ⟨.bool true, .bool true, [], rfl, fun _ => rfl, .bool true, post_true l _, fun _ => ⟨List.Pairwise.nil, fun _ hm => (nomatch hm)⟩⟩, h2, h3, h4⟩
section
variable {prog : Program} {w : World} {A : Around} {E : Value → Shared → Prop} {s : Shared} {K : Frag}
end
end Att
namespace L2
open PySem PySem.Spec PyProof.Rows
theorem vals_ints : ∀ {vs : List Value} {ns : List Int}, IntsAre vs ns → Vals (ns.map V.int) vs
  | _, _, .nil => .nil
  | _, _, .cons n t h => .cons ⟨t, rfl⟩ (vals_ints h)
def Only (H : Hp) : Prop := ∀ b, H b = none ∨ ∃ o xs, H b = some (.frz o (.lst xs))
theorem law_call {P : Program} {w : World} {K : PySem.W.Frag} {mg mb : Str → Option Value} {CX : CXT} {k : Nat} {fa a : Addr} {fd : FuncData} {x : Str} {sp : Sp} {s₁ : Shared} {vs : List Value} {ns : List Int}
    (KX : K.In s₁.heap) (hns : s₁.heap.Ns mainGlobals mg) (hb : s₁.heap.Ns builtinsNs mb) (hbb : ∀ x : Str, x ≠ "__name__" → mb x = bootBuiltins x) (hlim : s₁.heap.NoLimit) (hg : s₁.gens = #[])
    (ha : s₁.heap.get? a = some { cls := .type "list", data := .seq vs.toArray }) (hi : IntsAre vs ns) (hl : ns.length ≤ sizeLine) (hr : Room k callerA)
    (F : ∀ base : Heap, K.In base → base.Ns mainGlobals mg → FnOk P w K mg base CX k fa fd [x] sp) (hbind : ∀ (s : Shared) (u : Value), BindsTo s fd ⟨[u], []⟩ [(x, u)])
    (hsp : ∀ H : Hp, Only H → SqL K H a (ns.map V.int) → sp [.ref a] H (fun v _ => v = .bl true) fun _ _ _ => False)
    (hCX : ∀ H e s', CX [] H s₁ (fun _ _ _ => False) e s' → False) :
    codeAny (model P w) callerA (.call (.ref fa) ⟨[.ref a], []⟩) (fun r s' => r = .ok (.ret (.bool true)) ∧ OldK s₁.heap s'.heap ∧ s'.os = s₁.os ∧ AllBare s'.gens) s₁ := by
  have rv := vals_ints hi
  have lenV := hi.length
  -- from an abstract heap in which nothing but the script may be tracked
  have core : ∀ H : Hp, Only H → SqL K H a (ns.map V.int) → HOk P w H s₁.heap → (∀ b, H b ≠ none → b = a) → (H a ≠ none → K.lookup a = none) →
      codeAny (model P w) callerA (.call (.ref fa) ⟨[.ref a], []⟩) (fun r s' => r = .ok (.ret (.bool true)) ∧ OldK s₁.heap s'.heap ∧ s'.os = s₁.os ∧ AllBare s'.gens) s₁ := by
    intro H hO hS hok hA hK
    have base_of : ∀ {b : Addr} {o : Obj}, s₁.heap.get? b = some o → H b = none → (hidT s₁.heap H).get? b = some o := fun e n => hidT_get e n
    have noA : ∀ {b : Addr} {o : Obj} {es : Array DictEntry} {ep : Nat}, s₁.heap.get? b = some o → o.data = .dict es ep → H b = none := fun {b o es ep} e d => by
      cases q : H b with
      | none => rfl
      | some u =>
        have e' : b = a := hA b (by rw [q]; simp)
        subst e'
        rw [ha] at e; cases e
        have d' : Data.seq vs.toArray _ = Data.dict es ep := d
        cases d'
    have nsK : ∀ {b : Addr} {m : Str → Option Value}, s₁.heap.Ns b m → (hidT s₁.heap H).Ns b m := fun {b m} ⟨o, es, ep, e, d, r⟩ => ⟨o, es, ep, base_of e (noA e d), d, r⟩
    have hKb : K.In (hidT s₁.heap H) := fun b o e => base_of (KX b o e) (by
      cases q : H b with
      | none => rfl
      | some u =>
        have e' : b = a := hA b (by rw [q]; simp)
        subst e'
        rw [hK (by rw [q]; simp)] at e; cases e)
    have hM : Mod K mg (hidT s₁.heap H) := ⟨hKb, nsK hns, ⟨mb, nsK hb, hbb⟩, let ⟨mc, h1, h2⟩ := hlim; ⟨mc, nsK h1, h2⟩⟩
    have e0 : Env0 P w K mg (hidT s₁.heap H) callerA [] s₁ H := ⟨rfl, hM, fun b o e => of_hidT e, Nat.le_of_eq (hidT_size _ _), trivial, fun b hb => absurd (show b ∈ ([] : List Addr) from hb) (by simp), hok, .of_eq hg⟩
    refine codeAny_mono ((F _ hKb (nsK hns)).run callerA [] s₁ H ⟨[.ref a], []⟩ [.ref a] [.ref a] _ _ hr e0 (hbind s₁ (.ref a)) (.cons rfl .nil) (hsp H hO hS)) fun r s' h => ?_
    cases r with
    | error e => exact (hCX H e s' h).elim
    | ok fl =>
      cases fl with
      | next => exact False.elim h
      | brk => exact False.elim h
      | cont => exact False.elim h
      | ret u =>
        obtain ⟨v, H', os, bare, un, hok', r', q⟩ := h
        have q' : v = .bl true := q
        subst q'
        obtain rfl : u = Value.bool true := r'
        refine ⟨rfl, OldK.of_keep fun b o e => ?_, os, bare⟩
        cases q : H b with
        | none => exact un.keep b o e q (by intro z; exact absurd (show b ∈ ([] : List Addr) from z) (by simp)) (by simp)
        | some u =>
          rcases hO b with z | ⟨ob, xs, z⟩
          · rw [q] at z; cases z
          · have z2 := un.frzs b ob _ z
            obtain ⟨e1, _⟩ := hok b _ z
            obtain ⟨e2, _⟩ := hok' b _ z2
            rw [e] at e1; cases e1
            exact e2
  cases hk : K.lookup a with
  | some o =>
    -- the script is one of the module's own objects
    have e := KX a o hk
    rw [ha] at e
    cases e
    refine core (fun _ => none) (fun _ => .inl rfl) (.inr ⟨_, vs.toArray, _, hk, rfl, rfl, rfl, by rw [List.size_toArray, lenV]; exact hl, by simpa using rv⟩) (fun b u z => by have z' : (none : Option HO) = some u := z; cases z') (fun b z => absurd rfl z) fun z => absurd rfl z
  | none =>
    refine core (fun b => if b = a then some (.frz { cls := .type "list", data := .seq vs.toArray } (.lst (ns.map V.int))) else none) (fun b => ?_) (.inl (.inr ⟨{ cls := .type "list", data := .seq vs.toArray }, if_pos rfl⟩)) (fun b u z => ?_) (fun b z => ?_) fun _ => hk
    · by_cases hb : b = a
      · exact .inr ⟨_, _, if_pos hb⟩
      · exact .inl (if_neg hb)
    · by_cases hb : b = a
      · have z' := (if_pos hb).symm.trans z
        cases z'
        subst hb
        exact ⟨ha, by rw [List.length_map]; exact hl, vs, _, rv, ha⟩
      · have z' := (if_neg hb).symm.trans z
        cases z'
    · by_cases hb : b = a
      · exact hb
      · exact absurd (if_neg hb) z
end L2
namespace L2
open PySem PySem.Spec PyProof.Rows
theorem walk_of {l : PySem.W.OpenLaw} {n k : Nat} {q : Program} {loose : List Str} {XP : (Str → Option Value) → Heap → Prop} {YP : World → Heap → Prop} {d : DefRec} {K : Params → PySem.W.Frag} {CX : World → CXT} {sp : World → Sp} {x : Str}
    (hn : l.most = some n) (hn2 : n ≤ sizeLine) (hdf : d.params.defaults = []) (hr : Room k callerA)
    (hY : ∀ (w : World) (h : Heap), YP w h → (K w.params).In h)
    (F : ∀ (w : World) (mg : Str → Option Value) (fa : Addr) (h : Heap), (K w.params).In h → h.Ns mainGlobals mg → mg d.name = some (.ref fa) →
      ∃ fd : FuncData, (∀ (s : Shared) (u : Value), BindsTo s fd ⟨[u], []⟩ [(x, u)]) ∧
        ∀ base : Heap, (K w.params).In base → base.Ns mainGlobals mg → FnOk l.prog w (K w.params) mg base (CX w) k fa fd [x] (sp w))
    (hsp : ∀ (w : World) (H : Hp) (a : Addr) (ns : List Int), ns.length ≤ n → Only H → SqL (K w.params) H a (ns.map V.int) → sp w [.ref a] H (fun v _ => v = .bl true) fun _ _ _ => False)
    (hCX : ∀ (w : World) (H : Hp) (s : Shared) (e : Value) (s' : Shared), CX w [] H s (fun _ _ _ => False) e s' → False) :
    PySem.W.WalkO q loose XP YP l.row.toRowW d [] (fun f vs => PySem.call f vs) := by
  refine Att.attach_call hn hdf fun w s₀ s₁ mg mb fa o pm cd doc a vs ns G Y ho hd hcd hmg hobj hints hlen hg => ?_
  have KX := hY w _ Y
  obtain ⟨fd, hb, hF⟩ := F w mg fa _ KX G.T.g hmg
  exact law_call KX G.T.g G.T.b G.T.builtins G.T.nolimit hg hobj hints (Nat.le_trans hlen hn2) hr hF hb (fun H hO hS => hsp w H a ns hlen hO hS) fun H e s' => hCX w H s₁ e s'
end L2
namespace L2
open PySem PySem.Spec PyProof.Rows
def defArgs (s : Stmt) : Arguments := match s with
  | .FunctionDef _ a _ _ _ _ _ _ _ _ => a
  | _ => { posonlyargs := [], args := [], vararg := none, kwonlyargs := [], kw_defaults := [], kwarg := none, defaults := [] }
def defBody (s : Stmt) : List Stmt := match s with
  | .FunctionDef _ _ b _ _ _ _ _ _ _ => b
  | _ => []
def defScope (s : Stmt) : Scope := match s with
  | .FunctionDef _ _ _ _ _ _ sc _ _ _ => sc
  | _ => { kind := .function, names := [], isGenerator := false, isCoroutine := false }
abbrev CX0 : CXT := fun _ _ _ _ _ _ => False
abbrev E0 : XK := fun _ _ _ => False
theorem pass0 {X : Cx} : Passes CX0 X E0 := fun _ _ _ _ _ _ _ h => h.elim
structure Fun (K : PySem.W.Frag) (x qual : Str) (st : Stmt) (f : Addr) (fd : FuncData) : Prop where
  ex : ∃ (oc : Value) (od : Option Addr) (kV doc pm : Value) (an : Option Addr) (cdv ct : Value) (osl : Array (Option Value)),
    fd = PySem.W.fnOf x qual (defArgs st) (defBody st) (defScope st) .none kV doc pm an cdv ct ∧ K.lookup f = some ⟨oc, od, .func fd, osl⟩ ∧ PySem.W.codeIn K cdv qual = true
  kp : PySem.W.keepIn K (.ref f) = true
section
variable {P : Program} {w : World} {K : PySem.W.Frag} {mg : Str → Option Value} {base : Heap}
theorem Fun.ok {x qual : Str} {st : Stmt} {f : Addr} {fd : FuncData} {N ps : List Str} {k : Nat} {sp : Sp} (F : Fun K x qual st f fd) (S : FnScope N ps (defScope st)) (len : ∀ vs H Q E, sp vs H Q E → vs.length = ps.length)
    (hbody : ∀ (cdv : Value) (A : Around) (outer : List Env) (s : Shared) (H : Hp) (vs : List V) (Q : VK) (E : XK), Room k (A.deeper (envOfC qual (defScope st) s.heap.objs.size f cdv)) → sp vs H Q E →
      ∃ t, PSs (cxOf CX0 P w K mg base N qual (defScope st) f cdv A outer s H E).nox (defBody st) t ∧ t { nx := fun _ H' => Q .non H', rt := Q } (start N vs) H) : FnOk P w K mg base CX0 (k + 1) f fd ps sp := by
  obtain ⟨oc, od, kV, doc, pm, an, cdv, ct, osl, rfl, lk, hcd⟩ := F.ex
  refine fn_of lk hcd S len fun A outer s H vs Q E hr hsp => ?_
  obtain ⟨t, h, q⟩ := hbody cdv A outer s H vs Q E hr hsp
  exact ⟨t, h.nox, q⟩
theorem Fun.binds {x qual : Str} {st : Stmt} {f : Addr} {fd : FuncData} {ps : List Str} (F : Fun K x qual st f fd)
    (h : ∀ (kV doc pm : Value) (an : Option Addr) (cdv ct : Value) (us : List Value), us.length = ps.length → bindArgs (PySem.W.fnOf x qual (defArgs st) (defBody st) (defScope st) .none kV doc pm an cdv ct) ⟨us, []⟩ = pure (ps.zip us)) : Binds K fd ps [] := by
  obtain ⟨oc, od, kV, doc, pm, an, cdv, ct, osl, rfl, lk, hcd⟩ := F.ex
  exact .all (h kV doc pm an cdv ct)
theorem fun_mk {x qual : Str} {st : Stmt} {f : Addr} {oc : Value} {od an : Option Addr} {osl : Array (Option Value)} {kV doc pm cdv ct : Value} (l : K.lookup f = some ⟨oc, od, .func (PySem.W.fnOf x qual (defArgs st) (defBody st) (defScope st) .none kV doc pm an cdv ct), osl⟩)
    (c : PySem.W.codeIn K cdv qual = true) (k : PySem.W.keepIn K (.ref f) = true) : Fun K x qual st f (PySem.W.fnOf x qual (defArgs st) (defBody st) (defScope st) .none kV doc pm an cdv ct) := ⟨⟨oc, od, kV, doc, pm, an, cdv, ct, osl, rfl, l, c⟩, k⟩
end
theorem hu_of {A : Around} {k : Nat} (hr : Room k A) : A.units + 1 < cLine := Nat.lt_of_le_of_lt (Nat.add_le_add_left (by decide : 1 ≤ 64) _) hr.units
theorem small1000 {n : Nat} (h : n ≤ 1000) : n < sizeLine := Nat.lt_of_le_of_lt h (by decide)
section
variable {X : Cx}
end
theorem iteF {A B : Prop} (h : B) : if false = true then A else B := by
  rw [if_neg Bool.false_ne_true]
  exact h
theorem iteT {A B : Prop} (h : A) : if true = true then A else B := by
  rw [if_pos rfl]
  exact h
theorem ite2 {c A B : Prop} [Decidable c] (h1 : c → A) (h2 : ¬ c → B) : if c then A else B := by
  by_cases h : c
  · rw [if_pos h]
    exact h1 h
  · rw [if_neg h]
    exact h2 h
def Same (H H' : Hp) : Prop := ∀ b o, H b = some o → H' b = some o
theorem Same.refl (H : Hp) : Same H H := fun _ _ h => h
theorem Same.trans {H H1 H2 : Hp} (a : Same H H1) (b : Same H1 H2) : Same H H2 := fun c o h => b c o (a c o h)
theorem Same.free {H H' : Hp} (e : Same H H') {l : Addr} (h : H' l = Option.none) : H l = Option.none := by
  cases q : H l with
  | none => rfl
  | some o =>
    rw [e l o q] at h
    cases h
theorem Same.seq {K : PySem.W.Frag} {H H' : Hp} {a : Addr} {xs : List V} (e : Same H H') (h : SqL K H a xs) : SqL K H' a xs := by
  rcases h with (h | ⟨o, h⟩) | h
  · exact .inl (.inl (e _ _ h))
  · exact .inl (.inr ⟨o, e _ _ h⟩)
  · exact .inr h
section
variable {κ : Type} [DecidableEq κ]
end
end L2
set_option maxRecDepth 100000
namespace L2
open PySem PySem.Spec PyProof.Rows
theorem closure_go {env : Env} : ∀ (names : List (Str × NameKind)) (acc : List (Str × Addr)),
    (∀ y ∈ names, y.2 = .free → ∃ c, env.cells.lookup y.1 = some c) → (∀ x c, acc.lookup x = some c → env.cells.lookup x = some c) →
    ∃ cl, (forIn names acc fun (x : Str × NameKind) cs => (if (x.2 == NameKind.free) = true then (do let c ← cellOf env x.1; pure (ForInStep.yield ((x.1, c) :: cs))) else pure (ForInStep.yield cs) : Sem (ForInStep (List (Str × Addr))))) = pure cl ∧
      (∀ x c, cl.lookup x = some c → env.cells.lookup x = some c) ∧ (∀ y ∈ names, y.2 = .free → ∃ c, cl.lookup y.1 = some c) ∧ (∀ x c, acc.lookup x = some c → ∃ c, cl.lookup x = some c)
  | [], acc, _, ha => ⟨acc, rfl, ha, (fun _ h => nomatch h), fun x c h => ⟨c, h⟩⟩
  | (n, k) :: r, acc, h, ha => by
    rw [List.forIn_cons]
    by_cases hk : k = .free
    · obtain ⟨c, hc⟩ := h (n, k) List.mem_cons_self hk
      have hc' : cellOf env n = pure c := by unfold cellOf; rw [show env.cells.lookup n = some c from hc]
      have ha2 : ∀ x d, ((n, c) :: acc).lookup x = some d → env.cells.lookup x = some d := fun x d hx => by
        rw [List.lookup_cons] at hx
        cases e : x == n with
        | true => rw [e] at hx; cases hx; rw [eq_of_beq e]; exact hc
        | false => rw [e] at hx; exact ha x d hx
      obtain ⟨cl, e, h1, h2, h3⟩ := closure_go r ((n, c) :: acc) (fun y hy => h y (List.mem_cons_of_mem _ hy)) ha2
      refine ⟨cl, ?_, h1, fun y hy hf => ?_, fun x d hx => ?_⟩
      · have hk' : (k == NameKind.free) = true := by rw [hk]; rfl
        simp only [hk', if_true, hc', pure_bind]
        exact e
      · rcases List.mem_cons.mp hy with z | hy
        · rw [z]; exact h3 n c (by simp [List.lookup_cons])
        · exact h2 y hy hf
      · cases e2 : x == n with
        | true => exact h3 x c (by simp [List.lookup_cons, e2])
        | false => exact h3 x d (by simp [List.lookup_cons, e2, hx])
    · have hk' : (k == NameKind.free) = false := by simpa using hk
      obtain ⟨cl, e, h1, h2, h3⟩ := closure_go r acc (fun y hy => h y (List.mem_cons_of_mem _ hy)) ha
      refine ⟨cl, ?_, h1, fun y hy hf => ?_, h3⟩
      · simp only [hk', Bool.false_eq_true, if_false, pure_bind]
        exact e
      · rcases List.mem_cons.mp hy with z | hy
        · rw [z] at hf; exact absurd hf hk
        · exact h2 y hy hf
theorem closure_ok {sc : Scope} {env : Env} (h : ∀ y ∈ sc.names, y.2 = .free → ∃ c, env.cells.lookup y.1 = some c) :
    ∃ cl, closureFor sc env = pure cl ∧ (∀ x c, cl.lookup x = some c → env.cells.lookup x = some c) ∧ (∀ y ∈ sc.names, y.2 = .free → ∃ c, cl.lookup y.1 = some c) := by
  obtain ⟨cl, e, h1, h2, _⟩ := closure_go (env := env) sc.names [] h (fun _ _ h => nomatch h)
  refine ⟨cl, ?_, h1, h2⟩
  unfold closureFor
  have e' : (forIn sc.names ([] : List (Str × Addr)) fun (x : Str × NameKind) cs => (if (x.2 == NameKind.free) = true then (do let c ← cellOf env x.1; pure (ForInStep.yield ((x.1, c) :: cs))) else pure (ForInStep.yield cs) : Sem (ForInStep (List (Str × Addr))))) >>= (fun cs => (pure cs : Sem _)) = pure cl := by rw [e]; rfl
  exact e'
theorem lookup_relabel_free {env : Env} : ∀ {names : List (Str × NameKind)} {x : Str}, names.lookup x = some .free →
    (names.map fun (n, k) => if (k == NameKind.free && env.scope.kind == .function && env.kindOf n == some .cell) then (n, NameKind.cell) else (n, k)).lookup x = some .cell ∨
    (names.map fun (n, k) => if (k == NameKind.free && env.scope.kind == .function && env.kindOf n == some .cell) then (n, NameKind.cell) else (n, k)).lookup x = some .free
  | [], _, h => by simp at h
  | (n, k) :: r, x, h => by
    have ih := @lookup_relabel_free env r x
    show List.lookup x ((if (k == NameKind.free && env.scope.kind == .function && env.kindOf n == some .cell) = true then (n, NameKind.cell) else (n, k)) :: _) = _ ∨ List.lookup x ((if (k == NameKind.free && env.scope.kind == .function && env.kindOf n == some .cell) = true then (n, NameKind.cell) else (n, k)) :: _) = _
    cases hx : x == n with
    | true =>
      simp only [List.lookup_cons, hx] at h
      cases h
      by_cases hc : (NameKind.free == NameKind.free && env.scope.kind == .function && env.kindOf n == some .cell) = true
      · rw [if_pos hc]; simp [List.lookup_cons, hx]
      · rw [if_neg hc]; simp [List.lookup_cons, hx]
    | false =>
      simp only [List.lookup_cons, hx] at h
      by_cases hc : (k == NameKind.free && env.scope.kind == .function && env.kindOf n == some .cell) = true
      · rw [if_pos hc]; simp only [List.lookup_cons, hx]; exact ih h
      · rw [if_neg hc]; simp only [List.lookup_cons, hx]; exact ih h
theorem mem_relabel {env : Env} {names : List (Str × NameKind)} {x : Str} {k : NameKind}
    (h : (names.map fun (n, k) => if (k == NameKind.free && env.scope.kind == .function && env.kindOf n == some .cell) then (n, NameKind.cell) else (n, k)).lookup x = some k) (hk : k = .cell ∨ k = .free) (hc : ∀ y ∈ names, y.2 ≠ .cell) : (x, NameKind.free) ∈ names := by
  have hm := PySem.mem_of_lookup h
  obtain ⟨⟨n, k'⟩, h1, h2⟩ := List.mem_map.mp hm
  dsimp only at h2
  split at h2
  · next hh =>
    cases h2
    have : k' = .free := by
      simp only [Bool.and_eq_true, beq_iff_eq] at hh
      exact hh.1.1
    rw [← this]; exact h1
  · cases h2
    rcases hk with z | z
    · exact absurd z (hc _ h1)
    · rw [← z]; exact h1
abbrev cxComp (X : Cx) (N' : List Str) (sc : Scope) (cl : List (Str × Addr)) (C : Addr) (s3 : Shared) (H0 : Hp) (fp : List Addr) (pn : List (Addr × Obj)) : Cx where
  prog := X.prog
  w := X.w
  K := X.K
  mg := X.mg
  base := X.base
  A := X.A
  N := N'
  s₀ := s3
  H₀ := H0
  env := compEnvC sc cl C X.env
  outer := X.stack
  stack := X.stack
  ex := fp
  fn := fun _ => false
  calm := X.calm
  pn := pn
  xe := fun _ _ => False
structure CScope (osc : Scope) (oN : List Str) (sc : Scope) (own : List Str) (idx : List Nat) (N' : List Str) : Prop where
  kind : sc.kind = .function
  cell : ∀ y ∈ sc.names, y.2 ≠ .cell
  names : ∀ y ∈ sc.names, y.2 = .local → sc.names.lookup y.1 = some .local
  free : ∀ y ∈ sc.names, y.2 = .free → (osc.names.lookup y.1 = some .cell ∨ osc.names.lookup y.1 = some .free)
  seen : ∀ j ∈ idx, sc.names.lookup (oN.getD j "") = some .free ∧ j < oN.length
  nn : N' = own ++ idx.map (fun j => oN.getD j "")
def stIn (own : List Str) (idx : List Nat) (σ : St) : St := List.replicate own.length none ++ idx.map fun j => (σ[j]?).join
section
variable {X : Cx} {pins : List (Addr × Obj)} {σ : St} {H2 : Hp} {s2 : Shared}
theorem inv_comp {sc : Scope} {own : List Str} {idx : List Nat} {N' : List Str} {cl : List (Str × Addr)} {fp : List Addr} {h4 : Heap} {ob : Obj} {ho : HO} {t4 : Nat} (S : CScope X.env.scope X.N sc own idx N') (I : Inv X pins σ H2 s2) (hf : ∀ b ∈ fp, FpOk X pins H2 b) (hfo : ∀ b ∈ fp, ∃ o, s2.heap.get? b = some o)
    (c1 : ∀ x c, cl.lookup x = some c → X.env.cells.lookup x = some c) (c2 : ∀ y ∈ sc.names, y.2 = .free → ∃ c, cl.lookup y.1 = some c) (hob : ob.isFreed = false)
    (hD : ∀ (H : Hp) (h : Heap), h.get? s2.heap.objs.size = some ob → ObjOk X.prog X.w H h s2.heap.objs.size ho)
    (ns : h4.Ns (s2.heap.push ob).objs.size (fun x => ([] : List (Str × Value)).reverse.lookup x)) (sb : ∀ b o, (s2.heap.push ob).get? b = some o → h4.get? b = some o) :
    Inv (cxComp X N' sc cl (s2.heap.push ob).objs.size { s2 with heap := s2.heap.push ob } (upd H2 s2.heap.objs.size ho) fp (X.pn ++ pins)) [] (stIn own idx σ) (upd H2 s2.heap.objs.size ho) { s2 with heap := h4, toks := t4 } := by
  have hsz : (s2.heap.push ob).objs.size = s2.heap.objs.size + 1 := Heap.size_push _ _
  have fr2 : H2 s2.heap.objs.size = none := I.hok.fresh (Nat.le_refl _)
  have up : ∀ b o, s2.heap.get? b = some o → (s2.heap.push ob).get? b = some o := fun b o e => Heap.get?_push_of_some _ e
  have up4 : ∀ b o, s2.heap.get? b = some o → h4.get? b = some o := fun b o e => sb b o (up b o e)
  have ltD : ∀ b o, s2.heap.get? b = some o → b ≠ s2.heap.objs.size := fun b o e => Nat.ne_of_lt (Heap.lt_size e)
  have nh : ∀ b o, s2.heap.get? b = some o → H2 b = none → upd H2 s2.heap.objs.size ho b = none := fun b o e n => by rw [upd_ne (ltD b o e)]; exact n
  have stkO : ∀ b ∈ frs X.stack, ∃ o, s2.heap.get? b = some o := fun b hb => by
    obtain ⟨_, o, ho, _⟩ := I.stack.mem hb
    exact ⟨o, ho⟩
  have cellO : ∀ x c, cl.lookup x = some c → ∃ o, s2.heap.get? c = some o := fun x c e => by
    obtain ⟨v, o, ho, _⟩ := I.cell x c (c1 x c e)
    exact ⟨o, ho⟩
  have eD : (s2.heap.push ob).get? s2.heap.objs.size = some ob := Heap.get?_push_size s2.heap hob
  have hok3 : HOk X.prog X.w (upd H2 s2.heap.objs.size ho) h4 := I.hok.laid up4 (Nat.le_refl _) (hD _ _ (sb _ _ eD))
  refine ⟨⟨I.ok.mod, S.kind, I.ok.glob, I.ok.blt, Nat.le_refl _, fun x y c h1 h2 => I.ok.inj x y c (c1 x c h1) (c1 y c h2), fun x hx => ?_, (fun x c hx _ => nomatch hx), I.ok.hd, I.ok.frames, .inl rfl, fun b hb => ⟨?_, fun x c e => ?_⟩, fun b o e => ⟨?_, ?_⟩, ?_, fun b o e hb => ?_, fun b hb => ?_, ?_, fun b hb => ?_⟩,
    rfl, I.bare, Un.kept sb, ⟨_, ns, fun i x v h1 h2 h3 => ?_⟩, fun x c e => ?_, ?_, fun x c e => ?_, fun p hp => ?_, hok3, ?_⟩
  · rcases hx with hx | hx
    · exact c2 (x, .free) (mem_relabel hx (.inl rfl) S.cell) rfl
    · exact c2 (x, .free) (mem_relabel hx (.inr rfl) S.cell) rfl
  · obtain ⟨o, e⟩ := hfo b hb
    have := Heap.lt_size e
    show b ≠ (s2.heap.push ob).objs.size
    rw [hsz]; exact Nat.ne_of_lt (Nat.lt_succ_of_lt this)
  · exact (hf b hb).2.2.2.2.1 x c (c1 x c e)
  · exact up b o (I.bk b o e)
  · exact nh b o (I.bk b o e) (I.bs b o e).2
  · show X.base.objs.size ≤ (s2.heap.push ob).objs.size
    have := Nat.le_trans I.ok.bsz I.sz
    rw [hsz]; omega
  · obtain ⟨f0, f1, f2, f3, f4, f5⟩ := hf b hb
    rcases f3 with z | z
    · exact I.ok.noex b o e z
    · exact absurd (Heap.lt_size e) (Nat.not_lt.mpr (Nat.le_trans I.ok.bsz z))
  · obtain ⟨f0, f1, f2, f3, f4, f5⟩ := hf b hb
    intro z
    rcases List.mem_cons.mp (I.stkSub b z) with z | z
    · exact f1 z
    · exact f2 z
  · exact Heap.FunFrames.of_keeps (fun b o e _ => ⟨o, up b o e, rfl⟩) I.stack
  · obtain ⟨o, e⟩ := stkO b hb
    exact nh b o e (I.stkFree b hb)
  · unfold stIn at h2
    by_cases hi : i < own.length
    · rw [List.getElem?_append_left (by simpa using hi), List.getElem?_replicate, if_pos hi] at h2
      cases h2
    · rw [List.getElem?_append_right (by simpa using hi), List.length_replicate, List.getElem?_map] at h2
      have h1' : N'[i]? = some x := h1
      rw [S.nn, List.getElem?_append_right (by simpa using hi), List.getElem?_map] at h1'
      cases ej : idx[i - own.length]? with
      | none => rw [ej] at h1'; cases h1'
      | some j =>
        rw [ej] at h1' h2
        obtain ⟨hs1, hs2⟩ := S.seen j (List.mem_of_getElem? ej)
        have hx : X.N[j]? = some x := by
          have : X.N.getD j "" = x := Option.some.inj h1'
          rw [← this, List.getD_eq_getElem?_getD, List.getElem?_eq_getElem hs2]; rfl
        have hv : σ[j]? = some (some v) := by
          have h2' : (σ[j]?).join = some v := Option.some.inj h2
          cases q : σ[j]? with
          | none => rw [q] at h2'; cases h2'
          | some w => rw [q] at h2'; exact congrArg some h2'
        have hsx : sc.names.lookup x = some .free := by
          have : X.N.getD j "" = x := Option.some.inj h1'
          rw [← this]; exact hs1
        have hmem : (x, NameKind.free) ∈ sc.names := PySem.mem_of_lookup hsx
        obtain ⟨m, hn, hl⟩ := I.loc
        have hvis : Vis X.env.scope x := by
          rcases S.free _ hmem rfl with z | z
          · exact .inr (.inl z)
          · exact .inr (.inr z)
        obtain ⟨u, r, lk⟩ := hl j x v hx hv hvis
        refine ⟨u, r, ?_⟩
        rcases lk with ⟨k, _⟩ | ⟨k, c, e, z⟩
        · rcases S.free _ hmem rfl with q | q
          · have q' : X.env.kindOf x = some .cell := q
            rw [q'] at k; cases k
          · have q' : X.env.kindOf x = some .free := q
            rw [q'] at k; cases k
        · obtain ⟨c', hc'⟩ := c2 (x, .free) hmem rfl
          have e' := c1 x c' hc'
          rw [e] at e'
          cases e'
          refine .inr ⟨?_, c, hc', ?_⟩
          · rcases lookup_relabel_free (env := X.env) hsx with q | q
            · exact .inl q
            · exact .inr q
          · obtain ⟨o, ho', hd⟩ := z
            exact ⟨o, up4 c o ho', hd⟩
  · obtain ⟨v, o, ho', hd⟩ := I.cell x c (c1 x c e)
    exact ⟨v, o, up4 c o ho', hd⟩
  · show upd H2 s2.heap.objs.size ho (s2.heap.push ob).objs.size = none
    rw [upd_ne (by rw [hsz]; exact Nat.ne_of_gt (Nat.lt_succ_self _))]
    exact I.hok.fresh (by rw [hsz]; omega)
  · obtain ⟨o, e1⟩ := cellO x c e
    exact nh c o e1 (I.freeC x c (c1 x c e))
  · have hp' : p ∈ X.pn ++ pins := by simpa using hp
    obtain ⟨e, n, ne, nf, d⟩ := I.pin p hp'
    refine ⟨up4 _ _ e, nh _ _ e n, ?_, fun z => ?_, d⟩
    · have := Heap.lt_size e
      show p.1 ≠ (s2.heap.push ob).objs.size
      rw [hsz]; exact Nat.ne_of_lt (Nat.lt_succ_of_lt this)
    · rcases List.mem_cons.mp (I.stkSub p.1 z) with z | z
      · exact ne z
      · exact nf z
  · show (stIn own idx σ).length = N'.length
    rw [S.nn]; unfold stIn
    simp
theorem comp_back {sc : Scope} {N' : List Str} {cl : List (Str × Addr)} {fp : List Addr} {ob : Obj} {ho : HO} {τ : St} {H' : Hp} {s' : Shared} (I : Inv X pins σ H2 s2) (hf : ∀ b ∈ fp, FpOk X pins H2 b) (hob : ob.isFreed = false)
    (J : Inv (cxComp X N' sc cl (s2.heap.push ob).objs.size { s2 with heap := s2.heap.push ob } (upd H2 s2.heap.objs.size ho) fp (X.pn ++ pins)) [] τ H' s') :
    Inv X pins σ H' s' ∧ H' (s2.heap.push ob).objs.size = none ∧ (s2.heap.push ob).objs.size ≠ X.env.locals ∧ X.s₀.heap.objs.size ≤ (s2.heap.push ob).objs.size ∧
      (∀ x c, X.env.cells.lookup x = some c → c ≠ (s2.heap.push ob).objs.size) ∧ (∀ p ∈ X.pn ++ pins, p.1 ≠ (s2.heap.push ob).objs.size) ∧ ∃ m, s'.heap.Ns (s2.heap.push ob).objs.size m := by
  have hsz : (s2.heap.push ob).objs.size = s2.heap.objs.size + 1 := Heap.size_push _ _
  have u1 : Un (frs X.stack) fp H2 (upd H2 s2.heap.objs.size ho) s2.heap (s2.heap.push ob) := Un.laid (fun b o e => Heap.get?_push_of_some _ e) (Nat.le_refl _) (I.hok.fresh (Nat.le_refl _))
  have u2 : Un (frs X.stack) fp (upd H2 s2.heap.objs.size ho) H' (s2.heap.push ob) s'.heap := J.base
  have hos : s'.os = s2.os := J.os
  refine ⟨I.call' hos (u1.trans u2) J.hok J.bare fun b hb => ?_, J.free, ?_, ?_, fun x c e z => ?_, fun p hp z => ?_, let ⟨m, hn, _⟩ := J.loc; ⟨m, hn⟩⟩
  · obtain ⟨f0, f1, f2, f3, f4, f5⟩ := hf b hb
    exact ⟨f3, f1, f4, f5⟩
  · rw [hsz]; exact Nat.ne_of_gt (Nat.lt_succ_of_lt I.lt)
  · have := I.sz; rw [hsz]; omega
  · obtain ⟨v, q⟩ := I.cell x c e
    have := q.lt
    rw [z, hsz] at this; exact absurd this (Nat.not_lt.mpr (Nat.le_succ _))
  · have := Heap.lt_size (I.pin p hp).1
    rw [z, hsz] at this; exact absurd this (Nat.not_lt.mpr (Nat.le_succ _))
end
section
variable {prog : Program} {w : World} {A : Around} {R : Result → Shared → Prop} {s : Shared}
abbrev NoE : Value → Shared → Prop := fun _ _ => False
theorem compLoopG {elt target iter : Expr} {ifs : List Expr} {scope : Scope} {pos : Pos} {it acc : Value} {env : Env} (I : Nat → Shared → Prop)
    (turn : ∀ n s, I n s → wpAny (model prog w) A (pyNext it) (fun r s₁ => match r with
      | none => R (.ok .next) s₁
      | some v => wpAny (model prog w) A (letOwnedTupleGo target it v) (fun _ s₁' => wpAny (model prog w) A (assign target env v) (fun _ s₂ =>
          wpAny (model prog w) A (forIn ifs true fun c r => if r = true then do let ok ← isTrue c env (eval c env); pure (ForInStep.yield ok) else pure (ForInStep.yield r)) (fun ok s₃ =>
            if ok = true then wpAny (model prog w) A (eval elt env) (fun x s₄ =>
              wpAny (model prog w) A (call (.builtin "list.append") [acc, x]) (fun _ s₅ => ∃ m, m < n ∧ I m s₅) NoE s₄) NoE s₃
            else ∃ m, m < n ∧ I m s₃) NoE s₂) NoE s₁') NoE s₁) NoE s)
    (n : Nat) (h : I n s) :
    codeAny (model prog w) A (.compLoop (.ListComp elt [⟨target, iter, ifs, 0⟩] scope pos) 0 it acc env) R s := by
  refine codeAny_loop rfl I (fun n s hI => ?_) n h
  show wpAny _ A ((compTurn (.ListComp elt [⟨target, iter, ifs, 0⟩] scope pos) 0 it acc env).onRaise (fun x => do noteFrame x env; theTreesLotGoes x)) _ _ s
  refine wpAny_noted ?_
  rw [compTurn_list]
  refine wpAny_bind (wpAny_standAt (wpAny_bind (wpAny_mono (turn n s hI) (fun r s₁ h₁ => ?_) fun _ _ h' => h'.elim)))
  cases r with
  | none => exact wpAny_pure h₁
  | some v =>
    refine wpAny_bind (wpAny_mono h₁ (fun _ s₁' h₁' => ?_) fun _ _ h' => h'.elim)
    refine wpAny_bind (wpAny_mono h₁' (fun _ s₂ h₂ => wpAny_bind (wpAny_mono h₂ (fun ok s₃ h₃ => ?_) fun _ _ h' => h'.elim)) fun _ _ h' => h'.elim)
    cases ok with
    | false => exact wpAny_pure ⟨rfl, h₃⟩
    | true =>
      exact wpAny_bind (wpAny_bind (wpAny_mono h₃ (fun x s₄ h₄ => wpAny_bind (wpAny_mono h₄ (fun _ s₅ h₅ => wpAny_pure (wpAny_pure ⟨rfl, h₅⟩)) fun _ _ h' => h'.elim)) fun _ _ h' => h'.elim))
end
abbrev TC := St → Hp → (Bool → Hp → Prop) → Prop
def PC' (X : Cx) (ifs : List Expr) (t : TC) : Prop :=
  ∀ (pins : List (Addr × Obj)) (s : Shared) (σ : St) (H : Hp) (Q : Bool → Hp → Prop), Inv X pins σ H s → t σ H Q →
    wpAny (model X.prog X.w) X.A (forIn ifs true fun c r => if r = true then do let ok ← isTrue c X.env (eval c X.env); pure (ForInStep.yield ok) else pure (ForInStep.yield r)) (TP X pins σ Q) X.xe s
def tcNil : TC := fun _ H Q => Q true H
theorem pc_nil' {X : Cx} : PC' X [] tcNil := fun pins s σ H Q I h => wpAny_pure ⟨H, I, h⟩
theorem pc_one' {X : Cx} {c : Expr} {t : TT} (h : PT X c t) : PC' X [c] t := fun pins s σ H Q I hq => wpAny_tests_one (h pins s σ H Q I hq)
def tLC (own : List Str) (idx : List Nat) (wi : TI) (g : TG) (tc : TC) (te : TE) : TE := fun σ H Q => wi σ H fun J H1 => ∀ D, H1 D = none → ∃ W : Nat → Nat → St → Hp → Prop, (∃ m, W 0 m (stIn own idx σ) (upd H1 D (.lst []))) ∧ ∀ i m τ H, W i m τ H →
  (J.stop i H ∧ Q (.ref D) H) ∨ (J.go i H ∧ ∃ N : St → Hp → Prop, (∀ τ' H', N τ' H' → ∃ m', m' < m ∧ W (i + 1) m' τ' H') ∧ ∀ x H', J.yld i H x H' → g x τ H' fun τ2 H2 => tc τ2 H2 fun b H3 =>
    if b = true then te τ2 H3 fun y H4 => ∃ xs, H4 D = some (.lst xs) ∧ xs.length < sizeLine ∧ N τ2 (upd H4 D (.lst (xs ++ [y]))) else N τ2 H3)
section
variable {X : Cx} {tg iter elt : Expr} {ifs : List Expr} {sc : Scope} {pos : Pos} {own : List Str} {idx : List Nat} {N' : List Str} {wi : TI} {g : TG} {tc : TC} {te : TE}
abbrev lob : Obj := { cls := .type "list", dict := none, data := .seq ([] : List Value).toArray }
theorem comp_block (S : CScope X.env.scope X.N sc own idx N') {cl : List (Str × Addr)} (c1 : ∀ x c, cl.lookup x = some c → X.env.cells.lookup x = some c) (c2 : ∀ y ∈ sc.names, y.2 = .free → ∃ c, cl.lookup y.1 = some c) (hc : X.calm = true)
    (hg : ∀ cl C s3 H0 fp pn, PG (cxComp X N' sc cl C s3 H0 fp pn) tg g) (ht : ∀ cl C s3 H0 fp pn, PC' (cxComp X N' sc cl C s3 H0 fp pn) ifs tc) (he : ∀ cl C s3 H0 fp pn, PE (cxComp X N' sc cl C s3 H0 fp pn) elt te)
    {pins : List (Addr × Obj)} {σ : St} {Q : VK} {itv : Value} {s2 : Shared} {RR : Value → Addr → Result → Shared → Prop} {E : Value → Shared → Prop}
    (hI : PIE X pins σ tg (fun J H1 => ∀ D, H1 D = none → ∃ W : Nat → Nat → St → Hp → Prop, (∃ m, W 0 m (stIn own idx σ) (upd H1 D (.lst []))) ∧ ∀ i m τ H, W i m τ H →
      (J.stop i H ∧ Q (.ref D) H) ∨ (J.go i H ∧ ∃ N : St → Hp → Prop, (∀ τ' H', N τ' H' → ∃ m', m' < m ∧ W (i + 1) m' τ' H') ∧ ∀ x H', J.yld i H x H' → g x τ H' fun τ2 H2 => tc τ2 H2 fun b H3 =>
        if b = true then te τ2 H3 fun y H4 => ∃ xs, H4 D = some (.lst xs) ∧ xs.length < sizeLine ∧ N τ2 (upd H4 D (.lst (xs ++ [y]))) else N τ2 H3)) itv s2)
    (hRR : ∀ D C H' s', Inv X pins σ H' s' → Q (.ref D) H' → (H' C = none ∧ C ≠ X.env.locals ∧ X.s₀.heap.objs.size ≤ C ∧ (∀ x c, X.env.cells.lookup x = some c → c ≠ C) ∧ (∀ p ∈ X.pn ++ pins, p.1 ≠ C) ∧ ∃ m, s'.heap.Ns C m) → RR (.ref D) C (.ok .next) s') :
    wpAny (model X.prog X.w) X.A (newList []) (fun acc s₃ => wpAny (model X.prog X.w) X.A (newFunctionEnv sc X.env.globals cl [] X.env.qual none .none (some X.env)) (fun cenv s₄ =>
      codeAny (model X.prog X.w) X.A (.compStart (.ListComp elt [⟨tg, iter, ifs, 0⟩] sc pos) 0 itv acc { cenv with scope := relabel sc X.env }) (RR acc cenv.locals) s₄) E s₃) E s2 := by
  obtain ⟨it, fp, tn, J, H2, rfl, I, T, st2, f2, body⟩ := hI
  refine wpAny_newObj_type (wpAny_newFunctionEnv S.cell (by intro y hy; simp at hy) (fun h4 ns sb => ?_) S.kind)
  dsimp only at ns sb ⊢
  have hob : lob.isFreed = false := rfl
  have fr : H2 s2.heap.objs.size = none := I.hok.fresh (Nat.le_refl _)
  obtain ⟨W, ⟨m0, w0⟩, turn⟩ := body _ fr
  have hfo : ∀ b ∈ fp, ∃ o, s2.heap.get? b = some o := fun b hb => let ⟨o, e, _⟩ := T.obj _ _ st2 b hb; ⟨o, e⟩
  have sb' : ∀ b o, (s2.heap.push lob).get? b = some o → h4.get? b = some o := fun b o e => (sb.2 b (Nat.ne_of_lt (Heap.lt_size e))).trans (Heap.get?_push_of_some _ e)
  have hDo : ∀ (H : Hp) (h : Heap), h.get? s2.heap.objs.size = some lob → ObjOk X.prog X.w H h s2.heap.objs.size (.lst []) := fun H h e => ⟨Nat.zero_le _, [], _, .nil, e⟩
  have I4 : Inv (cxComp X N' sc cl (s2.heap.push lob).objs.size { s2 with heap := s2.heap.push lob } (upd H2 s2.heap.objs.size (.lst [])) fp (X.pn ++ pins)) [] (stIn own idx σ) (upd H2 s2.heap.objs.size (.lst [])) { s2 with heap := h4, toks := s2.toks + ([] : List (Str × Value)).length } :=
    inv_comp S I f2 hfo c1 c2 hob hDo ns sb'
  -- the block's own context
  generalize hY : cxComp X N' sc cl (s2.heap.push lob).objs.size { s2 with heap := s2.heap.push lob } (upd H2 s2.heap.objs.size (.lst [])) fp (X.pn ++ pins) = Y at I4
  have hgY : PG Y tg g := by rw [← hY]; exact hg _ _ _ _ _ _
  have htY : PC' Y ifs tc := by rw [← hY]; exact ht _ _ _ _ _ _
  have heY : PE Y elt te := by rw [← hY]; exact he _ _ _ _ _ _
  have pY : Y.prog = X.prog := by rw [← hY]
  have wY : Y.w = X.w := by rw [← hY]
  have KY : Y.K = X.K := by rw [← hY]
  have AY : Y.A = X.A := by rw [← hY]
  have cY : Y.calm = true := by rw [← hY]; exact hc
  have xY : Y.xe = fun _ _ => False := by rw [← hY]
  have eY : Y.env = compEnvC sc cl (s2.heap.push lob).objs.size X.env := by rw [← hY]
  have exY : Y.ex = fp := by rw [← hY]
  have fsY : Y.fs = frs X.stack := by rw [← hY]
  have pnY : Y.pn = X.pn ++ pins := by rw [← hY]
  have stat : ∀ {H' : Hp}, (∀ b ∈ fp, H' b = none) → ∀ b ∈ fp, FpOk Y [] H' b := fun hn b hb => by
    obtain ⟨f0, f1, f3, f4, f5, f6⟩ := f2 b hb
    refine ⟨hn b hb, ?_, ?_, .inl (by rw [exY]; exact hb), fun x c e => ?_, fun p hp => ?_⟩
    · obtain ⟨o, e⟩ := hfo b hb
      have := Heap.lt_size e
      rw [eY]
      show b ≠ (s2.heap.push lob).objs.size
      rw [Heap.size_push]; exact Nat.ne_of_lt (Nat.lt_succ_of_lt this)
    · rw [fsY]
      intro z
      rcases List.mem_cons.mp (I.stkSub b z) with z | z
      · exact f1 z
      · exact f3 z
    · rw [eY] at e
      exact f5 x c (c1 x c e)
    · rw [pnY, List.append_nil] at hp
      exact f6 p hp
  have st4 : tn 0 h4 := T.keep _ _ _ st2 fun b hb o e => sb' b o (Heap.get?_push_of_some _ e)
  have fr4 : ∀ b ∈ fp, upd H2 s2.heap.objs.size (.lst []) b = none := fun b hb => by
    obtain ⟨o, e⟩ := hfo b hb
    rw [upd_ne (Nat.ne_of_lt (Heap.lt_size e))]
    exact (f2 b hb).1
  have loop : codeAny (model X.prog X.w) X.A (.compLoop (.ListComp elt [⟨tg, iter, ifs, 0⟩] sc pos) 0 (.ref it) (.ref s2.heap.objs.size) (compEnvC sc cl (s2.heap.push lob).objs.size X.env))
      (RR (.ref s2.heap.objs.size) (s2.heap.push lob).objs.size) { s2 with heap := h4, toks := s2.toks + ([] : List (Str × Value)).length } := by
    refine compLoopG (fun n s' => ∃ i τ H', Inv Y [] τ H' s' ∧ tn i s'.heap ∧ (∀ b ∈ fp, H' b = none) ∧ W i n τ H') ?_ m0 ⟨0, _, _, I4, st4, fr4, w0⟩
    rintro n s3 ⟨i, τ3, H3, I3, st3, fr3, w3⟩
    rcases turn i n τ3 H3 w3 with ⟨stop, qn⟩ | ⟨go, N, hN, step⟩
    · have h := T.done Y pY wY KY cY i [] s3 τ3 H3 NoE I3 (stat fr3) st3 stop
      rw [AY] at h
      refine thn h ?_
      rintro r s4 ⟨hr, I4'⟩
      subst hr
      have J4 := I4'
      rw [← hY] at J4
      obtain ⟨b1, b2⟩ := comp_back I f2 hob J4
      exact hRR _ _ _ _ b1 qn b2
    · have h := T.item Y pY wY KY cY i [] s3 τ3 H3 NoE I3 (stat fr3) st3 go
      rw [AY] at h
      refine thn h ?_
      rintro r s4 ⟨u, hr, h4'⟩
      subst hr
      refine thn h4' ?_
      rintro _ s5 ⟨x, H5, I5, r5, y5, st5, fr5⟩
      have I5' := I5.pinned (stat fr5) (T.obj _ _ st5)
      have g5 := hgY _ s5 τ3 H5 x u _ I5' r5 (step x H5 y5)
      rw [pY, wY, AY, xY, eY] at g5
      refine thn g5 ?_
      rintro _ s6 ⟨τ6, H6, I6, q6⟩
      have t6 := htY _ s6 τ6 H6 _ I6 q6
      rw [pY, wY, AY, xY, eY] at t6
      refine thn t6 ?_
      rintro ok s7 ⟨H7, I7, q7⟩
      have again : ∀ {τ8 : St} {H8 : Hp} {s8 : Shared}, Inv Y ([] ++ pinsAt fp s5.heap) τ8 H8 s8 → N τ8 H8 → ∃ m, m < n ∧ ∃ i τ' H', Inv Y [] τ' H' s8 ∧ tn i s8.heap ∧ (∀ b ∈ fp, H' b = none) ∧ W i m τ' H' := fun {τ8 H8 s8} I8 n8 => by
        obtain ⟨m', hm, w8⟩ := hN τ8 H8 n8
        refine ⟨m', hm, i + 1, τ8, H8, I8.unpinned, T.keep _ _ _ st5 fun b hb o e => (I8.pin (b, o) (List.mem_append_right _ (List.mem_append_right _ (mem_pinsAt hb e)))).1, fun b hb => ?_, w8⟩
        obtain ⟨o, e, d⟩ := T.obj _ _ st5 b hb
        exact (I8.pin (b, o) (List.mem_append_right _ (List.mem_append_right _ (mem_pinsAt hb e)))).2.1
      cases ok with
      | false =>
        rw [if_neg (by decide)] at q7 ⊢
        exact again I7 q7
      | true =>
        rw [if_pos rfl] at q7 ⊢
        have e7 := heY _ s7 τ6 H7 _ I7 q7
        rw [pY, wY, AY, xY, eY] at e7
        refine thn e7 ?_
        rintro yv s8 ⟨y, H8, I8, r8, xs, hD8, hz, n8⟩
        have a8 := mt_append (X := Y) _ s8 τ6 H8 (.ref s2.heap.objs.size) [y] (.ref s2.heap.objs.size) [yv] (fun v H' => N τ6 H') I8 rfl (.cons r8 .nil) ⟨_, xs, y, rfl, rfl, hD8, hz, n8⟩
        rw [pY, wY, AY, xY] at a8
        refine thn a8 ?_
        rintro _ s9 ⟨_, H9, I9, _, n9⟩
        exact again I9 n9
  exact codeAny_compStart_list loop (T.self _ 0 _ _ _ st4 loop)
theorem CScope.closure (S : CScope X.env.scope X.N sc own idx N') (ok : X.Ok) : ∃ cl, closureFor sc X.env = pure cl ∧ (∀ x c, cl.lookup x = some c → X.env.cells.lookup x = some c) ∧ (∀ y ∈ sc.names, y.2 = .free → ∃ c, cl.lookup y.1 = some c) :=
  closure_ok fun y hy hf => ok.has _ (S.free y hy hf)
theorem pe_lc (S : CScope X.env.scope X.N sc own idx N') (hc : X.calm = true) (hi : PI X tg iter wi)
    (hg : ∀ cl C s3 H0 fp pn, PG (cxComp X N' sc cl C s3 H0 fp pn) tg g) (ht : ∀ cl C s3 H0 fp pn, PC' (cxComp X N' sc cl C s3 H0 fp pn) ifs tc) (he : ∀ cl C s3 H0 fp pn, PE (cxComp X N' sc cl C s3 H0 fp pn) elt te)
    (hs : ∀ x, foldedSetIterable iter X.env x = pure x := by intro _; rfl) : PE X (.ListComp elt [⟨tg, iter, ifs, 0⟩] sc pos) (tLC own idx wi g tc te) := by
  intro pins s σ H Q I h
  obtain ⟨cl, hcl, c1, c2⟩ := S.closure I.ok
  rw [eval_ListComp]
  refine wpAny_comprehension_free (use := none) rfl hs hcl S.kind S.names (thn (hi pins s σ H _ I h) fun v s1 h1 => thn h1 fun itv s2 h2 => ?_)
  refine comp_block (Q := Q) (pins := pins) (σ := σ) (RR := fun acc C => compPost (model X.prog X.w) X.A X.xe none (EP X pins σ Q) acc C) S c1 c2 hc hg ht he h2 ?_
  intro D C H' s' I' q ⟨a1, a2, a3, a4, a5, m, a6⟩
  exact ⟨m, a6, fun h' sb => ⟨.ref D, H', I'.turned (t' := s'.toks) (fun b o hb e => (sb.2 b hb).trans e) a1 (Ne.symm (Ne.symm a2)) (.inr a3) a4 a5, rfl, q⟩⟩
theorem ps_lc {i : Nat} {y : Str} {py spos : Pos} (S : CScope X.env.scope X.N sc own idx N') (hc : X.calm = true) (hi : PI X tg iter wi)
    (hg : ∀ cl C s3 H0 fp pn, PG (cxComp X N' sc cl C s3 H0 fp pn) tg g) (ht : ∀ cl C s3 H0 fp pn, PC' (cxComp X N' sc cl C s3 H0 fp pn) ifs tc) (he : ∀ cl C s3 H0 fp pn, PE (cxComp X N' sc cl C s3 H0 fp pn) elt te)
    (hN : X.N.Nodup) (hiy : X.N[i]? = some y) (hy : X.env.scope.names.lookup y = some .local)
    (hsw : swapsWith (.ListComp elt [⟨tg, iter, ifs, 0⟩] sc pos) (some (.Name y py)) spos.line X.env = pure true := by rfl)
    (hs : ∀ x, foldedSetIterable iter X.env x = pure x := by intro _; rfl) : PS X (.Assign [.Name y py] (.ListComp elt [⟨tg, iter, ifs, 0⟩] sc pos) spos) (tAsg (tLC own idx wi g tc te) (gName i)) := by
  intro pins s σ H D I h
  obtain ⟨cl, hcl, c1, c2⟩ := S.closure I.ok
  rw [exec_Assign_Name_used _ _ _ _ hsw]
  refine wpAny_bind (wpAny_standAt (wpAny_bind ?_))
  show wpAny _ X.A (do let _ ← comprehension (.ListComp elt [⟨tg, iter, ifs, 0⟩] sc pos) sc X.env _ (newList []) false (eval iter X.env) (some (assign (.Name y py) X.env))) _ _ s
  refine wpAny_bind (wpAny_mono (wpAny_comprehension_free (use := some (assign (.Name y py) X.env)) (Q := fun _ s' => SP X pins D .next s') rfl hs hcl S.kind S.names
    (thn (hi pins s σ H _ I h) fun v s1 h1 => thn h1 fun itv s2 h2 => ?_)) (fun _ s' hq => wpAny_pure (wpAny_pure hq)) fun _ _ e => e)
  refine comp_block (Q := fun x H1 => gName i x σ H1 D.nx) (pins := pins) (σ := σ) (RR := fun acc C => compPost (model X.prog X.w) X.A X.xe (some (assign (.Name y py) X.env)) (fun _ s' => SP X pins D .next s') acc C) S c1 c2 hc hg ht he h2 ?_
  intro D' C H' s' I' q ⟨a1, a2, a3, a4, a5, m, a6⟩
  show wpAny _ X.A (assign (.Name y py) X.env (.ref D')) _ _ _
  refine wpAny_assign_Name (store_ok2 (v := .ref D') I' hN hiy (.inl hy) rfl (fun s'' I'' ⟨a, sb, ha⟩ => ?_) (.inr hy))
  have nCa : C ≠ a := by
    rcases ha with z | z
    · rw [z]; exact a2
    · exact Ne.symm (a4 _ _ z)
  refine ⟨m, a6.sameBut sb nCa, fun h' sb' => ⟨_, H', I''.turned (t' := s''.toks) (fun b o hb e => (sb'.2 b hb).trans e) a1 a2 (.inr a3) a4 a5, q⟩⟩
end
def tV (i : Nat) : TE := fun σ H Q => match σ[i]? with | some (some v) => Q v H | _ => False
section
variable {X : Cx}
theorem pvv (i : Nat) {x : Str} {pos : Pos} (hN : X.N[i]? = some x := by rfl) (hv : Vis X.env.scope x := by first | exact Or.inl rfl | exact Or.inr (Or.inl rfl) | exact Or.inr (Or.inr rfl)) (hd : (x == ("__debug__" : Str)) = false := by decide) (hcd : (x == ("__classdict__" : Str)) = false := by decide) : PE X (.Name x pos) (tV i) := by
  intro pins s σ H Q I h
  refine pe_var hN hv hd hcd pins s σ H Q I ?_
  unfold tV at h
  split at h
  · next v e => exact ⟨v, e, h⟩
  · exact h.elim
def rAddD : R2 := fun x y H Q => match x, y with
  | .int i, .int j => Q (.int (i + j)) H
  | .str i, .str j => i.length + j.length ≤ sizeLine ∧ Q (.str (i ++ j)) H
  | .ref l, .ref b => (∃ xs zs, H l = some (.lst xs) ∧ H b = some (.lst zs) ∧ xs.length + zs.length ≤ sizeLine ∧ ∀ p, H p = none → Q (.ref p) (upd H p (.lst (xs ++ zs))))
  | _, _ => False
theorem op_addD : OpR X (binaryOp .Add) rAddD := by
  intro pins s σ H x y v u Q I rx ry h
  cases x <;> cases y <;> first
    | exact (show False from h).elim
    | exact op_add pins s σ H _ _ v u Q I rx ry ⟨_, _, rfl, rfl, h⟩
    | exact op_add_str pins s σ H _ _ v u Q I rx ry ⟨_, _, rfl, rfl, h.1, h.2⟩
    | (obtain ⟨xs, zs, h1, h2, h3, h4⟩ := h; exact op_cat pins s σ H _ _ v u Q I rx ry ⟨_, _, xs, zs, rfl, rfl, h1, h2, h3, h4⟩)
def rSubD : R2 := fun x y H Q => match x, y with | .int i, .int j => Q (.int (i - j)) H | _, _ => False
theorem op_subD : OpR X (binaryOp .Sub) rSubD := by
  intro pins s σ H x y v u Q I rx ry h
  cases x <;> cases y <;> first
    | exact (show False from h).elim
    | exact op_sub pins s σ H _ _ v u Q I rx ry ⟨_, _, rfl, rfl, h⟩
def rMulD : R2 := fun x y H Q => match x, y with | .int i, .int j => CMul i j ∧ Q (.int (i * j)) H | _, _ => False
theorem op_mulD : OpR X (binaryOp .Mult) rMulD := by
  intro pins s σ H x y v u Q I rx ry h
  cases x <;> cases y <;> first
    | exact (show False from h).elim
    | exact op_mul pins s σ H _ _ v u Q I rx ry ⟨_, _, rfl, rfl, h.1, h.2⟩
def rModD : R2 := fun x y H Q => match x, y with | .int i, .int j => 0 < j ∧ Q (.int (i % j)) H | _, _ => False
theorem op_modD : OpR X (binaryOp .Mod) rModD := by
  intro pins s σ H x y v u Q I rx ry h
  cases x <;> cases y <;> first
    | exact (show False from h).elim
    | exact op_mod pins s σ H _ _ v u Q I rx ry ⟨_, _, rfl, rfl, h.1, h.2⟩
def rDivD : R2 := fun x y H Q => match x, y with | .int i, .int j => (0 < j ∧ j < 1073741824) ∧ Q (.int (i / j)) H | _, _ => False
theorem op_divD : OpR X (binaryOp .FloorDiv) rDivD := by
  intro pins s σ H x y v u Q I rx ry h
  cases x <;> cases y <;> first
    | exact (show False from h).elim
    | exact op_fdiv pins s σ H _ _ v u Q I rx ry ⟨_, _, rfl, rfl, h.1, h.2⟩
def rPowD : R2 := fun x y H Q => match x, y with | .int i, .int j => CPow i j ∧ Q (.int (i ^ j.toNat)) H | _, _ => False
theorem op_powD : OpR X (binaryOp .Pow) rPowD := by
  intro pins s σ H x y v u Q I rx ry h
  cases x <;> cases y <;> first
    | exact (show False from h).elim
    | exact op_pow pins s σ H _ _ v u Q I rx ry ⟨_, _, rfl, rfl, h.1, h.2⟩
def rIC (p : Int → Int → Bool) : R2 := fun x y H Q => match x, y with | .int i, .int j => Q (.bl (p i j)) H | _, _ => False
theorem op_gtD : OpR X (compareOp .Gt) (rIC fun i j => decide (j < i)) := by
  intro pins s σ H x y v u Q I rx ry h
  cases x <;> cases y <;> first
    | exact (show False from h).elim
    | exact op_gt pins s σ H _ _ v u Q I rx ry ⟨_, _, rfl, rfl, h⟩
theorem op_geD : OpR X (compareOp .GtE) (rIC fun i j => decide (j ≤ i)) := by
  intro pins s σ H x y v u Q I rx ry h
  cases x <;> cases y <;> first
    | exact (show False from h).elim
    | exact op_ge pins s σ H _ _ v u Q I rx ry ⟨_, _, rfl, rfl, h⟩
theorem op_leI : OpR X (compareOp .LtE) (rIC fun i j => decide (i ≤ j)) := by
  intro pins s σ H x y v u Q I rx ry h
  cases x <;> cases y <;> first
    | exact (show False from h).elim
    | exact op_le pins s σ H _ _ v u Q I rx ry ⟨_, _, rfl, rfl, h⟩
def rLtD : R2 := fun x y H Q => match x, y with
  | .int i, .int j => Q (.bl (decide (i < j))) H
  | .str i, .str j => Q (.bl (decide (i.cps.toList < j.cps.toList))) H
  | _, _ => False
theorem op_ltD : OpR X (compareOp .Lt) rLtD := by
  intro pins s σ H x y v u Q I rx ry h
  cases x <;> cases y <;> first
    | exact (show False from h).elim
    | exact op_lt pins s σ H _ _ v u Q I rx ry ⟨_, _, rfl, rfl, h⟩
    | exact op_lt_str pins s σ H _ _ v u Q I rx ry ⟨_, _, rfl, rfl, h⟩
def rEqD (n : Bool) : R2 := fun x y H Q => match x, y with
  | .ref a, .ref b => a ≠ b ∧ ∃ xs, H a = some (.lst xs) ∧ H b = some (.lst []) ∧ Q (.bl (n ^^ xs.isEmpty)) H
  | x, y => scal x y = true ∧ Q (.bl (n ^^ decide (x = y))) H
theorem eq_empty {pins : List (Addr × Obj)} {σ : St} {H : Hp} {s : Shared} {Q : Value → Shared → Prop} {E : Value → Shared → Prop} {A : Around} {a b : Addr} {xs : List V} (hu : A.units < cLine) (I : Inv X pins σ H s) (ha : H a = some (.lst xs)) (hb : H b = some (.lst [])) (hab : a ≠ b)
    (q : ∀ tk, Q (.bool xs.isEmpty) { s with toks := tk }) (q0 : Q (.bool xs.isEmpty) s) : wpAny (model X.prog X.w) A (compareOp .Eq (.ref a) (.ref b)) Q E s := by
  obtain ⟨_, its, n, r1, e1⟩ := (show ObjOk X.prog X.w H s.heap a (.lst xs) from I.hok a _ ha)
  obtain ⟨_, its2, n2, r2, e2⟩ := (show ObjOk X.prog X.w H s.heap b (.lst []) from I.hok b _ hb)
  cases r2
  have l1 : s.heap.IsList a its.toArray := ⟨_, e1, rfl, _, rfl⟩
  have l2 : s.heap.IsList b (#[] : Array Value) := ⟨_, e2, rfl, _, rfl⟩
  cases r1 with
  | nil =>
    exact SeqAt.eq_listAt (e := fun _ => true) l1 l2 rfl hu (fun i hi => absurd hi (by simp)) (by simpa using q0)
  | cons z t =>
    exact SeqAt.eq_list_lengthsAt l1 l2 (by simp) hu (by simpa using q0)
theorem op_eqD (hu : X.A.units < cLine) : OpR X (compareOp .Eq) (rEqD false) := by
  intro pins s σ H x y v u Q I rx ry h
  have hs : (∀ a b, x = .ref a → y = .ref b → False) → scal x y = true ∧ Q (.bl (false ^^ decide (x = y))) H := fun hn => by
    cases x <;> cases y <;> first
      | exact (hn _ _ rfl rfl).elim
      | exact h
  by_cases hr : ∃ a b, x = .ref a ∧ y = .ref b
  · obtain ⟨a, b, rfl, rfl⟩ := hr
    obtain ⟨hab, xs, h1, h2, q⟩ := h
    cases rx; cases ry
    exact eq_empty hu I h1 h2 hab (fun tk => ⟨.bl xs.isEmpty, H, I.tok tk, rfl, by simpa using q⟩) ⟨.bl xs.isEmpty, H, I, rfl, by simpa using q⟩
  · obtain ⟨h1, h2⟩ := hs fun a b e1 e2 => hr ⟨a, b, e1, e2⟩
    exact op_eq pins s σ H x y v u Q I rx ry ⟨h1, by simpa using h2⟩
theorem ne_empty {pins : List (Addr × Obj)} {σ : St} {H : Hp} {s : Shared} {Q : Value → Shared → Prop} {E : Value → Shared → Prop} {A : Around} {a b : Addr} {xs : List V} (hu : A.units < cLine) (I : Inv X pins σ H s) (ha : H a = some (.lst xs)) (hb : H b = some (.lst []))
    (q0 : Q (.bool (!xs.isEmpty)) s) : wpAny (model X.prog X.w) A (compareOp .NotEq (.ref a) (.ref b)) Q E s := by
  obtain ⟨_, its, n, r1, e1⟩ := (show ObjOk X.prog X.w H s.heap a (.lst xs) from I.hok a _ ha)
  obtain ⟨_, its2, n2, r2, e2⟩ := (show ObjOk X.prog X.w H s.heap b (.lst []) from I.hok b _ hb)
  cases r2
  have l1 : s.heap.IsList a its.toArray := ⟨_, e1, rfl, _, rfl⟩
  have l2 : s.heap.IsList b (#[] : Array Value) := ⟨_, e2, rfl, _, rfl⟩
  cases r1 with
  | nil =>
    exact SeqAt.RcNeAt.lists (e := fun _ => true) l1 l2 rfl hu (fun i hi => absurd hi (by simp)) _ _ _ _ (by simpa using q0)
  | cons z t =>
    exact SeqAt.RcNeAt.lists_lengths l1 l2 (by simp) hu _ _ _ _ (by simpa using q0)
theorem op_neD (hu : X.A.units < cLine) : OpR X (compareOp .NotEq) (rEqD true) := by
  intro pins s σ H x y v u Q I rx ry h
  have hs : (∀ a b, x = .ref a → y = .ref b → False) → scal x y = true ∧ Q (.bl (true ^^ decide (x = y))) H := fun hn => by
    cases x <;> cases y <;> first
      | exact (hn _ _ rfl rfl).elim
      | exact h
  by_cases hr : ∃ a b, x = .ref a ∧ y = .ref b
  · obtain ⟨a, b, rfl, rfl⟩ := hr
    obtain ⟨hab, xs, h1, h2, q⟩ := h
    cases rx; cases ry
    exact ne_empty hu I h1 h2 ⟨.bl (!xs.isEmpty), H, I, rfl, by simpa using q⟩
  · obtain ⟨h1, h2⟩ := hs fun a b e1 e2 => hr ⟨a, b, e1, e2⟩
    exact op_ne pins s σ H x y v u Q I rx ry ⟨h1, by simpa using h2⟩
def rIxD (K : PySem.W.Frag) : R2 := fun x y H Q => match x, y with
  | .ref p, .int i => ∃ xs v, (SqL K H p xs ∨ SqT K H p xs) ∧ atI xs i = some v ∧ Q v H
  | .str z, .int i => z.length ≤ sizeLine ∧ ∃ c, atI z.cps.toList i = some c ∧ Q (.str ⟨#[c]⟩) H
  | _, _ => False
theorem ix_D : IxR X (rIxD X.K) := by
  intro e1 e2 pins s σ H x y v u Q I rx ry h hs
  cases x <;> cases y <;> first
    | exact (show False from h).elim
    | (obtain ⟨xs, w, h1 | h1, h2, h3⟩ := h
       · exact ix_list e1 e2 pins s σ H _ _ v u Q I rx ry ⟨_, xs, _, w, rfl, rfl, h1, h2, h3⟩ hs
       · exact ix_tup e1 e2 pins s σ H _ _ v u Q I rx ry ⟨_, xs, _, w, rfl, rfl, h1, h2, h3⟩ hs)
    | (obtain ⟨h1, c, h2, h3⟩ := h; exact ix_str e1 e2 pins s σ H _ _ v u Q I rx ry ⟨_, _, c, rfl, rfl, h1, h2, h3⟩ hs)
def rInD (K : PySem.W.Frag) (n : Bool) : R2 := fun x y H Q => match y with
  | .str j => ∃ i, x = .str i ∧ Q (.bl (n ^^ (!(Builtin.Str.occurrences j i 0 j.length 1).isEmpty))) H
  | .ref p => ∃ xs, (SqL K H p xs ∨ SqT K H p xs) ∧ flatV x = true ∧ xs.all flatV = true ∧ Q (.bl (n ^^ inV x xs)) H
  | _ => False
theorem op_inD : OpR X (compareOp .In) (rInD X.K false) := by
  intro pins s σ H x y v u Q I rx ry h
  cases y <;> first
    | exact (show False from h).elim
    | (obtain ⟨i, rfl, h2⟩ := h; exact op_in_str pins s σ H _ _ v u Q I rx ry ⟨i, _, rfl, rfl, by simpa using h2⟩)
    | (obtain ⟨xs, h1, h2, h3, h4⟩ := h; exact op_in_seq pins s σ H _ _ v u Q I rx ry ⟨_, xs, rfl, h1, h2, h3, by simpa using h4⟩)
theorem op_notInD : OpR X (compareOp .NotIn) (rInD X.K true) := by
  intro pins s σ H x y v u Q I rx ry h
  cases y <;> first
    | exact (show False from h).elim
    | (obtain ⟨i, rfl, h2⟩ := h; exact op_notin_str pins s σ H _ _ v u Q I rx ry ⟨i, _, rfl, rfl, by simpa using h2⟩)
    | (obtain ⟨xs, h1, h2, h3, h4⟩ := h; exact op_notIn_seq pins s σ H _ _ v u Q I rx ry ⟨_, xs, rfl, h1, h2, h3, by simpa using h4⟩)
def rLenD (K : PySem.W.Frag) : List V → Hp → VK → Prop := fun xs H Q => match xs with
  | [.str y] => y.length ≤ sizeLine ∧ Q (.int y.length) H
  | [.ref p] => (∃ ys, (SqL K H p ys ∨ SqT K H p ys) ∧ Q (.int ys.length) H) ∨ (∃ kvs, Rd H p (.dK kvs) ∧ Q (.int kvs.length) H)
  | _ => False
theorem call_lenA : CallR X (.builtin "len") (rLenD X.K) := by
  intro pins s σ H xs us Q I r h
  unfold rLenD at h
  split at h
  · exact call_len pins s σ H _ us Q I r ⟨_, _, rfl, ⟨h.1, rfl⟩, h.2⟩
  · rcases h with ⟨ys, h1 | h1, q⟩ | ⟨kvs, h1, q⟩
    · exact call_len pins s σ H _ us Q I r ⟨_, _, rfl, .inl ⟨ys, h1, rfl⟩, q⟩
    · exact call_len pins s σ H _ us Q I r ⟨_, _, rfl, .inr ⟨ys, h1, rfl⟩, q⟩
    · obtain ⟨u, rfl, ru⟩ := vals1 r
      cases ru
      exact d_len I h1 fun t s' I' => ⟨.int kvs.length, H, I', ⟨t, rfl⟩, q⟩
  · exact h.elim
def tyName (H : Hp) : V → Option String
  | .non => some "NoneType"
  | .bl _ => some "bool"
  | .int _ => some "int"
  | .str _ => some "str"
  | .ref a => match H a with
    | some (.lst _) => some "list"
    | some (.tup _) => some "tuple"
    | some (.dK _) => some "dict"
    | _ => none
  | _ => none
def isiT (t T : String) : Bool := t == T || (t == "bool" && T == "int")
theorem kit_all : ∀ (K : PySem.W.Frag) (t T : String), t ∈ ["NoneType", "bool", "int", "str", "list", "tuple", "dict"] → T ∈ ["bool", "int", "str", "list", "tuple", "dict"] → PySem.W.kitOne K (.type t) (.type T) = some (isiT t T) := by
  intro K t T h1 h2
  simp only [List.mem_cons, List.mem_nil_iff, or_false] at h1 h2
  rcases h1 with rfl | rfl | rfl | rfl | rfl | rfl | rfl <;> rcases h2 with rfl | rfl | rfl | rfl | rfl | rfl <;> rfl
def rIsi : List V → Hp → VK → Prop := fun xs H Q => match xs with
  | [x, .ty T] => T ∈ ["bool", "int", "str", "list", "tuple", "dict"] ∧ ∃ t, tyName H x = some t ∧ Q (.bl (isiT t T)) H
  | _ => False
theorem call_isiD : CallR X (.builtin "isinstance") rIsi := by
  intro pins s σ H xs us Q I r h
  unfold rIsi at h
  split at h
  · next x T =>
    obtain ⟨hT, t, ht, q⟩ := h
    obtain ⟨u, c, rfl, ru, rc⟩ := r.two
    cases rc
    have fin : ∀ tk, EP X pins σ Q (.bool (isiT t T)) { s with toks := tk } := fun tk => ⟨.bl (isiT t T), H, I.tok tk, rfl, q⟩
    have tm : t ∈ ["NoneType", "bool", "int", "str", "list", "tuple", "dict"] ∧ TyOf X.K H x (.type t) := by
      cases x with
      | non => cases ht; exact ⟨by simp, .non⟩
      | bl b => cases ht; exact ⟨by simp, .bl b⟩
      | int b => cases ht; exact ⟨by simp, .int b⟩
      | str b => cases ht; exact ⟨by simp, .str b⟩
      | ref a =>
        unfold tyName at ht
        dsimp only at ht
        split at ht
        · next e => cases ht; exact ⟨by simp, .lst e⟩
        · next e => cases ht; exact ⟨by simp, .tup e⟩
        · next e => cases ht; exact ⟨by simp, .dK e⟩
        · cases ht
      | _ => cases ht
    exact isinst_ok I ru tm.2 (kit_all _ t T tm.1 hT) fin
  · exact h.elim
def rAll (K : PySem.W.Frag) : List V → Hp → VK → Prop := fun xs H Q => match xs with
  | [.ref p] => ∃ bs : List Bool, SqL K H p (bs.map V.bl) ∧ Q (.bl (bs.all id)) H
  | _ => False
theorem bools_of : ∀ {bs : List Bool} {us : List Value}, Vals (bs.map V.bl) us → us = bs.map Value.bool
  | [], _, .nil => rfl
  | b :: bs, _, .cons r t => by
    cases (show _ = Value.bool b from r)
    rw [bools_of t]; rfl
theorem call_allD (hc : X.calm = true) : CallR X (.builtin "all") (rAll X.K) := by
  intro pins s σ H xs us Q I r h
  unfold rAll at h
  split at h
  · next p =>
    obtain ⟨bs, hq, q⟩ := h
    obtain ⟨u, rfl, ru⟩ := r.one
    cases ru
    obtain ⟨its, rv, pl, hz⟩ := I.list hq
    have e := bools_of rv
    subst e
    have hlt : p < s.heap.objs.size := by obtain ⟨_, e, _⟩ := pl.isList; exact Heap.lt_size e
    refine call_all_walk (wpAny_pyIter_list pl.isList ?_)
    refine ⟨s.heap.objs.size, [s.heap.objs.size, p], [s.heap.objs.size], (bs.map Value.bool).toArray.size, _, _, fun i => (bs[i]?).getD true, rfl, Walks.list (A := X.A.in1) (I.ok.hd hc) _ p (Nat.ne_of_lt hlt) _,
      ⟨⟨_, Heap.get?_push_size _ rfl, rfl, rfl⟩, pl.isList.push _⟩, fun i v s' Q' E' hP hQ => ?_, fun h' tk hk => ?_⟩
    · have hP' : (bs.map Value.bool)[i]? = some v := by simpa using hP
      rw [List.getElem?_map] at hP'
      cases eb : bs[i]? with
      | none => rw [eb] at hP'; cases hP'
      | some b =>
        rw [eb] at hP'
        cases hP'
        simp only [eb, Option.getD_some] at hQ
        exact wpAny_truthy_bool hQ
    · have e : ((List.range (bs.map Value.bool).toArray.size).all fun i => (bs[i]?).getD true) = bs.all id := by
        rw [List.size_toArray, List.length_map]
        rw [Bool.eq_iff_iff, List.all_eq_true, List.all_eq_true]
        constructor
        · intro h b hb
          obtain ⟨i, hi, rfl⟩ := List.getElem_of_mem hb
          have := h i (List.mem_range.mpr hi)
          simpa [List.getElem?_eq_getElem hi] using this
        · intro h i hi
          have hi' := List.mem_range.mp hi
          have := h _ (List.getElem_mem hi')
          simpa [List.getElem?_eq_getElem hi'] using this
      rw [e]
      refine ⟨.bl (bs.all id), H, I.kept (t' := tk) fun b o e => hk b o (fun hm => ?_) (Heap.get?_push_of_some _ e), rfl, q⟩
      rw [List.mem_singleton.mp hm] at e
      exact Nat.lt_irrefl _ (Heap.lt_size e)
  · exact h.elim
theorem strs_of : ∀ {xs : List Str} {us : List Value}, Vals (xs.map V.str) us → StrsAre us xs
  | [], _, .nil => .nil
  | x :: xs, _, .cons r t => by
    obtain ⟨k, rfl⟩ := (show ∃ t, _ = Value.str x t from r)
    exact .cons x k (strs_of t)
def rJoin (K : PySem.W.Frag) : V → List V → Hp → VK → Prop := fun x vs H Q => match x, vs with
  | .str sep, [.ref p] => ∃ ys : List Str, SqL K H p (ys.map V.str) ∧ (ys.map (·.length)).sum + ys.length * sep.length ≤ 16777216 ∧ Q (.str (Txt.join sep ys)) H
  | _, _ => False
theorem mt_join : MtM X "str.join" (rJoin X.K) := by
  intro pins s σ H x vs v us Q I rx rv h
  unfold rJoin at h
  split at h
  · next sep p =>
    obtain ⟨ys, hq, hz, q⟩ := h
    obtain ⟨t, rfl⟩ := (show ∃ t, v = Value.str sep t from rx)
    obtain ⟨u, rfl, ru⟩ := rv.one
    cases ru
    obtain ⟨its, rv', pl, _⟩ := I.list hq
    exact join_list pl.isList (by simpa using strs_of rv') hz fun t' k => ⟨.str (Txt.join sep ys), H, I.tok k, ⟨t', rfl⟩, q⟩
  · exact h.elim
def rSlS : V → Option Int → Option Int → Hp → VK → Prop := fun x lo hi H Q => ∃ z, x = .str z ∧ z.length ≤ sizeLine ∧ Q (.str (Txt.slice z lo hi)) H
theorem sl_str : SlR X rSlS := by
  intro pins s σ H x v vl vu lo hi sl Q I rx hs pl pu h
  obtain ⟨z, rfl, hz, q⟩ := h
  obtain ⟨t, rfl⟩ := (show ∃ t, v = Value.str z t from rx)
  refine ⟨"str", _, F.slot_str_getitem.lookup, typeIs_str _ _ _, ?_⟩
  have hpart : ∀ {w : Value} {o : Option Int}, IsPart w o → ∃ l : Option (Int × Tok), w = partValue l ∧ l.map (·.1) = o := fun {w o} p => by
    cases p with
    | none => exact ⟨none, rfl, rfl⟩
    | int k t => exact ⟨some (k, t), rfl, rfl⟩
  obtain ⟨l, e1, e2⟩ := hpart pl
  obtain ⟨u, e3, e4⟩ := hpart pu
  subst e1 e3
  obtain ⟨o, ho, hc, hd⟩ := hs
  refine wpAny_getItem_str_slice (l := l) (u := u) (st := none) ⟨o, ho, hc, hd⟩ rfl ?_
  refine post_val_or_str ⟨Nat.le_trans (Txt.slice_le z _ _) hz, fun t' k => ?_⟩
  show EP X pins σ Q (.str (Txt.slice z (l.map (·.1)) (u.map (·.1))) t') _
  rw [e2, e4]
  exact ⟨.str (Txt.slice z lo hi), H, I.tok k, ⟨t', rfl⟩, q⟩
def Its (z : Str) : It := ⟨fun i _ => i < z.cps.size, fun i H x H' => H' = H ∧ ∃ c, z.cps[i]? = some c ∧ x = .str ⟨#[c]⟩, fun i _ => z.cps.size = i⟩
theorem turn_walks {P : Program} {w : World} {K : PySem.W.Frag} {tg : Expr} {it : Addr} {z : Str} {St : Nat → Heap → Prop} (W : ∀ A' : Around, A'.handled = none → Walks P w A' it [it] [it] z.cps.size (SignAt z) St)
    (hself : ∀ (A : Around) (i : Nat) (s : Shared) (Q : Value → Shared → Prop) (E : Value → Shared → Prop), St i s.heap → Q (.ref it) s → wpAny (model P w) A (pyIter (.ref it)) Q E s)
    (hg : ∀ i h, St i h → ∃ o n vs, h.get? it = some o ∧ o.cls = .type n ∧ o.data = .fields vs ∧ ["enumerate", "zip", "dict_itemiterator", "dict_reverseitemiterator", "odict_iterator", "itertools.zip_longest", "itertools.pairwise"].contains n = false) : Turn P w K tg (Its z) [it] it St where
  mem := by simp
  obj := fun i h st b hb => by
    have e : b = it := by simpa using hb
    subst e
    obtain ⟨o, n, vs, e, c, d, _⟩ := hg i h st
    exact ⟨o, e, fun v z => by rw [d] at z; cases z⟩
  keep := fun i h h' st k => (W {} rfl).frame _ _ _ st k
  item := by
    intro X hP hw hK hc i pins s σ H E I hf st hgo
    subst hP hw hK
    obtain ⟨f0, f1, f2, f3, f4, f5⟩ := hf it (by simp)
    refine (W X.A (I.ok.hd hc)).item i s _ _ hgo st fun v h' tk hv st' kk => ?_
    obtain ⟨c, t, hc1, rfl⟩ := hv
    have I1 : Inv X pins σ H { s with heap := h', toks := tk } := I.turned (fun b o hb e => kk b o (by simpa using hb) e) f0 f1 f3 f4 f5
    obtain ⟨o, n, vs, e, c', d, nn⟩ := hg _ _ st'
    exact ⟨_, rfl, go_of (s := { s with heap := h', toks := tk }) e c' d nn ⟨.str ⟨#[c]⟩, H, I1, ⟨t, rfl⟩, ⟨rfl, c, hc1, rfl⟩, st', fun b hb => (hf b hb).1⟩⟩
  done := by
    intro X hP hw hK hc i pins s σ H E I hf st hgo
    subst hP hw hK
    obtain ⟨f0, f1, f2, f3, f4, f5⟩ := hf it (by simp)
    have e : z.cps.size = i := hgo
    subst e
    exact (W X.A (I.ok.hd hc)).done s _ _ st fun h' tk kk => ⟨rfl, I.turned (fun b o hb e => kk b o (by simpa using hb) e) f0 f1 f3 f4 f5⟩
  self := hself
end
def FnK (P : Program) (w : World) (K : PySem.W.Frag) (mg : Str → Option Value) (base : Heap) (k : Nat) (x : Str) (ps : List Str) (sp : Sp) : Prop :=
  ∃ (f : Addr) (fd : FuncData), FnOk P w K mg base CX0 k f fd ps sp ∧ mg x = some (.ref f) ∧ PySem.W.keepIn K (.ref f) = true ∧ Binds K fd ps [] ∧ ∃ (oc : Value) (od : Option Addr) (osl : Array (Option Value)), K.lookup f = some ⟨oc, od, .func fd, osl⟩
section
variable {X : Cx} {k : Nat} {ps : List Str} {sp : Sp} {x : Str} {p pos : Pos} {e : Expr} {es : List Expr} {t : TA}
theorem pe_fn (F : FnK X.prog X.w X.K X.mg X.base k x ps sp) (hr : Room k X.A) (ha : PA X (e :: es) t) (hg : Gl X x := by rfl) (hdb : (x == ("__debug__" : Str)) = false := by decide)
    (he : starEach (e :: es) X.env = (false, eval e X.env) :: starEach es X.env := by rfl) (hpl : (backTo pos (starEach es X.env)).any (·.1) = false := by rfl) :
    PE X (.Call (.Name x p) (e :: es) [] pos) (tCall sp [] E0 t) := by
  obtain ⟨f, fd, G, mgf, kp, b, _⟩ := F
  exact pe_call G hr hg mgf kp b .nil pass0 ha hdb he hpl
end
def iD (K : PySem.W.Frag) (tl : TE) : TI := fun σ H R => tl σ H fun x H1 => match x with
  | .ref a => ((∃ xs, SqL K H1 a xs) ∧ R (Itl K a) H1) ∨ ((∃ xs, SqT K H1 a xs) ∧ R (Itt K a) H1)
  | .str z => R (Its z) H1
  | _ => False
theorem pi_D {X : Cx} {tg l : Expr} {tl : TE} (hl : PE X l tl) : PI X tg l (iD X.K tl) := by
  intro pins s σ H R I h
  refine thn (hl pins s σ H _ I h) ?_
  rintro v s1 ⟨x, H1, I1, r1, q1⟩
  cases x with
  | ref a =>
    cases r1
    rcases q1 with ⟨⟨xs, hq⟩, q⟩ | ⟨⟨xs, hq⟩, q⟩
    · obtain ⟨its, rv, p, hz⟩ := I1.list hq
      refine wpAny_pyIter_list p.isList ?_
      refine ⟨s1.heap.objs.size, [s1.heap.objs.size], _, _, H1, rfl, I1.kept (t' := s1.toks) fun b o e => Heap.get?_push_of_some _ e, turn_list a _, ⟨_, Heap.get?_push_size _ rfl, rfl, rfl⟩, fun b hb => ?_, q⟩
      have e : b = s1.heap.objs.size := by simpa using hb
      subst e
      exact I1.fpOk (Nat.le_refl _) (I1.hok.fresh (Nat.le_refl _))
    · obtain ⟨its, rv, p, hz⟩ := I1.tuple hq
      refine wpAny_pyIter_tuple (show s1.heap.IsTuple a its.toArray from p) ?_
      refine ⟨s1.heap.objs.size, [s1.heap.objs.size], _, _, H1, rfl, I1.kept (t' := s1.toks) fun b o e => Heap.get?_push_of_some _ e, turn_tuple a _, ⟨_, Heap.get?_push_size _ rfl, rfl, rfl⟩, fun b hb => ?_, q⟩
      have e : b = s1.heap.objs.size := by simpa using hb
      subst e
      exact I1.fpOk (Nat.le_refl _) (I1.hok.fresh (Nat.le_refl _))
  | str z =>
    obtain ⟨t, rfl⟩ := (show ∃ t, v = Value.str z t from r1)
    have q : R (Its z) H1 := q1
    have fin : ∀ (o : Obj) (n : String) (W : ∀ A' : Around, A'.handled = none → Walks X.prog X.w A' s1.heap.objs.size [s1.heap.objs.size] [s1.heap.objs.size] z.cps.size (SignAt z) (fun i h => h.IsStrIter s1.heap.objs.size n z t i)),
        (∀ (A : Around) (i : Nat) (s : Shared) (Q : Value → Shared → Prop) (E : Value → Shared → Prop), s.heap.IsStrIter s1.heap.objs.size n z t i → Q (.ref s1.heap.objs.size) s → wpAny (model X.prog X.w) A (pyIter (.ref s1.heap.objs.size)) Q E s) →
        ["enumerate", "zip", "dict_itemiterator", "dict_reverseitemiterator", "odict_iterator", "itertools.zip_longest", "itertools.pairwise"].contains n = false →
        (s1.heap.push o).IsStrIter s1.heap.objs.size n z t 0 → PIE X pins σ tg R (.ref s1.heap.objs.size) { s1 with heap := s1.heap.push o } := by
      intro o n W hself hn st
      refine ⟨s1.heap.objs.size, [s1.heap.objs.size], _, _, H1, rfl, I1.kept (t' := s1.toks) fun b o e => Heap.get?_push_of_some _ e, turn_walks W hself (fun i h st => ?_), st, fun b hb => ?_, q⟩
      · obtain ⟨o, e, c, d⟩ := st
        exact ⟨o, n, _, e, c, d, hn⟩
      · have e : b = s1.heap.objs.size := by simpa using hb
        subst e
        exact I1.fpOk (Nat.le_refl _) (I1.hok.fresh (Nat.le_refl _))
    cases ha : z.cps.all (· < 128)
    · exact wpAny_pyIter_wide ha (fin _ _ (fun A' hA => Walks.strWide hA _ z t) (fun A i s Q E st h => wpAny_pyIter_striter_wide st h) (by decide) ⟨_, Heap.get?_push_size _ rfl, rfl, rfl⟩)
    · exact wpAny_pyIter_ascii ha (fin _ _ (fun A' hA => Walks.strAscii hA _ z t) (fun A i s Q E st h => wpAny_pyIter_striter_ascii st h) (by decide) ⟨_, Heap.get?_push_size _ rfl, rfl, rfl⟩)
  | _ => exact (show False from q1).elim
def ItN (J : It) (ok : Hp → Prop) (n : Nat) (item : Nat → V) : Prop :=
  ∀ H, ok H → (∀ i, i < n → J.go i H ∧ ∀ x H', J.yld i H x H' → H' = H ∧ x = item i) ∧ J.stop n H
theorem itn_list {K : PySem.W.Frag} {a : Addr} (xs : List V) : ItN (Itl K a) (fun H => SqL K H a xs) xs.length (fun i => xs.getD i .non) := fun H ok =>
  ⟨fun i hi => ⟨⟨xs, xs[i], ok, by simp [hi]⟩, fun x H' ⟨e, y⟩ => ⟨e, by
    have := y xs ok
    show x = xs.getD i V.non
    rw [List.getD_eq_getElem?_getD, this]; rfl⟩⟩, ⟨xs, ok, Nat.le_refl _⟩⟩
theorem itn_tup {K : PySem.W.Frag} {a : Addr} (xs : List V) : ItN (Itt K a) (fun H => SqT K H a xs) xs.length (fun i => xs.getD i .non) := fun H ok =>
  ⟨fun i hi => ⟨⟨xs, xs[i], ok, by simp [hi]⟩, fun x H' ⟨e, y⟩ => ⟨e, by
    have := y xs ok
    show x = xs.getD i V.non
    rw [List.getD_eq_getElem?_getD, this]; rfl⟩⟩, ⟨xs, ok, Nat.le_refl _⟩⟩
theorem itn_range (lo : Int) (n : Nat) : ItN (Itr lo n) (fun _ => True) n (fun i => .int (lo + i)) := fun H _ =>
  ⟨fun i hi => ⟨hi, fun x H' ⟨e, y⟩ => ⟨e, y⟩⟩, Nat.le_refl _⟩
theorem itn_str (z : Str) : ItN (Its z) (fun _ => True) z.cps.size (fun i => .str ⟨#[z.cps.getD i 0]⟩) := fun H _ =>
  ⟨fun i hi => ⟨hi, fun x H' ⟨e, c, h1, h2⟩ => ⟨e, by show x = V.str ⟨#[z.cps.getD i 0]⟩; rw [h2, Array.getD_eq_getD_getElem?, h1]; rfl⟩⟩, rfl⟩
theorem lc_by {J : It} {ok : Hp → Prop} {n : Nat} {item : Nat → V} {g : TG} {tc : TC} {te : TE} {τ0 : St} {H0 : Hp} {D : Addr} {Q : Hp → Prop} (hJ : ItN J ok n item) (Pv : Nat → St → Hp → Prop) (h0 : Pv 0 τ0 H0)
    (hok : ∀ i τ H, i ≤ n → Pv i τ H → ok H)
    (hs : ∀ i τ H, i < n → Pv i τ H → g (item i) τ H fun τ2 H2 => tc τ2 H2 fun b H3 => if b = true then te τ2 H3 fun y H4 => ∃ xs, H4 D = some (.lst xs) ∧ xs.length < sizeLine ∧ Pv (i + 1) τ2 (upd H4 D (.lst (xs ++ [y]))) else Pv (i + 1) τ2 H3)
    (hd : ∀ τ H, Pv n τ H → Q H) : ∃ W : Nat → Nat → St → Hp → Prop, (∃ m, W 0 m τ0 H0) ∧ ∀ i m τ H, W i m τ H →
      (J.stop i H ∧ Q H) ∨ (J.go i H ∧ ∃ N : St → Hp → Prop, (∀ τ' H', N τ' H' → ∃ m', m' < m ∧ W (i + 1) m' τ' H') ∧ ∀ x H', J.yld i H x H' → g x τ H' fun τ2 H2 => tc τ2 H2 fun b H3 =>
        if b = true then te τ2 H3 fun y H4 => ∃ xs, H4 D = some (.lst xs) ∧ xs.length < sizeLine ∧ N τ2 (upd H4 D (.lst (xs ++ [y]))) else N τ2 H3) := by
  refine ⟨fun i m τ H => m = n - i ∧ i ≤ n ∧ Pv i τ H, ⟨n, by simp, Nat.zero_le _, h0⟩, ?_⟩
  rintro i m τ H ⟨rfl, hi, p⟩
  obtain ⟨k1, k2⟩ := hJ H (hok i τ H hi p)
  by_cases hlt : i < n
  · refine .inr ⟨(k1 i hlt).1, Pv (i + 1), fun σ' H' p' => ⟨n - (i + 1), by omega, rfl, hlt, p'⟩, fun x H' y => ?_⟩
    obtain ⟨e, e2⟩ := (k1 i hlt).2 x H' y
    subst e e2
    exact hs i τ _ hlt p
  · have e : i = n := by omega
    subst e
    exact .inl ⟨k2, hd τ H p⟩
theorem for_by {J : It} {ok : Hp → Prop} {n : Nat} {item : Nat → V} {g : TG} {tb : TS} {D : Ends} {σ : St} {H : Hp} (hJ : ItN J ok n item) (Pv : Nat → St → Hp → Prop) (h0 : Pv 0 σ H) (hok : ∀ i τ H, i ≤ n → Pv i τ H → ok H)
    (hs : ∀ i σ H, i < n → Pv i σ H → g (item i) σ H fun σ2 H2 => tb { D with nx := Pv (i + 1), ct := Pv (i + 1), bk := D.nx } σ2 H2) (hd : ∀ σ H, Pv n σ H → D.nx σ H) :
    ∃ W : Nat → Nat → St → Hp → Prop, (∃ m, W 0 m σ H) ∧ ∀ i m σ H, W i m σ H →
      (J.stop i H ∧ D.nx σ H) ∨ (J.go i H ∧ ∃ N : St → Hp → Prop, (∀ σ' H', N σ' H' → ∃ m', m' < m ∧ W (i + 1) m' σ' H') ∧ ∀ x H', J.yld i H x H' → g x σ H' fun σ2 H2 => tb { D with nx := N, ct := N, bk := D.nx } σ2 H2) := by
  refine ⟨fun i m σ H => m = n - i ∧ i ≤ n ∧ Pv i σ H, ⟨n, by simp, Nat.zero_le _, h0⟩, ?_⟩
  rintro i m σ H ⟨rfl, hi, p⟩
  obtain ⟨k1, k2⟩ := hJ H (hok i σ H hi p)
  by_cases hlt : i < n
  · refine .inr ⟨(k1 i hlt).1, Pv (i + 1), fun σ' H' p' => ⟨n - (i + 1), by omega, rfl, hlt, p'⟩, fun x H' y => ?_⟩
    obtain ⟨e, e2⟩ := (k1 i hlt).2 x H' y
    subst e e2
    exact hs i σ _ hlt p
  · have e : i = n := by omega
    subst e
    exact .inl ⟨k2, hd σ H p⟩
def FnT (K : PySem.W.Frag) (mg : Str → Option Value) (x : Str) (st : Stmt) (ps : List Str) : Prop := ∃ (f : Addr) (fd : FuncData), Fun K x x st f fd ∧ mg x = some (.ref f) ∧ Binds K fd ps []
theorem FnT.ok {P : Program} {w : World} {K : PySem.W.Frag} {mg : Str → Option Value} {base : Heap} {x : Str} {st : Stmt} {N ps : List Str} {k : Nat} {sp : Sp} (F : FnT K mg x st ps) (S : FnScope N ps (defScope st)) (len : ∀ vs H Q E, sp vs H Q E → vs.length = ps.length)
    (hbody : ∀ (f : Addr) (cdv : Value) (A : Around) (outer : List Env) (s : Shared) (H : Hp) (vs : List V) (Q : VK) (E : XK), Room k (A.deeper (envOfC x (defScope st) s.heap.objs.size f cdv)) → sp vs H Q E →
      ∃ t, PSs (cxOf CX0 P w K mg base N x (defScope st) f cdv A outer s H E).nox (defBody st) t ∧ t { nx := fun _ H' => Q .non H', rt := Q } (start N vs) H) : FnK P w K mg base (k + 1) x ps sp := by
  obtain ⟨f, fd, Fu, m, b⟩ := F
  exact ⟨f, fd, Fu.ok S len (hbody f), m, Fu.kp, b, let ⟨oc, od, _, _, _, _, _, _, osl, _, lk, _⟩ := Fu.ex; ⟨oc, od, osl, lk⟩⟩
section
variable {X : Cx} {x : Str} {pos : Pos}
theorem pe_gl {v : V} (h : ∃ u, X.mg x = some u ∧ RelV v u) (hg : Gl X x := by rfl) (hd : (x == ("__debug__" : Str)) = false := by decide) : PE X (.Name x pos) (tC v) := by
  obtain ⟨u, h1, h2⟩ := h
  exact pe_glob hg h1 h2 hd
def tGlT (K : PySem.W.Frag) (xs : List V) : TE := fun _ H Q => ∀ a, SqT K H a xs → Q (.ref a) H
theorem pe_glT {xs : List V} (h : ∃ a, X.mg x = some (.ref a) ∧ ∀ H, SqT X.K H a xs) (hg : Gl X x := by rfl) (hd : (x == ("__debug__" : Str)) = false := by decide) : PE X (.Name x pos) (tGlT X.K xs) := by
  obtain ⟨a, h1, h2⟩ := h
  intro pins s σ H Q I q
  exact pe_glob (v := .ref a) hg h1 rfl hd pins s σ H Q I (q a (h2 H))
theorem sl_D : SlR X (fun x lo hi H Q => rSlS x lo hi H Q ∨ (rSlL X.K x lo hi H Q ∨ rSlT X.K x lo hi H Q)) := sl_str.or (sl_list.or sl_tup)
end
section
variable {X : Cx} (K : PySem.W.Frag)
theorem ix_K (h : X.K = K := by rfl) : IxR X (rIxD K) := by rw [← h]; exact ix_D
theorem op_inK (h : X.K = K := by rfl) : OpR X (compareOp .In) (rInD K false) := by rw [← h]; exact op_inD
theorem op_notInK (h : X.K = K := by rfl) : OpR X (compareOp .NotIn) (rInD K true) := by rw [← h]; exact op_notInD
theorem call_lenK (h : X.K = K := by rfl) : CallR X (.builtin "len") (rLenD K) := by rw [← h]; exact call_lenA
theorem call_allK (hc : X.calm = true) (h : X.K = K := by rfl) : CallR X (.builtin "all") (rAll K) := by rw [← h]; exact call_allD hc
theorem mt_joinK (h : X.K = K := by rfl) : MtM X "str.join" (rJoin K) := by rw [← h]; exact mt_join
theorem sl_K (h : X.K = K := by rfl) : SlR X (fun x lo hi H Q => rSlS x lo hi H Q ∨ (rSlL K x lo hi H Q ∨ rSlT K x lo hi H Q)) := by rw [← h]; exact sl_D
theorem pi_K {tg l : Expr} {tl : TE} (hl : PE X l tl) (h : X.K = K := by rfl) : PI X tg l (iD K tl) := by rw [← h]; exact pi_D hl
theorem pe_glK {x : Str} {pos : Pos} {xs : List V} (hx : ∃ a, X.mg x = some (.ref a) ∧ ∀ H, SqT K H a xs) (h : X.K = K := by rfl) (hg : Gl X x := by rfl) (hd : (x == ("__debug__" : Str)) = false := by decide) : PE X (.Name x pos) (tGlT K xs) := by
  subst h; exact pe_glT hx hg hd
theorem pg_tupK {es : List Expr} {k : Nat} {t : TGs} {n : Nat} {pos : Pos} (hc : X.calm = true) (hh : PGs X es t) (h : X.K = K := by rfl)
    (hn : (assignEach es X.env).length = n := by rfl) (hst : (assignEach es X.env).findIdx? (·.1) = none := by rfl) : PG X (.Tuple es k pos) (gTup K n t) := by
  subst h; exact pg_tup hc hh hn hst
theorem pe_bmK {T : String} {name : Str} {id : String} {r : V → List V → Hp → VK → Prop} {o e : Expr} {es : List Expr} {to : TE} {t : TA} {apos cpos : Pos} (pa : PlainAttrs T) (slot : Slot T name id) (hty : typeOf (.builtin id) = pure (.type "method_descriptor")) (hm : MtM X id r) (ho : PE X o to) (ha : PA X (e :: es) t) (h : X.K = K := by rfl)
    (hbase : attributeBase o name X.env (eval o X.env) = eval o X.env := by rfl)
    (hfew : ((backTo cpos (starEach (e :: es) X.env)).all (fun x => !x.1) && (backToKw cpos (keywordEach [] X.env)).all (fun x => x.1.isSome)
      && decide ((e :: es).length + ([] : List Keyword).length + (if ([] : List Keyword).isEmpty then 0 else 1) < 30)) = true := by rfl)
    (hline : (apos.endLine == cpos.line) = true := by rfl) (hs : starEach (e :: es) X.env = (false, eval e X.env) :: starEach es X.env := by rfl) (hplain : (backTo cpos (starEach es X.env)).any (·.1) = false := by rfl) :
    PE X (.Call (.Attribute o name apos) (e :: es) [] cpos) (tBM K T r to t) := by
  subst h; exact pe_bm pa slot hty hm ho ha hbase hfew hline hs hplain
end
structure SE (X : Cx) (e : Expr) (t : TE) : Prop where
  h : PE X e t
structure ST (X : Cx) (e : Expr) (t : TT) : Prop where
  h : PT X e t
structure SW (X : Cx) (e : Expr) (t : TT) : Prop where
  h : PW X e t
structure SA (X : Cx) (es : List Expr) (t : TA) : Prop where
  h : PA X es t
structure SS (X : Cx) (s : Stmt) (t : TS) : Prop where
  h : PS X s t
structure SB (X : Cx) (s : List Stmt) (t : TS) : Prop where
  h : PSs X s t
structure SG (X : Cx) (e : Expr) (t : TG) : Prop where
  h : PG X e t
structure SGs (X : Cx) (e : List Expr) (t : TGs) : Prop where
  h : PGs X e t
structure SI (X : Cx) (tg e : Expr) (t : TI) : Prop where
  h : PI X tg e t
structure SC (X : Cx) (e : List Expr) (t : TC) : Prop where
  h : PC' X e t
structure SO (X : Cx) (e : Option Expr) (t : TO) : Prop where
  h : PO X e t
structure SP2 (X : Cx) (pos : Pos) (keys : List (Option Expr)) (values : List Expr) (trs : List (TE × TE)) : Prop where
  h : PPs X pos keys values trs
section
variable {X : Cx} {es : List Expr} {te : TE} {t : TA} {c : Const} {j : Nat} {pos0 : Pos} {n : Str} {xs0 : List Expr} {f0 a0 b0 c0 : Expr} {kw0 : List Keyword} {o0 : Operator} {ks0 : List (Option Expr)} {gs0 : List Comprehension} {sc0 : Scope} {u0 : UnaryOp} {bo0 : BoolOp} {ops0 : List CmpOp}theorem sa_nil : SA X [] tNil := ⟨pa_nil⟩
theorem sa_Constant (ha : SE X (.Constant c j pos0) te) (hr : SA X es t) : SA X (.Constant c j pos0 :: es) (tCons te t) := ⟨pa_cons ha.h hr.h⟩
theorem sa_Name (ha : SE X (.Name n pos0) te) (hr : SA X es t) : SA X (.Name n pos0 :: es) (tCons te t) := ⟨pa_cons ha.h hr.h⟩
theorem sa_List (ha : SE X (.List xs0 pos0) te) (hr : SA X es t) : SA X (.List xs0 pos0 :: es) (tCons te t) := ⟨pa_cons ha.h hr.h⟩
theorem sa_Tuple (ha : SE X (.Tuple xs0 j pos0) te) (hr : SA X es t) : SA X (.Tuple xs0 j pos0 :: es) (tCons te t) := ⟨pa_cons ha.h hr.h⟩
theorem sa_Call (ha : SE X (.Call f0 xs0 kw0 pos0) te) (hr : SA X es t) : SA X (.Call f0 xs0 kw0 pos0 :: es) (tCons te t) := ⟨pa_cons ha.h hr.h⟩
theorem sa_BinOp (ha : SE X (.BinOp a0 o0 b0 pos0) te) (hr : SA X es t) : SA X (.BinOp a0 o0 b0 pos0 :: es) (tCons te t) := ⟨pa_cons ha.h hr.h⟩
theorem sa_Subscript (ha : SE X (.Subscript a0 b0 pos0) te) (hr : SA X es t) : SA X (.Subscript a0 b0 pos0 :: es) (tCons te t) := ⟨pa_cons ha.h hr.h⟩
theorem sa_Dict (ha : SE X (.Dict ks0 xs0 pos0) te) (hr : SA X es t) : SA X (.Dict ks0 xs0 pos0 :: es) (tCons te t) := ⟨pa_cons ha.h hr.h⟩
theorem sa_ListComp (ha : SE X (.ListComp a0 gs0 sc0 pos0) te) (hr : SA X es t) : SA X (.ListComp a0 gs0 sc0 pos0 :: es) (tCons te t) := ⟨pa_cons ha.h hr.h⟩
end
section
variable {X : Cx} {a b c e o i value lo hi tg iter elt : Expr} {ta tb tc te td ty tv : TE} {t : TA} {pos p p2 pos' pos0 : Pos} {x : Str} {es : List Expr}
theorem zv (i : Nat) {x : Str} {pos : Pos} (hN : X.N[i]? = some x := by rfl) (hv : Vis X.env.scope x := by first | exact Or.inl rfl | exact Or.inr (Or.inl rfl) | exact Or.inr (Or.inr rfl)) (hd : (x == ("__debug__" : Str)) = false := by decide) (hcd : (x == ("__classdict__" : Str)) = false := by decide) : SE X (.Name x pos) (tV i) := ⟨pvv i hN hv hd hcd⟩
theorem z_gl {v : V} (h : ∃ u, X.mg x = some u ∧ RelV v u) (hg : Gl X x := by rfl) (hd : (x == ("__debug__" : Str)) = false := by decide) : SE X (.Name x pos) (tC v) := ⟨pe_gl h hg hd⟩
theorem z_glK (K : PySem.W.Frag) {xs : List V} (hx : ∃ a, X.mg x = some (.ref a) ∧ ∀ H, SqT K H a xs) (h : X.K = K := by rfl) (hg : Gl X x := by rfl) (hd : (x == ("__debug__" : Str)) = false := by decide) : SE X (.Name x pos) (tGlT K xs) := ⟨pe_glK K hx h hg hd⟩
theorem z_bltn {v : V} {u : Value} (hg : Gl X x) (hm : X.mg x = none) (hv : bootBuiltins x = some u) (r : RelV v u) (hn : x ≠ "__name__" := by decide) (hd : (x == ("__debug__" : Str)) = false := by decide) : SE X (.Name x pos) (tC v) := ⟨pe_bltn hg hm hv r hn hd⟩
theorem z_non {j} : SE X (.Constant .none j pos) (tC .non) := ⟨pe_non⟩
theorem z_bl {b : Bool} {j} : SE X (.Constant (.bool b) j pos) (tC (.bl b)) := ⟨pe_bl⟩
theorem z_int {i : Int} {j} : SE X (.Constant (.int i) j pos) (tC (.int i)) := ⟨pe_int⟩
theorem z_str {x : Str} {j} : SE X (.Constant (.str x) j pos) (tC (.str x)) := ⟨pe_str⟩
theorem z_op {op : Operator} {r : R2} (ho : OpR X (binaryOp op) r) (ha : SE X a ta) (hb : SE X b tb) : SE X (.BinOp a op b pos) (tOp r ta tb) := ⟨pe_op ho ha.h hb.h⟩
theorem z_un {op : UnaryOp} {r : V → Hp → VK → Prop} (ho : UnR X (unaryOp op) r) (ha : SE X a ta) : SE X (.UnaryOp op a pos) (tUn r ta) := ⟨pe_un ho ha.h⟩
theorem z_one {op} (h : SE X a ta) : SE X (.BoolOp op [a] pos) ta := ⟨pe_one h.h⟩
theorem z_and {rest : List Expr} (ha : SE X a ta) (hb : SE X (.BoolOp .And (b :: rest) pos) tb) : SE X (.BoolOp .And (a :: b :: rest) pos) (tAndV ta tb) := ⟨pe_and ha.h hb.h⟩
theorem z_cmpR {op : CmpOp} {r : R2} (ho : OpR X (compareOp op) r) (ha : SE X a ta) (hb : SE X b tb) (hm : behindInMarks op b = false) : SE X (.Compare a [op] [b] pos) (tOp r ta tb) := ⟨pe_cmpR ho ha.h hb.h hm⟩
theorem y_cmpR {op : CmpOp} {r : R2} (ho : OpR X (compareOp op) r) (ha : SE X a ta) (hb : SE X b tb) (hm : behindInMarks op b = false) : ST X (.Compare a [op] [b] pos) (tTest (tOp r ta tb)) := ⟨pt_cmpR ho ha.h hb.h hm⟩
theorem y_chain {op op' : CmpOp} {r r' : R2} (ho : OpR X (compareOp op) r) (ho' : OpR X (compareOp op') r') (ha : SE X a ta) (hb : SE X b tb) (hc : SE X c tc) (hm : lastMarks [op, op'] [b, c] = false := by with_unfolding_all rfl) : ST X (.Compare a [op, op'] [b, c] pos) (tTest (tChain r r' ta tb tc)) := ⟨pt_chain ho ho' ha.h hb.h hc.h hm⟩
theorem y_val (h : SE X e te) (he : ∀ whole, isTrue e X.env whole = (do let v ← whole; standAt e.pos; holding [v] (truthy v)) := by intro _; rfl) : ST X e (tB te) := ⟨pt_val h.h he⟩
theorem y_not {tA : TT} (ha : ST X a tA) : ST X (.UnaryOp .Not a pos) (tNot tA) := ⟨pt_not ha.h⟩
theorem w_and1 {tA : TT} (ha : ST X a tA) : SW X (.BoolOp .And [a] pos) tA := ⟨pw_and1 ha.h⟩
theorem w_or1 {tA : TT} (ha : ST X a tA) : SW X (.BoolOp .Or [a] pos) tA := ⟨pw_or1 ha.h⟩
theorem w_and {tA tB' : TT} {rest : List Expr} (ha : ST X a tA) (hb : SW X (.BoolOp .And (b :: rest) pos) tB') : SW X (.BoolOp .And (a :: b :: rest) pos) (tAnd tA tB') := ⟨pw_and ha.h hb.h⟩
theorem w_or {tA tB' : TT} {rest : List Expr} (ha : ST X a tA) (hb : SW X (.BoolOp .Or (b :: rest) pos) tB') : SW X (.BoolOp .Or (a :: b :: rest) pos) (tOr tA tB') := ⟨pw_or ha.h hb.h⟩
theorem SW.pt {tA : TT} (h : SW X e tA) : ST X e tA := ⟨h.h.pt⟩
theorem z_lst (h : SA X es t) : SE X (.List es pos) (tLst t) := ⟨pe_lst h.h⟩
theorem z_tup {x1} (h : SA X es t) : SE X (.Tuple es x1 pos) (tTup t) := ⟨pe_tup h.h⟩
theorem z_dnew : SE X (.Dict [] [] pos) tDNewK := ⟨pe_dnewK⟩
theorem zz_nil : SP2 X pos [] [] [] := ⟨pps_nil⟩
theorem zz_cons {ks : List (Option Expr)} {vs : List Expr} {tk tw : TE} {trs : List (TE × TE)} (hk : SE X a tk) (hv : SE X b tw) (hr : SP2 X pos ks vs trs) : SP2 X pos (some a :: ks) (b :: vs) ((tk, tw) :: trs) := ⟨pps_cons hk.h hv.h hr.h⟩
theorem z_disp {keys : List (Option Expr)} {values : List Expr} {trs : List (TE × TE)} (h : SP2 X pos keys values trs) (hall : keys.all (·.isSome) = true) (hl : keys.length = values.length) (h0 : keys ≠ []) (h15 : keys.length ≤ 15) : SE X (.Dict keys values pos) (tDisp trs) := ⟨pe_disp h.h hall hl h0 h15⟩
theorem zo_none : SO X none tNoPart := ⟨po_none⟩
theorem zo_some (h : SE X e te) : SO X (some e) (tPart te) := ⟨po_some h.h⟩
theorem z_slice {r : V → Option Int → Option Int → Hp → VK → Prop} {l u : Option Expr} {tl th : TO} (hr : SlR X r) (he : SE X e te) (hl : SO X l tl) (hu : SO X u th) : SE X (.Subscript e (.Slice l u none p2) pos) (tSl r te tl th) := ⟨pe_slice hr he.h hl.h hu.h⟩
theorem z_dget (hu : X.A.units + 1 < cLine) (ho : SE X o td) (hi : SE X i ty) (hs : NoSl i) : SE X (.Subscript o i pos) (tDGet td ty) := ⟨pe_dget hu ho.h hi.h hs⟩
theorem z_ix {r : R2} (hr : IxR X r) (ha : SE X a ta) (hb : SE X b tb) (hs : PlainIx b) : SE X (.Subscript a b pos) (tOp r ta tb) := ⟨pe_ix hr ha.h hb.h hs⟩
theorem z_fn {k : Nat} {ps : List Str} {sp : Sp} (F : FnK X.prog X.w X.K X.mg X.base k x ps sp) (hr : Room k X.A) (ha : SA X (e :: es) t) (hg : Gl X x := by rfl) (hdb : (x == ("__debug__" : Str)) = false := by decide)
    (he : starEach (e :: es) X.env = (false, eval e X.env) :: starEach es X.env := by rfl) (hpl : (backTo pos (starEach es X.env)).any (·.1) = false := by rfl) :
    SE X (.Call (.Name x p) (e :: es) [] pos) (tCall sp [] E0 t) := ⟨pe_fn F hr ha.h hg hdb he hpl⟩
theorem z_callB {id : String} {r : List V → Hp → VK → Prop} (hc : CallR X (.builtin id) r) (hg : Gl X x) (hm : X.mg x = none) (hv : bootBuiltins x = some (.builtin id)) (ha : SA X (e :: es) t) (hn : x ≠ "__name__" := by decide) (hdb : (x == ("__debug__" : Str)) = false := by decide)
    (he : starEach (e :: es) X.env = (false, eval e X.env) :: starEach es X.env := by rfl) (hpl : (backTo pos (starEach es X.env)).any (·.1) = false := by rfl) : SE X (.Call (.Name x p) (e :: es) [] pos) (tCB r t) := ⟨pe_callB hc hg hm hv ha.h hn hdb he hpl⟩
theorem z_bm (K : PySem.W.Frag) {T : String} {name : Str} {id : String} {r : V → List V → Hp → VK → Prop} {to : TE} {apos cpos : Pos} (pa : PlainAttrs T) (slot : Slot T name id) (hty : typeOf (.builtin id) = pure (.type "method_descriptor")) (hm : MtM X id r) (ho : SE X o to) (ha : SA X (e :: es) t) (h : X.K = K := by rfl)
    (hbase : attributeBase o name X.env (eval o X.env) = eval o X.env := by rfl)
    (hfew : ((backTo cpos (starEach (e :: es) X.env)).all (fun x => !x.1) && (backToKw cpos (keywordEach [] X.env)).all (fun x => x.1.isSome)
      && decide ((e :: es).length + ([] : List Keyword).length + (if ([] : List Keyword).isEmpty then 0 else 1) < 30)) = true := by rfl)
    (hline : (apos.endLine == cpos.line) = true := by rfl) (hs : starEach (e :: es) X.env = (false, eval e X.env) :: starEach es X.env := by rfl) (hplain : (backTo cpos (starEach es X.env)).any (·.1) = false := by rfl) :
    SE X (.Call (.Attribute o name apos) (e :: es) [] cpos) (tBM K T r to t) := ⟨pe_bmK K pa slot hty hm ho.h ha.h h hbase hfew hline hs hplain⟩
theorem sb_nil : SB X [] tNext := ⟨pss_nil⟩
theorem sb_one {st : Stmt} {u : TS} (h1 : SS X st u) : SB X [st] u := ⟨pss_one h1.h⟩
theorem sb_cons {st : Stmt} {rest : List Stmt} {u v : TS} (h1 : SS X st u) (h2 : SB X rest v) : SB X (st :: rest) (tSeq u v) := ⟨pss_cons h1.h h2.h⟩
theorem s_ret (he : SE X e te) : SS X (.Return (some e) pos) (tRet te) := ⟨ps_ret he.h⟩
theorem s_expr (he : SE X e te) (hs : swapsWith e none pos.line X.env = pure false := by rfl) : SS X (.Expr e pos) (tDrop te) := ⟨ps_expr he.h hs⟩
theorem s_if {a b : List Stmt} {tA : TT} {u v : TS} (hc : ST X c tA) (ha : SB X a u) (hb : SB X b v) : SS X (.If c a b pos) (tIfS tA u v) := ⟨ps_if hc.h ha.h hb.h⟩
theorem s_for {body : List Stmt} {wi : TI} {g : TG} {u : TS} (hp : PassesOwn (model X.prog X.w) X.A X.env X.xe) (hc : X.calm = true) (hi : SI X tg iter wi) (hg : SG X tg g) (hb : SB X body u) (hs : ∀ x, foldedSetIterable iter X.env x = pure x := by intro _; rfl) : SS X (.For tg iter body [] pos) (tFor wi g u) := ⟨ps_for hp hc hi.h hg.h hb.h hs⟩
theorem s_while {body : List Stmt} {tA : TT} {u : TS} (hp : PassesOwn (model X.prog X.w) X.A X.env X.xe) (hc : ST X c tA) (hb : SB X body u) : SS X (.While c body [] pos) (tWhile tA u) := ⟨ps_while hp hc.h hb.h⟩
theorem s_set {i : Nat} (hN : X.N.Nodup) (hi : X.N[i]? = some x) (hx : Loc X.env.scope x) (he : SE X e te) (hs : swapsWith e (some (.Name x pos')) pos.line X.env = pure false := by rfl) (hf : X.fn x = true ∨ X.env.scope.names.lookup x = some .local := by first | exact .inl rfl | exact .inr rfl | assumption) :
    SS X (.Assign [.Name x pos'] e pos) (tAsg te (gName i)) := ⟨ps_set hN hi hx he.h hs hf⟩
theorem s_dput (hu : X.A.units + 1 < cLine) (ho : SE X o td) (hi : SE X i ty) (hv : SE X value tv) (hs : swapsWith value (some (.Subscript o i pos')) pos.line X.env = pure false) : SS X (.Assign [.Subscript o i pos'] value pos) (sDPut td ty tv) := ⟨ps_dput hu ho.h hi.h hv.h hs⟩
theorem s_asg {g : TG} (he : SE X e te) (hg : SG X tg g) (hs : swapsWithSole [tg] e pos.line X.env = pure false := by rfl) (hw : swappedStores [tg] e X.env = pure none := by rfl)
    (h1 : (assignEach [tg] X.env).map (·.2) = [assign tg X.env] := by rfl) : SS X (.Assign [tg] e pos) (tAsg te g) := ⟨ps_asg he.h hg.h hs hw h1⟩
theorem g_name {i : Nat} (hN : X.N.Nodup) (hi : X.N[i]? = some x) (hx : Loc X.env.scope x) (hf : X.fn x = true ∨ X.env.scope.names.lookup x = some .local := by first | exact .inl rfl | exact .inr rfl | assumption) : SG X (.Name x pos) (gName i) := ⟨pg_name hN hi hx hf⟩
theorem gs_nil : SGs X [] gNil := ⟨pgs_nil⟩
theorem gs_cons {g : TG} {u : TGs} (h1 : SG X e g) (h2 : SGs X es u) (hs : (assignEach (e :: es) X.env).map (·.2) = assign e X.env :: (assignEach es X.env).map (·.2) := by rfl) : SGs X (e :: es) (gCons g u) := ⟨pgs_cons h1.h h2.h hs⟩
theorem g_tup (K : PySem.W.Frag) {k : Nat} {u : TGs} {n : Nat} (hc : X.calm = true) (hh : SGs X es u) (h : X.K = K := by rfl)
    (hn : (assignEach es X.env).length = n := by rfl) (hst : (assignEach es X.env).findIdx? (·.1) = none := by rfl) : SG X (.Tuple es k pos) (gTup K n u) := ⟨pg_tupK K hc hh.h h hn hst⟩
theorem g_sub {u : TSet} (ho : SE X o td) (hi : SE X i ty) (hs : PSet X u)
    (ha : ∀ v, assign (.Subscript o i pos) X.env v = (do
      let ov ← holding [v] (eval o X.env)
      let iv ← holding [v, ov] (eval i X.env)
      standAt pos
      holding [v, ov, iv] (setItem ov iv v)
      release [v, ov, iv] []) := by intro _; rfl) : SG X (.Subscript o i pos) (gSub td ty u) := ⟨pg_sub ho.h hi.h hs ha⟩
theorem i_range1 (hg : Gl X "range") (hm : X.mg "range" = none) (ha : SA X [a] t) (hs : starEach [a] X.env = [(false, eval a X.env)] := by rfl) : SI X tg (.Call (.Name "range" p) [a] [] pos) (iRng1 t) := ⟨pi_range1 hg hm ha.h hs⟩
theorem i_K (K : PySem.W.Frag) (hl : SE X e te) (h : X.K = K := by rfl) : SI X tg e (iD K te) := ⟨pi_K K hl.h h⟩
theorem c_nil : SC X [] tcNil := ⟨pc_nil'⟩
theorem c_one {tA : TT} (h : ST X c tA) : SC X [c] tA := ⟨pc_one' h.h⟩
theorem z_lc {ifs : List Expr} {sc : Scope} {own : List Str} {idx : List Nat} {N' : List Str} {wi : TI} {g : TG} {tt : TC} (S : CScope X.env.scope X.N sc own idx N') (hc : X.calm = true) (hi : SI X tg iter wi)
    (hg : ∀ cl C s3 H0 fp pn, SG (cxComp X N' sc cl C s3 H0 fp pn) tg g) (ht : ∀ cl C s3 H0 fp pn, SC (cxComp X N' sc cl C s3 H0 fp pn) ifs tt) (he : ∀ cl C s3 H0 fp pn, SE (cxComp X N' sc cl C s3 H0 fp pn) elt te)
    (hs : ∀ x, foldedSetIterable iter X.env x = pure x := by intro _; rfl) : SE X (.ListComp elt [⟨tg, iter, ifs, 0⟩] sc pos) (tLC own idx wi g tt te) :=
  ⟨pe_lc S hc hi.h (fun q r s t u v => (hg q r s t u v).h) (fun q r s t u v => (ht q r s t u v).h) (fun q r s t u v => (he q r s t u v).h) hs⟩
theorem s_lc {ifs : List Expr} {sc : Scope} {own : List Str} {idx : List Nat} {N' : List Str} {wi : TI} {g : TG} {tt : TC} {i : Nat} {y : Str} {py spos : Pos} (S : CScope X.env.scope X.N sc own idx N') (hc : X.calm = true) (hi : SI X tg iter wi)
    (hg : ∀ cl C s3 H0 fp pn, SG (cxComp X N' sc cl C s3 H0 fp pn) tg g) (ht : ∀ cl C s3 H0 fp pn, SC (cxComp X N' sc cl C s3 H0 fp pn) ifs tt) (he : ∀ cl C s3 H0 fp pn, SE (cxComp X N' sc cl C s3 H0 fp pn) elt te)
    (hN : X.N.Nodup) (hiy : X.N[i]? = some y) (hy : X.env.scope.names.lookup y = some .local)
    (hsw : swapsWith (.ListComp elt [⟨tg, iter, ifs, 0⟩] sc pos) (some (.Name y py)) spos.line X.env = pure true := by rfl)
    (hs : ∀ x, foldedSetIterable iter X.env x = pure x := by intro _; rfl) : SS X (.Assign [.Name y py] (.ListComp elt [⟨tg, iter, ifs, 0⟩] sc pos) spos) (tAsg (tLC own idx wi g tt te) (gName i)) :=
  ⟨ps_lc S hc hi.h (fun q r s t u v => (hg q r s t u v).h) (fun q r s t u v => (ht q r s t u v).h) (fun q r s t u v => (he q r s t u v).h) hN hiy hy hsw hs⟩
end
theorem FnT.okS {P : Program} {w : World} {K : PySem.W.Frag} {mg : Str → Option Value} {base : Heap} {x : Str} {st : Stmt} {N ps : List Str} {k : Nat} {sp : Sp} (F : FnT K mg x st ps) (S : FnScope N ps (defScope st)) (len : ∀ vs H Q E, sp vs H Q E → vs.length = ps.length)
    (hbody : ∀ (f : Addr) (cdv : Value) (A : Around) (outer : List Env) (s : Shared) (H : Hp) (vs : List V) (Q : VK) (E : XK), Room k (A.deeper (envOfC x (defScope st) s.heap.objs.size f cdv)) → sp vs H Q E →
      ∃ t, SB (cxOf CX0 P w K mg base N x (defScope st) f cdv A outer s H E).nox (defBody st) t ∧ t { nx := fun _ H' => Q .non H', rt := Q } (start N vs) H) : FnK P w K mg base (k + 1) x ps sp :=
  F.ok S len fun f cdv A outer s H vs Q E hr h => let ⟨t, h1, h2⟩ := hbody f cdv A outer s H vs Q E hr h; ⟨t, h1.h, h2⟩
section
variable {prog : Program} {w : World} {A : Around} {R : Result → Shared → Prop} {s : Shared}
end
section
variable {X : Cx} {tg iter kx vx : Expr} {ifs : List Expr} {sc : Scope} {pos : Pos} {own : List Str} {idx : List Nat} {N' : List Str} {wi : TI} {g : TG} {tc : TC} {tk tw : TE}
end
theorem Same.upd {H : Hp} {a : Addr} (h : H a = none) (o : HO) : Same H (upd H a o) := fun b u q => by rw [upd_ne (ne_of_none q h)]; exact q
theorem lc_pure {J : It} {ok : Hp → Prop} {n : Nat} {item : Nat → V} {tc : TC} {te : TE} {τ0 : St} {H1 : Hp} {D : Addr} {Q : Hp → Prop} (hJ : ItN J ok n item) (p : Nat → Bool) (f : Nat → V) (hn : n < sizeLine)
    (hok : ∀ ys, ok (upd H1 D (.lst ys)))
    (ht : ∀ i, i < n → ∀ ys k, k (p i) (upd H1 D (.lst ys)) → tc (τ0.set 0 (some (item i))) (upd H1 D (.lst ys)) k)
    (he : ∀ i, i < n → p i = true → ∀ ys k, k (f i) (upd H1 D (.lst ys)) → te (τ0.set 0 (some (item i))) (upd H1 D (.lst ys)) k)
    (hQ : Q (upd H1 D (.lst (((List.range n).filter p).map f)))) : ∃ W : Nat → Nat → St → Hp → Prop, (∃ m, W 0 m τ0 (upd H1 D (.lst []))) ∧ ∀ i m τ H, W i m τ H →
      (J.stop i H ∧ Q H) ∨ (J.go i H ∧ ∃ N : St → Hp → Prop, (∀ τ' H', N τ' H' → ∃ m', m' < m ∧ W (i + 1) m' τ' H') ∧ ∀ x H', J.yld i H x H' → gName 0 x τ H' fun τ2 H2 => tc τ2 H2 fun b H3 =>
        if b = true then te τ2 H3 fun y H4 => ∃ xs, H4 D = some (.lst xs) ∧ xs.length < sizeLine ∧ N τ2 (upd H4 D (.lst (xs ++ [y]))) else N τ2 H3) := by
  refine lc_by hJ (fun i τ H => H = upd H1 D (.lst (((List.range i).filter p).map f)) ∧ ∃ v, τ = τ0.set 0 v ∨ τ = τ0) ⟨rfl, none, .inr rfl⟩ (fun i τ H hi h => by rw [h.1]; exact hok _) ?_ ?_
  · rintro i τ H hi ⟨rfl, v, hv⟩
    show tc (τ.set 0 (some (item i))) _ _
    have e : τ.set 0 (some (item i)) = τ0.set 0 (some (item i)) := by
      rcases hv with rfl | rfl
      · rw [List.set_set]
      · rfl
    rw [e]
    refine ht i hi _ _ ?_
    have hr : List.range (i + 1) = List.range i ++ [i] := List.range_succ
    cases hp : p i with
    | true =>
      rw [if_pos rfl]
      refine he i hi hp _ _ ⟨_, upd_same, ?_, ?_, some (item i), .inl rfl⟩
      · rw [List.length_map]
        have := List.length_filter_le p (List.range i)
        rw [List.length_range] at this
        omega
      · rw [upd_upd, hr, List.filter_append, List.map_append]
        simp [hp]
    | false =>
      rw [if_neg (by decide)]
      refine ⟨?_, some (item i), .inl rfl⟩
      rw [hr, List.filter_append, List.map_append]
      simp [hp]
  · rintro τ H ⟨rfl, _⟩
    exact hQ
theorem iteNB {c : Bool} {A B : Prop} (h1 : c = true → B) (h2 : c = false → A) : if (!c) = true then A else B := by
  cases c with
  | true => exact iteF (h1 rfl)
  | false => exact iteT (h2 rfl)
theorem iteB {c : Bool} {A B : Prop} (h1 : c = true → A) (h2 : c = false → B) : if c = true then A else B := by
  cases c with
  | true => exact iteT (h1 rfl)
  | false => exact iteF (h2 rfl)
theorem tSeq_by {t u : TS} {D : Ends} {σ : St} {H : Hp} (mid : St → Hp → Prop) (h1 : ∀ nx : St → Hp → Prop, (∀ σ' H', mid σ' H' → nx σ' H') → t { D with nx := nx } σ H) (h2 : ∀ σ' H', mid σ' H' → u D σ' H') : tSeq t u D σ H := h1 (u D) h2
theorem atI_zero {α : Type} (x : α) (xs : List α) : atI (x :: xs) 0 = some x := atI_nat (j := 0) rfl
theorem ixN_zero (n : Nat) : ixN (n + 1) 0 = some 0 := by
  unfold ixN
  rw [if_pos (by decide), if_pos (by omega)]; rfl
theorem atI_some {α : Type} (xs : List α) (i : Int) (h0 : 0 ≤ i) (h1 : i < xs.length) : ∃ c, xs[i.toNat]? = some c ∧ atI xs i = some c := by
  have hl : i.toNat < xs.length := by omega
  refine ⟨xs[i.toNat], by simp [hl], ?_⟩
  have := atI_nat (xs := xs) (j := i.toNat) (v := xs[i.toNat]) (by simp [hl])
  rw [← this]
  congr 1
  omega
theorem join0_length (ys : List Str) (sep : Str) (h0 : sep.length = 0) (h : ∀ y ∈ ys, y.length = 1) : (Txt.join sep ys).length = ys.length := by
  show (Builtin.Str.glued sep ys).length = _
  rw [size_glued, h0, Nat.mul_zero, Nat.add_zero]
  exact sumLen_of_ones ys h
theorem mapStr_getD (ns : List Str) (i : Nat) (h : i < ns.length) : (ns.map V.str).getD i .non = .str (ns.getD i "") := by
  simp [List.getD_eq_getElem?_getD, h]
theorem mapInt_getD (ns : List Int) (i : Nat) (h : i < ns.length) : (ns.map V.int).getD i .non = .int (ns.getD i 0) := by
  simp [List.getD_eq_getElem?_getD, h]
abbrev penD (w : Addr) (m t : Int) : List (Key × V) := [(.inr "mixed", .int m), (.inr "turn", .int t), (.inr "wide", .ref w)]
structure PenAt (H : Hp) (p w : Addr) (t : Nat) : Prop where
  ex : ∃ (m c : Int) (ws : List Int), H p = some (.dK (penD w m c)) ∧ H w = some (.lst (ws.map V.int)) ∧ (0 ≤ m ∧ m < 2147483629) ∧ 0 ≤ c ∧ c ≤ (t : Int)
theorem PenAt.mono {H : Hp} {p w : Addr} {t u : Nat} (h : PenAt H p w t) (l : t ≤ u) : PenAt H p w u := by
  obtain ⟨m, c, ws, h1, h2, h3, h4, h5⟩ := h.ex
  exact ⟨m, c, ws, h1, h2, h3, h4, by omega⟩
theorem PenAt.ne {H : Hp} {p w : Addr} {t : Nat} (h : PenAt H p w t) : p ≠ w := by
  obtain ⟨m, c, ws, h1, h2, _⟩ := h.ex
  exact ne_of h1 h2 (by intro z; cases z)
def Sm (p w : Addr) (H H' : Hp) : Prop := ∀ b o, H b = some o → b ≠ p → b ≠ w → H' b = some o
theorem Sm.refl {p w : Addr} {H : Hp} : Sm p w H H := fun _ _ h _ _ => h
theorem Sm.trans {p w : Addr} {H H1 H2 : Hp} (a : Sm p w H H1) (b : Sm p w H1 H2) : Sm p w H H2 := fun c o h h1 h2 => b c o (a c o h h1 h2) h1 h2
theorem Same.sm {p w : Addr} {H H1 : Hp} (a : Same H H1) : Sm p w H H1 := fun c o h _ _ => a c o h
theorem PenAt.same {H H' : Hp} {p w : Addr} {t : Nat} (h : PenAt H p w t) (s : Same H H') : PenAt H' p w t := by
  obtain ⟨m, c, ws, h1, h2, r⟩ := h.ex
  exact ⟨m, c, ws, s _ _ h1, s _ _ h2, r⟩
theorem Sm.free {p w : Addr} {H H' : Hp} (s : Sm p w H H') {l : Addr} (h : H' l = none) (hp : l ≠ p) (hw : l ≠ w) : H l = none := by
  cases q : H l with
  | none => rfl
  | some o => rw [s l o q hp hw] at h; cases h
theorem PenAt.upd {H : Hp} {p w D : Addr} {t : Nat} {o : HO} (h : PenAt H p w t) (h1 : D ≠ p) (h2 : D ≠ w) : PenAt (upd H D o) p w t := by
  obtain ⟨m, c, ws, e1, e2, r⟩ := h.ex
  exact ⟨m, c, ws, by rw [upd_ne h1.symm]; exact e1, by rw [upd_ne h2.symm]; exact e2, r⟩
theorem Sm.upd {p w D : Addr} {H H' : Hp} {o : HO} (s : Sm p w H H') (h : H D = none) : Sm p w H (upd H' D o) := fun b u hb h1 h2 => by rw [upd_ne (ne_of_none hb h)]; exact s b u hb h1 h2
theorem PenAt.ne1 {H : Hp} {p w D : Addr} {t : Nat} (h : PenAt H p w t) (hD : H D = none) : D ≠ p := fun e => by obtain ⟨_, _, _, z, _⟩ := h.ex; rw [← e, hD] at z; cases z
theorem PenAt.ne2 {H : Hp} {p w D : Addr} {t : Nat} (h : PenAt H p w t) (hD : H D = none) : D ≠ w := fun e => by obtain ⟨_, _, _, _, z, _⟩ := h.ex; rw [← e, hD] at z; cases z
abbrev TMAX : Nat := 1000000000000
def spDraw : Sp := fun vs H Q _ => ∃ (p w : Addr) (m : Int) (t : Nat), vs = [.ref p, .int m] ∧ PenAt H p w t ∧ (0 < m ∧ m < 1073741824) ∧ t < TMAX ∧
  ∀ (r : Int) (H' : Hp), 0 ≤ r → r < m → PenAt H' p w (t + 1) → Sm p w H H' → Q (.int r) H'
def spPen (K : PySem.W.Frag) : Sp := fun vs H Q _ => ∃ (a : Addr) (ns : List Int), vs = [.ref a] ∧ SqL K H a (ns.map V.int) ∧ ns.length ≤ 63 ∧
  ∀ (p w : Addr) (H' : Hp), H p = none → H w = none → PenAt H' p w 0 → Same H H' → Q (.ref p) H'
def spLaw (K : PySem.W.Frag) : Sp := fun vs H Q _ => ∃ (a : Addr) (ns : List Int), vs = [.ref a] ∧ SqL K H a (ns.map V.int) ∧ ns.length ≤ 63 ∧ ∀ H', Q (.bl true) H'
def GoodV (p w : Addr) (H : Hp) : V → Prop
  | .non => True
  | .bl _ => True
  | .int _ => True
  | .str z => z.length ≤ 100000
  | .ref a => a ≠ p ∧ a ≠ w ∧ ((∃ xs, H a = some (.lst xs)) ∨ (∃ xs, H a = some (.tup xs)) ∨ ∃ kvs, H a = some (.dK kvs))
  | _ => False
theorem GoodV.sm {p w : Addr} {H H' : Hp} {x : V} (h : GoodV p w H x) (s : Sm p w H H') : GoodV p w H' x := by
  cases x with
  | ref a =>
    obtain ⟨h1, h2, h3⟩ := h
    refine ⟨h1, h2, ?_⟩
    rcases h3 with ⟨xs, e⟩ | ⟨xs, e⟩ | ⟨xs, e⟩
    · exact .inl ⟨xs, s _ _ e h1 h2⟩
    · exact .inr (.inl ⟨xs, s _ _ e h1 h2⟩)
    · exact .inr (.inr ⟨xs, s _ _ e h1 h2⟩)
  | _ => exact h
structure GLs (p w : Addr) (t : Nat) (H : Hp) (xs : List V) : Prop where
  pen : PenAt H p w t
  all : ∀ x ∈ xs, GoodV p w H x
section
variable {p w : Addr} {t u : Nat} {H H' : Hp} {xs ys : List V}
theorem GLs.sm (g : GLs p w t H xs) (hp : PenAt H' p w u) (s : Sm p w H H') : GLs p w u H' xs := ⟨hp, fun x hx => (g.all x hx).sm s⟩
theorem GLs.upd {q : Addr} {o : HO} (g : GLs p w t H xs) (h : H q = none) : GLs p w t (upd H q o) xs := g.sm (g.pen.same (Same.upd h o)) (Same.upd h o).sm
end
section
variable {X : Cx} {x : Str} {p pos : Pos} {e : Expr} {es : List Expr} {t : TA}
theorem z_callTy {T : String} {r : List V → Hp → VK → Prop} (hc : CallR X (.type T) r) (hg : Gl X x) (hm : X.mg x = none) (hv : bootBuiltins x = some (.type T)) (ha : SA X (e :: es) t) (hn : x ≠ "__name__" := by decide) (hdb : (x == ("__debug__" : Str)) = false := by decide)
    (he : starEach (e :: es) X.env = (false, eval e X.env) :: starEach es X.env := by rfl) (hpl : (backTo pos (starEach es X.env)).any (·.1) = false := by rfl) : SE X (.Call (.Name x p) (e :: es) [] pos) (tCB r t) := ⟨pe_callTy hc hg hm hv ha.h hn hdb he hpl⟩
def rTupOf (K : PySem.W.Frag) : List V → Hp → VK → Prop := fun xs H Q => ∃ p ys, xs = [.ref p] ∧ ((SqL K H p ys ∧ ∀ l, H l = none → Q (.ref l) (upd H l (.tup ys))) ∨ (SqT K H p ys ∧ Q (.ref p) H))
theorem call_tupK (K : PySem.W.Frag) (h : X.K = K := by rfl) : CallR X (.type "tuple") (rTupOf K) := by subst h; exact call_tuple_of
theorem vals_strs : ∀ {xs : List Str} {us : List Value}, StrsAre us xs → Vals (xs.map V.str) us
  | _, _, .nil => .nil
  | _, _, .cons x k r => .cons ⟨k, rfl⟩ (vals_strs r)
def rSorted (K : PySem.W.Frag) : List V → Hp → VK → Prop := fun xs H Q => ∃ p ss, xs = [.ref p] ∧ SqL K H p (ss.map V.str) ∧ ss.length < 64 ∧
  ∀ l (ss' : List Str), H l = none → ss'.Perm ss → sortedS ss' = true → Q (.ref l) (upd H l (.lst (ss'.map V.str)))
theorem call_sortedK (K : PySem.W.Frag) (hK : X.K = K := by rfl) : CallR X (.builtin "sorted") (rSorted K) := by
  subst hK
  intro pins s σ H xs us Q I r h
  obtain ⟨p, ss, rfl, hq, h64, q⟩ := h
  obtain ⟨u, rfl, ru⟩ := r.one
  cases ru
  obtain ⟨its, rv, pl, hz⟩ := I.list hq
  have hS := strs_of rv
  have hlen : its.length = ss.length := by have := rv.length; rw [List.length_map] at this; exact this.symm
  refine sorted_strs pl.isList hS (by rw [hlen]; exact h64) fun out ss' a1 a2 a3 => ?_
  obtain ⟨e, he⟩ := sortedAll_at s.heap its out
  have hf : H (s.heap.objs.size + 1) = none := I.hok.fresh (Nat.le_succ _)
  refine ⟨.ref (s.heap.objs.size + 1), _, I.laid (t' := s.toks) (a := s.heap.objs.size + 1) (o := .lst (ss'.map V.str)) (fun b o eo => sortedAll_old eo) (Nat.le_succ _) ?_, rfl, q _ ss' hf a2 a3⟩
  refine ⟨?_, out.toList, e, vals_strs a1, ?_⟩
  · rw [List.length_map, a2.length_eq]
    have : sizeLine = 16777216 := sizeLine_eq
    omega
  · rw [he]
end
mutual
inductive Den (H : Hp) : V → PyData → Prop
  | non : Den H .non .none
  | bl (b : Bool) : Den H (.bl b) (.bool b)
  | int (i : Int) : Den H (.int i) (.int i)
  | str (z : Str) : Den H (.str z) (.str z)
  | tup {a : Addr} {xs : List V} {ds : List PyData} : H a = some (.tup xs) → DenL H xs ds → Den H (.ref a) (.tuple ds)
  | lst {a : Addr} {xs : List V} {ds : List PyData} : H a = some (.lst xs) → DenL H xs ds → Den H (.ref a) (.list ds)
inductive DenL (H : Hp) : List V → List PyData → Prop
  | nil : DenL H [] []
  | cons {x : V} {d : PyData} {xs : List V} {ds : List PyData} : Den H x d → DenL H xs ds → DenL H (x :: xs) (d :: ds)
end
mutual
theorem Den.same {H H' : Hp} (s : Same H H') : ∀ {x : V} {d : PyData}, Den H x d → Den H' x d
  | _, _, .non => .non
  | _, _, .bl b => .bl b
  | _, _, .int i => .int i
  | _, _, .str z => .str z
  | _, _, .tup e r => .tup (s _ _ e) (DenL.same s r)
  | _, _, .lst e r => .lst (s _ _ e) (DenL.same s r)
theorem DenL.same {H H' : Hp} (s : Same H H') : ∀ {xs : List V} {ds : List PyData}, DenL H xs ds → DenL H' xs ds
  | _, _, .nil => .nil
  | _, _, .cons a r => .cons (Den.same s a) (DenL.same s r)
end
mutual
theorem reads_of {P : Program} {w : World} {H : Hp} {h : Heap} (ok : HOk P w H h) : ∀ {x : V} {d : PyData} {u : Value}, Den H x d → RelV x u → ∃ as, Reads h u d as
  | _, _, _, .non, r => by cases (show _ = Value.none from r); exact ⟨[], .none⟩
  | _, _, _, .bl b, r => by cases (show _ = Value.bool b from r); exact ⟨[], .bool b⟩
  | _, _, _, .int i, r => by obtain ⟨t, rfl⟩ := (show ∃ t, _ = Value.int i t from r); exact ⟨[], .int i t⟩
  | _, _, _, .str z, r => by obtain ⟨t, rfl⟩ := (show ∃ t, _ = Value.str z t from r); exact ⟨[], .str z t⟩
  | _, _, _, .tup (a := a) (xs := xs) e l, r => by
    cases (show _ = Value.ref a from r)
    obtain ⟨_, its, rv, o, ho, hc, n, hd⟩ := (show ObjOk P w H h a (.tup xs) from ok a _ e)
    obtain ⟨as, ra⟩ := readsAll_of ok l rv
    exact ⟨as, .tuple ho hc hd (by simpa using ra)⟩
  | _, _, _, .lst (a := a) (xs := xs) e l, r => by
    cases (show _ = Value.ref a from r)
    obtain ⟨_, its, n, rv, ho⟩ := (show ObjOk P w H h a (.lst xs) from ok a _ e)
    obtain ⟨as, ra⟩ := readsAll_of ok l rv
    exact ⟨a :: as, .list ho rfl rfl (by simpa using ra)⟩
theorem readsAll_of {P : Program} {w : World} {H : Hp} {h : Heap} (ok : HOk P w H h) : ∀ {xs : List V} {ds : List PyData} {us : List Value}, DenL H xs ds → Vals xs us → ∃ as, ReadsAll h us ds as
  | _, _, _, .nil, .nil => ⟨[], .nil⟩
  | _, _, _, .cons a l, .cons r rs => by
    obtain ⟨as, ra⟩ := reads_of ok a r
    obtain ⟨bs, rb⟩ := readsAll_of ok l rs
    exact ⟨as ++ bs, .cons ra rb⟩
end
end L2
set_option maxRecDepth 100000
namespace L2
open PySem PySem.Spec PyProof.Rows
section
variable {X : Cx}
def rIsB (n : Bool) : R2 := fun x y H Q => match x, y with
  | .bl a, .bl b => Q (.bl (n ^^ (a == b))) H
  | x, .non => Q (.bl (n ^^ decide (x = .non))) H
  | _, _ => False
theorem op_isnB : OpR X (compareOp .IsNot) (rIsB true) := by
  intro pins s σ H x y v u Q I rx ry h
  cases y with
  | non => exact op_notN pins s σ H _ _ v u Q I rx ry ⟨rfl, by cases x <;> simpa [rIsB] using h⟩
  | bl b =>
    cases x with
    | bl a =>
      cases rx; cases ry
      exact isnot_bool (fin_bl I h (by cases a <;> cases b <;> rfl))
    | _ => exact (show False from h).elim
  | _ => cases x <;> exact (show False from h).elim
end
theorem goodTy {p w : Addr} {H : Hp} {x : V} (h : GoodV p w H x) : ∃ t, tyName H x = some t ∧ (isiT t "str" = true ↔ ∃ z, x = .str z) := by
  cases x with
  | non => exact ⟨_, rfl, (fun h => absurd h (by decide)), fun ⟨z, e⟩ => nomatch e⟩
  | bl b => exact ⟨_, rfl, (fun h => absurd h (by decide)), fun ⟨z, e⟩ => nomatch e⟩
  | int b => exact ⟨_, rfl, (fun h => absurd h (by decide)), fun ⟨z, e⟩ => nomatch e⟩
  | str z => exact ⟨_, rfl, fun _ => ⟨z, rfl⟩, fun _ => by decide⟩
  | ref a =>
    obtain ⟨h1, h2, h3⟩ := h
    rcases h3 with ⟨xs, e⟩ | ⟨xs, e⟩ | ⟨xs, e⟩
    · exact ⟨"list", by simp [tyName, e], (fun h => absurd h (by decide)), fun ⟨z, e⟩ => nomatch e⟩
    · exact ⟨"tuple", by simp [tyName, e], (fun h => absurd h (by decide)), fun ⟨z, e⟩ => nomatch e⟩
    · exact ⟨"dict", by simp [tyName, e], (fun h => absurd h (by decide)), fun ⟨z, e⟩ => nomatch e⟩
  | _ => exact (show False from h).elim
abbrev ABC : Str := "abcdefghijklmnopqrstuvwxyz"
abbrev NON : List Str := ["all", "none", "way", "box", "pick"]
def inAbc (c : Nat) : Bool := !(Builtin.Str.occurrences ABC ⟨#[c]⟩ 0 ABC.length 1).isEmpty
def isName (z : Str) : Bool := decide (1 ≤ z.length) && decide (z.length ≤ 8) && !(NON.any fun y => y == z) && z.cps.toList.all inAbc
def isNameV : V → Bool
  | .str z => isName z
  | _ => false
def spName : Sp := fun vs H Q _ => ∃ (p w : Addr) (x : V), vs = [x] ∧ GoodV p w H x ∧ ∀ H', Same H H' → Q (.bl (isNameV x)) H'
theorem notStr {x : V} (h : ¬ ∃ z, x = .str z) : isNameV x = false := by
  cases x with
  | str z => exact (h ⟨z, rfl⟩).elim
  | _ => rfl
theorem range_all_str (z : Str) (f : Nat → Bool) : ((List.range z.cps.size).map fun i => f (z.cps.getD i 0)).all id = z.cps.toList.all f := by
  rw [List.all_map]
  rw [Bool.eq_iff_iff, List.all_eq_true, List.all_eq_true]
  constructor
  · intro h c hc
    obtain ⟨i, hi, rfl⟩ := List.getElem_of_mem hc
    have hi' : i < z.cps.size := by simpa using hi
    have := h i (List.mem_range.mpr hi')
    simpa [Array.getD, hi'] using this
  · intro h i hi
    have hi' : i < z.cps.size := List.mem_range.mp hi
    have := h (z.cps[i]) (by simp)
    simpa [Array.getD, hi'] using this
theorem decV_int {i j : Int} : (decide (V.int i = V.int j)) = decide (i = j) := by
  by_cases h : i = j
  · subst h; simp
  · rw [decide_eq_false h, decide_eq_false (fun e => h (V.int.inj e))]
theorem decV_str {i j : Str} : (decide (V.str i = V.str j)) = (i == j) := by
  by_cases h : i = j
  · subst h; simp
  · rw [decide_eq_false (fun e => h (V.str.inj e))]
    exact (beq_eq_false_iff_ne.mpr h).symm
theorem Same.put {H0 H' : Hp} {p : Addr} {o : HO} (s : Same H0 H') (h : H0 p = none) : Same H0 (L2.upd H' p o) := fun b u q => by rw [upd_ne (ne_of_none q h)]; exact s b u q
theorem tSeq_set {te : TE} {i : Nat} {u : TS} {D : Ends} {σ : St} {H : Hp} (h : te σ H fun x H1 => u D (σ.set i (some x)) H1) : tSeq (tAsg te (gName i)) u D σ H := h
theorem tSeq_setC {v : V} {i : Nat} {u : TS} {D : Ends} {σ : St} {H : Hp} (h : u D (σ.set i (some v)) H) : tSeq (tAsg (tC v) (gName i)) u D σ H := h
section
variable {X : Cx} {pins : List (Addr × Obj)} {σ : St} {H : Hp} {s : Shared} {h' : Heap}
theorem Inv.turnedT {t' : Nat} {ch : List Addr} {T : Addr} {o : HO} (I : Inv X pins σ H s) (hf : ∀ b ∈ ch, FpOk X pins H b) (k : ∀ b o, b ∉ ch → s.heap.get? b = some o → h'.get? b = some o)
    (hT : s.heap.objs.size ≤ T) (new : ObjOk X.prog X.w (upd H T o) h' T o) : Inv X pins σ (upd H T o) { s with heap := h', toks := t' } := by
  have hfr : H T = none := I.hok.fresh hT
  have nT : ∀ b ob, s.heap.get? b = some ob → b ≠ T := fun b ob e => Nat.ne_of_lt (Nat.lt_of_lt_of_le (Heap.lt_size e) hT)
  have nch : ∀ b u, H b = some u → b ∉ ch := fun b u e hb => by rw [(hf b hb).1] at e; cases e
  refine I.step (g' := s.gens) (d' := s.drawn) (ch := ch) (fun b hb => ?_) (fun b o _ _ hc e _ => k b o hc e) (fun b o _ _ hc e _ => ⟨o.slots, k b o hc e⟩) (fun b o hc e n => by rw [upd_ne (nT b o e)]; exact n)
    (fun b o hc e => ⟨o, k b o hc e⟩) (fun b xs e => by rw [upd_ne (ne_of_none e hfr)]; exact e) (fun b o u e => by rw [upd_ne (ne_of_none e hfr)]; exact e) (fun b ps e => ⟨#[], by rw [upd_ne (ne_of_none e hfr), e]; simp⟩) (fun m hm => ?_) (fun b u e => ?_) I.bare
  · obtain ⟨f0, f1, f2, f3, f4, f5⟩ := hf b hb
    exact ⟨f3, f1, f4, f5⟩
  · obtain ⟨o, es, ep, ho, r⟩ := hm
    exact ⟨o, es, ep, k _ o (fun z => (hf _ z).2.1 rfl) ho, r⟩
  · by_cases hb : b = T
    · subst hb
      rw [upd_same] at e; cases e
      exact new
    · rw [upd_ne hb] at e
      refine (I.hok b u e).stay (fun c v hc q => k c v ?_ q) (fun c q => by rw [upd_ne (ne_of_none q hfr)]; exact q) fun c xs q => q.upd fun u' hu => ne_of_none hu hfr
      rcases hc with z | z
      · rw [z]; exact nch b u e
      · exact nch c _ z
theorem Inv.turnedL {t' : Nat} {ch : List Addr} (I : Inv X pins σ H s) (hf : ∀ b ∈ ch, FpOk X pins H b) (k : ∀ b o, b ∉ ch → s.heap.get? b = some o → h'.get? b = some o) : Inv X pins σ H { s with heap := h', toks := t' } := by
  have nch : ∀ b u, H b = some u → b ∉ ch := fun b u e hb => by rw [(hf b hb).1] at e; cases e
  refine I.step (g' := s.gens) (d' := s.drawn) (ch := ch) (fun b hb => ?_) (fun b o _ _ hc e _ => k b o hc e) (fun b o _ _ hc e _ => ⟨o.slots, k b o hc e⟩) (fun b o hc e n => n)
    (fun b o hc e => ⟨o, k b o hc e⟩) (fun b xs e => e) (fun b o u e => e) (fun b ps e => ⟨#[], by rw [e]; simp⟩) (fun m hm => ?_) (fun b u e => ?_) I.bare
  · obtain ⟨f0, f1, f2, f3, f4, f5⟩ := hf b hb
    exact ⟨f3, f1, f4, f5⟩
  · obtain ⟨o, es, ep, ho, r⟩ := hm
    exact ⟨o, es, ep, k _ o (fun z => (hf _ z).2.1 rfl) ho, r⟩
  · refine (I.hok b u e).stay (fun c v hc q => k c v ?_ q) (fun c q => q) fun c xs q => q
    rcases hc with z | z
    · rw [z]; exact nch b u e
    · exact nch c _ z
end
abbrev pairY (v1 v2 : V) : Hp → V → Hp → Prop := fun H x H' => ∃ T, x = .ref T ∧ H T = none ∧ H' = upd H T (.tup [v1, v2])
def Ite (K : PySem.W.Frag) (a : Addr) : It :=
  ⟨fun i H => ∃ xs x, SqL K H a xs ∧ xs[i]? = some x, fun i H x H' => ∃ v, (∀ xs, SqL K H a xs → xs[i]? = some v) ∧ pairY (.int i) v H x H', fun i H => ∃ xs, SqL K H a xs ∧ xs.length ≤ i⟩
theorem tup2_ok {P : Program} {w : World} {H : Hp} {h : Heap} {T : Addr} {v1 v2 : V} {u1 u2 : Value} (r1 : RelV v1 u1) (r2 : RelV v2 u2) (e : h.get? T = some { cls := .type "tuple", data := .seq #[u1, u2] }) : ObjOk P w H h T (.tup [v1, v2]) :=
  ⟨⟨show 2 ≤ sizeLine by decide, fun o q => by rw [e] at q; cases q; rfl⟩, [u1, u2], .cons r1 (.cons r2 .nil), _, e, rfl, _, rfl⟩
theorem turn_enum {P : Program} {w : World} {K : PySem.W.Frag} {elts : List Expr} {k : Nat} {pos : Pos} (a e it : Addr) (hei : e ≠ it) : Turn P w K (.Tuple elts k pos) (Ite K a) [e, it] e (fun i h => (∃ old, IsEnum h e it i old) ∧ h.IsListIter it a i) where
  mem := by simp
  obj := fun i h st b hb => by
    obtain ⟨⟨old, he⟩, o, ho, c, d⟩ := st
    simp only [List.mem_cons, List.mem_nil_iff, or_false] at hb
    rcases hb with rfl | rfl
    · exact ⟨_, he, fun v z => by
        have z' : Data.fields _ = Data.cell v := z
        cases z'⟩
    · exact ⟨o, ho, fun v z => by rw [d] at z; cases z⟩
  keep := fun i h h' st k => by
    obtain ⟨⟨old, he⟩, hi⟩ := st
    exact ⟨⟨old, k e (by simp) _ he⟩, hi.at fun o x => k it (by simp) o x⟩
  item := by
    intro X hP hw hK hc i pins s σ H E I hf st hg
    subst hP hw hK
    obtain ⟨⟨old, he⟩, hit⟩ := st
    obtain ⟨xs, x, hq, hx⟩ := hg
    obtain ⟨its, rv, p, hz⟩ := I.list hq
    obtain ⟨u, hu, ru⟩ := rv.get hx
    refine wpAny_pyNext_enum_item he hit p.isList (x := u) (by simpa using hu) hei fun h' ho hit' hT hsz hk => ?_
    have I1 : Inv X pins σ (upd H s.heap.objs.size (.tup [.int i, x])) { s with heap := h', toks := s.toks + 1 } := I.turnedT hf (fun b o hb e => hk b o (fun z => hb (by simp [z])) (fun z => hb (by simp [z])) e) (Nat.le_refl _) (tup2_ok ⟨_, rfl⟩ ru hT)
    refine ⟨_, rfl, wpAny_letOwnedTupleGo_enum (s := { s with heap := h', toks := s.toks + 1 }) ho fun h'' he'' sb => ?_⟩
    have hlt : ∀ b ∈ [e, it], b ≠ s.heap.objs.size := fun b hb z => by
      simp only [List.mem_cons, List.mem_nil_iff, or_false] at hb
      rcases hb with rfl | rfl
      · exact Nat.ne_of_lt (Heap.lt_size he) z
      · obtain ⟨_, q, _⟩ := hit; exact Nat.ne_of_lt (Heap.lt_size q) z
    have hf1 : ∀ b ∈ [e, it], FpOk X pins (upd H s.heap.objs.size (.tup [.int i, x])) b := fun b hb => by
      obtain ⟨f0, f⟩ := hf b hb
      exact ⟨by rw [upd_ne (hlt b hb)]; exact f0, f⟩
    obtain ⟨f0, f1, f2, f3, f4, f5⟩ := hf1 e (by simp)
    refine ⟨.ref s.heap.objs.size, _, I1.turned (t' := s.toks + 1) (fun b o hb q => (sb.2 b hb).trans q) f0 f1 f3 f4 f5, rfl, ⟨x, fun ys hy => by rw [I.list_inj hy hq]; exact hx, _, rfl, I.hok.fresh (Nat.le_refl _), rfl⟩, ⟨⟨u, by simpa using he''⟩, hit'.at fun o q => (sb.2 it hei.symm).trans q⟩, fun b hb => (hf1 b hb).1⟩
  done := by
    intro X hP hw hK hc i pins s σ H E I hf st hg
    subst hP hw hK
    obtain ⟨⟨old, he⟩, hit⟩ := st
    obtain ⟨xs, hq, hx⟩ := hg
    obtain ⟨its, rv, p, hz⟩ := I.list hq
    have hl := rv.length
    exact wpAny_pyNext_enum_end (I.ok.hd hc) he hit p.isList (by simp; omega) fun h' eb => ⟨rfl, I.turnedL (t' := s.toks) hf fun b o hb q => eb b o (fun z => hb (by simp [z])) q⟩
  self := fun _ _ _ _ _ st h => let ⟨⟨_, he⟩, _⟩ := st; wpAny_pyIter_enum he h
theorem zipApart_mk {n l m : Nat} (h1 : l < n) (h2 : m < n) : ZipApart (n + 4) (n + 2) (n + 3) n (n + 1) l m := by
  constructor <;> (show (_ : Nat) ≠ _) <;> omega
def Itz (K : PySem.W.Frag) (a b : Addr) : It :=
  ⟨fun i H => ∃ xs ys x y, SqL K H a xs ∧ SqL K H b ys ∧ xs[i]? = some x ∧ ys[i]? = some y, fun i H x H' => ∃ v1 v2, (∀ xs, SqL K H a xs → xs[i]? = some v1) ∧ (∀ ys, SqL K H b ys → ys[i]? = some v2) ∧ pairY v1 v2 H x H',
   fun i H => ∃ xs ys, SqL K H a xs ∧ SqL K H b ys ∧ (xs.length ≤ i ∨ ys.length ≤ i)⟩
abbrev zipSt (z TI TO i1 i2 a b : Addr) (i : Nat) (h : Heap) : Prop := IsZip h z TI TO .none ∧ IsPair h TI (.ref i1) (.ref i2) ∧ (∃ u v, IsPair h TO u v) ∧ h.IsListIter i1 a i ∧ h.IsListIter i2 b i
theorem turn_zip {P : Program} {w : World} {K : PySem.W.Frag} {elts : List Expr} {k : Nat} {pos : Pos} (z TI TO i1 i2 a b : Addr) (D : ZipApart z TI TO i1 i2 a b) : Turn P w K (.Tuple elts k pos) (Itz K a b) [z, TI, TO, i1, i2] z (zipSt z TI TO i1 i2 a b) where
  mem := by simp
  obj := fun i h st c hc => by
    obtain ⟨hz, hTI, ⟨u, v, hTO⟩, ⟨o1, e1, c1, d1⟩, o2, e2, c2, d2⟩ := st
    simp only [List.mem_cons, List.mem_nil_iff, or_false] at hc
    rcases hc with rfl | rfl | rfl | rfl | rfl
    · exact ⟨_, hz, fun v z => by have z' : Data.fields _ = Data.cell v := z; cases z'⟩
    · exact ⟨_, hTI, fun v z => by have z' : Data.seq _ _ = Data.cell v := z; cases z'⟩
    · exact ⟨_, hTO, fun v z => by have z' : Data.seq _ _ = Data.cell v := z; cases z'⟩
    · exact ⟨_, e1, fun v z => by rw [d1] at z; cases z⟩
    · exact ⟨_, e2, fun v z => by rw [d2] at z; cases z⟩
  keep := fun i h h' st k => by
    obtain ⟨hz, hTI, ⟨u, v, hTO⟩, h1, h2⟩ := st
    exact ⟨k z (by simp) _ hz, k TI (by simp) _ hTI, ⟨u, v, k TO (by simp) _ hTO⟩, h1.at fun o x => k i1 (by simp) o x, h2.at fun o x => k i2 (by simp) o x⟩
  item := by
    intro X hP hw hK hc i pins s σ H E I hf st hg
    subst hP hw hK
    obtain ⟨hz, hTI, ⟨u0, v0, hTO⟩, h1, h2⟩ := st
    obtain ⟨xs, ys, x, y, hq1, hq2, hx, hy⟩ := hg
    obtain ⟨its, rv, p, hzz⟩ := I.list hq1
    obtain ⟨its2, rv2, p2, hz2⟩ := I.list hq2
    obtain ⟨u, hu, ru⟩ := rv.get hx
    obtain ⟨u2, hu2, ru2⟩ := rv2.get hy
    refine wpAny_pyNext_zip_item D hz hTI hTO h1 h2 p.isList p2.isList (x := u) (y := u2) (by simpa using hu) (by simpa using hu2) fun h' a1 a2 a3 a4 a5 a6 hk => ?_
    have I1 : Inv X pins σ (upd H s.heap.objs.size (.tup [x, y])) { s with heap := h', toks := s.toks } := I.turnedT (t' := s.toks) hf (fun b o hb e => hk b o (fun z => hb (by simp [z])) (fun z => hb (by simp [z])) (fun z => hb (by simp [z])) (fun z => hb (by simp [z])) e) (Nat.le_refl _) (tup2_ok ru ru2 a5)
    refine ⟨_, rfl, wpAny_letOwnedTupleGo_zip (s := { s with heap := h' }) a1 fun h'' hz'' sb => ?_⟩
    have hlt : ∀ b ∈ [z, TI, TO, i1, i2], b ≠ s.heap.objs.size := fun c hc z' => by
      simp only [List.mem_cons, List.mem_nil_iff, or_false] at hc
      obtain ⟨o1, e1, _⟩ := h1
      obtain ⟨o2, e2, _⟩ := h2
      rcases hc with rfl | rfl | rfl | rfl | rfl
      · exact Nat.ne_of_lt (Heap.lt_size hz) z'
      · exact Nat.ne_of_lt (Heap.lt_size hTI) z'
      · exact Nat.ne_of_lt (Heap.lt_size hTO) z'
      · exact Nat.ne_of_lt (Heap.lt_size e1) z'
      · exact Nat.ne_of_lt (Heap.lt_size e2) z'
    have hf1 : ∀ b ∈ [z, TI, TO, i1, i2], FpOk X pins (upd H s.heap.objs.size (.tup [x, y])) b := fun b hb => by
      obtain ⟨f0, f⟩ := hf b hb
      exact ⟨by rw [upd_ne (hlt b hb)]; exact f0, f⟩
    obtain ⟨f0, f1, f2, f3, f4, f5⟩ := hf1 z (by simp)
    refine ⟨.ref s.heap.objs.size, _, I1.turned (t' := s.toks) (fun b o hb q => (sb.2 b hb).trans q) f0 f1 f3 f4 f5, rfl, ⟨x, y, fun ys hy => by rw [I.list_inj hy hq1]; exact hx, fun ys hy' => by rw [I.list_inj hy' hq2]; exact hy, _, rfl, I.hok.fresh (Nat.le_refl _), rfl⟩, ?_, fun b hb => (hf1 b hb).1⟩
    refine ⟨hz'', (sb.2 _ D.TIz).trans (hk _ _ D.TIz D.TITO D.TIi1 D.TIi2 hTI), ⟨_, _, (sb.2 _ D.TOz).trans a2⟩, a3.at fun o q => (sb.2 _ D.i1z).trans q, a4.at fun o q => (sb.2 _ D.i2z).trans q⟩
  done := by
    intro X hP hw hK hc i pins s σ H E I hf st hg
    subst hP hw hK
    obtain ⟨hz, hTI, ⟨u0, v0, hTO⟩, h1, h2⟩ := st
    obtain ⟨xs, ys, hq1, hq2, hx⟩ := hg
    obtain ⟨its, rv, p, hzz⟩ := I.list hq1
    obtain ⟨its2, rv2, p2, hz2⟩ := I.list hq2
    have hl := rv.length
    have hl2 := rv2.length
    refine wpAny_pyNext_zip_end (I.ok.hd hc) D hz hTI hTO h1 h2 p.isList p2.isList ?_ fun h' hk => ⟨rfl, I.turnedL (t' := s.toks) hf fun b o hb q => hk b o (fun z => hb (by simp [z])) (fun z => hb (by simp [z])) (fun z => hb (by simp [z])) (fun z => hb (by simp [z])) q⟩
    rcases hx with hx | hx
    · exact .inl (by simp; omega)
    · exact .inr (by simp; omega)
  self := fun _ _ _ _ _ st h => wpAny_pyIter_zip st.1 h
section
variable {X : Cx} {elts : List Expr} {k : Nat} {tpos p pos : Pos} {a b : Expr} {ta : TA}
def iEnum (K : PySem.W.Frag) (ta : TA) : TI := fun σ H R => ta σ H fun vs H1 => ∃ l xs, vs = [.ref l] ∧ SqL K H1 l xs ∧ R (Ite K l) H1
theorem pi_enum (hg : Gl X "enumerate") (hm : X.mg "enumerate" = none) (ha : PA X [a] ta) (hs : starEach [a] X.env = [(false, eval a X.env)] := by rfl) : PI X (.Tuple elts k tpos) (.Call (.Name "enumerate" p) [a] [] pos) (iEnum X.K ta) := by
  intro pins s σ H R I h
  refine Call_ (ld_blt I hg hm boot_enumerate (PyProof.Rows.callWith_type1 (thn (ha pos pins s σ H _ I h) fun us s1 ⟨vs, H1, I1, r1, q1⟩ => ?_) hs rfl))
  obtain ⟨l, xs, e, hq, q⟩ := q1
  subst e
  cases r1 with
  | cons r rr =>
    cases rr
    cases r
    obtain ⟨its, rv, pl, hz⟩ := I1.list hq
    refine call_enumerate_list pl.isList fun h' he hit hsz hk => wpAny_pyIter_enum he ?_
    have I2 : Inv X pins σ H1 { s1 with heap := h' } := I1.kept (t' := s1.toks) hk
    refine ⟨s1.heap.objs.size + 1, [s1.heap.objs.size + 1, s1.heap.objs.size], _, _, H1, rfl, I2, turn_enum l _ _ (Nat.succ_ne_self _), ⟨⟨_, he⟩, hit⟩, fun b hb => ?_, q⟩
    simp only [List.mem_cons, List.mem_nil_iff, or_false] at hb
    rcases hb with rfl | rfl
    · exact I1.fpOk (Nat.le_succ _) (I1.hok.fresh (Nat.le_succ _))
    · exact I1.fpOk (Nat.le_refl _) (I1.hok.fresh (Nat.le_refl _))
def iZip (K : PySem.W.Frag) (ta : TA) : TI := fun σ H R => ta σ H fun vs H1 => ∃ l m xs ys, vs = [.ref l, .ref m] ∧ SqL K H1 l xs ∧ SqL K H1 m ys ∧ R (Itz K l m) H1
theorem pi_zip (hg : Gl X "zip") (hm : X.mg "zip" = none) (ha : PA X [a, b] ta) (hs : starEach [a, b] X.env = [(false, eval a X.env), (false, eval b X.env)] := by rfl) (hs2 : starEach [b] X.env = [(false, eval b X.env)] := by rfl) :
    PI X (.Tuple elts k tpos) (.Call (.Name "zip" p) [a, b] [] pos) (iZip X.K ta) := by
  intro pins s σ H R I h
  refine Call_ (ld_blt I hg hm boot_zip (PyProof.Rows.callWith_type1 (thn (ha pos pins s σ H _ I h) fun us s1 ⟨vs, H1, I1, r1, q1⟩ => ?_) (by rw [hs, hs2]) (by rw [hs2]; rfl)))
  obtain ⟨l, m, xs, ys, e, hq1, hq2, q⟩ := q1
  subst e
  obtain ⟨u1, u2, rfl, r1', r2'⟩ := r1.two
  cases r1'
  cases r2'
  obtain ⟨its, rv, pl, hz⟩ := I1.list hq1
  obtain ⟨its2, rv2, pl2, hz2⟩ := I1.list hq2
  have l1 : l < s1.heap.objs.size := by obtain ⟨_, e, _⟩ := pl.isList; exact Heap.lt_size e
  have l2 : m < s1.heap.objs.size := by obtain ⟨_, e, _⟩ := pl2.isList; exact Heap.lt_size e
  refine call_zip_2 pl.isList pl2.isList fun h' hz hTI hTO h1 h2 hsz hk => wpAny_pyIter_zip hz ?_
  have I2 : Inv X pins σ H1 { s1 with heap := h' } := I1.kept (t' := s1.toks) hk
  have ne : ∀ {x y : Nat}, x < y → x ≠ y := fun h => Nat.ne_of_lt h
  have ne' : ∀ {x y : Nat}, y < x → x ≠ y := fun h => Nat.ne_of_gt h
  refine ⟨s1.heap.objs.size + 4, [s1.heap.objs.size + 4, s1.heap.objs.size + 2, s1.heap.objs.size + 3, s1.heap.objs.size, s1.heap.objs.size + 1], _, _, H1, rfl, I2, turn_zip _ _ _ _ _ l m ?_, ⟨hz, hTI, ⟨_, _, hTO⟩, h1, h2⟩, fun b hb => ?_, q⟩
  · exact zipApart_mk l1 l2
  · simp only [List.mem_cons, List.mem_nil_iff, or_false] at hb
    rcases hb with rfl | rfl | rfl | rfl | rfl <;> exact I1.fpOk (by simp) (I1.hok.fresh (by simp))
theorem pi_enumK (K : PySem.W.Frag) (hg : Gl X "enumerate") (hm : X.mg "enumerate" = none) (ha : SA X [a] ta) (h : X.K = K := by rfl) (hs : starEach [a] X.env = [(false, eval a X.env)] := by rfl) : SI X (.Tuple elts k tpos) (.Call (.Name "enumerate" p) [a] [] pos) (iEnum K ta) := by subst h; exact ⟨pi_enum hg hm ha.h hs⟩
theorem pi_zipK (K : PySem.W.Frag) (hg : Gl X "zip") (hm : X.mg "zip" = none) (ha : SA X [a, b] ta) (h : X.K = K := by rfl) (hs : starEach [a, b] X.env = [(false, eval a X.env), (false, eval b X.env)] := by rfl) (hs2 : starEach [b] X.env = [(false, eval b X.env)] := by rfl) :
    SI X (.Tuple elts k tpos) (.Call (.Name "zip" p) [a, b] [] pos) (iZip K ta) := by subst h; exact ⟨pi_zip hg hm ha.h hs hs2⟩
end
def ItP (J : It) (ok : Hp → Prop) (n : Nat) (f1 f2 : Nat → V) : Prop :=
  ∀ H, ok H → (∀ i, i < n → J.go i H ∧ ∀ x H', J.yld i H x H' → pairY (f1 i) (f2 i) H x H') ∧ J.stop n H
theorem itp_enum {K : PySem.W.Frag} {a : Addr} (xs : List V) : ItP (Ite K a) (fun H => SqL K H a xs) xs.length (fun i => .int i) (fun i => xs.getD i .non) := fun H ok =>
  ⟨fun i hi => ⟨⟨xs, xs[i], ok, by simp [hi]⟩, fun x H' ⟨v, hv, y⟩ => by
    have := hv xs ok
    have e : xs.getD i V.non = v := by rw [List.getD_eq_getElem?_getD, this]; rfl
    show pairY (.int i) (xs.getD i .non) H x H'
    rw [e]; exact y⟩, ⟨xs, ok, Nat.le_refl _⟩⟩
theorem itp_zip {K : PySem.W.Frag} {a b : Addr} (xs ys : List V) : ItP (Itz K a b) (fun H => SqL K H a xs ∧ SqL K H b ys) (min xs.length ys.length) (fun i => xs.getD i .non) (fun i => ys.getD i .non) := fun H ok =>
  ⟨fun i hi => ⟨⟨xs, ys, xs[i]'(by omega), ys[i]'(by omega), ok.1, ok.2, by simp, by simp⟩, fun x H' ⟨v1, v2, hv1, hv2, y⟩ => by
    have e1 : xs.getD i V.non = v1 := by rw [List.getD_eq_getElem?_getD, hv1 xs ok.1]; rfl
    have e2 : ys.getD i V.non = v2 := by rw [List.getD_eq_getElem?_getD, hv2 ys ok.2]; rfl
    show pairY (xs.getD i .non) (ys.getD i .non) H x H'
    rw [e1, e2]; exact y⟩, ⟨xs, ys, ok.1, ok.2, by omega⟩⟩
abbrev g2 (K : PySem.W.Frag) (a b : Nat) : TG := gTup K 2 (gCons (gName a) (gCons (gName b) gNil))
theorem g2_at {K : PySem.W.Frag} {a b : Nat} {T : Addr} {v1 v2 : V} {σ : St} {H : Hp} {Q : St → Hp → Prop} (h : H T = some (.tup [v1, v2])) (q : Q ((σ.set a (some v1)).set b (some v2)) H) : g2 K a b (.ref T) σ H Q :=
  ⟨T, _, rfl, SqT.of h, rfl, _, _, rfl, _, _, rfl, rfl, q⟩
theorem lc_pair {K : PySem.W.Frag} {J : It} {ok : Hp → Prop} {n : Nat} {f1 f2 : Nat → V} {a b : Nat} {tc : TC} {te : TE} {τ0 : St} {H0 : Hp} {D : Addr} {Q : Hp → Prop} (hJ : ItP J ok n f1 f2) (Pv : Nat → St → Hp → Prop) (h0 : Pv 0 τ0 H0)
    (hok : ∀ i τ H, i ≤ n → Pv i τ H → ok H)
    (hs : ∀ i τ H T, i < n → Pv i τ H → H T = none → tc ((τ.set a (some (f1 i))).set b (some (f2 i))) (upd H T (.tup [f1 i, f2 i])) fun c H3 => if c = true then te ((τ.set a (some (f1 i))).set b (some (f2 i))) H3 fun y H4 => ∃ xs, H4 D = some (.lst xs) ∧ xs.length < sizeLine ∧ Pv (i + 1) ((τ.set a (some (f1 i))).set b (some (f2 i))) (upd H4 D (.lst (xs ++ [y]))) else Pv (i + 1) ((τ.set a (some (f1 i))).set b (some (f2 i))) H3)
    (hd : ∀ τ H, Pv n τ H → Q H) : ∃ W : Nat → Nat → St → Hp → Prop, (∃ m, W 0 m τ0 H0) ∧ ∀ i m τ H, W i m τ H →
      (J.stop i H ∧ Q H) ∨ (J.go i H ∧ ∃ N : St → Hp → Prop, (∀ τ' H', N τ' H' → ∃ m', m' < m ∧ W (i + 1) m' τ' H') ∧ ∀ x H', J.yld i H x H' → g2 K a b x τ H' fun τ2 H2 => tc τ2 H2 fun b H3 =>
        if b = true then te τ2 H3 fun y H4 => ∃ xs, H4 D = some (.lst xs) ∧ xs.length < sizeLine ∧ N τ2 (upd H4 D (.lst (xs ++ [y]))) else N τ2 H3) := by
  refine ⟨fun i m τ H => m = n - i ∧ i ≤ n ∧ Pv i τ H, ⟨n, by simp, Nat.zero_le _, h0⟩, ?_⟩
  rintro i m τ H ⟨rfl, hi, p⟩
  obtain ⟨k1, k2⟩ := hJ H (hok i τ H hi p)
  by_cases hlt : i < n
  · refine .inr ⟨(k1 i hlt).1, Pv (i + 1), fun σ' H' p' => ⟨n - (i + 1), by omega, rfl, hlt, p'⟩, fun x H' y => ?_⟩
    obtain ⟨T, rfl, hT, rfl⟩ := (k1 i hlt).2 x H' y
    exact g2_at upd_same (hs i τ _ T hlt p hT)
  · have e : i = n := by omega
    subst e
    exact .inl ⟨k2, hd τ H p⟩
end L2
set_option maxRecDepth 100000
namespace PySem
end PySem
namespace PySem.F
end PySem.F
namespace L2
open PySem PySem.Spec PyProof.Rows
def PairsAt (H : Hp) (ys : List V) (rs : List (Key × V)) : Prop := ys.length = rs.length ∧ ∀ i (h : i < rs.length), ∃ b, ys[i]? = some (.ref b) ∧ H b = some (.tup [kV rs[i].1, rs[i].2])
def dictOf (rs : List (Key × V)) : List (Key × V) := rs.foldl (fun kvs r => putK kvs r.1 r.2) []
section
variable {X : Cx}
end
end L2
set_option maxRecDepth 100000
namespace L2
open PySem PySem.Spec PyProof.Rows
section
variable {X : Cx}
end
def Tk (H H' : Hp) : Prop := ∀ b xs, H b = some (.tup xs) → H' b = some (.tup xs)
theorem Tk.refl {H : Hp} : Tk H H := fun _ _ h => h
theorem Tk.trans {H H1 H2 : Hp} (a : Tk H H1) (b : Tk H1 H2) : Tk H H2 := fun c xs h => b c xs (a c xs h)
theorem Same.ts {H H' : Hp} (s : Same H H') : Tk H H' := fun b xs h => s b _ h
theorem PenAt.ts {H H' : Hp} {p w : Addr} {t : Nat} (h : PenAt H p w t) (s : Sm p w H H') : Tk H H' := fun b xs e => by
  obtain ⟨m, c, ws, h1, h2, _⟩ := h.ex
  exact s b _ e (ne_of e h1 (by intro z; cases z)) (ne_of e h2 (by intro z; cases z))
theorem Tk.upd {H H' : Hp} {a : Addr} {o : HO} (s : Tk H H') (h : H' a = none) : Tk H (L2.upd H' a o) := fun b xs e => by rw [upd_ne (ne_of_none (s b xs e) h)]; exact s b xs e
theorem Tk.set {H H' : Hp} {a : Addr} {o o' : HO} (s : Tk H H') (h : H' a = some o) (hn : ∀ xs, o ≠ .tup xs) : Tk H (L2.upd H' a o') := fun b xs e => by
  rw [upd_ne (fun z => by rw [z] at e; have := s a xs e; rw [h] at this; cases this; exact hn _ rfl)]; exact s b xs e
inductive TDen (H : Hp) : V → PyData → Prop
  | str (z : Str) : TDen H (.str z) (.str z)
  | tup {a : Addr} {xs : List V} {ds : List PyData} : H a = some (.tup xs) → xs.length = ds.length → (∀ i (h : i < xs.length) (h' : i < ds.length), TDen H xs[i] ds[i]) → TDen H (.ref a) (.tuple ds)
theorem TDen.ts {H H' : Hp} (s : Tk H H') {v : V} {d : PyData} (h : TDen H v d) : TDen H' v d := by
  induction h with
  | str z => exact .str z
  | tup e hl _ ih => exact .tup (s _ _ e) hl ih
def Wd (z : Str) : Prop := z.length ≤ 20 ∧ ∀ c ∈ z.cps.toList, c < 128
theorem valV_dictOf (rs : List (Key × V)) : (rs.map (·.1)).Nodup → ∀ i (h : i < rs.length), valV (dictOf rs) rs[i].1 = some rs[i].2 := by
  have gen : ∀ (rs : List (Key × V)) (kvs : List (Key × V)), (rs.map (·.1)).Nodup → ∀ k, valV (rs.foldl (fun kvs r => putK kvs r.1 r.2) kvs) k = ((rs.find? fun r => decide (r.1 = k)).map (·.2)).or (valV kvs k) := by
    intro rs
    induction rs with
    | nil => intro kvs _ k; simp
    | cons r rs ih =>
      intro kvs hn k
      rw [List.map_cons, List.nodup_cons] at hn
      rw [List.foldl_cons, ih _ hn.2, valV_put]
      by_cases e : r.1 = k
      · have : rs.find? (fun r => decide (r.1 = k)) = none := by
          rw [List.find?_eq_none]
          intro x hx z
          have z' := of_decide_eq_true z
          exact hn.1 (List.mem_map.mpr ⟨x, hx, by rw [z', e]⟩)
        rw [this, List.find?_cons, if_pos e.symm]
        simp [e]
      · rw [if_neg (fun z => e z.symm), List.find?_cons]
        simp [e]
  intro hn i h
  unfold dictOf
  rw [gen rs [] hn]
  have : rs.find? (fun r => decide (r.1 = rs[i].1)) = some rs[i] := by
    rw [List.find?_eq_some_iff_getElem]
    refine ⟨by simp, i, h, rfl, fun j hj => ?_⟩
    have hne : (rs.map (·.1))[j]'(by simp; omega) ≠ (rs.map (·.1))[i]'(by simpa using h) := fun z => by
      exact (List.pairwise_iff_getElem.mp hn j i (by simp; omega) (by simpa using h) hj) z
    simpa using hne
  rw [this]; rfl
abbrev rowsK (rs : List (Str × V)) : List (Key × V) := rs.map fun r => (Sum.inr r.1, r.2)
def AsV (H : Hp) (v : V) (o : Option Str) : Prop := ∃ b, v = .ref b ∧ ((∃ s ys, H b = some (.tup (.str s :: ys)) ∧ s ≠ "as" ∧ o = none) ∨ ∃ x, H b = some (.tup [.str "as", .str x]) ∧ o = some x)
section
variable {H H' : Hp} {a : Addr} {xs : List V} {rs : List (Str × V)} {nx : Str → Option Str} {ρ : Str → Nat}
theorem rowsK_nd (h : (rs.map (·.1)).Nodup) : ((rowsK rs).map (·.1)).Nodup := by
  have e : (rowsK rs).map (·.1) = (rs.map (·.1)).map (Sum.inr : Str → Key) := by simp [rowsK, List.map_map, Function.comp_def]
  rw [e]
  exact List.Pairwise.map _ (fun a b hab z => hab (Sum.inr.inj z)) h
end
theorem mem_gluedFold (sep : Str) (c : Nat) : ∀ (rest : List Str) (acc : Array Nat), c ∈ (rest.foldl (fun acc p => acc ++ sep.cps ++ p.cps) acc).toList → c ∈ acc.toList ∨ c ∈ sep.cps.toList ∨ ∃ p ∈ rest, c ∈ p.cps.toList
  | [], acc, h => .inl h
  | p :: rest, acc, h => by
    rcases mem_gluedFold sep c rest _ h with h | h | ⟨q, h1, h2⟩
    · simp only [Array.toList_append, List.mem_append] at h
      rcases h with (h | h) | h
      · exact .inl h
      · exact .inr (.inl h)
      · exact .inr (.inr ⟨p, List.mem_cons_self, h⟩)
    · exact .inr (.inl h)
    · exact .inr (.inr ⟨q, List.mem_cons_of_mem _ h1, h2⟩)
theorem mem_join {sep : Str} {c : Nat} {ys : List Str} (h : c ∈ (Txt.join sep ys).cps.toList) : c ∈ sep.cps.toList ∨ ∃ y ∈ ys, c ∈ y.cps.toList := by
  have h' : c ∈ (Builtin.Str.glued sep ys).cps.toList := h
  cases ys with
  | nil =>
    rw [StrLaws.glued_eq_join] at h'
    simp [Str.join] at h'
    exact absurd h' (by intro z; exact nomatch z)
  | cons y ys =>
    have e : Builtin.Str.glued sep (y :: ys) = ⟨ys.foldl (fun acc p => acc ++ sep.cps ++ p.cps) y.cps⟩ := by rw [StrLaws.glued_eq_join, StrLaws.glued_cons]
    rw [e] at h'
    rcases mem_gluedFold sep c ys y.cps h' with h | h | ⟨p, h1, h2⟩
    · exact .inr ⟨y, List.mem_cons_self, h⟩
    · exact .inl h
    · exact .inr ⟨p, List.mem_cons_of_mem _ h1, h2⟩
theorem cut_from (xs : List V) (k : Nat) : cutV xs (some (k : Int)) none = xs.drop k := by
  unfold cutV
  rw [HT.sIx_nat, HT.sIx_none]
  by_cases h : k ≤ xs.length
  · rw [Nat.min_eq_left h]
    exact List.take_of_length_le (by simp)
  · rw [Nat.min_eq_right (by omega)]
    simp [List.drop_eq_nil_of_le (show xs.length ≤ k by omega)]
open Classical in
theorem wd_ascii {z : Str} (h1 : z.length ≤ 20) (h2 : ∀ c ∈ z.cps.toList, c < 128) : Wd z := ⟨h1, h2⟩
theorem PenAt.neL {H : Hp} {p w l : Addr} {t : Nat} {ss : List Str} (h : PenAt H p w t) (e : H l = some (.lst (ss.map V.str))) (h0 : ss ≠ []) : l ≠ p ∧ l ≠ w := by
  obtain ⟨m, c, ws, h1, h2, _⟩ := h.ex
  refine ⟨ne_of e h1 (by intro z; cases z), ne_of e h2 fun z => ?_⟩
  cases ss with
  | nil => exact h0 rfl
  | cons s ss =>
    injection z with z
    cases ws with
    | nil => cases z
    | cons x ws => injection z with z; cases z
end L2
set_option maxRecDepth 100000
namespace L2
open PySem PySem.Spec PyProof.Rows
section
variable {α β : Type} {R : α → β → Prop}
end
section
variable {H : Hp} {xs : List V} {rs : List (Str × V)}
end
section
variable {X : Cx} {pins : List (Addr × Obj)} {σ : St} {H : Hp} {s : Shared}
end
section
variable {X : Cx} {e1 e2 : Expr} {p pos : Pos} {k : Nat} {g1 g2 : TG}
end
section
variable {X : Cx} {pins : List (Addr × Obj)} {σ : St} {H : Hp} {s : Shared} {a : Addr} {kvs : List (Key × V)}
variable {x : Str} {e : Expr} {pos p : Pos} {te : TE}
end
theorem relV_key {P : Program} {w : World} {k : Key} {u : Value} (h : (mixKind P w).is k u = true) : RelV (kV k) u := by
  rcases keyIs_shape h with ⟨i, t, rfl, rfl⟩ | ⟨x, t, rfl, rfl⟩
  · exact ⟨t, rfl⟩
  · exact ⟨t, rfl⟩
section
variable {X : Cx}
end
section
variable {X : Cx} {tg a b c : Expr} {ta : TA} {p pos : Pos}
end
inductive Dt where
  | str (z : Str)
  | tup (ds : List Dt)
  | oth
inductive DD (H : Hp) : V → Dt → Prop
  | str {z : Str} (h : z.length ≤ 100000) : DD H (.str z) (.str z)
  | tup {a : Addr} {xs : List V} {ds : List Dt} : H a = some (.tup xs) → xs.length = ds.length → xs.length ≤ 1000 → (∀ i (h : i < xs.length) (h' : i < ds.length), DD H xs[i] ds[i]) → DD H (.ref a) (.tup ds)
  | non : DD H .non .oth
  | bl (b : Bool) : DD H (.bl b) .oth
  | int (i : Int) : DD H (.int i) .oth
  | lst {a : Addr} {xs : List V} : H a = some (.lst xs) → DD H (.ref a) .oth
  | dct {a : Addr} {kvs : List (Key × V)} : H a = some (.dK kvs) → DD H (.ref a) .oth
theorem DD.same {H H' : Hp} (s : Same H H') {v : V} {d : Dt} (h : DD H v d) : DD H' v d := by
  induction h with
  | str h => exact .str h
  | tup e hl hn _ ih => exact .tup (s _ _ e) hl hn ih
  | non => exact .non
  | bl b => exact .bl b
  | int i => exact .int i
  | lst e => exact .lst (s _ _ e)
  | dct e => exact .dct (s _ _ e)
def Dt.isTup : Dt → Bool | .tup _ => true | _ => false
def Dt.isStr : Dt → Bool | .str _ => true | _ => false
theorem DD.ty {H : Hp} {v : V} {d : Dt} (h : DD H v d) : ∃ t, tyName H v = some t ∧ isiT t "tuple" = d.isTup ∧ isiT t "str" = d.isStr := by
  cases h with
  | str h => exact ⟨"str", rfl, by rfl, by rfl⟩
  | tup e => exact ⟨"tuple", by simp [tyName, e], by simp [isiT, Dt.isTup], by simp [isiT, Dt.isStr]⟩
  | non => exact ⟨"NoneType", rfl, by decide, by decide⟩
  | bl b => exact ⟨"bool", rfl, by decide, by decide⟩
  | int i => exact ⟨"int", rfl, by decide, by decide⟩
  | lst e => exact ⟨"list", by simp [tyName, e], by decide, by decide⟩
  | dct e => exact ⟨"dict", by simp [tyName, e], by decide, by decide⟩
theorem DD.good {H : Hp} {v : V} {d : Dt} (h : DD H v d) : ∃ p w, GoodV p w H v := by
  cases h with
  | str h => exact ⟨0, 0, h⟩
  | @tup a _ _ e => exact ⟨Nat.succ a, Nat.succ a, Nat.ne_of_lt (Nat.lt_succ_self a), Nat.ne_of_lt (Nat.lt_succ_self a), .inr (.inl ⟨_, e⟩)⟩
  | non => exact ⟨0, 0, True.intro⟩
  | bl b => exact ⟨0, 0, True.intro⟩
  | int i => exact ⟨0, 0, True.intro⟩
  | @lst a _ e => exact ⟨Nat.succ a, Nat.succ a, Nat.ne_of_lt (Nat.lt_succ_self a), Nat.ne_of_lt (Nat.lt_succ_self a), .inl ⟨_, e⟩⟩
  | @dct a _ e => exact ⟨Nat.succ a, Nat.succ a, Nat.ne_of_lt (Nat.lt_succ_self a), Nat.ne_of_lt (Nat.lt_succ_self a), .inr (.inr ⟨_, e⟩)⟩
def nameD : Dt → Bool | .str z => isName z | _ => false
def pairD : Dt → Bool | .tup [a, b] => nameD a && nameD b | _ => false
def fstS : Dt → Str | .tup (.str z :: _) => z | _ => ""
def strLt (a b : Str) : Bool := decide (a.cps.toList < b.cps.toList)
def rising : List Str → Bool
  | a :: b :: r => strLt a b && rising (b :: r)
  | _ => true
def pairsD : Dt → Bool | .tup ps => ps.all pairD && rising (ps.map fstS) | _ => false
def worded (s : Str) : Bool := s == "box" || s == "pick"
def behindN (s : Str) : Option Nat := if s == "all" then some 0 else if s == "none" then some 0 else if s == "way" then some 2 else if s == "as" then some 1 else none
def headD : Dt → Bool
  | .tup (.str s :: rest) => if worded s then (match rest with | [p] => pairsD p | _ => false) else match behindN s with | some n => decide (rest.length = n) && rest.all nameD | none => false
  | _ => false
def spT (f : Dt → Bool) : Sp := fun vs H Q _ => ∃ (x : V) (d : Dt), vs = [x] ∧ DD H x d ∧ ∀ H', Same H H' → Q (.bl (f d)) H'
theorem FnK.imp {P : Program} {w : World} {K : PySem.W.Frag} {mg : Str → Option Value} {base : Heap} {k : Nat} {x : Str} {ps : List Str} {sp sp' : Sp} (F : FnK P w K mg base k x ps sp) (h : ∀ vs H Q E, sp' vs H Q E → sp vs H Q E) : FnK P w K mg base k x ps sp' := by
  obtain ⟨f, fd, G, r⟩ := F
  exact ⟨f, fd, G.imp h, r⟩
theorem nameV_D {H : Hp} {v : V} {d : Dt} (h : DD H v d) : isNameV v = nameD d := by cases h <;> rfl
theorem spT_name {vs : List V} {H : Hp} {Q : VK} {E : XK} (h : spT nameD vs H Q E) : spName vs H Q E := by
  obtain ⟨x, d, rfl, hd, q⟩ := h
  obtain ⟨p, w, g⟩ := hd.good
  refine ⟨p, w, x, rfl, g, fun H' s => ?_⟩
  rw [nameV_D hd]; exact q H' s
theorem tcNil_i {σ : St} {H : Hp} {Q : Bool → Hp → Prop} (h : Q true H) : tcNil σ H Q := h
theorem lc_bools {J : It} {ok : Hp → Prop} {n : Nat} {item : Nat → V} {te : TE} {τ0 : St} {H1 : Hp} {D : Addr} {Q : Hp → Prop} (hJ : ItN J ok n item) (f : Nat → Bool) (hn : n < sizeLine) (hD : H1 D = none) (hok : ∀ H2, Same H1 H2 → ok H2)
    (he : ∀ i H2 (k : VK), i < n → Same H1 H2 → (∀ H3, Same H2 H3 → k (.bl (f i)) H3) → te (τ0.set 0 (some (item i))) H2 k)
    (hQ : ∀ H2, Same H1 H2 → H2 D = some (.lst (((List.range n).map f).map V.bl)) → Q H2) : ∃ W : Nat → Nat → St → Hp → Prop, (∃ m, W 0 m τ0 (upd H1 D (.lst []))) ∧ ∀ i m τ H, W i m τ H →
      (J.stop i H ∧ Q H) ∨ (J.go i H ∧ ∃ N : St → Hp → Prop, (∀ τ' H', N τ' H' → ∃ m', m' < m ∧ W (i + 1) m' τ' H') ∧ ∀ x H', J.yld i H x H' → gName 0 x τ H' fun τ2 H2 => tcNil τ2 H2 fun b H3 =>
        if b = true then te τ2 H3 fun y H4 => ∃ xs, H4 D = some (.lst xs) ∧ xs.length < sizeLine ∧ N τ2 (upd H4 D (.lst (xs ++ [y]))) else N τ2 H3) := by
  refine lc_by hJ (fun i τ H => H D = some (.lst (((List.range i).map f).map V.bl)) ∧ Same H1 H ∧ ∃ v, τ = τ0.set 0 v ∨ τ = τ0) ⟨upd_same, Same.upd hD _, none, .inr rfl⟩ (fun i τ H hi h => hok H h.2.1) ?_ ?_
  · rintro i τ H hi ⟨h1, h2, v, hv⟩
    have e : τ.set 0 (some (item i)) = τ0.set 0 (some (item i)) := by
      rcases hv with rfl | rfl
      · rw [List.set_set]
      · rfl
    have hg : ∀ (Q' : St → Hp → Prop), Q' (τ0.set 0 (some (item i))) H → gName 0 (item i) τ H Q' := fun Q' h => by unfold gName; rw [e]; exact h
    refine hg _ ?_
    refine tcNil_i ?_
    rw [if_pos rfl]
    refine he i H _ hi h2 fun H3 s3 => ?_
    refine ⟨_, s3 _ _ h1, by rw [List.length_map, List.length_map, List.length_range]; omega, ?_, (h2.trans s3).put hD, _, .inl rfl⟩
    rw [upd_same, List.range_succ, List.map_append, List.map_append]; rfl
  · rintro τ H ⟨h1, h2, _⟩
    exact hQ H h2 h1
theorem range_all_list {α : Type} (ds : List α) (d : α) (g : α → Bool) : ((List.range ds.length).map fun i => g (ds.getD i d)).all id = ds.all g := by
  rw [List.all_map, Bool.eq_iff_iff, List.all_eq_true, List.all_eq_true]
  constructor
  · intro h x hx
    obtain ⟨i, hi, rfl⟩ := List.getElem_of_mem hx
    have := h i (List.mem_range.mpr hi)
    simpa [List.getD_eq_getElem?_getD, hi] using this
  · intro h i hi
    have hi' := List.mem_range.mp hi
    have := h _ (List.getElem_mem hi')
    simpa [List.getD_eq_getElem?_getD, hi'] using this
theorem dictOf_nodup (rs : List (Key × V)) : (rs.map (·.1)).Nodup → dictOf rs = rs := by
  have gen : ∀ (rs kvs : List (Key × V)), (rs.map (·.1)).Nodup → (∀ r ∈ rs, valV kvs r.1 = none) → rs.foldl (fun kvs r => putK kvs r.1 r.2) kvs = kvs ++ rs := by
    intro rs
    induction rs with
    | nil => intro kvs _ _; simp
    | cons r rs ih =>
      intro kvs hn hk
      rw [List.map_cons, List.nodup_cons] at hn
      rw [List.foldl_cons, putK_new _ (hk r List.mem_cons_self), ih _ hn.2 fun x hx => ?_]
      · simp
      · rw [valV_snoc _ _ _ _ (hk r List.mem_cons_self), if_neg (fun e => hn.1 (List.mem_map.mpr ⟨x, hx, e⟩))]
        exact hk x (List.mem_cons_of_mem _ hx)
  intro hn
  have := gen rs [] hn (fun _ _ => rfl)
  simpa [dictOf] using this
def strD : Dt → Str | .str z => z | _ => ""
theorem rising_range : ∀ ws : List Str, ((List.range (min ws.length (ws.length - 1))).map fun i => strLt (ws.getD i "") (ws.getD (i + 1) "")).all id = rising ws
  | [] => rfl
  | [a] => rfl
  | a :: b :: r => by
    have ih := rising_range (b :: r)
    have e1 : min (a :: b :: r).length ((a :: b :: r).length - 1) = min (b :: r).length ((b :: r).length - 1) + 1 := by simp
    rw [e1, List.range_succ_eq_map, List.map_cons, List.all_cons, List.map_map]
    have e2 : ((List.range (min (b :: r).length ((b :: r).length - 1))).map ((fun i => strLt ((a :: b :: r).getD i "") ((a :: b :: r).getD (i + 1) "")) ∘ Nat.succ)).all id = rising (b :: r) := by
      rw [← ih]
      rfl
    rw [e2]
    rfl
theorem nameD_str {H : Hp} {v : V} {d : Dt} (h : DD H v d) (hn : nameD d = true) : ∃ z, v = .str z ∧ d = .str z ∧ isName z = true := by
  cases h with
  | str _ => exact ⟨_, rfl, rfl, hn⟩
  | tup _ _ _ _ => exact Bool.noConfusion hn
  | non => exact Bool.noConfusion hn
  | bl _ => exact Bool.noConfusion hn
  | int _ => exact Bool.noConfusion hn
  | lst _ => exact Bool.noConfusion hn
  | dct _ => exact Bool.noConfusion hn
def sndD : Dt → Dt | .tup (_ :: h :: _) => h | _ => .oth
def asD : Dt → Option Str | .tup [.str s, .str x] => if s == "as" then some x else none | _ => none
def rowsD (ds : List Dt) : List (Str × Dt) := ds.map fun d => (fstS d, sndD d)
def nxD (rs : List (Str × Dt)) (n : Str) : Option Str := (rs.find? fun r => decide (r.1 = n)).bind fun r => asD r.2
theorem headD_eq (z : Str) (ds : List Dt) : headD (.tup (.str z :: ds)) = if worded z then (match ds with | [p] => pairsD p | _ => false) else match behindN z with | some n => decide (ds.length = n) && ds.all nameD | none => false := rfl
theorem headD_at {H : Hp} {v : V} {d : Dt} (h : DD H v d) (hh : headD d = true) : ∃ a z xs ds, v = .ref a ∧ d = .tup (.str z :: ds) ∧ H a = some (.tup (.str z :: xs)) ∧ xs.length = ds.length ∧ xs.length < 1000 ∧ (∀ i (h : i < xs.length) (h' : i < ds.length), DD H xs[i] ds[i]) ∧
    ((worded z = true ∧ ∃ p, ds = [p] ∧ pairsD p = true) ∨ (worded z = false ∧ ∃ n, behindN z = some n ∧ ds.length = n ∧ ds.all nameD = true)) := by
  cases h with
  | @tup a xs ds e hl hn hds =>
    match ds, hl, hh, hds with
    | .str z :: ds, hl, hh, hds =>
      match xs, hl, e, hn, hds with
      | x0 :: xs, hl, e, hn, hds =>
        have h0 := hds 0 (by simp) (by simp)
        simp only [List.getElem_cons_zero] at h0
        cases h0
        refine ⟨a, z, xs, ds, rfl, rfl, e, by simpa using hl, by simp at hn; omega, fun i h h' => hds (i + 1) (by simpa using h) (by simpa using h'), ?_⟩
        rw [headD_eq] at hh
        cases hw : worded z with
        | true =>
          rw [hw] at hh
          simp only [if_true] at hh
          match ds, hh with
          | [p], hh => exact .inl ⟨rfl, p, rfl, hh⟩
        | false =>
          rw [hw] at hh
          simp only [Bool.false_eq_true, if_false] at hh
          cases hb : behindN z with
          | none => rw [hb] at hh; exact Bool.noConfusion hh
          | some n =>
            rw [hb] at hh
            simp only [Bool.and_eq_true, decide_eq_true_eq] at hh
            exact .inr ⟨rfl, n, rfl, hh.1, hh.2⟩
    | .tup _ :: _, _, hh, _ => exact Bool.noConfusion hh
    | .oth :: _, _, hh, _ => exact Bool.noConfusion hh
    | [], _, hh, _ => exact Bool.noConfusion hh
  | str _ => exact Bool.noConfusion hh
  | non => exact Bool.noConfusion hh
  | bl _ => exact Bool.noConfusion hh
  | int _ => exact Bool.noConfusion hh
  | lst _ => exact Bool.noConfusion hh
  | dct _ => exact Bool.noConfusion hh
theorem worded_as : worded "as" = false := by decide
theorem asD_as {H : Hp} {v : V} {d : Dt} (h : DD H v d) (hh : headD d = true) : AsV H v (asD d) := by
  obtain ⟨a, z, xs, ds, rfl, rfl, e, hl, hn, hds, hc⟩ := headD_at h hh
  refine ⟨a, rfl, ?_⟩
  by_cases hz : z = "as"
  · subst hz
    rcases hc with ⟨hw, _⟩ | ⟨_, n, hb, hdl, hda⟩
    · rw [worded_as] at hw; cases hw
    · have hn1 : n = 1 := by
        have : behindN "as" = some 1 := by decide
        rw [this] at hb; cases hb; rfl
      subst hn1
      match ds, hdl, hl, hda, hds with
      | [d1], _, hl, hda, hds =>
        match xs, hl, e, hds with
        | [x1], _, e, hds =>
          simp only [List.all_cons, List.all_nil, Bool.and_true] at hda
          obtain ⟨y, q1, q2, _⟩ := nameD_str (hds 0 (by simp) (by simp)) hda
          simp only [List.getElem_cons_zero] at q1
          subst q1 q2
          exact .inr ⟨y, e, by simp [asD]⟩
  · refine .inl ⟨z, xs, e, hz, ?_⟩
    have hz' : (z == Str.ofString "as") = false := by simpa using hz
    unfold asD
    split
    · next s x heq =>
      injection heq with heq
      injection heq with h1 _
      injection h1 with h1
      rw [← h1, if_neg (by rw [hz']; exact Bool.false_ne_true)]
    · rfl
theorem tNext_seq2 {t : TS} {D : Ends} {σ : St} {H : Hp} {rt : VK} {bk ct : St → Hp → Prop} (h : t D σ H) : tNext { nx := t D, rt := rt, bk := bk, ct := ct } σ H := h
structure RowsDt (H : Hp) (xs : List V) (ds : List Dt) (rs : List (Str × V)) (hs : List Dt) : Prop where
  l1 : rs.length = ds.length
  l2 : hs.length = ds.length
  ps : PairsAt H xs (rowsK rs)
  dd : ∀ i (h : i < ds.length) (h1 : i < rs.length) (h2 : i < hs.length), ds[i] = .tup [.str rs[i].1, hs[i]] ∧ DD H rs[i].2 hs[i] ∧ headD hs[i] = true ∧ isName rs[i].1 = true
section
variable {H : Hp} {xs : List V} {ds : List Dt} {rs : List (Str × V)} {hs : List Dt}
theorem RowsDt.rows (R : RowsDt H xs ds rs hs) {i : Nat} (h : i < ds.length) (h1 : i < rs.length) (h2 : i < hs.length) : (rowsD ds)[i]? = some (rs[i].1, hs[i]) := by
  unfold rowsD
  rw [List.getElem?_map, List.getElem?_eq_getElem h, (R.dd i h h1 h2).1]; rfl
theorem valV_rowsK_none (n : Str) (h : n ∉ rs.map (·.1)) : valV (rowsK rs) (.inr n) = none := by
  unfold valV
  rw [List.find?_eq_none.mpr]
  · rfl
  · intro p hp e
    obtain ⟨r, hr, rfl⟩ := List.mem_map.mp hp
    exact h (List.mem_map.mpr ⟨r, hr, Sum.inr.inj (of_decide_eq_true e)⟩)
theorem valV_rowsK_at (nd : (rs.map (·.1)).Nodup) {i : Nat} (h : i < rs.length) : valV (rowsK rs) (.inr rs[i].1) = some rs[i].2 := by
  have := valV_dictOf (rowsK rs) (rowsK_nd nd) i (by simpa using h)
  rw [dictOf_nodup _ (rowsK_nd nd)] at this
  simpa using this
theorem RowsDt.nx (R : RowsDt H xs ds rs hs) (nd : (rs.map (·.1)).Nodup) {i : Nat} (h1 : i < rs.length) (h2 : i < hs.length) : nxD (rowsD ds) rs[i].1 = asD hs[i] := by
  have h : i < ds.length := by have := R.l1; omega
  unfold nxD
  have : (rowsD ds).find? (fun r => decide (r.1 = rs[i].1)) = some (rs[i].1, hs[i]) := by
    rw [List.find?_eq_some_iff_getElem]
    have hl : (rowsD ds).length = ds.length := by unfold rowsD; simp
    refine ⟨by simp, i, by omega, ?_, fun j hj => ?_⟩
    · have := R.rows h h1 h2
      rw [List.getElem?_eq_getElem (by omega)] at this
      exact Option.some.inj this
    · have hj1 : j < rs.length := by omega
      have := R.rows (i := j) (by omega) hj1 (by omega)
      rw [List.getElem?_eq_getElem (by omega)] at this
      rw [Option.some.inj this]
      have hne : (rs.map (·.1))[j]'(by simp; omega) ≠ (rs.map (·.1))[i]'(by simpa using h1) := fun z => (List.pairwise_iff_getElem.mp nd j i (by simp; omega) (by simpa using h1) hj) z
      simpa using hne
  rw [this]; rfl
theorem RowsDt.has (R : RowsDt H xs ds rs hs) (nd : (rs.map (·.1)).Nodup) (n : Str) (v : V) (hv : valV (rowsK rs) (.inr n) = some v) : AsV H v (nxD (rowsD ds) n) := by
  by_cases h : n ∈ rs.map (·.1)
  · obtain ⟨r, hr, rfl⟩ := List.mem_map.mp h
    obtain ⟨i, hi, rfl⟩ := List.getElem_of_mem hr
    rw [valV_rowsK_at nd hi] at hv
    cases hv
    have h2 : i < hs.length := by have := R.l1; have := R.l2; omega
    rw [R.nx nd hi h2]
    obtain ⟨_, q1, q2, _⟩ := R.dd i (by have := R.l1; omega) hi h2
    exact asD_as q1 q2
  · rw [valV_rowsK_none n h] at hv; cases hv
end
inductive TX (H : Hp) : V → Dt → Prop
  | str {z : Str} (h : z.length ≤ 100000) : TX H (.str z) (.str z)
  | tup {a : Addr} {xs : List V} {ds : List Dt} : H a = some (.tup xs) → xs.length = ds.length → xs.length ≤ 1000 → (∀ i (h : i < xs.length) (h' : i < ds.length), TX H xs[i] ds[i]) → TX H (.ref a) (.tup ds)
theorem TX.tk {H H' : Hp} (s : Tk H H') {v : V} {d : Dt} (h : TX H v d) : TX H' v d := by
  induction h with
  | str h => exact .str h
  | tup e hl hn _ ih => exact .tup (s _ _ e) hl hn ih
theorem TX.dd {H : Hp} {v : V} {d : Dt} (h : TX H v d) : DD H v d := by
  induction h with
  | str h => exact .str h
  | tup e hl hn _ ih => exact .tup e hl hn ih
section
variable {H : Hp} {ns : List Str} {b : Addr} {P : Option Str → Prop}
end
theorem toList_inj {a b : Str} (h : a.cps.toList = b.cps.toList) : a = b := by
  cases a; cases b
  simp at h
  rw [h]
theorem strLt_trans {a b c : Str} (h1 : strLt a b = true) (h2 : strLt b c = true) : strLt a c = true := by
  unfold strLt at *
  exact decide_eq_true (List.lt_trans (of_decide_eq_true h1) (of_decide_eq_true h2))
theorem rising_of_pw : ∀ {ws : List Str}, ws.Pairwise (fun a b => strLt a b = true) → rising ws = true
  | [], _ => rfl
  | [_], _ => rfl
  | a :: b :: r, h => by
    rw [List.pairwise_cons] at h
    rw [rising, h.1 b List.mem_cons_self, rising_of_pw h.2]; rfl
theorem pw_of_sorted : ∀ {ss : List Str}, sortedS ss = true → ss.Nodup → ss.Pairwise (fun a b => strLt a b = true)
  | [], _, _ => List.Pairwise.nil
  | [a], _, _ => List.pairwise_singleton _ _
  | a :: b :: r, h, nd => by
    have h' : sortedS (b :: r) = true ∧ ltCps b.cps.toList a.cps.toList = false := by
      have : (!ltCps b.cps.toList a.cps.toList && risingS b r) = true := h
      rw [Bool.and_eq_true, Bool.not_eq_true'] at this
      exact ⟨this.2, this.1⟩
    rw [List.nodup_cons] at nd
    have ih := pw_of_sorted h'.1 nd.2
    have hab : strLt a b = true := by
      have h2 := h'.2
      rw [PyProof.Rows.ltCps_eq] at h2
      have h3 := of_decide_eq_false h2
      refine decide_eq_true (Classical.byContradiction fun h4 => ?_)
      have : a = b := toList_inj (List.le_antisymm (List.not_lt.mp h3) (List.not_lt.mp h4))
      exact nd.1 (by rw [this]; exact List.mem_cons_self)
    rw [List.pairwise_cons] at ih
    refine List.pairwise_cons.mpr ⟨fun c hc => ?_, List.pairwise_cons.mpr ih⟩
    rcases List.mem_cons.mp hc with rfl | hc
    · exact hab
    · exact strLt_trans hab (ih.1 c hc)
section
variable {X : Cx}
end
section
variable {X : Cx} {pins : List (Addr × Obj)} {σ : St} {H : Hp} {s : Shared}
end
section
variable {X : Cx} {e1 e2 : Expr} {p pos : Pos} {k : Nat} {g1 g2 : TG}
end
theorem compTurn_two0 (elt t1 i1 t2 i2 : Expr) (scope : Scope) (pos : Pos) (it acc : Value) (env : Env) :
    compTurn (.ListComp elt [⟨t1, i1, [], 0⟩, ⟨t2, i2, [], 0⟩] scope pos) 0 it acc env = (do
      standAt i1.pos
      match ← pyNext it with
      | none => pure (.done .next)
      | some v =>
        letOwnedTupleGo t1 it v
        assign t1 env v
        let x ← eval i2 env
        standAt i2.pos
        let x ← foldedSetIterable i2 env x
        let _ ← runOwn (.compStart (.ListComp elt [⟨t1, i1, [], 0⟩, ⟨t2, i2, [], 0⟩] scope pos) 1 (← holding [x] (pyIter x)) acc env) env
        again (.compLoop (.ListComp elt [⟨t1, i1, [], 0⟩, ⟨t2, i2, [], 0⟩] scope pos) 0 it acc env)) := by rfl
theorem compTurn_two1 (elt t1 i1 t2 i2 : Expr) (scope : Scope) (pos : Pos) (it acc : Value) (env : Env) :
    compTurn (.ListComp elt [⟨t1, i1, [], 0⟩, ⟨t2, i2, [], 0⟩] scope pos) 1 it acc env = (do
      standAt i2.pos
      match ← pyNext it with
      | none => pure (.done .next)
      | some v =>
        letOwnedTupleGo t2 it v
        assign t2 env v
        (do let _ ← call (.builtin "list.append") [acc, ← eval elt env])
        again (.compLoop (.ListComp elt [⟨t1, i1, [], 0⟩, ⟨t2, i2, [], 0⟩] scope pos) 1 it acc env)) := by rfl
section
variable {prog : Program} {w : World} {A : Around} {R : Result → Shared → Prop} {s : Shared}
theorem compStart_two1 {elt t1 i1 t2 i2 : Expr} {scope : Scope} {pos : Pos} {it acc : Value} {env : Env}
    (h0 : codeAny (model prog w) A (.compLoop (.ListComp elt [⟨t1, i1, [], 0⟩, ⟨t2, i2, [], 0⟩] scope pos) 1 it acc env) R s)
    (h : wpAny (model prog w) A (pyIter it) (fun it' s' => codeAny (model prog w) A (.compLoop (.ListComp elt [⟨t1, i1, [], 0⟩, ⟨t2, i2, [], 0⟩] scope pos) 1 it' acc env) R s') (notedBy (model prog w) A env fun x s' => R (.error x) s') s) :
    codeAny (model prog w) A (.compStart (.ListComp elt [⟨t1, i1, [], 0⟩, ⟨t2, i2, [], 0⟩] scope pos) 1 it acc env) R s := by
  refine codeAny_of_tree ?_
  show wpAny _ _ ((compStart (.ListComp elt [⟨t1, i1, [], 0⟩, ⟨t2, i2, [], 0⟩] scope pos) 1 it acc env).onRaise (fun x => do noteFrame x env; standAt theWindowsPlace)) _ _ s
  refine wpAny_notedAt ?_
  unfold compStart
  show wpAny _ _ (ask >>= _) _ _ s
  refine wpAny_bind (wpAny_askSetting (wpAny_ite ?_))
  split
  · exact wpAny_bind (wpAny_pure (wpAny_pure (And.intro rfl h0)))
  · refine wpAny_bind (wpAny_rule ?_)
    show wpAny _ _ (standAt i2.pos >>= _) _ _ s
    exact wpAny_bind (wpAny_standAt (wpAny_bind (wpAny_mono h (fun it' s' h' => wpAny_pure (And.intro rfl h')) fun _ _ x => x)))
theorem compLoop_two1 {elt t1 i1 t2 i2 : Expr} {scope : Scope} {pos : Pos} {it acc : Value} {env : Env} (I : Nat → Shared → Prop)
    (turn : ∀ n s, I n s → wpAny (model prog w) A (pyNext it) (fun r s₁ => match r with
      | none => R (.ok .next) s₁
      | some v => wpAny (model prog w) A (letOwnedTupleGo t2 it v) (fun _ s₁' => wpAny (model prog w) A (assign t2 env v) (fun _ s₂ =>
          wpAny (model prog w) A (eval elt env) (fun x s₄ =>
              wpAny (model prog w) A (call (.builtin "list.append") [acc, x]) (fun _ s₅ => ∃ m, m < n ∧ I m s₅) NoE s₄) NoE s₂) NoE s₁') NoE s₁) NoE s)
    (n : Nat) (h : I n s) :
    codeAny (model prog w) A (.compLoop (.ListComp elt [⟨t1, i1, [], 0⟩, ⟨t2, i2, [], 0⟩] scope pos) 1 it acc env) R s := by
  refine codeAny_loop rfl I (fun n s hI => ?_) n h
  show wpAny _ A ((compTurn (.ListComp elt [⟨t1, i1, [], 0⟩, ⟨t2, i2, [], 0⟩] scope pos) 1 it acc env).onRaise (fun x => do noteFrame x env; theTreesLotGoes x)) _ _ s
  refine wpAny_noted ?_
  rw [compTurn_two1]
  refine wpAny_bind (wpAny_standAt (wpAny_bind (wpAny_mono (turn n s hI) (fun r s₁ h₁ => ?_) fun _ _ h' => h'.elim)))
  cases r with
  | none => exact wpAny_pure h₁
  | some v =>
    refine wpAny_bind (wpAny_mono h₁ (fun _ s₁' h₁' => ?_) fun _ _ h' => h'.elim)
    refine wpAny_bind (wpAny_mono h₁' (fun _ s₂ h₂ => ?_) fun _ _ h' => h'.elim)
    exact wpAny_bind (wpAny_bind (wpAny_mono h₂ (fun x s₄ h₄ => wpAny_bind (wpAny_mono h₄ (fun _ s₅ h₅ => wpAny_pure (wpAny_pure ⟨rfl, h₅⟩)) fun _ _ h' => h'.elim)) fun _ _ h' => h'.elim))
theorem compLoop_two0 {elt t1 i1 t2 i2 : Expr} {scope : Scope} {pos : Pos} {it acc : Value} {env : Env} (I : Nat → Shared → Prop) (hs : ∀ x, foldedSetIterable i2 env x = pure x)
    (turn : ∀ n s, I n s → wpAny (model prog w) A (pyNext it) (fun r s₁ => match r with
      | none => R (.ok .next) s₁
      | some v => wpAny (model prog w) A (letOwnedTupleGo t1 it v) (fun _ s₁' => wpAny (model prog w) A (assign t1 env v) (fun _ s₂ =>
          wpAny (model prog w) A (eval i2 env) (fun x s₃ => wpAny (model prog w) A (pyIter x) (fun itv s₄ =>
            codeAny (model prog w) A (.compStart (.ListComp elt [⟨t1, i1, [], 0⟩, ⟨t2, i2, [], 0⟩] scope pos) 1 itv acc env) (fun r s₅ => r = .ok .next ∧ ∃ m, m < n ∧ I m s₅) s₄) NoE s₃) NoE s₂) NoE s₁') NoE s₁) NoE s)
    (n : Nat) (h : I n s) :
    codeAny (model prog w) A (.compLoop (.ListComp elt [⟨t1, i1, [], 0⟩, ⟨t2, i2, [], 0⟩] scope pos) 0 it acc env) R s := by
  refine codeAny_loop rfl I (fun n s hI => ?_) n h
  show wpAny _ A ((compTurn (.ListComp elt [⟨t1, i1, [], 0⟩, ⟨t2, i2, [], 0⟩] scope pos) 0 it acc env).onRaise (fun x => do noteFrame x env; theTreesLotGoes x)) _ _ s
  refine wpAny_noted ?_
  rw [compTurn_two0]
  refine wpAny_bind (wpAny_standAt (wpAny_bind (wpAny_mono (turn n s hI) (fun r s₁ h₁ => ?_) fun _ _ h' => h'.elim)))
  cases r with
  | none => exact wpAny_pure h₁
  | some v =>
    refine wpAny_bind (wpAny_mono h₁ (fun _ s₁' h₁' => ?_) fun _ _ h' => h'.elim)
    refine wpAny_bind (wpAny_mono h₁' (fun _ s₂ h₂ => ?_) fun _ _ h' => h'.elim)
    refine wpAny_bind (wpAny_mono h₂ (fun x s₃ h₃ => ?_) fun _ _ h' => h'.elim)
    refine wpAny_bind (wpAny_standAt ?_)
    rw [hs x]
    refine wpAny_bind (wpAny_pure ?_)
    refine wpAny_bind (wpAny_holding (wpAny_mono h₃ (fun itv s₄ h₄ => ?_) fun _ _ h' => h'.elim))
    refine wpAny_bind (wpAny_runOwn (codeAny_mono h₄ fun r s₅ hr => ?_))
    obtain ⟨rfl, h₅⟩ := hr
    exact wpAny_pure ⟨rfl, h₅⟩
end
def In2 (g2 : TG) (te : TE) (D : Addr) (N : St → Hp → Prop) (τ : St) : It → Hp → Prop := fun J H3 => ∃ W : Nat → Nat → St → Hp → Prop, (∃ m, W 0 m τ H3) ∧ ∀ i m τ3 H4, W i m τ3 H4 →
  (J.stop i H4 ∧ N τ3 H4) ∨ (J.go i H4 ∧ ∃ N2 : St → Hp → Prop, (∀ τ' H', N2 τ' H' → ∃ m', m' < m ∧ W (i + 1) m' τ' H') ∧ ∀ y H5, J.yld i H4 y H5 → g2 y τ3 H5 fun τ4 H6 => te τ4 H6 fun z H7 => ∃ xs, H7 D = some (.lst xs) ∧ xs.length < sizeLine ∧ N2 τ4 (upd H7 D (.lst (xs ++ [z]))))
theorem comp_inner {Y : Cx} (hc : Y.calm = true) (hx : Y.xe = fun _ _ => False) {elt t1 i1 t2 i2 : Expr} {sc : Scope} {pos : Pos} {g2 : TG} {te : TE} (hg : PG Y t2 g2) (he : PE Y elt te)
    {pins : List (Addr × Obj)} {τ : St} {D : Addr} {N : St → Hp → Prop} {itv : Value} {s2 : Shared} (hI : PIE Y pins τ t2 (In2 g2 te D N τ) itv s2) {R : Result → Shared → Prop}
    (hR : ∀ τ' H' s', Inv Y pins τ' H' s' → N τ' H' → R (.ok .next) s') :
    codeAny (model Y.prog Y.w) Y.A (.compStart (.ListComp elt [⟨t1, i1, [], 0⟩, ⟨t2, i2, [], 0⟩] sc pos) 1 itv (.ref D) Y.env) R s2 := by
  obtain ⟨it, fp, tn, J, H2, rfl, I, T, st2, f2, W, ⟨m0, w0⟩, turn⟩ := hI
  have stat : ∀ {H' : Hp}, (∀ b ∈ fp, H' b = none) → ∀ b ∈ fp, FpOk Y pins H' b := fun hn b hb => ⟨hn b hb, (f2 b hb).2⟩
  have loop : codeAny (model Y.prog Y.w) Y.A (.compLoop (.ListComp elt [⟨t1, i1, [], 0⟩, ⟨t2, i2, [], 0⟩] sc pos) 1 (.ref it) (.ref D) Y.env) R s2 := by
    refine compLoop_two1 (fun n s' => ∃ i τ H', Inv Y pins τ H' s' ∧ tn i s'.heap ∧ (∀ b ∈ fp, H' b = none) ∧ W i n τ H') ?_ m0 ⟨0, _, _, I, st2, fun b hb => (f2 b hb).1, w0⟩
    rintro n s3 ⟨i, τ3, H3, I3, st3, fr3, w3⟩
    rcases turn i n τ3 H3 w3 with ⟨stop, qn⟩ | ⟨go, N2, hN, step⟩
    · refine thn (T.done Y rfl rfl rfl hc i pins s3 τ3 H3 NoE I3 (stat fr3) st3 stop) ?_
      rintro r s4 ⟨hr, I4⟩
      subst hr
      exact hR _ _ _ I4 qn
    · refine thn (T.item Y rfl rfl rfl hc i pins s3 τ3 H3 NoE I3 (stat fr3) st3 go) ?_
      rintro r s4 ⟨u, hr, h4⟩
      subst hr
      refine thn h4 ?_
      rintro _ s5 ⟨x, H5, I5, r5, y5, st5, fr5⟩
      have I5' := I5.pinned (stat fr5) (T.obj _ _ st5)
      have g5 := hg _ s5 τ3 H5 x u _ I5' r5 (step x H5 y5)
      rw [hx] at g5
      refine thn g5 ?_
      rintro _ s6 ⟨τ6, H6, I6, q6⟩
      have e7 := he _ s6 τ6 H6 _ I6 q6
      rw [hx] at e7
      refine thn e7 ?_
      rintro yv s8 ⟨y, H8, I8, r8, xs, hD8, hz, n8⟩
      have a8 := mt_append (X := Y) _ s8 τ6 H8 (.ref D) [y] (.ref D) [yv] (fun v H' => N2 τ6 H') I8 rfl (.cons r8 .nil) ⟨_, xs, y, rfl, rfl, hD8, hz, n8⟩
      rw [hx] at a8
      refine thn a8 ?_
      rintro _ s9 ⟨_, H9, I9, _, n9⟩
      obtain ⟨m', hm, w8⟩ := hN τ6 H9 n9
      refine ⟨m', hm, i + 1, τ6, H9, I9.unpinned, T.keep _ _ _ st5 fun b hb o e => (I9.pin (b, o) (List.mem_append_right _ (List.mem_append_right _ (mem_pinsAt hb e)))).1, fun b hb => ?_, w8⟩
      obtain ⟨o, e, d⟩ := T.obj _ _ st5 b hb
      exact (I9.pin (b, o) (List.mem_append_right _ (List.mem_append_right _ (mem_pinsAt hb e)))).2.1
  exact compStart_two1 loop (T.self _ 0 _ _ _ st2 loop)
def tLC2 (own : List Str) (idx : List Nat) (wi : TI) (g : TG) (wi2 : TI) (g2 : TG) (te : TE) : TE := fun σ H Q => wi σ H fun J H1 => ∀ D, H1 D = none → ∃ W : Nat → Nat → St → Hp → Prop, (∃ m, W 0 m (stIn own idx σ) (upd H1 D (.lst []))) ∧ ∀ i m τ H, W i m τ H →
  (J.stop i H ∧ Q (.ref D) H) ∨ (J.go i H ∧ ∃ N : St → Hp → Prop, (∀ τ' H', N τ' H' → ∃ m', m' < m ∧ W (i + 1) m' τ' H') ∧ ∀ x H', J.yld i H x H' → g x τ H' fun τ2 H2 => wi2 τ2 H2 (In2 g2 te D N τ2))
section
variable {X : Cx} {t1 i1 t2 i2 elt : Expr} {sc : Scope} {pos : Pos} {own : List Str} {idx : List Nat} {N' : List Str} {wi wi2 : TI} {g g2 : TG} {te : TE}
theorem comp_block2 (S : CScope X.env.scope X.N sc own idx N') {cl : List (Str × Addr)} (c1 : ∀ x c, cl.lookup x = some c → X.env.cells.lookup x = some c) (c2 : ∀ y ∈ sc.names, y.2 = .free → ∃ c, cl.lookup y.1 = some c) (hc : X.calm = true)
    (hg : ∀ cl C s3 H0 fp pn, PG (cxComp X N' sc cl C s3 H0 fp pn) t1 g) (hi2 : ∀ cl C s3 H0 fp pn, PI (cxComp X N' sc cl C s3 H0 fp pn) t2 i2 wi2) (hg2 : ∀ cl C s3 H0 fp pn, PG (cxComp X N' sc cl C s3 H0 fp pn) t2 g2) (he : ∀ cl C s3 H0 fp pn, PE (cxComp X N' sc cl C s3 H0 fp pn) elt te)
    (hs2 : ∀ env x, foldedSetIterable i2 env x = pure x)
    {pins : List (Addr × Obj)} {σ : St} {Q : VK} {itv : Value} {s2 : Shared} {RR : Value → Addr → Result → Shared → Prop} {E : Value → Shared → Prop}
    (hI : PIE X pins σ t1 (fun J H1 => ∀ D, H1 D = none → ∃ W : Nat → Nat → St → Hp → Prop, (∃ m, W 0 m (stIn own idx σ) (upd H1 D (.lst []))) ∧ ∀ i m τ H, W i m τ H →
      (J.stop i H ∧ Q (.ref D) H) ∨ (J.go i H ∧ ∃ N : St → Hp → Prop, (∀ τ' H', N τ' H' → ∃ m', m' < m ∧ W (i + 1) m' τ' H') ∧ ∀ x H', J.yld i H x H' → g x τ H' fun τ2 H2 => wi2 τ2 H2 (In2 g2 te D N τ2))) itv s2)
    (hRR : ∀ D C H' s', Inv X pins σ H' s' → Q (.ref D) H' → (H' C = none ∧ C ≠ X.env.locals ∧ X.s₀.heap.objs.size ≤ C ∧ (∀ x c, X.env.cells.lookup x = some c → c ≠ C) ∧ (∀ p ∈ X.pn ++ pins, p.1 ≠ C) ∧ ∃ m, s'.heap.Ns C m) → RR (.ref D) C (.ok .next) s') :
    wpAny (model X.prog X.w) X.A (newList []) (fun acc s₃ => wpAny (model X.prog X.w) X.A (newFunctionEnv sc X.env.globals cl [] X.env.qual none .none (some X.env)) (fun cenv s₄ =>
      codeAny (model X.prog X.w) X.A (.compStart (.ListComp elt [⟨t1, i1, [], 0⟩, ⟨t2, i2, [], 0⟩] sc pos) 0 itv acc { cenv with scope := relabel sc X.env }) (RR acc cenv.locals) s₄) E s₃) E s2 := by
  obtain ⟨it, fp, tn, J, H2, rfl, I, T, st2, f2, body⟩ := hI
  refine wpAny_newObj_type (wpAny_newFunctionEnv S.cell (by intro y hy; simp at hy) (fun h4 ns sb => ?_) S.kind)
  dsimp only at ns sb ⊢
  have hob : lob.isFreed = false := rfl
  have fr : H2 s2.heap.objs.size = none := I.hok.fresh (Nat.le_refl _)
  obtain ⟨W, ⟨m0, w0⟩, turn⟩ := body _ fr
  have hfo : ∀ b ∈ fp, ∃ o, s2.heap.get? b = some o := fun b hb => let ⟨o, e, _⟩ := T.obj _ _ st2 b hb; ⟨o, e⟩
  have sb' : ∀ b o, (s2.heap.push lob).get? b = some o → h4.get? b = some o := fun b o e => (sb.2 b (Nat.ne_of_lt (Heap.lt_size e))).trans (Heap.get?_push_of_some _ e)
  have hDo : ∀ (H : Hp) (h : Heap), h.get? s2.heap.objs.size = some lob → ObjOk X.prog X.w H h s2.heap.objs.size (.lst []) := fun H h e => ⟨Nat.zero_le _, [], _, .nil, e⟩
  have I4 : Inv (cxComp X N' sc cl (s2.heap.push lob).objs.size { s2 with heap := s2.heap.push lob } (upd H2 s2.heap.objs.size (.lst [])) fp (X.pn ++ pins)) [] (stIn own idx σ) (upd H2 s2.heap.objs.size (.lst [])) { s2 with heap := h4, toks := s2.toks + ([] : List (Str × Value)).length } :=
    inv_comp S I f2 hfo c1 c2 hob hDo ns sb'
  generalize hY : cxComp X N' sc cl (s2.heap.push lob).objs.size { s2 with heap := s2.heap.push lob } (upd H2 s2.heap.objs.size (.lst [])) fp (X.pn ++ pins) = Y at I4
  have hgY : PG Y t1 g := by rw [← hY]; exact hg _ _ _ _ _ _
  have hiY : PI Y t2 i2 wi2 := by rw [← hY]; exact hi2 _ _ _ _ _ _
  have hg2Y : PG Y t2 g2 := by rw [← hY]; exact hg2 _ _ _ _ _ _
  have heY : PE Y elt te := by rw [← hY]; exact he _ _ _ _ _ _
  have pY : Y.prog = X.prog := by rw [← hY]
  have wY : Y.w = X.w := by rw [← hY]
  have KY : Y.K = X.K := by rw [← hY]
  have AY : Y.A = X.A := by rw [← hY]
  have cY : Y.calm = true := by rw [← hY]; exact hc
  have xY : Y.xe = fun _ _ => False := by rw [← hY]
  have eY : Y.env = compEnvC sc cl (s2.heap.push lob).objs.size X.env := by rw [← hY]
  have exY : Y.ex = fp := by rw [← hY]
  have fsY : Y.fs = frs X.stack := by rw [← hY]
  have pnY : Y.pn = X.pn ++ pins := by rw [← hY]
  have stat : ∀ {H' : Hp}, (∀ b ∈ fp, H' b = none) → ∀ b ∈ fp, FpOk Y [] H' b := fun hn b hb => by
    obtain ⟨f0, f1, f3, f4, f5, f6⟩ := f2 b hb
    refine ⟨hn b hb, ?_, ?_, .inl (by rw [exY]; exact hb), fun x c e => ?_, fun p hp => ?_⟩
    · obtain ⟨o, e⟩ := hfo b hb
      have := Heap.lt_size e
      rw [eY]
      show b ≠ (s2.heap.push lob).objs.size
      rw [Heap.size_push]; exact Nat.ne_of_lt (Nat.lt_succ_of_lt this)
    · rw [fsY]
      intro z
      rcases List.mem_cons.mp (I.stkSub b z) with z | z
      · exact f1 z
      · exact f3 z
    · rw [eY] at e
      exact f5 x c (c1 x c e)
    · rw [pnY, List.append_nil] at hp
      exact f6 p hp
  have st4 : tn 0 h4 := T.keep _ _ _ st2 fun b hb o e => sb' b o (Heap.get?_push_of_some _ e)
  have fr4 : ∀ b ∈ fp, upd H2 s2.heap.objs.size (.lst []) b = none := fun b hb => by
    obtain ⟨o, e⟩ := hfo b hb
    rw [upd_ne (Nat.ne_of_lt (Heap.lt_size e))]
    exact (f2 b hb).1
  have loop : codeAny (model X.prog X.w) X.A (.compLoop (.ListComp elt [⟨t1, i1, [], 0⟩, ⟨t2, i2, [], 0⟩] sc pos) 0 (.ref it) (.ref s2.heap.objs.size) (compEnvC sc cl (s2.heap.push lob).objs.size X.env))
      (RR (.ref s2.heap.objs.size) (s2.heap.push lob).objs.size) { s2 with heap := h4, toks := s2.toks + ([] : List (Str × Value)).length } := by
    refine compLoop_two0 (fun n s' => ∃ i τ H', Inv Y [] τ H' s' ∧ tn i s'.heap ∧ (∀ b ∈ fp, H' b = none) ∧ W i n τ H') (hs2 _) ?_ m0 ⟨0, _, _, I4, st4, fr4, w0⟩
    rintro n s3 ⟨i, τ3, H3, I3, st3, fr3, w3⟩
    rcases turn i n τ3 H3 w3 with ⟨stop, qn⟩ | ⟨go, N, hN, step⟩
    · have h := T.done Y pY wY KY cY i [] s3 τ3 H3 NoE I3 (stat fr3) st3 stop
      rw [AY] at h
      refine thn h ?_
      rintro r s4 ⟨hr, I4'⟩
      subst hr
      have J4 := I4'
      rw [← hY] at J4
      obtain ⟨b1, b2⟩ := comp_back I f2 hob J4
      exact hRR _ _ _ _ b1 qn b2
    · have h := T.item Y pY wY KY cY i [] s3 τ3 H3 NoE I3 (stat fr3) st3 go
      rw [AY] at h
      refine thn h ?_
      rintro r s4 ⟨u, hr, h4'⟩
      subst hr
      refine thn h4' ?_
      rintro _ s5 ⟨x, H5, I5, r5, y5, st5, fr5⟩
      have I5' := I5.pinned (stat fr5) (T.obj _ _ st5)
      have g5 := hgY _ s5 τ3 H5 x u _ I5' r5 (step x H5 y5)
      rw [pY, wY, AY, xY, eY] at g5
      refine thn g5 ?_
      rintro _ s6 ⟨τ6, H6, I6, q6⟩
      have t6 := hiY _ s6 τ6 H6 _ I6 q6
      rw [pY, wY, AY, xY, eY] at t6
      refine thn t6 fun v7 s7 h7 => thn h7 fun itv s8 h8 => ?_
      have c8 := comp_inner (t1 := t1) (i1 := i1) (i2 := i2) (sc := sc) (pos := pos) cY xY hg2Y heY h8 (R := fun r s5' => r = .ok .next ∧ ∃ m, m < n ∧ ∃ i τ H', Inv Y [] τ H' s5' ∧ tn i s5'.heap ∧ (∀ b ∈ fp, H' b = none) ∧ W i m τ H') (fun τ8 H8 s9 I8 n8 => by
        obtain ⟨m', hm, w8⟩ := hN τ8 H8 n8
        refine ⟨rfl, m', hm, i + 1, τ8, H8, I8.unpinned, T.keep _ _ _ st5 fun b hb o e => (I8.pin (b, o) (List.mem_append_right _ (List.mem_append_right _ (mem_pinsAt hb e)))).1, fun b hb => ?_, w8⟩
        obtain ⟨o, e, d⟩ := T.obj _ _ st5 b hb
        exact (I8.pin (b, o) (List.mem_append_right _ (List.mem_append_right _ (mem_pinsAt hb e)))).2.1)
      rw [pY, wY, AY, eY] at c8
      exact c8
  exact codeAny_compStart_list loop (T.self _ 0 _ _ _ st4 loop)
theorem pe_lc2 (S : CScope X.env.scope X.N sc own idx N') (hc : X.calm = true) (hi : PI X t1 i1 wi)
    (hg : ∀ cl C s3 H0 fp pn, PG (cxComp X N' sc cl C s3 H0 fp pn) t1 g) (hi2 : ∀ cl C s3 H0 fp pn, PI (cxComp X N' sc cl C s3 H0 fp pn) t2 i2 wi2) (hg2 : ∀ cl C s3 H0 fp pn, PG (cxComp X N' sc cl C s3 H0 fp pn) t2 g2) (he : ∀ cl C s3 H0 fp pn, PE (cxComp X N' sc cl C s3 H0 fp pn) elt te)
    (hs2 : ∀ env x, foldedSetIterable i2 env x = pure x := by intro _ _; rfl) (hs : ∀ x, foldedSetIterable i1 X.env x = pure x := by intro _; rfl) : PE X (.ListComp elt [⟨t1, i1, [], 0⟩, ⟨t2, i2, [], 0⟩] sc pos) (tLC2 own idx wi g wi2 g2 te) := by
  intro pins s σ H Q I h
  obtain ⟨cl, hcl, c1, c2⟩ := S.closure I.ok
  rw [eval_ListComp]
  refine wpAny_comprehension_free (use := none) rfl hs hcl S.kind S.names (thn (hi pins s σ H _ I h) fun v s1 h1 => thn h1 fun itv s2 h2 => ?_)
  refine comp_block2 (Q := Q) (pins := pins) (σ := σ) (RR := fun acc C => compPost (model X.prog X.w) X.A X.xe none (EP X pins σ Q) acc C) S c1 c2 hc hg hi2 hg2 he hs2 h2 ?_
  intro D C H' s' I' q ⟨a1, a2, a3, a4, a5, m, a6⟩
  exact ⟨m, a6, fun h' sb => ⟨.ref D, H', I'.turned (t' := s'.toks) (fun b o hb e => (sb.2 b hb).trans e) a1 (Ne.symm (Ne.symm a2)) (.inr a3) a4 a5, rfl, q⟩⟩
end
section
variable {prog : Program} {w : World} {A : Around} {E : Value → Shared → Prop} {s : Shared}
end
section
variable {X : Cx} {e st : Expr} {te ts : TE} {p2 pos : Pos}
theorem z_lc2 {t1 i1 t2 i2 elt : Expr} {sc : Scope} {own : List Str} {idx : List Nat} {N' : List Str} {wi wi2 : TI} {g g2 : TG} {te : TE} (S : CScope X.env.scope X.N sc own idx N') (hc : X.calm = true) (hi : SI X t1 i1 wi)
    (hg : ∀ cl C s3 H0 fp pn, SG (cxComp X N' sc cl C s3 H0 fp pn) t1 g) (hi2 : ∀ cl C s3 H0 fp pn, SI (cxComp X N' sc cl C s3 H0 fp pn) t2 i2 wi2) (hg2 : ∀ cl C s3 H0 fp pn, SG (cxComp X N' sc cl C s3 H0 fp pn) t2 g2) (he : ∀ cl C s3 H0 fp pn, SE (cxComp X N' sc cl C s3 H0 fp pn) elt te)
    (hs2 : ∀ env x, foldedSetIterable i2 env x = pure x := by intro _ _; rfl) (hs : ∀ x, foldedSetIterable i1 X.env x = pure x := by intro _; rfl) : SE X (.ListComp elt [⟨t1, i1, [], 0⟩, ⟨t2, i2, [], 0⟩] sc pos) (tLC2 own idx wi g wi2 g2 te) :=
  ⟨pe_lc2 S hc hi.h (fun q r s t u v => (hg q r s t u v).h) (fun q r s t u v => (hi2 q r s t u v).h) (fun q r s t u v => (hg2 q r s t u v).h) (fun q r s t u v => (he q r s t u v).h) hs2 hs⟩
end
inductive Hd where
  | one (s : Str)
  | as (y : Str)
  | way (x y : Str)
  | prs (s : Str) (ps : List (Str × Str))
section
variable {H : Hp} {ns : List Str} {b : Addr} {v : V} {P : Option Str → Prop}
end
theorem in2_by {J : It} {ok : Hp → Prop} {n : Nat} {item : Nat → V} {g2 : TG} {te : TE} {τ0 : St} {H0 : Hp} {D : Addr} {N : St → Hp → Prop} (hJ : ItN J ok n item) (Pv : Nat → St → Hp → Prop) (h0 : Pv 0 τ0 H0) (hok : ∀ i τ H, i ≤ n → Pv i τ H → ok H)
    (hs : ∀ i τ H, i < n → Pv i τ H → g2 (item i) τ H fun τ4 H6 => te τ4 H6 fun z H7 => ∃ xs, H7 D = some (.lst xs) ∧ xs.length < sizeLine ∧ Pv (i + 1) τ4 (upd H7 D (.lst (xs ++ [z]))))
    (hd : ∀ τ H, Pv n τ H → N τ H) : In2 g2 te D N τ0 J H0 := by
  refine ⟨fun i m τ H => m = n - i ∧ i ≤ n ∧ Pv i τ H, ⟨n, by simp, Nat.zero_le _, h0⟩, ?_⟩
  rintro i m τ H ⟨rfl, hi, p⟩
  obtain ⟨k1, k2⟩ := hJ H (hok i τ H hi p)
  by_cases hlt : i < n
  · refine .inr ⟨(k1 i hlt).1, Pv (i + 1), fun σ' H' p' => ⟨n - (i + 1), by omega, rfl, hlt, p'⟩, fun x H' y => ?_⟩
    obtain ⟨rfl, rfl⟩ := (k1 i hlt).2 x H' y
    exact hs i τ _ hlt p
  · have e : i = n := by omega
    subst e
    exact .inl ⟨k2, hd τ H p⟩
theorem lc2_by {J : It} {ok : Hp → Prop} {n : Nat} {item : Nat → V} {g : TG} {wi2 : TI} {g2 : TG} {te : TE} {τ0 : St} {H0 : Hp} {D : Addr} {Q : Hp → Prop} (hJ : ItN J ok n item) (Pv : Nat → St → Hp → Prop) (h0 : Pv 0 τ0 H0)
    (hok : ∀ i τ H, i ≤ n → Pv i τ H → ok H)
    (hs : ∀ i τ H, i < n → Pv i τ H → g (item i) τ H fun τ2 H2 => wi2 τ2 H2 (In2 g2 te D (Pv (i + 1)) τ2))
    (hd : ∀ τ H, Pv n τ H → Q H) : ∃ W : Nat → Nat → St → Hp → Prop, (∃ m, W 0 m τ0 H0) ∧ ∀ i m τ H, W i m τ H →
      (J.stop i H ∧ Q H) ∨ (J.go i H ∧ ∃ N : St → Hp → Prop, (∀ τ' H', N τ' H' → ∃ m', m' < m ∧ W (i + 1) m' τ' H') ∧ ∀ x H', J.yld i H x H' → g x τ H' fun τ2 H2 => wi2 τ2 H2 (In2 g2 te D N τ2)) := by
  refine ⟨fun i m τ H => m = n - i ∧ i ≤ n ∧ Pv i τ H, ⟨n, by simp, Nat.zero_le _, h0⟩, ?_⟩
  rintro i m τ H ⟨rfl, hi, p⟩
  obtain ⟨k1, k2⟩ := hJ H (hok i τ H hi p)
  by_cases hlt : i < n
  · refine .inr ⟨(k1 i hlt).1, Pv (i + 1), fun σ' H' p' => ⟨n - (i + 1), by omega, rfl, hlt, p'⟩, fun x H' y => ?_⟩
    obtain ⟨rfl, rfl⟩ := (k1 i hlt).2 x H' y
    exact hs i τ _ hlt p
  · have e : i = n := by omega
    subst e
    exact .inl ⟨k2, hd τ H p⟩
def Hd.pre : Hd → List Str
  | .one s => [s]
  | .as _ => []
  | .way _ _ => ["way"]
  | .prs s _ => [s]
theorem inAbc_mem (c : Nat) : inAbc c = decide (c ∈ ABC.cps.toList) := StrLaws.found_one ABC c
theorem takeW_all {α : Type} (p : α → Bool) : ∀ l : List α, ((l.takeWhile p).length = l.length ↔ l.all p = true)
  | [] => by simp
  | a :: l => by
    have ih := takeW_all p l
    rw [List.takeWhile_cons, List.all_cons]
    cases h : p a with
    | false => simp
    | true => simp only [if_true, List.length_cons, Nat.add_right_cancel_iff, Bool.true_and]; exact ih
theorem goes_abc (c : Nat) : ABC.cps.contains c = inAbc c := by
  rw [inAbc_mem, Bool.eq_iff_iff, Array.contains_iff_mem, decide_eq_true_eq, Array.mem_toList_iff]
theorem strip_abc (z : Str) : (Txt.stripChars z ABC == "") = z.cps.toList.all inAbc := by
  have hz : z.cps.toList.length = z.length := by simp [Str.length]
  have e0 : Txt.stripChars z ABC = Builtin.Str.strSub z (stripLo ABC.cps.contains true z) (stripHi ABC.cps.contains true z (stripLo ABC.cps.contains true z)) := PyProof.Rows.stripBy_eq _ _ _ _
  obtain ⟨l1, l2, l3⟩ := PyProof.Rows.lo_facts ABC.cps.contains z
  obtain ⟨h1, h2, h3, h4⟩ := PyProof.Rows.hi_facts ABC.cps.contains z _ l1
  have hlo : stripLo ABC.cps.contains true z = (z.cps.toList.takeWhile ABC.cps.contains).length := by simp [stripLo]
  have hall : (stripLo ABC.cps.contains true z = z.length ↔ z.cps.toList.all inAbc = true) := by
    rw [hlo, ← hz, takeW_all]
    have : (fun c => ABC.cps.contains c) = inAbc := funext goes_abc
    show z.cps.toList.all (fun c => ABC.cps.contains c) = true ↔ _
    rw [this]
  have hl : (Builtin.Str.strSub z (stripLo ABC.cps.contains true z) (stripHi ABC.cps.contains true z (stripLo ABC.cps.contains true z))).cps.toList.length = stripHi ABC.cps.contains true z (stripLo ABC.cps.contains true z) - stripLo ABC.cps.contains true z := by
    rw [StrLaws.strSub_toList, List.length_take, List.length_drop, hz]; omega
  rw [e0]
  generalize stripLo ABC.cps.contains true z = lo at *
  generalize stripHi ABC.cps.contains true z lo = hi at *
  cases ha : z.cps.toList.all inAbc with
  | true =>
    have : lo = z.length := hall.mpr ha
    have e : (Builtin.Str.strSub z lo hi).cps.toList = [] := List.length_eq_zero_iff.mp (by omega)
    rw [beq_iff_eq]
    exact toList_inj e
  | false =>
    have : lo ≠ z.length := fun e => by rw [hall.mp e] at ha; cases ha
    have hlt : lo < hi := by
      refine Nat.lt_of_not_le fun hle => ?_
      have g1 := h3 lo (by omega) (by omega)
      rcases l3 with h | h
      · exact this h
      · rw [g1] at h; cases h
    refine beq_eq_false_iff_ne.mpr fun e => ?_
    rw [e] at hl
    have : (("" : Str).cps.toList.length) = 0 := rfl
    omega
section
variable {X : Cx}
def rStrip : V → List V → Hp → VK → Prop := fun x vs H Q => match x, vs with
  | .str z, [.str y] => z.length ≤ 1000000 ∧ Q (.str (Txt.stripChars z y)) H
  | _, _ => False
theorem mt_strip : MtM X "str.strip" rStrip := by
  intro pins s σ H x vs v us Q I rx rv h
  unfold rStrip at h
  split at h
  · next z y =>
    obtain ⟨hz, q⟩ := h
    obtain ⟨t, rfl⟩ := (show ∃ t, v = Value.str z t from rx)
    obtain ⟨u, rfl, ru⟩ := rv.one
    obtain ⟨t', rfl⟩ := (show ∃ t, u = Value.str y t from ru)
    have hsz : sizeLine = 16777216 := sizeLine_eq
    exact SC.stripChars (fun t' k => ⟨.str _, H, I.kept (t' := k) (fun b o e => e), ⟨_, rfl⟩, q⟩) (by omega)
  · exact h.elim
def rLeS : R2 := fun x y H Q => ∃ a b : Str, x = .str a ∧ y = .str b ∧ Q (.bl (!strLt b a)) H
theorem op_leS : OpR X (compareOp .LtE) rLeS := by
  intro pins s σ H x y v u Q I rx ry h
  obtain ⟨a, b, rfl, rfl, q⟩ := h
  obtain ⟨t, rfl⟩ := (show ∃ t, v = Value.str a t from rx)
  obtain ⟨t', rfl⟩ := (show ∃ t, u = Value.str b t from ry)
  exact PySem.P.le_str (fin_bl I q (by simp [strLt]))
end
inductive DA (P : Addr → Prop) (H : Hp) : Bool → V → PyData → Dt → Prop
  | str {m : Bool} {z : Str} (h : z.length ≤ 100000) : DA P H m (.str z) (.str z) (.str z)
  | non {m : Bool} : DA P H m .non .none .oth
  | bl {m : Bool} (b : Bool) : DA P H m (.bl b) (.bool b) .oth
  | int {m : Bool} (i : Int) : DA P H m (.int i) (.int i) .oth
  | tup {m : Bool} {a : Addr} {xs : List V} {ps : List PyData} {ds : List Dt} : P a → H a = some (.tup xs) → xs.length = ps.length → xs.length = ds.length → xs.length ≤ 1000 → (∀ i (h : i < xs.length) (h' : i < ps.length) (h'' : i < ds.length), DA P H m xs[i] ps[i] ds[i]) → DA P H m (.ref a) (.tuple ps) (.tup ds)
  | lst {a : Addr} {xs : List V} {ps : List PyData} {ds : List Dt} : P a → H a = some (.lst xs) → xs.length = ps.length → xs.length = ds.length → (∀ i (h : i < xs.length) (h' : i < ps.length) (h'' : i < ds.length), DA P H true xs[i] ps[i] ds[i]) → DA P H true (.ref a) (.list ps) .oth
  | dc0 {a : Addr} : P a → H a = some (.dK []) → DA P H false (.ref a) (.dict []) .oth
  | dc1 {a : Addr} {z : Str} {x : V} {p : PyData} {d : Dt} : P a → H a = some (.dK [(.inr z, x)]) → DA P H false x p d → DA P H false (.ref a) (.dict [(.str z, p)]) .oth
theorem DA.keep {P : Addr → Prop} {H H' : Hp} (s : ∀ a u, P a → H a = some u → H' a = some u) {m : Bool} {v : V} {p : PyData} {d : Dt} (h : DA P H m v p d) : DA P H' m v p d := by
  induction h with
  | str h => exact .str h
  | non => exact .non
  | bl b => exact .bl b
  | int i => exact .int i
  | tup q e h1 h2 h3 _ ih => exact .tup q (s _ _ q e) h1 h2 h3 ih
  | lst q e h1 h2 _ ih => exact .lst q (s _ _ q e) h1 h2 ih
  | dc0 q e => exact .dc0 q (s _ _ q e)
  | dc1 q e _ ih => exact .dc1 q (s _ _ q e) ih
theorem DA.same {P : Addr → Prop} {H H' : Hp} (s : Same H H') {m : Bool} {v : V} {p : PyData} {d : Dt} (h : DA P H m v p d) : DA P H' m v p d := h.keep fun a u _ e => s _ _ e
theorem DA.dd {P : Addr → Prop} {H : Hp} {m : Bool} {v : V} {p : PyData} {d : Dt} (h : DA P H m v p d) : DD H v d := by
  induction h with
  | str h => exact .str h
  | non => exact .non
  | bl b => exact .bl b
  | int i => exact .int i
  | tup _ e h1 h2 h3 _ ih => exact .tup e h2 h3 fun i a b => ih i a (by omega) b
  | lst _ e h1 h2 _ ih => exact .lst e
  | dc0 _ e => exact .dct e
  | dc1 _ e _ ih => exact .dct e
theorem reads_all {h : Heap} {m : Bool} : ∀ {xs : List V} {us : List Value} {ps : List PyData}, Vals xs us → xs.length = ps.length → (∀ i (a : i < xs.length) (b : i < ps.length) (u : Value), RelV xs[i] u → ∃ as, Reads h u ps[i] as ∧ (m = true → ps[i].hasDict = false) ∧ (m = false → sysModules ∉ as)) → ∃ as, ReadsAll h us ps as ∧ (m = true → PyData.hasDictAll ps = false) ∧ (m = false → sysModules ∉ as)
  | [], _, [], .nil, _, _ => ⟨[], .nil, (fun _ => by simp [PyData.hasDictAll]), (fun _ => by simp)⟩
  | x :: xs, _, p :: ps, .cons r rs, hl, q => by
    obtain ⟨as, ra, a1, a2⟩ := q 0 (by simp) (by simp) _ r
    obtain ⟨bs, rb, b1, b2⟩ := reads_all rs (by simpa using hl) fun i a b u ru => q (i + 1) (by simpa using a) (by simpa using b) u ru
    refine ⟨as ++ bs, .cons ra rb, fun hm => ?_, fun hm => ?_⟩
    · have h1 : p.hasDict = false := a1 hm
      simp [PyData.hasDictAll, h1, b1 hm]
    · rw [List.mem_append]
      exact fun z => z.elim (a2 hm) (b2 hm)
theorem DA.reads {PP : Addr → Prop} {P : Program} {w : World} {H : Hp} {h : Heap} (ok : HOk P w H h) {m : Bool} {v : V} {p : PyData} {d : Dt} (q : DA PP H m v p d) : ∀ u, RelV v u → ∃ as, Reads h u p as ∧ (m = true → p.hasDict = false) ∧ (m = false → sysModules ∉ as) := by
  induction q with
  | @str m z _ => intro u r; obtain ⟨t, rfl⟩ := (show ∃ t, u = Value.str z t from r); exact ⟨[], .str z t, (fun _ => by simp [PyData.hasDict]), (fun _ => by simp)⟩
  | non => intro u r; cases (show u = Value.none from r); exact ⟨[], .none, (fun _ => by simp [PyData.hasDict]), (fun _ => by simp)⟩
  | bl b => intro u r; cases (show u = Value.bool b from r); exact ⟨[], .bool b, (fun _ => by simp [PyData.hasDict]), (fun _ => by simp)⟩
  | int i => intro u r; obtain ⟨t, rfl⟩ := (show ∃ t, u = Value.int i t from r); exact ⟨[], .int i t, (fun _ => by simp [PyData.hasDict]), (fun _ => by simp)⟩
  | @tup m a xs ps ds _ e h1 h2 h3 _ ih =>
    intro u r
    cases (show u = Value.ref a from r)
    obtain ⟨_, its, rv, o, ho, hc, n, hd⟩ := (show ObjOk P w H h a (.tup xs) from ok a _ e)
    obtain ⟨as, ra, a1, a2⟩ := reads_all (m := m) rv h1 fun i x y u ru => ih i x y (by omega) u ru
    exact ⟨as, .tuple ho hc hd (by simpa using ra), (fun hm => by simp [PyData.hasDict, a1 hm]), a2⟩
  | @lst a xs ps ds _ e h1 h2 _ ih =>
    intro u r
    cases (show u = Value.ref a from r)
    obtain ⟨_, its, n, rv, ho⟩ := (show ObjOk P w H h a (.lst xs) from ok a _ e)
    obtain ⟨as, ra, a1, a2⟩ := reads_all (m := true) rv h1 fun i x y u ru => ih i x y (by omega) u ru
    exact ⟨a :: as, .list ho rfl rfl (by simpa using ra), (fun hm => by simp [PyData.hasDict, a1 hm]), (fun hm => by cases hm)⟩
  | @dc0 a _ e =>
    intro u r
    cases (show u = Value.ref a from r)
    obtain ⟨_, hd, vs, rel, o, es, ep, ho, hx, hdat, hk, hp⟩ := dk_of ok e
    cases rel
    obtain ⟨q1, _⟩ := hp
    have e0 : es.toList = [] := by cases hq : es.toList with
      | nil => rfl
      | cons x l => rw [hq] at q1; cases q1
    have r0 : Reads h (.ref a) (.dict ([] : List (PyData × PyData))) (a :: [] ++ []) := .dict ho hx.1 hdat (by rw [e0]; exact .nil) (by rw [e0]; exact .nil)
    exact ⟨_, r0, (fun hm => by cases hm), fun _ => by simpa using (Ne.symm (by simpa using hd) : sysModules ≠ a)⟩
  | @dc1 a z x p d _ e _ ih =>
    intro u r
    cases (show u = Value.ref a from r)
    obtain ⟨_, hd, vs, rel, o, es, ep, ho, hx, hdat, hk, hp⟩ := dk_of ok e
    obtain ⟨q1, _⟩ := hp
    cases rel with
    | @cons _ kv _ _ r1 r2 =>
      cases r2
      obtain ⟨k1, rv⟩ := r1
      generalize hes : es.toList = l at q1
      cases q1 with
      | @cons en kv l l' qk qv rest =>
        cases rest
        obtain ⟨as, ra, _, a2⟩ := ih _ rv
        have hkey : (mixKind P w).is (.inr z) en.key = true := by
          have : kv.1 = .inr z := k1.symm
          rw [← this]; exact qk
        obtain ⟨t, et⟩ := (show ∃ t, en.key = Value.str z t from relV_key (k := .inr z) hkey)
        have r0 : Reads h (.ref a) (.dict [(.str z, p)]) (a :: ([] ++ []) ++ (as ++ [])) := .dict ho hx.1 hdat (by rw [hes]; show ReadsAll h [en.key] [.str z] _; rw [et]; exact .cons (.str z t) .nil) (by rw [hes]; show ReadsAll h [en.val] [p] _; rw [qv]; exact .cons ra .nil)
        refine ⟨_, r0, (fun hm => by cases hm), fun _ hm => ?_⟩
        simp only [List.append_nil, List.mem_cons, List.cons_append, List.nil_append] at hm
        rcases hm with hm | hm
        · exact (by simpa using hd : a ≠ sysModules) hm.symm
        · exact a2 rfl hm
section
variable {P P' : Addr → Prop} {H H' : Hp} {m : Bool} {v : V} {k n k' n' : Nat} {a : Addr} {xs : List V}
end
section
variable {X : Cx}
def rReprM : List V → Hp → VK → Prop := fun xs H Q => ∃ (PP : Addr → Prop) (m : Bool) (v : V) (p : PyData) (d : Dt), xs = [v] ∧ DA PP H m v p d ∧ p.showable = true ∧ p.shown.length ≤ sizeLine ∧ p.depth ≤ 60 ∧ Q (.str p.shown) H
theorem call_reprM (hg : X.A.guards = some []) (hu : X.A.units + 64 < cLine) : CallR X (.builtin "repr") rReprM := by
  intro pins s σ H xs us Q I r h
  obtain ⟨PP, m, v, p, d, rfl, hd, h1, h3, h4, q⟩ := h
  obtain ⟨u, rfl, ru⟩ := r.one
  obtain ⟨as, ra, a1, a2⟩ := hd.reads I.hok u ru
  have hsm : p.hasDict = true → sysModules ∉ as := fun hx => by
    cases m with
    | true => rw [a1 rfl] at hx; cases hx
    | false => exact a2 rfl
  have fin : ∀ (h' : Heap) (u : Tok) (tk : Nat), (∀ b o, s.heap.get? b = some o → h'.get? b = some o) → EP X pins σ Q (.str p.shown u) { s with heap := h', toks := tk } := fun h' u tk hk => ⟨.str p.shown, H, I.kept (t' := tk) hk, ⟨u, rfl⟩, q⟩
  cases ra with
  | none => exact PySem.P.repr_of_none (by simpa only [PyData.shown] using fin s.heap _ _ fun _ _ e => e)
  | bool b => exact PySem.P.repr_of_bool (by simpa only [PyData.shown] using fin s.heap _ _ fun _ _ e => e)
  | int i t => exact PySem.P.repr_of_int (by simpa [PyData.showable] using h1) (by simpa only [PyData.shown] using fin s.heap _ _ fun _ _ e => e)
  | str x t => exact PySem.P.repr_of_str (by simpa only [PyData.shown] using fin s.heap _ _ fun _ _ e => e) (by simpa only [PyData.shown] using h3)
  | list e1 e2 e3 e4 => exact repr_of_reads' (.list e1 e2 e3 e4) h1 hsm hg (by omega) (fun _ _ e => e) fin h3
  | tuple e1 e2 e3 e4 => exact repr_of_reads' (.tuple e1 e2 e3 e4) h1 hsm hg (by omega) (fun _ _ e => e) fin h3
  | dict e1 e2 e3 e4 e5 => exact repr_of_reads' (.dict e1 e2 e3 e4 e5) h1 hsm hg (by omega) (fun _ _ e => e) fin h3
end
section
variable {P : Addr → Prop} {m : Bool} {σ : St} {H0 : Hp} {te : TE} {ta : TA} {k c : Nat}
end
theorem DA.of {P : Addr → Prop} {H : Hp} {m : Bool} {v : V} {d : Dt} (hP : ∀ a xs, H a = some (.tup xs) → P a) (h : TX H v d) : ∀ {p : PyData}, TDen H v p → DA P H m v p d := by
  induction h with
  | str h => intro p q; cases q; exact .str h
  | tup e hl hn _ ih =>
    intro p q
    cases q with
    | tup e' hl' q' =>
      rw [e] at e'
      cases e'
      exact .tup (hP _ _ e) e hl' hl hn fun i a b c => ih i a c (q' i a b)
section
variable {X : Cx} {pos : Pos}
end
section
variable {P : Program} {w : World} {A : Around} {E : Value → Shared → Prop} {s : Shared}
end
section
variable {P : Program} {w : World} {A : Around} {E : Value → Shared → Prop} {s : Shared}
end
section
variable {X : Cx}
end
section
variable {X : Cx} {pins : List (Addr × Obj)} {σ : St} {H : Hp} {s : Shared}
end
section
variable {X : Cx} {tg a b c : Expr} {ta : TA} {p pos : Pos}
end
section
variable {H : Hp} {ns ws : List Str} {b : Addr} {v : V} {P : Option Str → Prop}
end
section
variable {H H' : Hp} {a : Addr} {xs : List V} {rows : List Rw2} {ns ws : List Str}
end
section
variable {H H' : Hp} {a b : Addr} {xs ys : List V} {rows rows2 : List Rw2} {ns ws ws' : List Str} {f g : Str → Str}
end
section
variable {X : Cx} {tg iter kx vx : Expr} {ifs : List Expr} {sc : Scope} {pos : Pos} {own : List Str} {idx : List Nat} {N' : List Str} {wi : TI} {g : TG} {tc : TC} {tk tw : TE}
end
section
variable {X : Cx} {e o value : Expr} {es : List Expr} {te ta tv : TE} {t : TA} {f x : Str} {pos pos' p : Pos} {C : Addr} {k : Nat} {ps : List Str} {sp : Sp}
end
section
variable {X : Cx}
end
section
variable {X : Cx} {elts : List Expr} {k : Nat} {tpos apos cpos : Pos} {o : Expr} {to : TE}
end
end L2
set_option maxRecDepth 100000
namespace PySem
end PySem
namespace L2
open PySem PySem.Spec PyProof.Rows
section
variable {X : Cx}
end
end L2
set_option maxRecDepth 100000
namespace L2
open PySem PySem.Spec PyProof.Rows
section
variable {X : Cx} {pins : List (Addr × Obj)} {σ : St} {H : Hp} {s : Shared}
end
section
variable {X : Cx} {o e : Expr} {es : List Expr} {apos cpos : Pos} {to : TE} {t : TA}
end
end L2
set_option maxRecDepth 100000
namespace L2
open PySem PySem.Spec PyProof.Rows HT
section
variable {prog : Program} {w : World} {A : Around} {E : Value → Shared → Prop} {s : Shared}
end
section
variable {X : Cx}
end
end L2
set_option maxRecDepth 100000
namespace L2
open PySem PySem.Spec PyProof.Rows
def Sx (x : Addr) (H H' : Hp) : Prop := ∀ b o, b ≠ x → H b = some o → H' b = some o
theorem Sx.upd {x : Addr} {H : Hp} {o : HO} : Sx x H (upd H x o) := fun c u n h => by rw [upd_ne n]; exact h
section
variable {H : Hp} {a : Addr} {xs : List V} {rows : List Rw2} {ns ws : List Str}
end
section
variable {X : Cx}
def rCatA (K : PySem.W.Frag) : R2 := fun x y H Q => ∃ a b xs ys, x = .ref a ∧ y = .ref b ∧ SqT K H a xs ∧ SqT K H b ys ∧ xs.length + ys.length ≤ sizeLine ∧ (xs = [] → Q (.ref b) H) ∧
  (xs ≠ [] → ys = [] → Q (.ref a) H) ∧ (xs ≠ [] → ys ≠ [] → ∀ p, H p = none → Q (.ref p) (upd H p (.tup (xs ++ ys))))
theorem op_catA (K : PySem.W.Frag) (h : X.K = K := by rfl) : OpR X (binaryOp .Add) (rCatA K) := by
  subst h
  intro pins s σ H x y v u Q I rx ry h
  obtain ⟨a, b, xs, ys, rfl, rfl, ha, hb, hz, q0, q1, q2⟩ := h
  by_cases hx : xs = []
  · cases rx
    cases ry
    obtain ⟨its, r1, p1, _⟩ := I.tuple ha
    obtain ⟨its2, r2, p2, _⟩ := I.tuple hb
    have hi : its = [] := r1.nil_iff.mpr hx
    obtain ⟨⟨cls, dd, data, sl⟩, ho, hc, n, hd⟩ := id p1
    obtain ⟨⟨cls2, dd2, data2, sl2⟩, ho2, hc2, n2, hd2⟩ := id p2
    simp only at hc hd hc2 hd2
    subst hc hd hc2 hd2
    exact concat_meets ⟨_, ho, rfl⟩ ⟨_, ho2, rfl⟩ noFill_tuple_add seq_tuple_add PySem.F.slot_tuple_add PySem.F.entry_tuple_add (PySem.F.args_tuple_add_2 _ _)
      (tuple_addW0 a b its.toArray its2.toArray n n2 dd dd2 sl sl2 (by simp [hi])) ⟨ho, ho2, ⟨.ref b, H, I, rfl, q0 hx⟩⟩
  · exact op_catT pins s σ H _ _ v u Q I rx ry ⟨a, b, xs, ys, rfl, rfl, ha, hb, hx, hz, q1 hx, q2 hx⟩
end
theorem hu20_of {A : Around} {k : Nat} (hr : Room k A) : A.units + 20 < cLine := by have := hr.un; omega
section
variable {P : Program} {w : World} {A : Around} {E : Value → Shared → Prop} {s : Shared} {it d : Addr} {i n ep : Nat} {od : Obj} {es : Array DictEntry} {ok ov : Value} {Q : Option Value → Shared → Prop}
end
section
variable {X : Cx} {elts : List Expr} {k : Nat} {tpos apos cpos : Pos} {o : Expr} {to : TE}
end
section
variable {X : Cx} {tg : Expr} {apos cpos : Pos} {o : Expr} {to : TE}
end
section
variable {X : Cx}
end
theorem Paired.at {α β : Type} {R : α → β → Prop} {xs : List α} {ys : List β} (h : Paired R xs ys) : ∀ i (h1 : i < xs.length) (h2 : i < ys.length), R xs[i] ys[i] := by
  induction h with
  | nil => intro i h1; exact absurd h1 (by simp)
  | cons a _ ih =>
    intro i h1 h2
    cases i with
    | zero => exact a
    | succ i => exact ih i (by simpa using h1) (by simpa using h2)
section
variable {prog : Program} {w : World} {A : Around} {R : Result → Shared → Prop} {s : Shared}
end
section
variable {X : Cx} {t1 i1 t2 i2 elt : Expr} {ifs : List Expr} {tc : TC} {sc : Scope} {pos : Pos} {own : List Str} {idx : List Nat} {N' : List Str} {wi wi2 : TI} {g g2 : TG} {te : TE}
end
section
variable {X : Cx} {tg e : Expr} {te : TE}
end
section
variable {P : Program} {w : World} {A : Around} {E : Value → Shared → Prop} {s : Shared} {it d : Addr} {i n ep : Nat} {od : Obj} {es : Array DictEntry} {Q : Option Value → Shared → Prop}
end
section
variable {X : Cx} {tg : Expr} {apos cpos : Pos} {o : Expr} {to : TE}
end
section
variable {P : Program} {w : World} {A : Around} {E : Value → Shared → Prop} {s : Shared}
end
section
variable {X : Cx} {tg a : Expr} {ta : TA} {p p2 pos pos2 : Pos}
end
section
variable {X : Cx}
end
section
variable {H : Hp} {a : Addr} {xs : List V} {rows : List Rw2} {ns ws : List Str}
end
section
variable {X : Cx} {pos : Pos}
theorem s_aug {i : Nat} {x : Str} {e : Expr} {te : TE} {op : Operator} {ti : TIp} {pos' : Pos} (hN : X.N.Nodup) (hi : X.N[i]? = some x) (hx : Loc X.env.scope x) (he : SE X e te) (ho : PIp X op ti) (hf : X.fn x = true ∨ X.env.scope.names.lookup x = some .local := by first | exact .inl rfl | exact .inr rfl | assumption) :
    SS X (.AugAssign (.Name x pos') op e pos) (tAug i te ti) := ⟨ps_aug hN hi hx he.h ho hf⟩
theorem z_bm0 (K : PySem.W.Frag) {o : Expr} {T : String} {name : Str} {id : String} {r : V → List V → Hp → VK → Prop} {to : TE} {apos cpos : Pos} (pa : PlainAttrs T) (slot : Slot T name id) (hty : typeOf (.builtin id) = pure (.type "method_descriptor")) (hm : MtM X id r) (ho : SE X o to) (h : X.K = K := by rfl)
    (hbase : attributeBase o name X.env (eval o X.env) = eval o X.env := by rfl) (hline : (apos.endLine == cpos.line) = true := by rfl) : SE X (.Call (.Attribute o name apos) [] [] cpos) (tBM0 K T r to) := by
  subst h; exact ⟨pe_bm0 pa slot hty hm ho.h hbase hline⟩
def tTru (K : PySem.W.Frag) (ta : TE) : TT := fun σ H Q => ta σ H fun x H' => ∃ k, TruV K x H' k ∧ Q k H'
theorem y_truth (K : PySem.W.Frag) {a : Expr} {ta : TE} (ha : SE X a ta) (h : X.K = K := by rfl) (he : ∀ whole, isTrue a X.env whole = (do let v ← whole; standAt a.pos; holding [v] (truthy v)) := by intro _; rfl) : ST X a (tTru K ta) := by
  subst h; exact ⟨pt_truth ha.h he⟩
end
open AutoSeq1 (wpAny_loadPart')
theorem dict_eq_declines_str (l : Addr) (dat : Data) (dd : Option Addr) (sl : Array (Option Value)) (b : Str) (u : Tok) :
    Meets (Builtin.«dict.__eq__» ⟨[.ref l, .str b u], []⟩) (fun _ R s => s.heap.get? l = some { cls := .type "dict", dict := dd, data := dat, slots := sl } ∧ R (.ok (.ret .notImplemented)) s) :=
  .of_wp fun prog w A R s h => by obtain ⟨hp, g, d, tk, os⟩ := s; obtain ⟨hl, h⟩ := h; have f1 := F.sub_str_dict; wp_walk using wpAny_loadPart' hl, wpAny_load hl; exact ⟨_, rfl, h⟩
theorem dict_eq_declines_tuple (l b : Addr) (dat : Data) (items2 : Array Value) (n2 : Nat) (dd dd2 : Option Addr) (sl sl2 : Array (Option Value)) :
    Meets (Builtin.«dict.__eq__» ⟨[.ref l, .ref b], []⟩) (fun _ R s => s.heap.get? l = some { cls := .type "dict", dict := dd, data := dat, slots := sl } ∧ s.heap.get? b = some { cls := .type "tuple", dict := dd2, data := .seq items2 n2, slots := sl2 } ∧ R (.ok (.ret .notImplemented)) s) :=
  .of_wp fun prog w A R s h => by obtain ⟨hp, g, d, tk, os⟩ := s; obtain ⟨hl, hb, h⟩ := h; have f1 := F.sub_tuple_dict; wp_walk using wpAny_loadPart' hl, wpAny_load hl, wpAny_loadPart' hb, wpAny_load hb; exact ⟨_, rfl, h⟩
theorem tuple_eq_declines_dict (l b : Addr) (dat : Data) (items2 : Array Value) (n2 : Nat) (dd dd2 : Option Addr) (sl sl2 : Array (Option Value)) :
    Meets (Builtin.«tuple.__eq__» ⟨[.ref b, .ref l], []⟩) (fun _ R s => s.heap.get? l = some { cls := .type "dict", dict := dd, data := dat, slots := sl } ∧ s.heap.get? b = some { cls := .type "tuple", dict := dd2, data := .seq items2 n2, slots := sl2 } ∧ R (.ok (.ret .notImplemented)) s) :=
  .of_wp fun prog w A R s h => by obtain ⟨hp, g, d, tk, os⟩ := s; obtain ⟨hl, hb, h⟩ := h; have f1 := F.sub_dict_tuple; wp_walk using wpAny_loadPart' hl, wpAny_load hl, wpAny_loadPart' hb, wpAny_load hb; exact ⟨_, rfl, h⟩
theorem str_eq_declines_dict (l : Addr) (es : Array DictEntry) (ep : Nat) (dd : Option Addr) (sl : Array (Option Value)) (b : Str) (u : Tok) :
    Meets (Builtin.«str.__eq__» ⟨[.str b u, .ref l], []⟩) (fun _ R s => s.heap.get? l = some { cls := .type "dict", dict := dd, data := .dict es ep, slots := sl } ∧ R (.ok (.ret .notImplemented)) s) :=
  .of_wp fun prog w A R s h => by obtain ⟨hp, g, d, tk, os⟩ := s; obtain ⟨hl, h⟩ := h; wp_walk using wpAny_loadPart' hl, wpAny_load hl; exact ⟨_, rfl, h⟩
section
variable {A : Around} {s : Shared}
theorem rc_dict_str {l : Addr} {o : Obj} {es : Array DictEntry} {ep : Nat} (b : Str) (u : Tok) (ho : s.heap.get? l = some o) (hc : o.cls = .type "dict") (hd : o.data = .dict es ep) (hu : A.units < cLine) : SeqAt.RcAt A s (.ref l) (.str b u) false := fun prog w E Q h => by
  obtain ⟨cls, dd, data, sl⟩ := o
  simp only at hc hd
  subst hc hd
  exact SeqAt.rc_eq_decline_or (k := false) ⟨_, ho, rfl⟩ (typeIs_str s b u) (by decide) F.sub_str_dict F.slot_dict_eq F.slot_str_eq_refl
    (fun _ hq => call_meets F.slot_dict_eq ⟨_, ho, rfl⟩ F.entry_dict_eq (F.args_dict_eq_2 _ _) (dict_eq_declines_str l (.dict es ep) dd sl b u) ⟨ho, hq⟩)
    (fun _ hq => call_meets F.slot_str_eq_refl (typeIs_str s b u) F.entry_str_eq (F.args_str_eq_2 _ _) (str_eq_declines_dict l es ep dd sl b u) ⟨ho, hq⟩)
    (fun _ hq => wpAny_of_eq (rfl : isSame (.ref l) (.str b u) = pure false) hq) (.inr hu) h
theorem eq_dict_str {l : Addr} {o : Obj} {es : Array DictEntry} {ep : Nat} (b : Str) (u : Tok) (ho : s.heap.get? l = some o) (hc : o.cls = .type "dict") (hd : o.data = .dict es ep) (hu : A.units < cLine) : SeqAt.EqAt A s (.ref l) (.str b u) false := fun prog w E Q h => by
  unfold eqBool
  refine wpAny_holding ?_
  refine wpAny_ite_split (fun hab => absurd (eq_of_beq hab) nofun) (fun _ => ?_)
  exact wpAny_bind (rc_dict_str b u ho hc hd hu prog w E _ (wpAny_truthy_bool h))
theorem rc_dict_tuple {l b : Addr} {o : Obj} {items2 : Array Value} (ho : s.heap.get? l = some o) (hc : o.cls = .type "dict") (hb : s.heap.IsTuple b items2) (hu : A.units < cLine) : l ≠ b ∧ SeqAt.RcAt A s (.ref l) (.ref b) false := by
  obtain ⟨cls, dd, data, sl⟩ := o
  obtain ⟨⟨cls2, dd2, data2, sl2⟩, ho2, hc2, n2, hd2⟩ := id hb
  simp only at hc hc2 hd2
  subst hc hc2 hd2
  have hne : l ≠ b := fun e => by
    subst e
    rw [ho] at ho2
    have := congrArg Obj.cls (Option.some.inj ho2)
    simp at this
  refine ⟨hne, fun prog w E Q h => ?_⟩
  exact (SeqAt.rc_eq_decline_or (k := false) ⟨_, ho, rfl⟩ ⟨_, ho2, rfl⟩ (by decide) F.sub_tuple_dict F.slot_dict_eq F.slot_tuple_eq_refl
    (fun _ hq => call_meets F.slot_dict_eq ⟨_, ho, rfl⟩ F.entry_dict_eq (F.args_dict_eq_2 _ _) (dict_eq_declines_tuple l b data items2 n2 dd dd2 sl sl2) ⟨ho, ho2, hq⟩)
    (fun _ hq => call_meets F.slot_tuple_eq_refl ⟨_, ho2, rfl⟩ F.entry_tuple_eq (F.args_tuple_eq_2 _ _) (tuple_eq_declines_dict l b data items2 n2 dd dd2 sl sl2) ⟨ho, ho2, hq⟩)
    (fun _ hq => wpAny_isSame_ref_other hne ho ho2 (by simp) hq) (.inr hu) h)
end
def Dt.isS (z : Str) : Dt → Bool
  | .str y => y == z
  | _ => false
section
variable {X : Cx} {pins : List (Addr × Obj)} {σ : St} {H : Hp} {s : Shared}
theorem DD.det {x : V} {d : Dt} (h : DD H x d) : ∀ {d'}, DD H x d' → d = d' := by
  induction h with
  | str _ => intro d' h'; cases h'; rfl
  | tup e hl hn _ ih =>
    intro d' h'
    cases h' with
    | tup e' hl' hn' hh' =>
      rw [e] at e'
      cases e'
      congr 1
      exact List.ext_getElem (by omega) fun i a b => ih i (by omega) (by omega) (hh' i (by omega) (by omega))
    | lst e' => rw [e] at e'; cases e'
    | dct e' => rw [e] at e'; cases e'
  | non => intro d' h'; cases h'; rfl
  | bl b => intro d' h'; cases h'; rfl
  | int i => intro d' h'; cases h'; rfl
  | lst e =>
    intro d' h'
    cases h' with
    | tup e' => rw [e] at e'; cases e'
    | lst e' => rfl
    | dct e' => rfl
  | dct e =>
    intro d' h'
    cases h' with
    | tup e' => rw [e] at e'; cases e'
    | lst e' => rfl
    | dct e' => rfl
def rUpper : V → List V → Hp → VK → Prop := fun x vs H Q => ∃ z, x = .str z ∧ vs = [] ∧ Wd z ∧ Wd (Txt.upper z) ∧ Q (.str (Txt.upper z)) H
theorem mt_upper : MtM X "str.upper" rUpper := by
  intro pins s σ H x vs v us Q I rx rv h
  obtain ⟨z, rfl, rfl, hz, hw, q⟩ := h
  obtain ⟨t, rfl⟩ := (show ∃ t, v = Value.str z t from rx)
  cases rv
  have hsz : sizeLine = 16777216 := sizeLine_eq
  have := hw.1
  exact SC.upper (by unfold Builtin.Str.tooLong; simp; omega) ⟨.str _, H, I.kept (t' := s.toks + 1) (fun b o e => e), ⟨_, rfl⟩, q⟩
end
theorem upper_wd {z : Str} (h : Wd z) : Wd (Txt.upper z) := by
  obtain ⟨h1, h2⟩ := h
  have gen : ∀ l : List Nat, (∀ c ∈ l, c < 128) → (Txt.upper ⟨l.toArray⟩).cps.toList.length = l.length ∧ ∀ c ∈ (Txt.upper ⟨l.toArray⟩).cps.toList, c < 128 := by
    intro l
    induction l with
    | nil => intro _; exact ⟨by rfl, fun c hc => by cases hc⟩
    | cons a l ih =>
      intro hl
      have ha := hl a (by simp)
      obtain ⟨i1, i2⟩ := ih fun c hc => hl c (List.mem_cons_of_mem _ hc)
      have e : (⟨(a :: l).toArray⟩ : Str) = (⟨#[a]⟩ : Str) ++ (⟨l.toArray⟩ : Str) := by
        apply PySem.Str.ext'
        rw [PySem.Str.cps_append]
        simp
      rw [e, PySem.W.KOpn.upper_app, PySem.W.KOpn.upper_one ha, PySem.Str.cps_append, Array.toList_append]
      refine ⟨by simp [i1], fun c hc => ?_⟩
      rcases List.mem_append.mp hc with hc | hc
      · have : c = (if 97 ≤ a ∧ a ≤ 122 then a - 32 else a) := by simpa using hc
        rw [this]
        split <;> omega
      · exact i2 c hc
  have e : z = ⟨z.cps.toList.toArray⟩ := by cases z; simp
  have := gen z.cps.toList h2
  rw [← e] at this
  refine ⟨?_, this.2⟩
  have hl : (Txt.upper z).length = z.length := by
    have q := this.1
    simp [Str.length] at q ⊢
    exact q
  omega
def twoD : Dt → Bool | .tup [_, _] => true | _ => false
theorem two_of {d : Dt} (h : twoD d = true) : ∃ a b, d = .tup [a, b] := by
  match d, h with
  | .tup [a, b], _ => exact ⟨a, b, rfl⟩
theorem DD.two {H : Hp} {v : V} {d : Dt} (h : DD H v d) (t : twoD d = true) : ∃ b x y dx dy, v = .ref b ∧ d = .tup [dx, dy] ∧ H b = some (.tup [x, y]) ∧ DD H x dx ∧ DD H y dy := by
  obtain ⟨dx, dy, rfl⟩ := two_of t
  cases h with
  | @tup b ys es e' hl' hn' hds' =>
    match ys, hl', e', hds' with
    | [y1, y2], hl', e', hds' => exact ⟨b, y1, y2, dx, dy, rfl, rfl, e', hds' 0 (by simp) (by simp), hds' 1 (by simp) (by simp)⟩
theorem DD.tup2 {H : Hp} {b : Addr} {x y : V} {dx dy : Dt} (e : H b = some (.tup [x, y])) (h1 : DD H x dx) (h2 : DD H y dy) : DD H (.ref b) (.tup [dx, dy]) := .tup e rfl (by simp) fun i a b => by
  match i, a with
  | 0, _ => exact h1
  | 1, _ => exact h2
theorem DD.tup1 {H : Hp} {b : Addr} {x : V} {dx : Dt} (e : H b = some (.tup [x])) (h1 : DD H x dx) : DD H (.ref b) (.tup [dx]) := .tup e rfl (by simp) fun i a b => by
  match i, a with
  | 0, _ => exact h1
section
variable {H H' : Hp} {a : Addr} {xs : List V} {rows : List Rw2} {ns ws : List Str}
end
end L2
set_option maxRecDepth 100000
namespace L2
open PySem PySem.Spec PyProof.Rows
open AutoSeq1 (wpAny_loadPart')
theorem dict_ne_no_str (l : Addr) (dat : Data) (dd : Option Addr) (sl : Array (Option Value)) (b : Str) (u : Tok) :
    Meets (Builtin.«dict.__ne__» ⟨[.ref l, .str b u], []⟩) (fun _ R s => s.heap.get? l = some { cls := .type "dict", dict := dd, data := dat, slots := sl } ∧ R (.ok (.ret .notImplemented)) s) :=
  .of_wp fun prog w A R s h => by obtain ⟨hp, g, d, tk, os⟩ := s; obtain ⟨hl, h⟩ := h; have f1 := F.sub_str_dict; wp_walk using wpAny_loadPart' hl, wpAny_load hl; exact ⟨_, rfl, h⟩
theorem dict_ne_no_tup (l b : Addr) (dat : Data) (items2 : Array Value) (n2 : Nat) (dd dd2 : Option Addr) (sl sl2 : Array (Option Value)) :
    Meets (Builtin.«dict.__ne__» ⟨[.ref l, .ref b], []⟩) (fun _ R s => s.heap.get? l = some { cls := .type "dict", dict := dd, data := dat, slots := sl } ∧ s.heap.get? b = some { cls := .type "tuple", dict := dd2, data := .seq items2 n2, slots := sl2 } ∧ R (.ok (.ret .notImplemented)) s) :=
  .of_wp fun prog w A R s h => by obtain ⟨hp, g, d, tk, os⟩ := s; obtain ⟨hl, hb, h⟩ := h; have f1 := F.sub_tuple_dict; wp_walk using wpAny_loadPart' hl, wpAny_load hl, wpAny_loadPart' hb, wpAny_load hb; exact ⟨_, rfl, h⟩
theorem tup_ne_no_dict (l b : Addr) (dat : Data) (items2 : Array Value) (n2 : Nat) (dd dd2 : Option Addr) (sl sl2 : Array (Option Value)) :
    Meets (Builtin.«tuple.__ne__» ⟨[.ref b, .ref l], []⟩) (fun _ R s => s.heap.get? l = some { cls := .type "dict", dict := dd, data := dat, slots := sl } ∧ s.heap.get? b = some { cls := .type "tuple", dict := dd2, data := .seq items2 n2, slots := sl2 } ∧ R (.ok (.ret .notImplemented)) s) :=
  .of_wp fun prog w A R s h => by obtain ⟨hp, g, d, tk, os⟩ := s; obtain ⟨hl, hb, h⟩ := h; have f1 := F.sub_dict_tuple; wp_walk using wpAny_loadPart' hl, wpAny_load hl, wpAny_loadPart' hb, wpAny_load hb; exact ⟨_, rfl, h⟩
theorem str_ne_no_dict (l : Addr) (es : Array DictEntry) (ep : Nat) (dd : Option Addr) (sl : Array (Option Value)) (b : Str) (u : Tok) :
    Meets (Builtin.«str.__ne__» ⟨[.str b u, .ref l], []⟩) (fun _ R s => s.heap.get? l = some { cls := .type "dict", dict := dd, data := .dict es ep, slots := sl } ∧ R (.ok (.ret .notImplemented)) s) :=
  .of_wp fun prog w A R s h => by obtain ⟨hp, g, d, tk, os⟩ := s; obtain ⟨hl, h⟩ := h; wp_walk using wpAny_loadPart' hl, wpAny_load hl; exact ⟨_, rfl, h⟩
section
variable {A : Around} {s : Shared} {l b : Addr} {o : Obj} {es : Array DictEntry} {ep : Nat} {items2 : Array Value}
theorem ne_dict_str (z : Str) (u : Tok) (ho : s.heap.get? l = some o) (hc : o.cls = .type "dict") (hd : o.data = .dict es ep) (hu : A.units < cLine) : SeqAt.RcNeAt A s (.ref l) (.str z u) true ∧ SeqAt.RcNeAt A s (.str z u) (.ref l) true ∧ SeqAt.EqAt A s (.str z u) (.ref l) false := by
  obtain ⟨cls, dd, data, sl⟩ := o
  simp only at hc hd
  subst hc hd
  refine ⟨fun prog w E Q h => ?_, fun prog w E Q h => ?_, fun prog w E Q h => ?_⟩
  · exact SeqAt.rc_ne_decline_or (k := false) ⟨_, ho, rfl⟩ (typeIs_str s z u) (by decide) F.sub_str_dict F.slot_dict_ne F.slot_str_ne_refl
      (fun _ hq => call_meets F.slot_dict_ne ⟨_, ho, rfl⟩ F.entry_dict_ne (F.args_dict_ne_2 _ _) (dict_ne_no_str l (.dict es ep) dd sl z u) ⟨ho, hq⟩)
      (fun _ hq => call_meets F.slot_str_ne_refl (typeIs_str s z u) F.entry_str_ne (F.args_str_ne_2 _ _) (str_ne_no_dict l es ep dd sl z u) ⟨ho, hq⟩)
      (fun _ hq => wpAny_of_eq (rfl : isSame (.ref l) (.str z u) = pure false) hq) (.inr hu) h
  · exact SeqAt.rc_ne_decline_or (k := false) (typeIs_str s z u) ⟨_, ho, rfl⟩ (by decide) F.sub_dict_str F.slot_str_ne F.slot_dict_ne_refl
      (fun _ hq => call_meets F.slot_str_ne (typeIs_str s z u) F.entry_str_ne (F.args_str_ne_2 _ _) (str_ne_no_dict l es ep dd sl z u) ⟨ho, hq⟩)
      (fun _ hq => call_meets F.slot_dict_ne_refl ⟨_, ho, rfl⟩ F.entry_dict_ne (F.args_dict_ne_2 _ _) (dict_ne_no_str l (.dict es ep) dd sl z u) ⟨ho, hq⟩)
      (fun _ hq => wpAny_of_eq (rfl : isSame (.str z u) (.ref l) = pure false) hq) (.inr hu) h
  · unfold eqBool
    refine wpAny_holding ?_
    refine wpAny_ite_split (fun hab => absurd (eq_of_beq hab) nofun) (fun _ => ?_)
    refine wpAny_bind (SeqAt.rc_eq_decline_or (k := false) (typeIs_str s z u) ⟨_, ho, rfl⟩ (by decide) F.sub_dict_str F.slot_str_eq F.slot_dict_eq_refl
      (fun _ hq => call_meets F.slot_str_eq (typeIs_str s z u) F.entry_str_eq (F.args_str_eq_2 _ _) (str_eq_declines_dict l es ep dd sl z u) ⟨ho, hq⟩)
      (fun _ hq => call_meets F.slot_dict_eq_refl ⟨_, ho, rfl⟩ F.entry_dict_eq (F.args_dict_eq_2 _ _) (dict_eq_declines_str l (.dict es ep) dd sl z u) ⟨ho, hq⟩)
      (fun _ hq => wpAny_of_eq (rfl : isSame (.str z u) (.ref l) = pure false) hq) (.inr hu) (wpAny_truthy_bool h))
theorem ne_dict_tup (ho : s.heap.get? l = some o) (hc : o.cls = .type "dict") (hb : s.heap.IsTuple b items2) (hu : A.units < cLine) : SeqAt.RcNeAt A s (.ref l) (.ref b) true ∧ SeqAt.RcNeAt A s (.ref b) (.ref l) true ∧ SeqAt.EqAt A s (.ref b) (.ref l) false := by
  obtain ⟨cls, dd, data, sl⟩ := o
  obtain ⟨⟨cls2, dd2, data2, sl2⟩, ho2, hc2, n2, hd2⟩ := id hb
  simp only at hc hc2 hd2
  subst hc hc2 hd2
  have hne : l ≠ b := fun e => by
    subst e
    rw [ho] at ho2
    have := congrArg Obj.cls (Option.some.inj ho2)
    simp at this
  refine ⟨fun prog w E Q h => ?_, fun prog w E Q h => ?_, SeqAt.EqAt.of_refs hne.symm fun prog w E Q h => ?_⟩
  · exact SeqAt.rc_ne_decline_or (k := false) ⟨_, ho, rfl⟩ ⟨_, ho2, rfl⟩ (by decide) F.sub_tuple_dict F.slot_dict_ne F.slot_tuple_ne_refl
      (fun _ hq => call_meets F.slot_dict_ne ⟨_, ho, rfl⟩ F.entry_dict_ne (F.args_dict_ne_2 _ _) (dict_ne_no_tup l b data items2 n2 dd dd2 sl sl2) ⟨ho, ho2, hq⟩)
      (fun _ hq => call_meets F.slot_tuple_ne_refl ⟨_, ho2, rfl⟩ F.entry_tuple_ne (F.args_tuple_ne_2 _ _) (tup_ne_no_dict l b data items2 n2 dd dd2 sl sl2) ⟨ho, ho2, hq⟩)
      (fun _ hq => wpAny_isSame_ref_other hne ho ho2 (by simp) hq) (.inr hu) h
  · exact SeqAt.rc_ne_decline_or (k := false) ⟨_, ho2, rfl⟩ ⟨_, ho, rfl⟩ (by decide) F.sub_dict_tuple F.slot_tuple_ne F.slot_dict_ne_refl
      (fun _ hq => call_meets F.slot_tuple_ne ⟨_, ho2, rfl⟩ F.entry_tuple_ne (F.args_tuple_ne_2 _ _) (tup_ne_no_dict l b data items2 n2 dd dd2 sl sl2) ⟨ho, ho2, hq⟩)
      (fun _ hq => call_meets F.slot_dict_ne_refl ⟨_, ho, rfl⟩ F.entry_dict_ne (F.args_dict_ne_2 _ _) (dict_ne_no_tup l b data items2 n2 dd dd2 sl sl2) ⟨ho, ho2, hq⟩)
      (fun _ hq => SeqAt.wpAny_isSame_ref_other' hne.symm ho2 ho (by simp) hq) (.inr hu) h
  · exact SeqAt.rc_eq_decline_or (k := false) ⟨_, ho2, rfl⟩ ⟨_, ho, rfl⟩ (by decide) F.sub_dict_tuple F.slot_tuple_eq F.slot_dict_eq_refl
      (fun _ hq => call_meets F.slot_tuple_eq ⟨_, ho2, rfl⟩ F.entry_tuple_eq (F.args_tuple_eq_2 _ _) (tuple_eq_declines_dict l b data items2 n2 dd dd2 sl sl2) ⟨ho, ho2, hq⟩)
      (fun _ hq => call_meets F.slot_dict_eq_refl ⟨_, ho, rfl⟩ F.entry_dict_eq (F.args_dict_eq_2 _ _) (dict_eq_declines_tuple l b data items2 n2 dd dd2 sl sl2) ⟨ho, ho2, hq⟩)
      (fun _ hq => SeqAt.wpAny_isSame_ref_other' hne.symm ho2 ho (by simp) hq) (.inr hu) h
end
mutual
def Dt.oc : Dt → Nat
  | .str _ => 0
  | .oth => 1
  | .tup ds => ocs ds
def ocs : List Dt → Nat
  | [] => 0
  | d :: r => d.oc + ocs r
end
mutual
def Dt.dep : Dt → Nat
  | .str _ => 0
  | .oth => 0
  | .tup ds => deps ds + 1
def deps : List Dt → Nat
  | [] => 0
  | d :: r => max d.dep (deps r)
end
theorem ocs_mem : ∀ {ds : List Dt} {d : Dt}, d ∈ ds → d.oc ≤ ocs ds
  | e :: r, d, h => by
    rcases List.mem_cons.mp h with rfl | h
    · simp only [ocs]; omega
    · have := ocs_mem h; simp only [ocs]; omega
theorem deps_mem : ∀ {ds : List Dt} {d : Dt}, d ∈ ds → d.dep ≤ deps ds
  | e :: r, d, h => by
    rcases List.mem_cons.mp h with rfl | h
    · simp only [deps]; omega
    · have := deps_mem h; simp only [deps]; omega
open Classical in
noncomputable def eqB (a b : Dt) : Bool := decide (a = b)
theorem eqB_iff {a b : Dt} : eqB a b = true ↔ a = b := by unfold eqB; exact @decide_eq_true_iff _ (Classical.propDecidable _)
theorem eqB_t {a b : Dt} (h : a = b) : eqB a b = true := eqB_iff.mpr h
theorem eqB_f {a b : Dt} (h : a ≠ b) : eqB a b = false := by
  cases e : eqB a b with
  | false => rfl
  | true => exact absurd (eqB_iff.mp e) h
theorem eqB_str (a b : Str) : (a == b) = eqB (.str a) (.str b) := by
  by_cases h : a = b
  · rw [eqB_t (by rw [h]), h]; simp
  · rw [eqB_f (fun z => h (by injection z))]; simpa using h
theorem eqB_tup {xs ys : List Dt} : ((List.range (min xs.length ys.length)).all (fun j => eqB (xs.getD j .oth) (ys.getD j .oth)) && xs.length == ys.length) = eqB (.tup xs) (.tup ys) := by
  rw [Bool.eq_iff_iff, eqB_iff, Bool.and_eq_true_iff, List.all_eq_true]
  constructor
  · rintro ⟨h1, h2⟩
    have hl : xs.length = ys.length := by simpa using h2
    congr 1
    refine List.ext_getElem hl fun j a b => ?_
    have := eqB_iff.mp (h1 j (List.mem_range.mpr (by omega)))
    simpa [List.getD_eq_getElem?_getD, a, b] using this
  · intro h
    injection h with h
    subst h
    exact ⟨fun j _ => eqB_t rfl, by simp⟩
structure NoEq (A : Around) (s : Shared) (v : Value) : Prop where
  s1 : ∀ z t, SeqAt.EqAt A s v (.str z t) false
  s2 : ∀ z t, SeqAt.EqAt A s (.str z t) v false
  s3 : ∀ z t, SeqAt.RcNeAt A s v (.str z t) true
  s4 : ∀ z t, SeqAt.RcNeAt A s (.str z t) v true
  t1 : ∀ b its, s.heap.IsTuple b its → SeqAt.EqAt A s v (.ref b) false
  t2 : ∀ b its, s.heap.IsTuple b its → SeqAt.EqAt A s (.ref b) v false
  t3 : ∀ b its, s.heap.IsTuple b its → SeqAt.RcNeAt A s v (.ref b) true
  t4 : ∀ b its, s.heap.IsTuple b its → SeqAt.RcNeAt A s (.ref b) v true
section
variable {X : Cx} {pins : List (Addr × Obj)} {σ : St} {H : Hp} {s : Shared}
theorem DD.noEq (I : Inv X pins σ H s) {y : V} (hy : DD H y .oth) {A : Around} (hu : A.units < cLine) {v : Value} (rv : RelV y v) : NoEq A s v := by
  cases hy with
  | non => cases (show v = Value.none from rv); exact ⟨fun z t => SeqAt.EqAt.none_str z t, fun z t => SeqAt.EqAt.str_none z t, fun z t => SeqAt.RcNeAt.none_str z t, fun z t => SeqAt.RcNeAt.str_none z t, fun b i p => SeqAt.EqAt.none_tuple p hu, fun b i p => SeqAt.EqAt.tuple_none p hu, fun b i p => SeqAt.RcNeAt.none_tuple p hu, fun b i p => SeqAt.RcNeAt.tuple_none p hu⟩
  | bl c => cases (show v = Value.bool c from rv); exact ⟨fun z t => SeqAt.EqAt.bool_str c z t, fun z t => SeqAt.EqAt.str_bool z t c, fun z t => SeqAt.RcNeAt.bool_str c z t, fun z t => SeqAt.RcNeAt.str_bool z t c, fun b i p => SeqAt.EqAt.bool_tuple c p hu, fun b i p => SeqAt.EqAt.tuple_bool c p hu, fun b i p => SeqAt.RcNeAt.bool_tuple c p hu, fun b i p => SeqAt.RcNeAt.tuple_bool c p hu⟩
  | int c => obtain ⟨t', rfl⟩ := (show ∃ t, v = Value.int c t from rv); exact ⟨fun z t => SeqAt.EqAt.int_str c t' z t, fun z t => SeqAt.EqAt.str_int z t c t', fun z t => SeqAt.RcNeAt.int_str c t' z t, fun z t => SeqAt.RcNeAt.str_int z t c t', fun b i p => SeqAt.EqAt.int_tuple c t' p hu, fun b i p => SeqAt.EqAt.tuple_int c t' p hu, fun b i p => SeqAt.RcNeAt.int_tuple c t' p hu, fun b i p => SeqAt.RcNeAt.tuple_int c t' p hu⟩
  | @lst a xs e =>
    cases (show v = Value.ref a from rv)
    obtain ⟨_, its, n, rv, ho⟩ := (show ObjOk X.prog X.w H s.heap a (.lst xs) from I.hok a _ e)
    have q : s.heap.IsList a its.toArray := ⟨_, ho, rfl, _, rfl⟩
    exact ⟨fun z t => SeqAt.EqAt.list_str z t q hu, fun z t => SeqAt.EqAt.str_list z t q hu, fun z t => SeqAt.RcNeAt.list_str z t q hu, fun z t => SeqAt.RcNeAt.str_list z t q hu, fun b i p => SeqAt.EqAt.list_tuple q p hu, fun b i p => SeqAt.EqAt.tuple_list p q hu, fun b i p => SeqAt.RcNeAt.list_tuple q p hu, fun b i p => SeqAt.RcNeAt.tuple_list p q hu⟩
  | @dct a kvs e =>
    cases (show v = Value.ref a from rv)
    obtain ⟨_, hd, vs, rel, o, es, ep, ho, hx, hdat, hk, hp⟩ := dk_of I.hok e
    exact ⟨fun z t => eq_dict_str z t ho hx.1 hdat hu, fun z t => (ne_dict_str z t ho hx.1 hdat hu).2.2, fun z t => (ne_dict_str z t ho hx.1 hdat hu).1, fun z t => (ne_dict_str z t ho hx.1 hdat hu).2.1,
      fun b i p => let ⟨h1, h2⟩ := rc_dict_tuple ho hx.1 p hu; SeqAt.EqAt.of_refs h1 h2, fun b i p => (ne_dict_tup ho hx.1 p hu).2.2, fun b i p => (ne_dict_tup ho hx.1 p hu).1, fun b i p => (ne_dict_tup ho hx.1 p hu).2.1⟩
theorem DD.tup_elt {x : V} {ds : List Dt} (h : DD H x (.tup ds)) : ∃ a xs, x = .ref a ∧ H a = some (.tup xs) ∧ xs.length = ds.length ∧ ∀ i (h : i < xs.length) (h' : i < ds.length), DD H xs[i] ds[i] := by
  cases h with
  | tup e hl hn hd => exact ⟨_, _, rfl, e, hl, hd⟩
theorem DD.elts {P : Around → Value → Value → Bool → Prop} (I : Inv X pins σ H s) {ds es : List Dt} {xs ys : List V} {i1 i2 : List Value} (r1 : Vals xs i1) (r2 : Vals ys i2) (hl : xs.length = ds.length) (hl' : ys.length = es.length)
    (hd : ∀ i (h : i < xs.length) (h' : i < ds.length), DD H xs[i] ds[i]) (hd' : ∀ i (h : i < ys.length) (h' : i < es.length), DD H ys[i] es[i]) (A : Around)
    (f : ∀ x y dx dy u v, DD H x dx → DD H y dy → dx ∈ ds → dy ∈ es → RelV x u → RelV y v → P A u v (eqB dx dy)) (j : Nat) (g1 : j < i1.toArray.size) (g2 : j < i2.toArray.size) : P A i1.toArray[j] i2.toArray[j] (eqB (ds.getD j .oth) (es.getD j .oth)) := by
  have h1 := r1.length
  have h2 := r2.length
  have k1 : j < xs.length := by simp at g1; omega
  have k2 : j < ys.length := by simp at g2; omega
  obtain ⟨w1, f1, q1⟩ := r1.get (List.getElem?_eq_getElem k1)
  obtain ⟨w2, f2, q2⟩ := r2.get (List.getElem?_eq_getElem k2)
  have e1 : i1.toArray[j] = w1 := by
    simp at f1 g1
    rw [List.getElem?_eq_getElem (by omega)] at f1
    simpa using Option.some.inj f1
  have e2 : i2.toArray[j] = w2 := by
    simp at f2 g2
    rw [List.getElem?_eq_getElem (by omega)] at f2
    simpa using Option.some.inj f2
  have e3 : ds.getD j .oth = ds[j]'(by omega) := by rw [List.getD_eq_getElem?_getD, List.getElem?_eq_getElem (by omega)]; rfl
  have e4 : es.getD j .oth = es[j]'(by omega) := by rw [List.getD_eq_getElem?_getD, List.getElem?_eq_getElem (by omega)]; rfl
  rw [e1, e2, e3, e4]
  exact f _ _ _ _ _ _ (hd j k1 (by omega)) (hd' j k2 (by omega)) (List.getElem_mem _) (List.getElem_mem _) q1 q2
theorem DD.eqAt (I : Inv X pins σ H s) : ∀ (n : Nat) (x y : V) (dx dy : Dt), DD H x dx → DD H y dy → dx.oc = 0 ∨ dy.oc = 0 → dx.dep ≤ n → ∀ (A : Around), A.units + n + 1 < cLine → ∀ (u v : Value), RelV x u → RelV y v → SeqAt.EqAt A s u v (eqB dx dy) := by
  intro n
  induction n with
  | zero =>
    intro x y dx dy hx hy hoc hn A hu u v ru rv
    match dx, dy, hx, hy with
    | .tup ds, _, _, _ => simp [Dt.dep] at hn
    | .str z, .str z', hx, hy =>
      cases hx; cases hy
      obtain ⟨t, rfl⟩ := (show ∃ t, u = Value.str z t from ru)
      obtain ⟨t', rfl⟩ := (show ∃ t, v = Value.str z' t from rv)
      rw [← eqB_str]; exact SeqAt.EqAt.str_str z t z' t'
    | .str z, .tup es, hx, hy =>
      cases hx
      obtain ⟨t, rfl⟩ := (show ∃ t, u = Value.str z t from ru)
      obtain ⟨b, ys, rfl, e, _, _⟩ := hy.tup_elt
      cases (show v = Value.ref b from rv)
      obtain ⟨i1, r1, p1, _⟩ := I.tuple (SqT.of e)
      rw [eqB_f (by intro h; cases h)]; exact SeqAt.EqAt.str_tuple z t p1 (by omega)
    | .str z, .oth, hx, hy =>
      cases hx
      obtain ⟨t, rfl⟩ := (show ∃ t, u = Value.str z t from ru)
      rw [eqB_f (by intro h; cases h)]; exact (DD.noEq I hy (by omega) rv).s2 z t
    | .oth, .str z, hx, hy =>
      cases hy
      obtain ⟨t, rfl⟩ := (show ∃ t, v = Value.str z t from rv)
      rw [eqB_f (by intro h; cases h)]; exact (DD.noEq I hx (by omega) ru).s1 z t
    | .oth, .tup es, hx, hy =>
      obtain ⟨b, ys, rfl, e, _, _⟩ := hy.tup_elt
      cases (show v = Value.ref b from rv)
      obtain ⟨i1, r1, p1, _⟩ := I.tuple (SqT.of e)
      rw [eqB_f (by intro h; cases h)]; exact (DD.noEq I hx (by omega) ru).t1 b _ p1
    | .oth, .oth, _, _ => rcases hoc with h | h <;> simp [Dt.oc] at h
  | succ n ih =>
    intro x y dx dy hx hy hoc hn A hu u v ru rv
    match dx, dy, hx, hy with
    | .str z, dy, hx, hy => exact ih _ _ _ _ hx hy hoc (by simp [Dt.dep]) A (by omega) u v ru rv
    | .oth, dy, hx, hy => exact ih _ _ _ _ hx hy hoc (by simp [Dt.dep]) A (by omega) u v ru rv
    | .tup ds, .str z, hx, hy =>
      cases hy
      obtain ⟨t, rfl⟩ := (show ∃ t, v = Value.str z t from rv)
      obtain ⟨b, ys, rfl, e, _, _⟩ := hx.tup_elt
      cases (show u = Value.ref b from ru)
      obtain ⟨i1, r1, p1, _⟩ := I.tuple (SqT.of e)
      rw [eqB_f (by intro h; cases h)]; exact SeqAt.EqAt.tuple_str z t p1 (by omega)
    | .tup ds, .oth, hx, hy =>
      obtain ⟨b, ys, rfl, e, _, _⟩ := hx.tup_elt
      cases (show u = Value.ref b from ru)
      obtain ⟨i1, r1, p1, _⟩ := I.tuple (SqT.of e)
      rw [eqB_f (by intro h; cases h)]; exact (DD.noEq I hy (by omega) rv).t2 b _ p1
    | .tup ds, .tup es, hx, hy =>
      obtain ⟨a, xs, rfl, e, hl, hd⟩ := hx.tup_elt
      obtain ⟨b, ys, rfl, e', hl', hd'⟩ := hy.tup_elt
      cases (show u = Value.ref a from ru)
      cases (show v = Value.ref b from rv)
      by_cases hab : a = b
      · subst hab
        rw [eqB_t (DD.det hx hy)]
        exact SeqAt.EqAt.same _
      obtain ⟨i1, r1, p1, _⟩ := I.tuple (SqT.of e)
      obtain ⟨i2, r2, p2, _⟩ := I.tuple (SqT.of e')
      have h1 := r1.length
      have h2 := r2.length
      refine SeqAt.EqAt.of_refs hab ?_
      have := SeqAt.RcAt.tuples (A := A) (e := fun j => eqB (ds.getD j .oth) (es.getD j .oth)) p1 p2 (by omega) fun j g1 g2 => DD.elts (P := fun A u v b => SeqAt.EqAt A s u v b) I r1 r2 hl hl' hd hd' A.in1 (fun x y dx dy u v k1 k2 m1 m2 k3 k4 => ih x y dx dy k1 k2 (by
        have o1 := ocs_mem m1
        have o2 := ocs_mem m2
        rcases hoc with h | h
        · left; simp only [Dt.oc] at h; omega
        · right; simp only [Dt.oc] at h; omega) (by have := deps_mem m1; simp only [Dt.dep] at hn; omega) A.in1 (by rw [Around.in1_units]; omega) u v k3 k4) j g1 g2
      rw [← eqB_tup]
      have s1 : i1.toArray.size = ds.length := by simp; omega
      have s2 : i2.toArray.size = es.length := by simp; omega
      rw [s1, s2] at this
      exact this
def rNeD : R2 := fun x y H Q => ∃ dx dy, DD H x dx ∧ DD H y dy ∧ (dx.oc = 0 ∨ dy.oc = 0) ∧ dx.dep ≤ 60 ∧ Q (.bl (!eqB dx dy)) H
theorem op_neDD (hu : X.A.units + 100 < cLine) : OpR X (compareOp .NotEq) rNeD := by
  intro pins s σ H x y v u Q I rx ry h
  obtain ⟨dx, dy, hx, hy, hoc, hdp, q⟩ := h
  have fin : SeqAt.RcNeAt X.A s v u (!eqB dx dy) := by
    match dx, dy, hx, hy with
    | .str z, .str z', hx, hy =>
      cases hx; cases hy
      obtain ⟨t, rfl⟩ := (show ∃ t, v = Value.str z t from rx)
      obtain ⟨t', rfl⟩ := (show ∃ t, u = Value.str z' t from ry)
      rw [← eqB_str]; exact SeqAt.RcNeAt.str_str z t z' t'
    | .str z, .tup es, hx, hy =>
      cases hx
      obtain ⟨t, rfl⟩ := (show ∃ t, v = Value.str z t from rx)
      obtain ⟨b, ys, rfl, e, _, _⟩ := hy.tup_elt
      cases (show u = Value.ref b from ry)
      obtain ⟨i1, r1, p1, _⟩ := I.tuple (SqT.of e)
      rw [eqB_f (by intro h; cases h)]; exact SeqAt.RcNeAt.str_tuple z t p1 (by omega)
    | .str z, .oth, hx, hy =>
      cases hx
      obtain ⟨t, rfl⟩ := (show ∃ t, v = Value.str z t from rx)
      rw [eqB_f (by intro h; cases h)]; exact (DD.noEq I hy (by omega) ry).s4 z t
    | .oth, .str z, hx, hy =>
      cases hy
      obtain ⟨t, rfl⟩ := (show ∃ t, u = Value.str z t from ry)
      rw [eqB_f (by intro h; cases h)]; exact (DD.noEq I hx (by omega) rx).s3 z t
    | .oth, .tup es, hx, hy =>
      obtain ⟨b, ys, rfl, e, _, _⟩ := hy.tup_elt
      cases (show u = Value.ref b from ry)
      obtain ⟨i1, r1, p1, _⟩ := I.tuple (SqT.of e)
      rw [eqB_f (by intro h; cases h)]; exact (DD.noEq I hx (by omega) rx).t3 b _ p1
    | .oth, .oth, _, _ => rcases hoc with h | h <;> simp [Dt.oc] at h
    | .tup ds, .str z, hx, hy =>
      cases hy
      obtain ⟨t, rfl⟩ := (show ∃ t, u = Value.str z t from ry)
      obtain ⟨b, ys, rfl, e, _, _⟩ := hx.tup_elt
      cases (show v = Value.ref b from rx)
      obtain ⟨i1, r1, p1, _⟩ := I.tuple (SqT.of e)
      rw [eqB_f (by intro h; cases h)]; exact SeqAt.RcNeAt.tuple_str z t p1 (by omega)
    | .tup ds, .oth, hx, hy =>
      obtain ⟨b, ys, rfl, e, _, _⟩ := hx.tup_elt
      cases (show v = Value.ref b from rx)
      obtain ⟨i1, r1, p1, _⟩ := I.tuple (SqT.of e)
      rw [eqB_f (by intro h; cases h)]; exact (DD.noEq I hy (by omega) ry).t4 b _ p1
    | .tup ds, .tup es, hx, hy =>
      obtain ⟨a, xs, rfl, e, hl, hd⟩ := hx.tup_elt
      obtain ⟨b, ys, rfl, e', hl', hd'⟩ := hy.tup_elt
      cases (show v = Value.ref a from rx)
      cases (show u = Value.ref b from ry)
      obtain ⟨i1, r1, p1, _⟩ := I.tuple (SqT.of e)
      obtain ⟨i2, r2, p2, _⟩ := I.tuple (SqT.of e')
      have h1 := r1.length
      have h2 := r2.length
      have := SeqAt.RcNeAt.tuples (A := X.A) (e := fun j => eqB (ds.getD j .oth) (es.getD j .oth)) p1 p2 (by omega) fun j g1 g2 => DD.elts (P := fun A u v b => SeqAt.EqAt A s u v b) I r1 r2 hl hl' hd hd' X.A.in1 (fun x y dx dy u v k1 k2 m1 m2 k3 k4 => DD.eqAt I 60 x y dx dy k1 k2 (by
        have o1 := ocs_mem m1
        have o2 := ocs_mem m2
        rcases hoc with h | h
        · left; simp only [Dt.oc] at h; omega
        · right; simp only [Dt.oc] at h; omega) (by have := deps_mem m1; simp only [Dt.dep] at hdp; omega) X.A.in1 (by rw [Around.in1_units]; omega) u v k3 k4) j g1 g2
      rw [← eqB_tup]
      have s1 : i1.toArray.size = ds.length := by simp; omega
      have s2 : i2.toArray.size = es.length := by simp; omega
      rw [s1, s2] at this
      exact this
  exact fin _ _ _ _ ⟨.bl (!eqB dx dy), H, I, rfl, q⟩
def rEqS (n : Bool) : R2 := fun x y H Q => ∃ d z, DD H x d ∧ y = .str z ∧ Q (.bl (n ^^ d.isS z)) H
theorem op_eqSD (hu : X.A.units + 20 < cLine) : OpR X (compareOp .Eq) (rEqS false) := by
  intro pins s σ H x y v u Q I rx ry h
  obtain ⟨d, z, hx, rfl, q⟩ := h
  obtain ⟨t, rfl⟩ := (show ∃ t, u = Value.str z t from ry)
  have fin : SeqAt.RcAt X.A s v (.str z t) (d.isS z) := by
    cases hx with
    | @str y h => obtain ⟨t', rfl⟩ := (show ∃ t, v = Value.str y t from rx); exact SeqAt.RcAt.str_str y t' z t
    | @tup a xs ds e hl hn hd => cases (show v = Value.ref a from rx); obtain ⟨i1, r1, p1, _⟩ := I.tuple (SqT.of e); exact SeqAt.RcAt.tuple_str z t p1 (by omega)
    | non => cases (show v = Value.none from rx); exact SeqAt.RcAt.none_str z t
    | bl b => cases (show v = Value.bool b from rx); exact SeqAt.RcAt.bool_str b z t
    | int i => obtain ⟨t', rfl⟩ := (show ∃ t, v = Value.int i t from rx); exact SeqAt.RcAt.int_str i t' z t
    | @lst a xs e =>
      cases (show v = Value.ref a from rx)
      obtain ⟨_, its, n, rv, ho⟩ := (show ObjOk X.prog X.w H s.heap a (.lst xs) from I.hok a _ e)
      exact SeqAt.RcAt.list_str z t ⟨_, ho, rfl, _, rfl⟩ (by omega)
    | @dct a kvs e =>
      cases (show v = Value.ref a from rx)
      obtain ⟨_, hd, vs, rel, o, es, ep, ho, hx, hdat, hk, hp⟩ := dk_of I.hok e
      exact rc_dict_str z t ho hx.1 hdat (by omega)
  rw [Bool.false_xor] at q
  exact fin _ _ _ _ ⟨.bl (d.isS z), H, I, rfl, q⟩
theorem op_neSD (hu : X.A.units + 100 < cLine) : OpR X (compareOp .NotEq) (rEqS true) := by
  intro pins s σ H x y v u Q I rx ry h
  obtain ⟨d, z, hx, rfl, q⟩ := h
  obtain ⟨t, rfl⟩ := (show ∃ t, u = Value.str z t from ry)
  have fin : SeqAt.RcNeAt X.A s v (.str z t) (!d.isS z) := by
    match d, hx with
    | .str y, hx => cases hx; obtain ⟨t', rfl⟩ := (show ∃ t, v = Value.str y t from rx); exact SeqAt.RcNeAt.str_str y t' z t
    | .tup ds, hx =>
      obtain ⟨b, ys, rfl, e, _, _⟩ := hx.tup_elt
      cases (show v = Value.ref b from rx)
      obtain ⟨i1, r1, p1, _⟩ := I.tuple (SqT.of e)
      exact SeqAt.RcNeAt.tuple_str z t p1 (by omega)
    | .oth, hx => exact (DD.noEq I hx (by omega) rx).s3 z t
  rw [Bool.true_xor] at q
  exact fin _ _ _ _ ⟨.bl (!d.isS z), H, I, rfl, q⟩
end
end L2
set_option maxRecDepth 100000
namespace L2
open PySem PySem.Spec PyProof.Rows
mutual
def Dt.cn : Dt → Nat
  | .str _ => 1
  | .oth => 1
  | .tup ds => cns ds + 1
def cns : List Dt → Nat
  | [] => 0
  | d :: r => d.cn + cns r
end
theorem cn_pos (d : Dt) : 1 ≤ d.cn := by cases d <;> simp [Dt.cn]
abbrev pr2 : Dt → Bool := twoD
def fst2 : Dt → Dt | .tup [a, _] => a | _ => .oth
def snd2 : Dt → Dt | .tup [_, b] => b | _ => .oth
def formD : Dt → Bool
  | .tup [.str z, a] => z == "box" && (match a with | .tup ps => ps.all pr2 && ((ps.map fst2).all nameD && rising ((ps.map fst2).map strD)) | _ => false)
  | .tup [.str z, w, _] => z == "pick" && nameD w
  | _ => false
def partsD : Dt → List Dt
  | .tup [_, .tup ps] => ps.map snd2
  | .tup [_, _, x] => [x]
  | _ => []
def kidsD (d : Dt) : List Dt := if formD d then partsD d else []
def thF : Nat → Dt → Bool
  | 0, _ => true
  | n + 1, d => formD d && (kidsD d).all (thF n)
def wF : Nat → Dt → Nat
  | 0, _ => 1
  | n + 1, d => 1 + ((kidsD d).map (wF n)).sum
theorem kids_form {d : Dt} (h : formD d = true) : kidsD d = partsD d := by unfold kidsD; rw [if_pos h]
theorem kids_not {d : Dt} (h : formD d = false) : kidsD d = [] := by unfold kidsD; rw [if_neg (by rw [h]; decide)]
theorem parts_shape {d x : Dt} (h : x ∈ partsD d) : (∃ a ps, d = .tup [a, .tup ps] ∧ ∃ q ∈ ps, x = snd2 q) ∨ ∃ a b, d = .tup [a, b, x] := by
  unfold partsD at h
  split at h
  · obtain ⟨q, hq, rfl⟩ := List.mem_map.mp h
    exact .inl ⟨_, _, rfl, q, hq, rfl⟩
  · rw [List.mem_singleton.mp h]; exact .inr ⟨_, _, rfl⟩
  · cases h
theorem kids_sub {d x : Dt} (h : x ∈ kidsD d) : x ∈ partsD d := by
  unfold kidsD at h
  split at h
  · exact h
  · cases h
theorem snd2_dep (q : Dt) : (snd2 q).dep ≤ q.dep := by
  unfold snd2
  split
  · simp only [Dt.dep, deps]; omega
  · simp [Dt.dep]
theorem kids_dep {d x : Dt} (h : x ∈ kidsD d) : x.dep < d.dep := by
  rcases parts_shape (kids_sub h) with ⟨a, ps, rfl, q, hq, rfl⟩ | ⟨a, b, rfl⟩
  · have h1 := deps_mem hq
    have h2 := snd2_dep q
    simp only [Dt.dep, deps]; omega
  · simp only [Dt.dep, deps]; omega
theorem snd2_oc {q : Dt} (h : pr2 q = true) : (snd2 q).oc ≤ q.oc := by
  unfold pr2 twoD at h
  split at h
  · simp only [snd2, Dt.oc, ocs]; omega
  · cases h
theorem snds_oc : ∀ {ps : List Dt}, ps.all pr2 = true → ocs (ps.map snd2) ≤ ocs ps
  | [], _ => Nat.le_refl _
  | p :: r, h => by
    rw [List.all_cons, Bool.and_eq_true_iff] at h
    have h1 := snd2_oc h.1
    have h2 := snds_oc h.2
    simp only [List.map_cons, ocs]; omega
theorem kids_oc (d : Dt) : ocs (kidsD d) ≤ d.oc := by
  unfold kidsD
  split
  · rename_i h
    unfold partsD
    split
    · rename_i a ps
      have h1 : ps.all pr2 = true := by
        unfold formD at h
        split at h
        · rename_i z a' heq
          injection heq with heq
          injection heq with _ heq
          injection heq with heq _
          subst heq
          simp only [Bool.and_eq_true_iff] at h
          exact h.2.1
        · rename_i heq; injection heq with heq; simp at heq
        · cases h
      have := snds_oc h1
      simp only [Dt.oc, ocs]; omega
    · simp only [Dt.oc, ocs]; omega
    · simp only [ocs]; omega
  · simp only [ocs]; omega
theorem ocs_append (a b : List Dt) : ocs (a ++ b) = ocs a + ocs b := by
  induction a with
  | nil => simp [ocs]
  | cons x r ih => simp only [List.cons_append, ocs, ih]; omega
theorem ocs_flat (ds : List Dt) : ocs (ds.flatMap kidsD) ≤ ocs ds := by
  induction ds with
  | nil => simp [ocs]
  | cons x r ih =>
    rw [List.flatMap_cons, ocs_append]
    have := kids_oc x
    simp only [ocs]; omega
theorem ocs_sub {a b : List Dt} (h : a.Sublist b) : ocs a ≤ ocs b := by
  induction h with
  | slnil => exact Nat.le_refl _
  | cons x _ ih => simp only [ocs]; omega
  | cons_cons x _ ih => simp only [ocs]; omega
theorem thF_more : ∀ (n m : Nat) (d : Dt), d.dep < n → d.dep < m → thF n d = thF m d
  | 0, _, _, h, _ => absurd h (Nat.not_lt_zero _)
  | _, 0, _, _, h => absurd h (Nat.not_lt_zero _)
  | n + 1, m + 1, d, h1, h2 => by
    unfold thF
    congr 1
    rw [Bool.eq_iff_iff, List.all_eq_true, List.all_eq_true]
    constructor <;> (intro h x hx; have := kids_dep hx; have e := thF_more n m x (by omega) (by omega); have := h x hx; rw [e] at *; exact this)
theorem wF_more : ∀ (n m : Nat) (d : Dt), d.dep < n → d.dep < m → wF n d = wF m d
  | 0, _, _, h, _ => absurd h (Nat.not_lt_zero _)
  | _, 0, _, _, h => absurd h (Nat.not_lt_zero _)
  | n + 1, m + 1, d, h1, h2 => by
    unfold wF
    congr 2
    refine List.map_congr_left fun x hx => ?_
    have := kids_dep hx
    exact wF_more n m x (by omega) (by omega)
def thD (d : Dt) : Bool := thF (d.dep + 1) d
def wD (d : Dt) : Nat := wF (d.dep + 1) d
theorem thD_eq (d : Dt) : thD d = (formD d && (kidsD d).all thD) := by
  show (formD d && (kidsD d).all (thF d.dep)) = _
  congr 1
  rw [Bool.eq_iff_iff, List.all_eq_true, List.all_eq_true]
  constructor <;> (intro h x hx; have := kids_dep hx; have e := thF_more d.dep (x.dep + 1) x (by omega) (by omega); have := h x hx; unfold thD at *; rw [e] at *; exact this)
theorem wD_eq (d : Dt) : wD d = 1 + ((kidsD d).map wD).sum := by
  show 1 + ((kidsD d).map (wF d.dep)).sum = _
  congr 2
  refine List.map_congr_left fun x hx => ?_
  have := kids_dep hx
  exact wF_more d.dep (x.dep + 1) x (by omega) (by omega)
theorem cns_mem_sum : ∀ (ps : List Dt), ((ps.map snd2).map Dt.cn).sum ≤ cns ps
  | [] => Nat.le_refl _
  | p :: r => by
    have ih := cns_mem_sum r
    have : (snd2 p).cn ≤ p.cn := by
      unfold snd2
      split
      · simp only [Dt.cn, cns]; omega
      · have := cn_pos p; simpa [Dt.cn] using this
    simp only [List.map_cons, List.sum_cons, cns]; omega
theorem parts_cn (d : Dt) : 1 + ((partsD d).map Dt.cn).sum ≤ d.cn := by
  unfold partsD
  split
  · rename_i a ps
    have := cns_mem_sum ps
    simp only [Dt.cn, cns]; omega
  · simp only [Dt.cn, cns, List.map_cons, List.map_nil, List.sum_cons, List.sum_nil]; omega
  · have := cn_pos d; simpa using this
theorem wD_cn : ∀ (n : Nat) (d : Dt), d.dep < n → wD d ≤ d.cn
  | 0, _, h => absurd h (Nat.not_lt_zero _)
  | n + 1, d, h => by
    rw [wD_eq]
    have h1 := parts_cn d
    have h2 : ((kidsD d).map wD).sum ≤ ((kidsD d).map Dt.cn).sum := by
      have : ∀ l : List Dt, (∀ x ∈ l, wD x ≤ x.cn) → (l.map wD).sum ≤ (l.map Dt.cn).sum := by
        intro l
        induction l with
        | nil => intro _; exact Nat.le_refl _
        | cons x r ih =>
          intro hh
          have a := hh x (List.mem_cons_self ..)
          have b := ih fun y hy => hh y (List.mem_cons_of_mem _ hy)
          simp only [List.map_cons, List.sum_cons]; omega
      exact this _ fun x hx => wD_cn n x (by have := kids_dep hx; omega)
    have h3 : ((kidsD d).map Dt.cn).sum ≤ ((partsD d).map Dt.cn).sum := by
      unfold kidsD
      split
      · exact Nat.le_refl _
      · simp
    omega
theorem wD_pos (d : Dt) : 1 ≤ wD d := by rw [wD_eq]; omega
def wS (ds : List Dt) : Nat := (ds.map wD).sum
theorem wS_len (ds : List Dt) : ds.length ≤ wS ds := by
  induction ds with
  | nil => exact Nat.le_refl _
  | cons x r ih => have := wD_pos x; simp only [wS, List.length_cons, List.map_cons, List.sum_cons] at *; omega
theorem wS_append (a b : List Dt) : wS (a ++ b) = wS a + wS b := by simp [wS]
theorem wS_flat (ds : List Dt) : wS (ds.flatMap kidsD) + ds.length = wS ds := by
  induction ds with
  | nil => rfl
  | cons x r ih =>
    rw [List.flatMap_cons, wS_append]
    have : wD x = 1 + wS (kidsD x) := wD_eq x
    simp only [wS, List.length_cons, List.map_cons, List.sum_cons] at *; omega
theorem wS_sub {a b : List Dt} (h : a.Sublist b) : wS a ≤ wS b := by
  induction h with
  | slnil => exact Nat.le_refl _
  | cons x _ ih => simp only [wS, List.map_cons, List.sum_cons] at *; omega
  | cons_cons x _ ih => simp only [wS, List.map_cons, List.sum_cons] at *; omega
theorem th_flat (ds : List Dt) : ds.all thD = (ds.all formD && (ds.flatMap kidsD).all thD) := by
  induction ds with
  | nil => rfl
  | cons x r ih =>
    rw [List.all_cons, List.flatMap_cons, List.all_append, ih, List.all_cons, thD_eq x]
    cases formD x <;> cases (kidsD x).all thD <;> cases r.all formD <;> cases (r.flatMap kidsD).all thD <;> rfl
def Ch : Nat → Dt → Prop
  | 0, _ => True
  | n + 1, d => (kidsD d).length ≤ 1 ∧ ∀ x ∈ kidsD d, Ch n x
def LvOk (n : Nat) (ds : List Dt) : Prop := (ocs ds ≤ 1 ∧ ∀ d ∈ ds, d.dep ≤ 60) ∨ (ds.length ≤ 1 ∧ ∀ d ∈ ds, Ch n d)
theorem LvOk.flat {n : Nat} {ds : List Dt} (h : LvOk (n + 1) ds) : LvOk n (ds.flatMap kidsD) := by
  rcases h with ⟨h1, h2⟩ | ⟨h1, h2⟩
  · refine .inl ⟨by have := ocs_flat ds; omega, fun d hd => ?_⟩
    obtain ⟨x, hx, hd⟩ := List.mem_flatMap.mp hd
    have := h2 x hx
    have := kids_dep hd
    omega
  · match ds, h1 with
    | [], _ => exact .inr ⟨by simp, fun d hd => by cases hd⟩
    | [x], _ =>
      obtain ⟨h3, h4⟩ := h2 x (List.mem_singleton.mpr rfl)
      refine .inr ⟨by simpa using h3, fun d hd => h4 d (by simpa using hd)⟩
theorem LvOk.sub {n : Nat} {ds es : List Dt} (h : LvOk n ds) (s : es.Sublist ds) : LvOk n es := by
  rcases h with ⟨h1, h2⟩ | ⟨h1, h2⟩
  · exact .inl ⟨Nat.le_trans (ocs_sub s) h1, fun d hd => h2 d (s.subset hd)⟩
  · exact .inr ⟨Nat.le_trans s.length_le h1, fun d hd => h2 d (s.subset hd)⟩
theorem LvOk.pair {n : Nat} {ds : List Dt} (h : LvOk n ds) {i : Nat} (hi : i + 1 < ds.length) : (ds[i].oc = 0 ∨ ds[i + 1].oc = 0) ∧ ds[i + 1].dep ≤ 60 ∧ ds[i].dep ≤ 60 := by
  rcases h with ⟨h1, h2⟩ | ⟨h1, _⟩
  · refine ⟨?_, h2 _ (List.getElem_mem _), h2 _ (List.getElem_mem _)⟩
    have e : ([ds[i], ds[i + 1]]).Sublist ds := by
      have a1 := List.drop_eq_getElem_cons (show i < ds.length by omega)
      have a2 := List.drop_eq_getElem_cons (show i + 1 < ds.length by omega)
      have a3 : (ds.drop i).Sublist ds := List.drop_sublist i ds
      rw [a1, a2] at a3
      exact List.Sublist.trans (.cons_cons _ (.cons_cons _ (List.nil_sublist _))) a3
    have := ocs_sub e
    simp only [ocs] at this
    omega
  · omega
structure DX (P : Addr → Prop) (H : Hp) (m : Bool) (v : V) (d : Dt) (k c : Nat) : Prop where
  ex : ∃ p, DA P H m v p d ∧ p.depth ≤ k ∧ p.shown.length + 2 ≤ 220 * c ∧ p.showable = true ∧ d.cn ≤ c ∧ d.dep ≤ k
section
variable {P : Addr → Prop} {H H' : Hp} {m : Bool} {v : V} {d : Dt} {k k' c c' : Nat} {a : Addr}
theorem DX.keep (h : DX P H m v d k c) (s : ∀ a u, P a → H a = some u → H' a = some u) : DX P H' m v d k c := let ⟨p, h1, h2⟩ := h.ex; ⟨p, h1.keep s, h2⟩
theorem DX.same (h : DX P H m v d k c) (s : Same H H') : DX P H' m v d k c := let ⟨p, h1, h2⟩ := h.ex; ⟨p, h1.same s, h2⟩
theorem DX.mono (h : DX P H m v d k c) (hk : k ≤ k') (hc : c ≤ c') : DX P H m v d k' c' := let ⟨p, h1, h2, h3, h4, h5, h6⟩ := h.ex; ⟨p, h1, by omega, by omega, h4, by omega, by omega⟩
theorem DX.dd (h : DX P H m v d k c) : DD H v d := let ⟨p, h1, _⟩ := h.ex; h1.dd
theorem DX.cn (h : DX P H m v d k c) : d.cn ≤ c := let ⟨p, _, _, _, _, h, _⟩ := h.ex; h
theorem DX.dep (h : DX P H m v d k c) : d.dep ≤ k := let ⟨p, _, _, _, _, _, h⟩ := h.ex; h
theorem DX.str {z : Str} (h : Wd z) : DX P H m (.str z) (.str z) k 1 := by
  refine ⟨.str z, .str (by have := h.1; omega), by simp [PyData.depth], ?_, by simp [PyData.showable], by simp [Dt.cn], by simp [Dt.dep]⟩
  simp only [PyData.shown]
  have := StrLaws.reprText_len z (fun c hc => Nat.lt_of_lt_of_le (h.2 c hc) (by decide))
  have := h.1
  omega
theorem DX.non : DX P H m .non .oth k 1 := ⟨.none, .non, by simp [PyData.depth], by simp only [PyData.shown]; decide, by simp [PyData.showable], by simp [Dt.cn], by simp [Dt.dep]⟩
theorem DX.bl (b : Bool) : DX P H m (.bl b) .oth k 1 := ⟨.bool b, .bl b, by simp [PyData.depth], by simp only [PyData.shown]; cases b <;> decide, by simp [PyData.showable], by simp [Dt.cn], by simp [Dt.dep]⟩
theorem DX.int {i : Int} (h1 : (toString i : Str).length ≤ 202) (h2 : i.natAbs.log2 < 1920) : DX P H m (.int i) .oth k 1 := ⟨.int i, .int i, by simp [PyData.depth], by simp only [PyData.shown]; omega, by simp [PyData.showable, h2], by simp [Dt.cn], by simp [Dt.dep]⟩
inductive DXs (P : Addr → Prop) (H : Hp) (m : Bool) (k : Nat) : List V → List Dt → Nat → Prop
  | nil : DXs P H m k [] [] 0
  | cons {v : V} {d : Dt} {c : Nat} {vs : List V} {ds : List Dt} {cs : Nat} : DX P H m v d k c → DXs P H m k vs ds cs → DXs P H m k (v :: vs) (d :: ds) (c + cs)
theorem DXs.all {vs : List V} {ds : List Dt} {cs : Nat} (h : DXs P H m k vs ds cs) : ∃ ps : List PyData, vs.length = ps.length ∧ vs.length = ds.length ∧ (∀ i (a : i < vs.length) (b : i < ps.length) (c : i < ds.length), DA P H m vs[i] ps[i] ds[i]) ∧ PyData.depthAll ps ≤ k ∧ ((PyData.shownAll ps).map (·.length)).sum + 2 * vs.length ≤ 220 * cs ∧ (PyData.shownAll ps).length = vs.length ∧ PyData.showableAll ps = true ∧ cns ds ≤ cs ∧ deps ds ≤ k := by
  induction h with
  | nil => exact ⟨[], rfl, rfl, fun i h => absurd h (by simp), by simp [PyData.depthAll], by simp [PyData.shownAll], by simp [PyData.shownAll], by simp [PyData.showableAll], by simp [cns], by simp [deps]⟩
  | cons hx _ ih =>
    obtain ⟨ps, l1, l2, q, d1, d2, d3, d4, d5, d6⟩ := ih
    obtain ⟨p, h1, h2, h3, h4, h5, h6⟩ := hx.ex
    refine ⟨p :: ps, by simp [l1], by simp [l2], fun i a b c => ?_, by simp only [PyData.depthAll]; omega, ?_, by simp [PyData.shownAll, d3], by simp [PyData.showableAll, h4, d4], by simp only [cns]; omega, by simp only [deps]; omega⟩
    · cases i with
      | zero => exact h1
      | succ j => exact q j (by simpa using a) (by simpa using b) (by simpa using c)
    · simp only [PyData.shownAll, List.map_cons, List.sum_cons, List.length_cons]; omega
theorem DX.tup {vs : List V} {ds : List Dt} {cs : Nat} (hP : P a) (e : H a = some (.tup vs)) (hl : vs.length ≤ 1000) (h : DXs P H m k vs ds cs) : DX P H m (.ref a) (.tup ds) (k + 1) (cs + 1) := by
  obtain ⟨ps, l1, l2, q, d1, d2, d3, d4, d5, d6⟩ := h.all
  refine ⟨.tuple ps, .tup hP e l1 l2 hl q, by simp only [PyData.depth]; omega, ?_, by simpa only [PyData.showable] using d4, by simp only [Dt.cn]; omega, by simp only [Dt.dep]; omega⟩
  simp only [PyData.shown]
  have h1 := tupleText_len_le (PyData.shownAll ps)
  rw [d3] at h1
  omega
theorem DX.lst {vs : List V} {ds : List Dt} {cs : Nat} (hP : P a) (e : H a = some (.lst vs)) (h : DXs P H true k vs ds cs) : DX P H true (.ref a) .oth (k + 1) (cs + 1) := by
  obtain ⟨ps, l1, l2, q, d1, d2, d3, d4, d5, d6⟩ := h.all
  refine ⟨.list ps, .lst hP e l1 l2 q, by simp only [PyData.depth]; omega, ?_, by simpa only [PyData.showable] using d4, by simp [Dt.cn], by simp [Dt.dep]⟩
  simp only [PyData.shown]
  have h1 := listText_len_le (PyData.shownAll ps)
  rw [d3] at h1
  omega
theorem DX.dc0 (hP : P a) (e : H a = some (.dK [])) : DX P H false (.ref a) .oth (k + 1) 1 := ⟨.dict [], .dc0 hP e, by simp [PyData.depth, PyData.depthKv], by simp only [PyData.shown, PyData.shownKv]; decide, by simp [PyData.showable, PyData.showableKv], by simp [Dt.cn], by simp [Dt.dep]⟩
end
structure PX (H : Hp) (v : V) (d : Dt) (k c : Nat) : Prop where
  ex : ∃ p, TX H v d ∧ TDen H v p ∧ p.depth ≤ k ∧ p.shown.length + 2 ≤ 220 * c ∧ p.showable = true ∧ d.cn ≤ c ∧ d.dep ≤ k ∧ d.oc = 0
section
variable {H H' : Hp} {v : V} {d : Dt} {k k' c c' : Nat} {a : Addr}
theorem PX.tk (h : PX H v d k c) (s : Tk H H') : PX H' v d k c := let ⟨p, h1, h2, h3⟩ := h.ex; ⟨p, h1.tk s, h2.ts s, h3⟩
theorem PX.mono (h : PX H v d k c) (hk : k ≤ k') (hc : c ≤ c') : PX H v d k' c' := let ⟨p, h1, h2, h3, h4, h5, h6, h7, h8⟩ := h.ex; ⟨p, h1, h2, by omega, by omega, h5, by omega, by omega, h8⟩
theorem PX.dx {P : Addr → Prop} {m : Bool} (h : PX H v d k c) (hP : ∀ a xs, H a = some (.tup xs) → P a) : DX P H m v d k c := let ⟨p, h1, h2, h3, h4, h5, h6, h7, _⟩ := h.ex; ⟨p, DA.of hP h1 h2, h3, h4, h5, h6, h7⟩
theorem PX.dd (h : PX H v d k c) : DD H v d := let ⟨_, h1, _⟩ := h.ex; h1.dd
theorem PX.oc (h : PX H v d k c) : d.oc = 0 := let ⟨_, _, _, _, _, _, _, _, h⟩ := h.ex; h
theorem PX.cn (h : PX H v d k c) : d.cn ≤ c := let ⟨_, _, _, _, _, _, h, _⟩ := h.ex; h
theorem PX.dep (h : PX H v d k c) : d.dep ≤ k := let ⟨_, _, _, _, _, _, _, h, _⟩ := h.ex; h
theorem PX.str {z : Str} (h : Wd z) : PX H (.str z) (.str z) k 1 := by
  refine ⟨.str z, .str (by have := h.1; omega), .str z, by simp [PyData.depth], ?_, by simp [PyData.showable], by simp [Dt.cn], by simp [Dt.dep], by simp [Dt.oc]⟩
  simp only [PyData.shown]
  have := StrLaws.reprText_len z (fun c hc => Nat.lt_of_lt_of_le (h.2 c hc) (by decide))
  have := h.1
  omega
inductive PXs (H : Hp) (k : Nat) : List V → List Dt → Nat → Prop
  | nil : PXs H k [] [] 0
  | cons {v : V} {d : Dt} {c : Nat} {vs : List V} {ds : List Dt} {cs : Nat} : PX H v d k c → PXs H k vs ds cs → PXs H k (v :: vs) (d :: ds) (c + cs)
theorem PXs.all {vs : List V} {ds : List Dt} {cs : Nat} (h : PXs H k vs ds cs) : ∃ ps : List PyData, vs.length = ps.length ∧ vs.length = ds.length ∧ (∀ i (a : i < vs.length) (c : i < ds.length), TX H vs[i] ds[i]) ∧ (∀ i (a : i < vs.length) (b : i < ps.length), TDen H vs[i] ps[i]) ∧ PyData.depthAll ps ≤ k ∧ ((PyData.shownAll ps).map (·.length)).sum + 2 * vs.length ≤ 220 * cs ∧ (PyData.shownAll ps).length = vs.length ∧ PyData.showableAll ps = true ∧ cns ds ≤ cs ∧ deps ds ≤ k ∧ ocs ds = 0 := by
  induction h with
  | nil => exact ⟨[], rfl, rfl, fun i h => absurd h (by simp), fun i h => absurd h (by simp), by simp [PyData.depthAll], by simp [PyData.shownAll], by simp [PyData.shownAll], by simp [PyData.showableAll], by simp [cns], by simp [deps], by simp [ocs]⟩
  | cons hx _ ih =>
    obtain ⟨ps, l1, l2, q, q', d1, d2, d3, d4, d5, d6, d7⟩ := ih
    obtain ⟨p, h1, h2, h3, h4, h5, h6, h7, h8⟩ := hx.ex
    refine ⟨p :: ps, by simp [l1], by simp [l2], fun i a c => ?_, fun i a b => ?_, by simp only [PyData.depthAll]; omega, ?_, by simp [PyData.shownAll, d3], by simp [PyData.showableAll, h5, d4], by simp only [cns]; omega, by simp only [deps]; omega, by simp only [ocs]; omega⟩
    · cases i with
      | zero => exact h1
      | succ j => exact q j (by simpa using a) (by simpa using c)
    · cases i with
      | zero => exact h2
      | succ j => exact q' j (by simpa using a) (by simpa using b)
    · simp only [PyData.shownAll, List.map_cons, List.sum_cons, List.length_cons]; omega
theorem PX.tup {vs : List V} {ds : List Dt} {cs : Nat} (e : H a = some (.tup vs)) (hl : vs.length ≤ 1000) (h : PXs H k vs ds cs) : PX H (.ref a) (.tup ds) (k + 1) (cs + 1) := by
  obtain ⟨ps, l1, l2, q, q', d1, d2, d3, d4, d5, d6, d7⟩ := h.all
  refine ⟨.tuple ps, .tup e l2 hl q, .tup e l1 q', by simp only [PyData.depth]; omega, ?_, by simpa only [PyData.showable] using d4, by simp only [Dt.cn]; omega, by simp only [Dt.dep]; omega, by simpa only [Dt.oc] using d7⟩
  simp only [PyData.shown]
  have h1 := tupleText_len_le (PyData.shownAll ps)
  rw [d3] at h1
  omega
end
theorem hu100_of {A : Around} {k : Nat} (hr : Room k A) : A.units + 100 < cLine := by have := hr.un; omega
end L2
set_option maxRecDepth 100000
namespace L2
open PySem PySem.Spec PyProof.Rows
def Gx (P : Addr → Prop) (m : Bool) (σ : St) (H0 : Hp) (te : TE) (k c o : Nat) : Prop := ∀ (H : Hp) (Q : VK), Same H0 H → (∀ v d H', Same H H' → DX P H' m v d k c → d.oc ≤ o → Q v H') → te σ H Q
def GxA (P : Addr → Prop) (m : Bool) (σ : St) (H0 : Hp) (ta : TA) (k c o n : Nat) : Prop := ∀ (H : Hp) (Q : List V → Hp → Prop), Same H0 H → (∀ vs ds H', Same H H' → vs.length = n → DXs P H' m k vs ds c → ocs ds ≤ o → Q vs H') → ta σ H Q
def OkE (P : Addr → Prop) (H : Hp) (C : Nat) (x : V) : Prop := ∃ m d, DX P H m x d 30 C ∧ d.oc ≤ 1
theorem OkE.same {P : Addr → Prop} {H H' : Hp} {C : Nat} {x : V} (h : OkE P H C x) (s : Same H H') : OkE P H' C x := let ⟨m, d, h1, h2⟩ := h; ⟨m, d, h1.same s, h2⟩
def GxL (P : Addr → Prop) (σ : St) (H0 : Hp) (ta : TA) (C n : Nat) : Prop := ∀ (H : Hp) (Q : List V → Hp → Prop), Same H0 H → (∀ vs H', Same H H' → vs.length = n → (∀ v ∈ vs, OkE P H' C v) → Q vs H') → ta σ H Q
section
variable {P : Addr → Prop} {m : Bool} {σ : St} {H0 : Hp} {te : TE} {ta : TA} {k c c2 o o2 n C : Nat}
theorem tV_at {i : Nat} {v : V} {σ : St} {H : Hp} {Q : VK} (e : σ[i]? = some (some v)) (q : Q v H) : tV i σ H Q := by
  unfold tV
  rw [e]
  exact q
theorem DXs.same {H H' : Hp} {vs : List V} {ds : List Dt} {cs : Nat} (h : DXs P H m k vs ds cs) (s : Same H H') : DXs P H' m k vs ds cs := by
  induction h with
  | nil => exact .nil
  | cons a _ ih => exact .cons (a.same s) ih
theorem gx_s {i : Nat} {z : Str} (e : σ[i]? = some (some (.str z))) (h : Wd z) : Gx P m σ H0 (tV i) k 1 0 := fun H Q s q => tV_at e (q _ _ H (Same.refl H) (DX.str h) (by simp [Dt.oc]))
theorem gx_v {i k0 : Nat} {v : V} {d : Dt} (e : σ[i]? = some (some v)) (h : PX H0 v d k0 c) (hP : ∀ a xs, H0 a = some (.tup xs) → P a) (hk : k0 ≤ k) : Gx P m σ H0 (tV i) k c 0 := fun H Q s q => tV_at e (q _ _ H (Same.refl H) (((h.dx hP).mono hk (Nat.le_refl _)).same s) (by have := h.oc; omega))
theorem gx_cs {z : Str} (h : Wd z) : Gx P m σ H0 (tC (.str z)) k 1 0 := fun H Q s q => q _ _ H (Same.refl H) (DX.str h) (by simp [Dt.oc])
theorem gx_cn : Gx P m σ H0 (tC .non) k 1 1 := fun H Q s q => q _ _ H (Same.refl H) DX.non (by simp [Dt.oc])
theorem gx_cb {b : Bool} : Gx P m σ H0 (tC (.bl b)) k 1 1 := fun H Q s q => q _ _ H (Same.refl H) (DX.bl b) (by simp [Dt.oc])
theorem gx_ci {i : Int} (h1 : (toString i : Str).length ≤ 202) (h2 : i.natAbs.log2 < 1920) : Gx P m σ H0 (tC (.int i)) k 1 1 := fun H Q s q => q _ _ H (Same.refl H) (DX.int h1 h2) (by simp [Dt.oc])
theorem gx_up {K : PySem.W.Frag} {i : Nat} {z : Str} (e : σ[i]? = some (some (.str z))) (h : Wd z) : Gx P m σ H0 (tBM0 K "str" rUpper (tV i)) k 1 0 := fun H Q s q => tV_at (Q := fun x H1 => tyV K "str" x H1 ∧ rUpper x [] H1 Q) e ⟨rfl, z, rfl, rfl, h, upper_wd h, q _ _ H (Same.refl H) (DX.str (upper_wd h)) (by simp [Dt.oc])⟩
theorem gx_tup (hP : ∀ a, H0 a = none → P a) (h : GxA P m σ H0 ta k c o n) (hn : n ≤ 1000) : Gx P m σ H0 (tTup ta) (k + 1) (c + 1) o := fun H Q s q =>
  h H _ s fun vs ds H1 s1 hl hx ho => ⟨by have : sizeLine = 16777216 := sizeLine_eq; omega, fun a ha => q _ _ _ (s1.trans (Same.upd ha _)) (DX.tup (hP _ (s.free (s1.free ha))) upd_same (by omega) (hx.same (Same.upd ha _))) (by simpa only [Dt.oc] using ho)⟩
theorem gx_lst (hP : ∀ a, H0 a = none → P a) (h : GxA P true σ H0 ta k c o n) (hn : n ≤ 1000) : Gx P true σ H0 (tLst ta) (k + 1) (c + 1) 1 := fun H Q s q =>
  h H _ s fun vs ds H1 s1 hl hx ho => ⟨by have : sizeLine = 16777216 := sizeLine_eq; omega, fun a ha => q _ _ _ (s1.trans (Same.upd ha _)) (DX.lst (hP _ (s.free (s1.free ha))) upd_same (hx.same (Same.upd ha _))) (by simp [Dt.oc])⟩
theorem gx_dn (hP : ∀ a, H0 a = none → P a) : Gx P false σ H0 tDNewK (k + 1) 1 1 := fun H Q s q p hp => q _ _ _ (Same.upd hp _) (DX.dc0 (hP _ (s.free hp)) upd_same) (by simp [Dt.oc])
theorem gxa_nil : GxA P m σ H0 tNil k 0 0 0 := fun H Q s q => q [] [] H (Same.refl H) rfl .nil (by simp [ocs])
theorem gxa_cons (h : Gx P m σ H0 te k c o) (hr : GxA P m σ H0 ta k c2 o2 n) : GxA P m σ H0 (tCons te ta) k (c + c2) (o + o2) (n + 1) := fun H Q s q =>
  h H _ s fun v d H1 s1 hx ho => hr H1 _ (s.trans s1) fun vs ds H2 s2 hl hxs ho2 => q (v :: vs) (d :: ds) H2 (s1.trans s2) (by simp [hl]) (.cons (hx.same s2) hxs) (by simp only [ocs]; omega)
theorem gxl_nil : GxL P σ H0 tNil C 0 := fun H Q s q => q [] H (Same.refl H) rfl (fun _ h => nomatch h)
theorem gxl_cons (h : ∃ m c o, Gx P m σ H0 te 30 c o ∧ c ≤ C ∧ o ≤ 1) (hr : GxL P σ H0 ta C n) : GxL P σ H0 (tCons te ta) C (n + 1) := fun H Q s q => by
  obtain ⟨m, c, o, hx, hc, ho⟩ := h
  exact hx H _ s fun v d H1 s1 hv hoc => hr H1 _ (s.trans s1) fun vs H2 s2 hl hvs => q (v :: vs) H2 (s1.trans s2) (by simp [hl]) fun x hx => by
    rcases List.mem_cons.mp hx with rfl | hx
    · exact ⟨m, d, (hv.mono (Nat.le_refl _) hc).same s2, by omega⟩
    · exact hvs x hx
theorem gxl_T (h : Gx P true σ H0 te 30 c o) (hc : c ≤ C) (ho : o ≤ 1) (hr : GxL P σ H0 ta C n) : GxL P σ H0 (tCons te ta) C (n + 1) := gxl_cons ⟨true, c, o, h, hc, ho⟩ hr
theorem gxl_F (h : Gx P false σ H0 te 30 c o) (hc : c ≤ C) (ho : o ≤ 1) (hr : GxL P σ H0 ta C n) : GxL P σ H0 (tCons te ta) C (n + 1) := gxl_cons ⟨false, c, o, h, hc, ho⟩ hr
theorem set_gx {u : TS} {D : Ends} {H : Hp} {i : Nat} (G : GxL P σ H ta C n) (hn : n ≤ 50) (q : ∀ S ws H', Same H H' → H S = none → H' S = some (.lst ws) → ws.length = n → (∀ x ∈ ws, OkE P H' C x) → u D (σ.set i (some (.ref S))) H') : tSeq (tAsg (tLst ta) (gName i)) u D σ H :=
  G H _ (Same.refl H) fun vs H1 s1 hl hv => ⟨by have : sizeLine = 16777216 := sizeLine_eq; omega, fun S hS => q S vs _ (s1.trans (Same.upd hS _)) (s1.free hS) upd_same hl fun x hx => (hv x hx).same (Same.upd hS _)⟩
theorem add_gx {u : TS} {D : Ends} {H : Hp} {i : Nat} {S : Addr} {vs : List V} (e : σ[i]? = some (some (.ref S))) (g : H S = some (.lst vs)) (hvs : ∀ x ∈ vs, OkE P H C x) (hl : vs.length ≤ 900) (G : GxL P σ H ta C n) (hn : n ≤ 50)
    (q : ∀ S' ws H', Same H H' → H S' = none → H' S' = some (.lst ws) → ws.length = vs.length + n → (∀ x ∈ ws, OkE P H' C x) → u D (σ.set i (some (.ref S'))) H') : tSeq (tAsg (tOp rAddD (tV i) (tLst ta)) (gName i)) u D σ H := by
  have hsz : sizeLine = 16777216 := sizeLine_eq
  refine tSeq_set (tV_at (Q := fun x H1 => tLst ta σ H1 fun y H2 => rAddD x y H2 fun z H3 => u D (σ.set i (some z)) H3) e ?_)
  refine G H _ (Same.refl H) fun ws H1 s1 hl1 hw => ⟨by omega, fun L hL => ?_⟩
  have s2 := Same.upd hL (.lst ws)
  refine ⟨vs, ws, (s1.trans s2) _ _ g, upd_same, by omega, fun S' hS' => ?_⟩
  have s3 := Same.upd hS' (.lst (vs ++ ws))
  refine q S' (vs ++ ws) _ ((s1.trans s2).trans s3) (s1.free (s2.free hS')) upd_same (by simp; omega) fun x hx => ?_
  rcases List.mem_append.mp hx with h | h
  · exact (hvs x h).same ((s1.trans s2).trans s3)
  · exact (hw x h).same (s2.trans s3)
end
section
variable {X : Cx} {pins : List (Addr × Obj)} {σ : St} {H : Hp} {s : Shared}
theorem items_lst {a : Addr} {vs : List Value} {Q : List Value → Shared → Prop} {E : Value → Shared → Prop} {A : Around} (hh : A.handled = none) (hl : s.heap.IsList a vs.toArray)
    (q : ∀ g, Heap.ExtBut s.heap.objs.size s.heap g → Q vs { s with heap := g }) : wpAny (model X.prog X.w) A (unpackItems (.ref a) vs.length none) Q E s := by
  have hlt : a ≠ s.heap.objs.size := by obtain ⟨o, ho, _⟩ := hl; exact Nat.ne_of_lt (Heap.lt_size ho)
  unfold unpackItems
  refine wpAny_bind ?_
  unfold notIterableAtAll
  refine wpAny_bind (wpAny_specialOf hl.typeIs slot_list_iter.lookup ?_)
  refine wpAny_pure ?_
  simp only [Bool.false_eq_true, if_false]
  refine wpAny_bind (wpAny_holding (wpAny_pyIter_list hl ?_))
  refine wpAny_bind (wpAny_holding (PySem.W.kun_draw hlt vs.length 0 _ _ ⟨_, Heap.get?_push_size _ rfl, rfl, rfl⟩ (hl.push _) (by simp) fun g1 c1 e1 => ?_))
  have hall : List.take vs.length (List.drop 0 vs.toArray.toList) = vs := by simp
  rw [hall, if_neg (by simp)]
  have hl1 : g1.IsList a vs.toArray := (hl.push _).extBut e1.extBut hlt
  refine wpAny_bind (wpAny_holding (wpAny_pyNext_list_end hh c1 hl1 (by simp) fun g2 e2 => ?_))
  simp only [Option.isSome_none, Bool.false_eq_true, if_false]
  exact wpAny_pure (q g2 fun b o hb e => e2 b o hb (e1.extBut b o hb (Heap.get?_push_of_some _ e)))
end
section
variable {X : Cx} {es : List Expr} {k n : Nat} {u : TGs} {pos : Pos}
def gTupL (K : PySem.W.Frag) (n : Nat) (t : TGs) : TG := fun v σ H Q => ∃ a xs, v = .ref a ∧ SqL K H a xs ∧ xs.length = n ∧ t xs σ H Q
theorem g_tupL (K : PySem.W.Frag) (hc : X.calm = true) (hg : SGs X es u) (hK : X.K = K := by rfl) (hn : (assignEach es X.env).length = n := by rfl) (hst : (assignEach es X.env).findIdx? (·.1) = none := by rfl) : SG X (.Tuple es k pos) (gTupL K n u) := by
  subst hK
  constructor
  intro pins s σ H v w Q I r h
  obtain ⟨a, xs, rfl, hq, hl, h⟩ := h
  cases r
  obtain ⟨its, rv, pl, hz⟩ := I.list hq
  have hlen := rv.length
  rw [assign_Tuple]
  refine wpAny_bind (wpAny_standAt ?_)
  unfold unpack
  rw [hst, hn, ← hl, hlen]
  refine wpAny_bind (wpAny_holding (items_lst (I.ok.hd hc) pl.isList fun g e => ?_))
  have I1 : Inv X pins σ H { s with heap := g } := I.kept (t' := s.toks) fun b o q => e b o (Nat.ne_of_lt (Heap.lt_size q)) q
  exact hg.h pins _ σ H xs _ Q I1 rv h
end
section
variable {prog : Program} {w : World} {A : Around} {R : Result → Shared → Prop} {I : Addr} {fp wr : List Addr} {G : Array GenState → Array GenState → Prop} {n : Nat} {P : Nat → Value → Prop} {St : Nat → Shared → Prop}
end
section
variable {prog : Program} {w : World} {A : Around} {E : Value → Shared → Prop} {s : Shared}
end
section
variable {X : Cx}
end
section
variable {prog : Program} {w : World} {A : Around} {E : Value → Shared → Prop} {s : Shared} {I : Addr} {fp wr : List Addr} {G : Array GenState → Array GenState → Prop} {n : Nat} {P : Nat → Value → Prop} {St : Nat → Shared → Prop}
end
section
variable {X : Cx}
end
section
variable {X : Cx} {e st : Expr} {te ts : TE} {p2 pos : Pos}
end
theorem abc_at (c : Nat) (h : 97 ≤ c ∧ c < 123) : ABC.cps.toList[c - 97]? = some c := by
  have : ∀ d : Fin 26, ABC.cps.toList[d.val]? = some (97 + d.val) := by decide +kernel
  have := this ⟨c - 97, by omega⟩
  rw [this]; congr 1; simp; omega
theorem abc_find (c : Nat) (h : 97 ≤ c ∧ c < 123) : Builtin.Str.occurrences ABC ⟨#[c]⟩ 0 ABC.length 1 = [c - 97] := by
  have : ∀ d : Fin 26, Builtin.Str.occurrences ABC ⟨#[97 + d.val]⟩ 0 ABC.length 1 = [d.val] := by decide +kernel
  have := this ⟨c - 97, by omega⟩
  simp only at this
  rw [show 97 + (c - 97) = c by omega] at this
  exact this
end L2
set_option autoImplicit false
set_option maxRecDepth 100000
set_option maxHeartbeats 400000
--LEVEL 60
namespace T1
open PySem L2
def top (i : Nat) : Stmt := PySem.Challenge.pw_coilkind_k55_things_known.main.body.getD i (.Pass ⟨0, 0, 0, 0⟩)
abbrev s_is_name : Stmt := top 4
abbrev s_are_rising : Stmt := top 5
abbrev s_is_thing : Stmt := top 7
abbrev s_pieces : Stmt := top 8
abbrev s_is_formed : Stmt := top 9
abbrev s_parts_in : Stmt := top 10
abbrev s_law_tpen : Stmt := top 12
abbrev s_law_tdraw : Stmt := top 13
abbrev s_law_tnames : Stmt := top 14
abbrev s_law_tthing : Stmt := top 15
abbrev s_law_tis_name : Stmt := top 16
abbrev s_law_tis_thing : Stmt := top 17
abbrev s_law_tpieces : Stmt := top 18
abbrev s_law_todd : Stmt := top 19
abbrev s_law_tbent : Stmt := top 20
abbrev s_law_tdeep : Stmt := top 21
abbrev s_law_tdeep_right : Stmt := top 22
abbrev s_law : Stmt := top 23
structure Txt (K : PySem.W.Frag) (mg : Str → Option Value) : Prop where
  n_len : mg "len" = none
  n_isinstance : mg "isinstance" = none
  n_all : mg "all" = none
  n_range : mg "range" = none
  n_str : mg "str" = none
  n_bool : mg "bool" = none
  n_int : mg "int" = none
  n_tuple : mg "tuple" = none
  n_sorted : mg "sorted" = none
  n_repr : mg "repr" = none
  n_enumerate : mg "enumerate" = none
  n_zip : mg "zip" = none
  c_LETTERS : ∃ u, mg "LETTERS" = some u ∧ RelV (.str "abcdefghijklmnopqrstuvwxyz") u
  c_LONGEST : ∃ u, mg "LONGEST" = some u ∧ RelV (.int 8) u
  c_NO_NAMES : ∃ a, mg "NO_NAMES" = some (.ref a) ∧ ∀ H, SqT K H a [.str "all", .str "none", .str "way", .str "box", .str "pick"]
  t_is_name : FnT K mg "is_name" s_is_name ["thing"]
  t_are_rising : FnT K mg "are_rising" s_are_rising ["words"]
  t_is_thing : FnT K mg "is_thing" s_is_thing ["thing"]
  t_pieces : FnT K mg "pieces" s_pieces ["thing"]
  t_is_formed : FnT K mg "is_formed" s_is_formed ["thing"]
  t_parts_in : FnT K mg "parts_in" s_parts_in ["thing"]
  t_law_tpen : FnT K mg "_law_tpen" s_law_tpen ["script"]
  t_law_tdraw : FnT K mg "_law_tdraw" s_law_tdraw ["pen", "many"]
  t_law_tnames : FnT K mg "_law_tnames" s_law_tnames ["pen", "many"]
  t_law_tthing : FnT K mg "_law_tthing" s_law_tthing ["pen", "words", "left"]
  t_law_tis_name : FnT K mg "_law_tis_name" s_law_tis_name ["thing"]
  t_law_tis_thing : FnT K mg "_law_tis_thing" s_law_tis_thing ["thing"]
  t_law_tpieces : FnT K mg "_law_tpieces" s_law_tpieces ["thing"]
  t_law_todd : FnT K mg "_law_todd" s_law_todd ["pen", "thing", "words"]
  t_law_tbent : FnT K mg "_law_tbent" s_law_tbent ["pen", "thing", "words"]
  t_law_tdeep : FnT K mg "_law_tdeep" s_law_tdeep ["ways", "words", "inner"]
  t_law_tdeep_right : FnT K mg "_law_tdeep_right" s_law_tdeep_right ["pen", "words"]
  t_law : FnT K mg "law" s_law ["script"]
theorem sc_is_name : FnScope ["thing"] ["thing"] (defScope s_is_name) := ⟨rfl, rfl, rfl, by decide +kernel, rfl, by decide +kernel, by decide +kernel⟩
theorem sc_are_rising : FnScope ["words"] ["words"] (defScope s_are_rising) := ⟨rfl, rfl, rfl, by decide +kernel, rfl, by decide +kernel, by decide +kernel⟩
theorem sc_is_thing : FnScope ["thing", "level", "inner"] ["thing"] (defScope s_is_thing) := ⟨rfl, rfl, rfl, by decide +kernel, rfl, by decide +kernel, by decide +kernel⟩
theorem sc_pieces : FnScope ["thing", "many", "waiting", "one"] ["thing"] (defScope s_pieces) := ⟨rfl, rfl, rfl, by decide +kernel, rfl, by decide +kernel, by decide +kernel⟩
theorem sc_is_formed : FnScope ["thing"] ["thing"] (defScope s_is_formed) := ⟨rfl, rfl, rfl, by decide +kernel, rfl, by decide +kernel, by decide +kernel⟩
theorem sc_parts_in : FnScope ["thing"] ["thing"] (defScope s_parts_in) := ⟨rfl, rfl, rfl, by decide +kernel, rfl, by decide +kernel, by decide +kernel⟩
theorem sc_law_tpen : FnScope ["script", "mixed", "cell"] ["script"] (defScope s_law_tpen) := ⟨rfl, rfl, rfl, by decide +kernel, rfl, by decide +kernel, by decide +kernel⟩
theorem sc_law_tdraw : FnScope ["pen", "many", "found", "one", "two"] ["pen", "many"] (defScope s_law_tdraw) := ⟨rfl, rfl, rfl, by decide +kernel, rfl, by decide +kernel, by decide +kernel⟩
theorem sc_law_tnames : FnScope ["pen", "many", "letters", "ahead", "first", "found", "k", "name"] ["pen", "many"] (defScope s_law_tnames) := ⟨rfl, rfl, rfl, by decide +kernel, rfl, by decide +kernel, by decide +kernel⟩
theorem sc_law_tthing : FnScope ["pen", "words", "left", "some"] ["pen", "words", "left"] (defScope s_law_tthing) := ⟨rfl, rfl, rfl, by decide +kernel, rfl, by decide +kernel, by decide +kernel⟩
theorem sc_law_tis_name : FnScope ["thing"] ["thing"] (defScope s_law_tis_name) := ⟨rfl, rfl, rfl, by decide +kernel, rfl, by decide +kernel, by decide +kernel⟩
theorem sc_law_tis_thing : FnScope ["thing", "last", "pair"] ["thing"] (defScope s_law_tis_thing) := ⟨rfl, rfl, rfl, by decide +kernel, rfl, by decide +kernel, by decide +kernel⟩
theorem sc_law_tpieces : FnScope ["thing", "total", "word", "one"] ["thing"] (defScope s_law_tpieces) := ⟨rfl, rfl, rfl, by decide +kernel, rfl, by decide +kernel, by decide +kernel⟩
theorem sc_law_todd : FnScope ["pen", "thing", "words", "e", "w", "v", "some"] ["pen", "thing", "words"] (defScope s_law_todd) := ⟨rfl, rfl, rfl, by decide +kernel, rfl, by decide +kernel, by decide +kernel⟩
theorem sc_law_tbent : FnScope ["pen", "thing", "words", "at", "pair"] ["pen", "thing", "words"] (defScope s_law_tbent) := ⟨rfl, rfl, rfl, by decide +kernel, rfl, by decide +kernel, by decide +kernel⟩
theorem sc_law_tdeep : FnScope ["ways", "words", "inner", "way"] ["ways", "words", "inner"] (defScope s_law_tdeep) := ⟨rfl, rfl, rfl, by decide +kernel, rfl, by decide +kernel, by decide +kernel⟩
theorem sc_law_tdeep_right : FnScope ["pen", "words", "left", "ways", "odd", "due"] ["pen", "words"] (defScope s_law_tdeep_right) := ⟨rfl, rfl, rfl, by decide +kernel, rfl, by decide +kernel, by decide +kernel⟩
theorem sc_law : FnScope ["script", "pen", "words", "k", "thing", "found", "turn", "other", "shown"] ["script"] (defScope s_law) := ⟨rfl, rfl, rfl, by decide +kernel, rfl, by decide +kernel, by decide +kernel⟩
section
variable {P : Program} {w : World} {K : PySem.W.Frag} {mg : Str → Option Value} {base : Heap}
theorem ok_law_tdraw (T : Txt K mg) : FnK P w K mg base 1 "_law_tdraw" ["pen", "many"] spDraw := by
  refine T.t_law_tdraw.okS sc_law_tdraw (fun vs H Q E h => ?_) (fun f cdv A outer s H vs Q E hr h => ?_)
  · obtain ⟨p, w', m, t, rfl, _⟩ := h
    rfl
  · obtain ⟨p, w', m, t, rfl, hp, ⟨hm0, hm1⟩, ht, k⟩ := h
    have hu := hu_of hr
    have npw := hp.ne
    have htm : t < 1000000000000 := ht
    refine ⟨_, (sb_cons (s_if (w_and (y_cmpR op_gtD (z_callB (call_lenK K) (by rfl) T.n_len PySem.boot_len (sa_Subscript (z_dget hu (zv 0) z_str (fun _ _ => rfl)) sa_nil)) z_int (nomark _)) (w_and1 (y_cmpR op_ltD (z_ix (ix_K K) (z_dget hu (zv 0) z_str (fun _ _ => rfl)) z_int (fun _ _ => rfl)) (zv 1) (nomark _)))).pt (sb_one (s_expr (z_bm K PySem.F.plainAttrs_list PySem.F.slot_list_pop PySem.F.type_list_pop mt_popAt (z_dget hu (zv 0) z_str (fun _ _ => rfl)) (sa_Constant z_int sa_nil)))) sb_nil)
      (sb_cons (s_if (y_cmpR op_gtD (z_callB (call_lenK K) (by rfl) T.n_len PySem.boot_len (sa_Subscript (z_dget hu (zv 0) z_str (fun _ _ => rfl)) sa_nil)) z_int (nomark _)) (sb_cons (s_set (i := 2) sc_law_tdraw.nd rfl (Or.inl rfl) (z_op op_modD (z_ix (ix_K K) (z_dget hu (zv 0) z_str (fun _ _ => rfl)) z_int (fun _ _ => rfl)) (zv 1)))
      (sb_cons (s_asg (z_op op_divD (z_ix (ix_K K) (z_dget hu (zv 0) z_str (fun _ _ => rfl)) z_int (fun _ _ => rfl)) (zv 1)) (g_sub (z_dget hu (zv 0) z_str (fun _ _ => rfl)) z_int set_list))
      (sb_one (s_ret (zv 2))))) sb_nil)
      (sb_cons (s_dput hu (zv 0) z_str (z_op op_addD (z_dget hu (zv 0) z_str (fun _ _ => rfl)) z_int) rfl)
      (sb_cons (s_set (i := 3) sc_law_tdraw.nd rfl (Or.inl rfl) (z_op op_modD (z_op op_addD (z_dget hu (zv 0) z_str (fun _ _ => rfl)) (z_op op_mulD (z_op op_mulD z_int (z_dget hu (zv 0) z_str (fun _ _ => rfl))) (z_dget hu (zv 0) z_str (fun _ _ => rfl)))) z_int))
      (sb_cons (s_set (i := 4) sc_law_tdraw.nd rfl (Or.inl rfl) (z_op op_modD (z_op op_addD (z_op op_addD (z_op op_mulD (zv 3) (zv 3)) (z_op op_mulD z_int (z_dget hu (zv 0) z_str (fun _ _ => rfl)))) z_int) z_int))
      (sb_one (s_ret (z_op op_modD (z_op op_divD (z_op op_modD (z_op op_addD (z_op op_mulD (zv 4) (zv 4)) (zv 3)) z_int) z_int) (zv 1))))))))), ?_⟩
    obtain ⟨mx, c, ws, h1, h2, ⟨hx0, hx1⟩, hc0, hc1⟩ := hp.ex
    have gW : ∀ {H1 : Hp} {c1 : Int}, H1 p = some (.dK (penD w' mx c1)) → DGet H1 p (.str "wide") (some (.ref w')) := fun h => DGet.k (k := Sum.inr "wide") h
    have gT : ∀ {H1 : Hp} {c1 : Int}, H1 p = some (.dK (penD w' mx c1)) → DGet H1 p (.str "turn") (some (.int c1)) := fun h => DGet.k (k := Sum.inr "turn") h
    have gM : ∀ {H1 : Hp} {c1 : Int}, H1 p = some (.dK (penD w' mx c1)) → DGet H1 p (.str "mixed") (some (.int mx)) := fun h => DGet.k (k := Sum.inr "mixed") h
    refine tSeq_by (fun σ' H1 => σ' = [some (.ref p), some (.int m), none, none, none] ∧ ∃ ws1 : List Int, H1 p = some (.dK (penD w' mx c)) ∧ H1 w' = some (.lst (ws1.map V.int)) ∧ Sm p w' H H1) ?_ ?_
    · intro nx hnx
      refine ⟨p, .ref w', rfl, gW h1, .inl ⟨_, .inl (SqL.of h2), _, rfl, ?_⟩⟩
      refine ite2 (fun hl => ?_) (fun hl => ?_)
      · cases ws with
        | nil => simp at hl
        | cons x0 ws =>
          refine ⟨p, .ref w', rfl, gW h1, _, .int x0, .inl (SqL.of h2), atI_zero _ _, _, rfl, ?_⟩
          refine ite2 (fun hl2 => ?_) (fun hl2 => ?_)
          · refine ⟨p, .ref w', rfl, gW h1, ?_, w', _, 0, 0, .int x0, rfl, rfl, h2, by decide, by decide, (by rw [List.length_map]; exact (ixN_seq (ixN_zero _)).1), rfl, ?_⟩
            · exact .inl ⟨rfl, _, SqL.of h2⟩
            · exact hnx _ _ ⟨rfl, ws, by rw [upd_ne npw]; exact h1, upd_same, fun b o hb h3 h4 => by rw [upd_ne h4]; exact hb⟩
          · exact hnx _ _ ⟨rfl, x0 :: ws, h1, h2, Sm.refl⟩
      · exact hnx _ _ ⟨rfl, ws, h1, h2, Sm.refl⟩
    · rintro σ' H1 ⟨rfl, ws1, g1, g2, sm⟩
      refine tSeq_by (fun σ' H2 => σ' = [some (.ref p), some (.int m), none, none, none] ∧ H2 = H1) ?_ ?_
      · intro nx hnx
        refine ⟨p, .ref w', rfl, gW g1, .inl ⟨_, .inl (SqL.of g2), _, rfl, ?_⟩⟩
        refine ite2 (fun hl => ?_) (fun hl => ?_)
        · cases ws1 with
          | nil => simp at hl
          | cons x0 ws1 =>
            refine ⟨p, .ref w', rfl, gW g1, _, .int x0, .inl (SqL.of g2), atI_zero _ _, hm0, ?_⟩
            refine ⟨p, .ref w', rfl, gW g1, _, .int x0, .inl (SqL.of g2), atI_zero _ _, ⟨hm0, hm1⟩, ?_⟩
            refine ⟨p, .ref w', rfl, gW g1, w', _, 0, 0, rfl, rfl, g2, ixN_zero _, ?_⟩
            refine k _ _ (Int.emod_nonneg _ (by omega)) (Int.emod_lt_of_pos _ hm0) ⟨mx, c, x0 / m :: ws1, ?_, upd_same, ⟨hx0, hx1⟩, hc0, by omega⟩ (sm.trans fun b o hb h3 h4 => by rw [upd_ne h4]; exact hb)
            rw [upd_ne npw]; exact g1
        · exact hnx _ _ ⟨rfl, rfl⟩
      · rintro σ' H2 ⟨rfl, rfl⟩
        have g3 : upd H2 p (.dK (penD w' mx (c + 1))) p = some (.dK (penD w' mx (c + 1))) := upd_same
        have b1 : (0 : Int) ≤ c + 1 ∧ c + 1 ≤ 1000000000000 := by omega
        refine ⟨p, .int c, rfl, gT g1, p, _, rfl, DPut.k (k := Sum.inr "turn") g1 (show 3 < sizeLine by decide), ?_⟩
        show tSeq _ _ _ _ (upd H2 p (.dK (penD w' mx (c + 1))))
        refine ⟨p, _, rfl, gM g3, p, _, rfl, gT g3, .inl ⟨by omega, by omega⟩, p, _, rfl, gT g3, .inl ⟨?_, ?_⟩, by decide, ?_⟩
        · show -(2 ^ 64) < 7919 * (c + 1); omega
        · show 7919 * (c + 1) < 2 ^ 64; omega
        generalize ho : (mx + 7919 * (c + 1) * (c + 1)) % 2147483629 = one
        have ho0 : 0 ≤ one := by rw [← ho]; exact Int.emod_nonneg _ (by decide)
        have ho1 : one < 2147483629 := by rw [← ho]; exact Int.emod_lt_of_pos _ (by decide)
        refine ⟨.inl ⟨by omega, by omega⟩, p, _, rfl, gT g3, .inl ⟨by decide, by decide⟩, by decide, ?_⟩
        generalize ht' : (one * one + 40692 * (c + 1) + 3) % 998244353 = two
        have ht0 : 0 ≤ two := by rw [← ht']; exact Int.emod_nonneg _ (by decide)
        have ht1 : two < 998244353 := by rw [← ht']; exact Int.emod_lt_of_pos _ (by decide)
        refine ⟨.inl ⟨by omega, by omega⟩, by decide, ⟨by decide, by decide⟩, hm0, ?_⟩
        refine k _ _ (Int.emod_nonneg _ (by omega)) (Int.emod_lt_of_pos _ hm0) ⟨mx, c + 1, ws1, g3, ?_, ⟨hx0, hx1⟩, by omega, by omega⟩ (sm.trans fun b o hb h3 h4 => by rw [upd_ne h3]; exact hb)
        rw [upd_ne npw.symm]; exact g2
theorem ok_law_tpen (T : Txt K mg) : FnK P w K mg base 1 "_law_tpen" ["script"] (spPen K) := by
  refine T.t_law_tpen.okS sc_law_tpen (fun vs H Q E h => ?_) (fun f cdv A outer s H vs Q E hr h => ?_)
  · obtain ⟨a, ns, rfl, _⟩ := h
    rfl
  · obtain ⟨a, ns, rfl, hS, hl, k⟩ := h
    refine ⟨_, (sb_cons (s_set (i := 1) sc_law_tpen.nd rfl (Or.inl rfl) z_int)
      (sb_cons (s_for PassesOwn.never rfl (i_K K (zv 0)) (g_name (i := 2) sc_law_tpen.nd rfl (Or.inl rfl)) (sb_one (s_set (i := 1) sc_law_tpen.nd rfl (Or.inl rfl) (z_op op_modD (z_op op_addD (z_op op_addD (z_op op_mulD (zv 1) z_int) (z_op op_modD (zv 2) z_int)) z_int) z_int))))
      (sb_one (s_ret (z_disp (zz_cons z_str (zv 1) (zz_cons z_str z_int (zz_cons z_str (z_lc (own := ["cell"]) (idx := []) (N' := ["cell"]) (⟨rfl, by decide +kernel, by decide +kernel, (show ∀ y ∈ Scope.names _, y.2 = NameKind.free → ((defScope s_law_tpen).names.lookup y.1 = some NameKind.cell ∨ (defScope s_law_tpen).names.lookup y.1 = some NameKind.free) by decide +kernel), (show ∀ j ∈ ([] : List Nat), (Scope.names _).lookup ((["script", "mixed", "cell"] : List Str).getD j "") = some NameKind.free ∧ j < (["script", "mixed", "cell"] : List Str).length by decide +kernel), rfl⟩) rfl (i_K K (zv 0)) (fun _ _ _ _ _ _ => (g_name (i := 0) (show List.Nodup (["cell"] : List Str) by decide +kernel) rfl (Or.inl rfl))) (fun _ _ _ _ _ _ => (c_one (y_cmpR op_geD (zv 0) (z_op op_powD z_int z_int) (nomark _)))) (fun _ _ _ _ _ _ => (zv 0))) zz_nil))) rfl rfl (by simp) (by decide)))))), ?_⟩
    refine .inl ⟨⟨_, hS⟩, for_by (itn_list (ns.map V.int)) (fun i σ H' => H' = H ∧ ∃ (m : Int) (v : Option V), σ = [some (.ref a), some (.int m), v] ∧ 0 ≤ m ∧ m < 2147483629) ⟨rfl, 7, none, rfl, by decide, by decide⟩ (fun i τ H' _ h => by rw [h.1]; exact hS) ?_ ?_⟩
    · rintro i σ H' hi ⟨rfl, m, v, rfl, hm0, hm1⟩
      rw [List.length_map] at hi
      rw [mapInt_getD ns i hi]
      exact ⟨.inl ⟨by omega, by omega⟩, by decide, by decide, rfl, _, _, rfl, Int.emod_nonneg _ (by decide), Int.emod_lt_of_pos _ (by decide)⟩
    · rintro σ H' ⟨rfl, m, v, rfl, hm0, hm1⟩
      intro p hp
      have hS2 : ∀ o, SqL K (upd H' p o) a (ns.map V.int) := fun o => (Same.upd hp o).seq hS
      refine .inl ⟨⟨_, hS2 _⟩, fun D hD => ?_⟩
      have npD : D ≠ p := fun e => by rw [e, upd_same] at hD; cases hD
      have hD0 : H' D = none := by rw [upd_ne npD] at hD; exact hD
      have sD : ∀ o, Same (upd H' p (.dK [])) (upd (upd H' p (.dK [])) D o) := fun o => Same.upd hD o
      refine lc_pure (itn_list (ns.map V.int)) (fun i => decide ((10 : Int) ^ 15 ≤ ns.getD i 0)) (fun i => .int (ns.getD i 0)) (by rw [List.length_map]; exact small1000 (by omega)) (fun ys => (sD _).seq (hS2 _)) (fun i hi ys k' hk => ?_) (fun i hi _ ys k' hk => ?_) ?_
      · rw [List.length_map] at hi
        rw [mapInt_getD ns i hi]
        exact ⟨⟨by decide, by decide, by decide⟩, _, rfl, hk⟩
      · rw [List.length_map] at hi
        rw [mapInt_getD ns i hi]
        exact hk
      · refine ⟨by rw [upd_ne npD.symm, upd_same], penD D m 0, rfl, (show 3 ≤ 15 by decide), ?_⟩
        refine k p D _ hp hD0 ⟨m, 0, ((List.range (ns.map V.int).length).filter fun i => decide ((10 : Int) ^ 15 ≤ ns.getD i 0)).map (fun i => ns.getD i 0), upd_same, ?_, ⟨hm0, hm1⟩, by decide, by decide⟩ ?_
        · rw [upd_ne npD, upd_same, List.map_map]; rfl
        · intro b o hb
          rw [upd_ne (ne_of_none hb hp), upd_ne (ne_of_none hb hD0), upd_ne (ne_of_none hb hp)]
          exact hb
theorem ok_is_name (T : Txt K mg) : FnK P w K mg base 1 "is_name" ["thing"] spName := by
  refine T.t_is_name.okS sc_is_name (fun vs H Q E h => ?_) (fun f cdv A outer s H vs Q E hr h => ?_)
  · obtain ⟨p, w', x, rfl, _⟩ := h
    rfl
  · obtain ⟨p, w', x, rfl, hg, k⟩ := h
    refine ⟨_, (sb_cons (s_if (w_or (y_not (y_val (z_callB call_isiD (by rfl) T.n_isinstance PyProof.Rows.boot_isinstance (sa_Name (zv 0) (sa_Name (z_bltn (v := .ty "str") (by rfl) T.n_str PyProof.Rows.boot_str rfl) sa_nil))))) (w_or1 (y_not (y_chain op_leI op_leI z_int (z_callB (call_lenK K) (by rfl) T.n_len PySem.boot_len (sa_Name (zv 0) sa_nil)) (z_gl T.c_LONGEST))))).pt (sb_one (s_ret z_bl)) sb_nil)
      (sb_one (s_ret (z_and (z_cmpR (op_notInK K) (zv 0) (z_glK K T.c_NO_NAMES) rfl) (z_one (z_callB (call_allK K rfl) (by rfl) T.n_all PyProof.Rows.boot_all (sa_ListComp (z_lc (own := ["sign"]) (idx := []) (N' := ["sign"]) (⟨rfl, by decide +kernel, by decide +kernel, (show ∀ y ∈ Scope.names _, y.2 = NameKind.free → ((defScope s_is_name).names.lookup y.1 = some NameKind.cell ∨ (defScope s_is_name).names.lookup y.1 = some NameKind.free) by decide +kernel), (show ∀ j ∈ ([] : List Nat), (Scope.names _).lookup ((["thing"] : List Str).getD j "") = some NameKind.free ∧ j < (["thing"] : List Str).length by decide +kernel), rfl⟩) rfl (i_K K (zv 0)) (fun _ _ _ _ _ _ => (g_name (i := 0) (show List.Nodup (["sign"] : List Str) by decide +kernel) rfl (Or.inl rfl))) (fun _ _ _ _ _ _ => c_nil) (fun _ _ _ _ _ _ => (z_cmpR (op_inK K) (zv 0) (z_gl T.c_LETTERS) rfl))) sa_nil))))))), ?_⟩
    obtain ⟨t, ht, hts⟩ := goodTy hg
    refine ⟨by decide, t, ht, _, rfl, ?_⟩
    cases hs : isiT t "str" with
    | false =>
      refine iteT ?_
      have := k H (Same.refl H)
      rw [notStr (fun hz => by rw [hts.mpr hz] at hs; cases hs)] at this
      exact this
    | true =>
      obtain ⟨z, rfl⟩ := hts.mp hs
      have hz : z.length ≤ 100000 := hg
      have hz' : z.length ≤ sizeLine := by have : sizeLine = 16777216 := sizeLine_eq; omega
      refine iteF ?_
      have fin : ∀ b, isName z = b → Q (.bl b) H := fun b e => by have := k H (Same.refl H); rw [← e]; exact this
      refine ⟨hz', _, rfl, ?_⟩
      refine ite2 (fun h1 => ?_) (fun h1 => ?_)
      · refine ⟨_, rfl, ?_⟩
        have h1' : 1 ≤ z.length := by have := of_decide_eq_true h1; omega
        refine iteNB (fun h2 => ?_) (fun h2 => ?_)
        rotate_left
        · refine fin false ?_
          have h2' : ¬ z.length ≤ 8 := by have := of_decide_eq_false h2; omega
          simp [isName, h2']
        · have h2' : z.length ≤ 8 := by have := of_decide_eq_true h2; omega
          intro a ha
          refine ⟨_, .inr ha, rfl, rfl, _, rfl, ?_⟩
          have hin : inV (.str z) (NON.map V.str) = NON.any fun y => y == z := by
            show (NON.map V.str).any (fun y => eqV y (.str z)) = _
            rw [List.any_map]; rfl
          refine ite2 (fun h3 => ?_) (fun h3 => ?_)
          · intro D hD
            refine lc_pure (itn_str z) (fun _ => true) (fun i => .bl (inAbc (z.cps.getD i 0))) (small1000 (by have : z.cps.size = z.length := rfl; omega)) (fun _ => True.intro) (fun i hi ys k' hk => hk) (fun i hi _ ys k' hk => ⟨_, rfl, by rw [Bool.false_xor]; exact hk⟩) ?_
            refine ⟨(List.range z.cps.size).map fun i => inAbc (z.cps.getD i 0), ?_, ?_⟩
            · rw [List.map_map]
              have : ((List.range z.cps.size).filter fun _ => true) = List.range z.cps.size := by simp
              rw [this]
              exact SqL.of upd_same
            · rw [range_all_str]
              have e : isNameV (.str z) = z.cps.toList.all inAbc := by
                have h3' : (NON.any fun y => y == z) = false := by rw [← hin]; simpa using h3
                simp [isNameV, isName, h1', h2', h3']
              rw [← e]
              exact k _ (Same.upd hD _)
          · refine fin false ?_
            have h3' : (NON.any fun y => y == z) = true := by rw [← hin]; simpa using h3
            simp [isName, h3']
      · refine ⟨_, rfl, iteT (fin false ?_)⟩
        have h1' : ¬ 1 ≤ z.length := by have : ¬ (1 : Int) ≤ z.length := fun q => h1 (decide_eq_true q); omega
        simp [isName, h1']
theorem ok_is_nameD (T : Txt K mg) : FnK P w K mg base 1 "is_name" ["thing"] (spT nameD) := (ok_is_name T).imp fun _ _ _ _ h => spT_name h
def spRis : Sp := fun vs H Q _ => ∃ (L : Addr) (xs : List V) (ds : List Dt), vs = [.ref L] ∧ H L = some (.lst xs) ∧ xs.length = ds.length ∧ xs.length ≤ 1000 ∧ (∀ i (h : i < xs.length) (h' : i < ds.length), DD H xs[i] ds[i]) ∧ ∀ H', Same H H' → Q (.bl (ds.all nameD && rising (ds.map strD))) H'
theorem ok_are_rising (T : Txt K mg) : FnK P w K mg base 2 "are_rising" ["words"] spRis := by
  have F_is_name : FnK P w K mg base 1 "is_name" ["thing"] (spT nameD) := ok_is_nameD T
  refine T.t_are_rising.okS sc_are_rising (fun vs H Q E h => ?_) (fun f cdv A outer s H vs Q E hr h => ?_)
  · obtain ⟨L, xs, ds, rfl, _⟩ := h
    rfl
  · obtain ⟨L, xs, ds, rfl, gL, hl, hn, hds, k⟩ := h
    have hu0 := Nat.lt_of_succ_lt (hu_of hr)
    have hsz : sizeLine = 16777216 := sizeLine_eq
    refine ⟨_, (sb_one (s_ret (z_and (z_callB (call_allK K rfl) (by rfl) T.n_all PyProof.Rows.boot_all (sa_ListComp (z_lc (own := ["word"]) (idx := []) (N' := ["word"]) (⟨rfl, by decide +kernel, by decide +kernel, (show ∀ y ∈ Scope.names _, y.2 = NameKind.free → ((defScope s_are_rising).names.lookup y.1 = some NameKind.cell ∨ (defScope s_are_rising).names.lookup y.1 = some NameKind.free) by decide +kernel), (show ∀ j ∈ ([] : List Nat), (Scope.names _).lookup ((["words"] : List Str).getD j "") = some NameKind.free ∧ j < (["words"] : List Str).length by decide +kernel), rfl⟩) rfl (i_K K (zv 0)) (fun _ _ _ _ _ _ => (g_name (i := 0) (show List.Nodup (["word"] : List Str) by decide +kernel) rfl (Or.inl rfl))) (fun _ _ _ _ _ _ => c_nil) (fun _ _ _ _ _ _ => (z_fn F_is_name (hr.mono (by decide)) (sa_Name (zv 0) sa_nil)))) sa_nil)) (z_one (z_callB (call_allK K rfl) (by rfl) T.n_all PyProof.Rows.boot_all (sa_ListComp (z_lc (own := ["ahead", "behind"]) (idx := []) (N' := ["ahead", "behind"]) (⟨rfl, by decide +kernel, by decide +kernel, (show ∀ y ∈ Scope.names _, y.2 = NameKind.free → ((defScope s_are_rising).names.lookup y.1 = some NameKind.cell ∨ (defScope s_are_rising).names.lookup y.1 = some NameKind.free) by decide +kernel), (show ∀ j ∈ ([] : List Nat), (Scope.names _).lookup ((["words"] : List Str).getD j "") = some NameKind.free ∧ j < (["words"] : List Str).length by decide +kernel), rfl⟩) rfl (pi_zipK K (by rfl) T.n_zip (sa_Name (zv 0) (sa_Subscript (z_slice (sl_K K) (zv 0) (zo_some z_int) zo_none) sa_nil))) (fun _ _ _ _ _ _ => (g_tup K (n := 2) rfl (gs_cons (g_name (i := 0) (show List.Nodup (["ahead", "behind"] : List Str) by decide +kernel) rfl (Or.inl rfl)) (gs_cons (g_name (i := 1) (show List.Nodup (["ahead", "behind"] : List Str) by decide +kernel) rfl (Or.inl rfl)) gs_nil)))) (fun _ _ _ _ _ _ => c_nil) (fun _ _ _ _ _ _ => (z_cmpR op_ltD (zv 0) (zv 1) (nomark _)))) sa_nil)))))), ?_⟩
    refine Or.inl ⟨⟨xs, SqL.of gL⟩, fun D hD => ?_⟩
    refine lc_bools (itn_list xs) (fun i => nameD (ds.getD i .oth)) (by omega) hD (fun H2 s2 => SqL.of (s2 _ _ gL)) (fun i H2 k' hi s2 hk => ?_) (fun H2 s2 hl2 => ?_)
    · refine ⟨_, ds.getD i .oth, rfl, ?_, hk⟩
      have h3 := hds i hi (by omega)
      have e1 : xs.getD i .non = xs[i] := by simp [List.getD_eq_getElem?_getD, hi]
      have e2 : ds.getD i .oth = ds[i]'(by omega) := by rw [List.getD_eq_getElem?_getD, List.getElem?_eq_getElem (by omega)]; rfl
      show DD H2 (xs.getD i .non) _
      rw [e1, e2]
      exact h3.same s2
    · refine ⟨_, SqL.of hl2, _, rfl, ?_⟩
      rw [hl, range_all_list ds .oth nameD]
      refine iteB (fun h3 => ?_) (fun h3 => ?_)
      rotate_left
      · have := k H2 s2
        simp only [h3, Bool.false_and] at this
        exact this
      · obtain ⟨ws, hws, rfl⟩ : ∃ ws : List Str, ds.map strD = ws ∧ xs = ws.map V.str := by
          refine ⟨_, rfl, ?_⟩
          apply List.ext_getElem
          · simp [hl]
          · intro i h1 h2
            have h4 := List.all_eq_true.mp h3 _ (List.getElem_mem (show i < ds.length by omega))
            obtain ⟨z, q1, q2, _⟩ := nameD_str (hds i h1 (by omega)) h4
            rw [q1]; simp [q2, strD]
        have q1 := s2 _ _ gL
        refine ⟨1, rfl, Or.inr (Or.inl ⟨L, _, rfl, SqL.of q1, fun p1 hp1 => ?_⟩)⟩
        have n21 : L ≠ p1 := ne_of_none q1 hp1
        refine ⟨L, p1, _, _, rfl, SqL.of (by rw [upd_ne n21]; exact q1), SqL.of upd_same, fun D3 hD3 => ?_⟩
        have ec : cutV (ws.map V.str) (some 1) none = (ws.drop 1).map V.str := by
          have := cut_from (ws.map V.str) 1
          rw [List.map_drop]; exact this
        rw [ec] at hD3 ⊢
        refine lc_pair (itp_zip (ws.map V.str) ((ws.drop 1).map V.str)) (fun i τ H4 => H4 D3 = some (.lst (((List.range i).map fun i => strLt (ws.getD i "") (ws.getD (i + 1) "")).map V.bl)) ∧ Same (upd H2 p1 (.lst ((ws.drop 1).map V.str))) H4 ∧ ∃ v1 v2, τ = [v1, v2]) ⟨upd_same, Same.upd hD3 _, none, none, rfl⟩
          (fun i τ H4 _ h => ⟨SqL.of (h.2.1 _ _ (by rw [upd_ne n21]; exact q1)), SqL.of (h.2.1 _ _ upd_same)⟩) ?_ ?_
        · rintro i τ H4 T0 hi ⟨r1, r2, u1, u2, rfl⟩ hT0
          simp only [List.length_map, List.length_drop] at hi
          have e6 : (ws.map V.str).getD i .non = .str (ws.getD i "") := mapStr_getD ws i (by omega)
          have e7 : ((ws.drop 1).map V.str).getD i .non = .str (ws.getD (i + 1) "") := by
            rw [mapStr_getD (ws.drop 1) i (by rw [List.length_drop]; omega)]
            congr 1
            rw [List.getD_eq_getElem?_getD, List.getD_eq_getElem?_getD, List.getElem?_drop, Nat.add_comm]
          rw [e6, e7]
          refine tcNil_i ?_
          rw [if_pos rfl]
          simp only [List.length_map] at hn
          refine ⟨_, (Same.upd hT0 _) _ _ r1, by simp; omega, ?_, ((r2.trans (Same.upd hT0 _)).put hD3), _, _, rfl⟩
          rw [upd_same, List.range_succ, List.map_append, List.map_append]; rfl
        · rintro τ H4 ⟨r1, r2, u1, u2, rfl⟩
          refine ⟨_, SqL.of r1, ?_⟩
          have sAll : Same H H4 := (s2.trans (Same.upd hp1 _)).trans r2
          have := k H4 sAll
          simp only [h3, Bool.true_and] at this
          have er : ((List.range (min (ws.map V.str).length ((ws.drop 1).map V.str).length)).map fun i => strLt (ws.getD i "") (ws.getD (i + 1) "")).all id = rising ws := by
            simp only [List.length_map, List.length_drop]
            exact rising_range ws
          rw [er, ← hws]
          exact this
def Abc (z : Str) : Prop := ∀ c ∈ z.cps.toList, 97 ≤ c ∧ c < 123
theorem abc_lt : ∀ c ∈ ABC.cps.toList, 97 ≤ c ∧ c < 123 := by decide
theorem abcI (n : Nat) : atI ABC.cps.toList ((n : Int) % 26) = some (97 + n % 26) := by
  have h := abc_at (97 + n % 26) (by omega)
  rw [show 97 + n % 26 - 97 = n % 26 by omega] at h
  have := atI_nat h
  rw [show ((n : Int) % 26) = ((n % 26 : Nat) : Int) by omega]
  exact this
theorem inAbc_t {c : Nat} (h : 97 ≤ c ∧ c < 123) : inAbc c = true := by
  unfold inAbc
  rw [abc_find c h]; rfl
structure NmOf (ah : Str) (c : Nat) (z : Str) : Prop where
  nm : isName z = true
  pl : z.cps.toList[ah.cps.toList.length]? = some c
  wd : Wd z
theorem str_app_toList (a b : Str) : (a ++ b).cps.toList = a.cps.toList ++ b.cps.toList := by
  show (a.cps ++ b.cps).toList = _
  simp
theorem nm_plain {ah : Str} {c : Nat} (h1 : ah.length ≤ 7) (h2 : Abc ah) (hc : 97 ≤ c ∧ c < 123) (hn : (NON.any fun y => y == (ah ++ ⟨#[c]⟩ : Str)) = false) : NmOf ah c (ah ++ ⟨#[c]⟩) := by
  have hl : (ah ++ ⟨#[c]⟩ : Str).cps.toList = ah.cps.toList ++ [c] := str_app_toList _ _
  have el : (ah ++ ⟨#[c]⟩ : Str).length = ah.length + 1 := by rw [Str.length_append]; rfl
  refine ⟨?_, by rw [hl]; simp, by omega, fun d hd => ?_⟩
  rotate_left
  · rw [hl] at hd
    rcases List.mem_append.mp hd with hd | hd
    · have := h2 d hd; omega
    · rw [List.mem_singleton.mp hd]; omega
  unfold isName
  simp only [Bool.and_eq_true, decide_eq_true_eq]
  refine ⟨⟨⟨by omega, by omega⟩, by rw [hn]; rfl⟩, ?_⟩
  rw [hl, List.all_append, Bool.and_eq_true]
  refine ⟨List.all_eq_true.mpr fun d hd => inAbc_t (h2 d hd), ?_⟩
  rw [List.all_cons, inAbc_t hc]; rfl
theorem nm_q {ah : Str} {c : Nat} (hn : (NON.any fun y => y == (ah ++ ⟨#[c]⟩ : Str)) = true) : NmOf ah c (ah ++ ⟨#[c]⟩ ++ ("q" : Str)) := by
  have hl : (ah ++ ⟨#[c]⟩ : Str).cps.toList = ah.cps.toList ++ [c] := str_app_toList _ _
  have at0 : (ah ++ ⟨#[c]⟩ ++ ("q" : Str)).cps.toList[ah.cps.toList.length]? = some c := by
    rw [str_app_toList, hl, List.append_assoc]; simp
  rw [List.any_eq_true] at hn
  obtain ⟨y, hy, e⟩ := hn
  rw [← (eq_of_beq e : y = _)] at at0 ⊢
  simp only [NON, List.mem_cons, List.mem_nil_iff, or_false] at hy
  rcases hy with rfl | rfl | rfl | rfl | rfl <;> exact ⟨by decide +kernel, at0, wd_ascii (by decide) (by decide)⟩
theorem inV_non (z : Str) : inV (V.str z) [V.str "all", V.str "none", V.str "way", V.str "box", V.str "pick"] = NON.any fun y => y == z := by
  unfold inV
  rfl
def spNames : Sp := fun vs H Q _ => ∃ (p w : Addr) (m : Int) (t : Nat), vs = [.ref p, .int m] ∧ PenAt H p w t ∧ (1 ≤ m ∧ m ≤ 26) ∧ t + 20 < TMAX ∧
  ∀ (L : Addr) (ns : List Str) (H' : Hp), H L = none → H' L = some (.lst (ns.map V.str)) → (ns.length : Int) = m → ns.Nodup → (∀ n ∈ ns, isName n = true ∧ Wd n) → PenAt H' p w (t + 20) → Sm p w H H' → Q (.ref L) H'
theorem ok_law_tnames (T : Txt K mg) : FnK P w K mg base 2 "_law_tnames" ["pen", "many"] spNames := by
  have F_law_tdraw : FnK P w K mg base 1 "_law_tdraw" ["pen", "many"] spDraw := ok_law_tdraw T
  refine T.t_law_tnames.okS sc_law_tnames (fun vs H Q E h => ?_) (fun f cdv A outer s H vs Q E hr h => ?_)
  · obtain ⟨p, w', m, t, rfl, _⟩ := h
    rfl
  · obtain ⟨p, w', m, t, rfl, hp, ⟨hm1, hm2⟩, ht, k⟩ := h
    have ht' : t + 20 < 1000000000000 := ht
    have hsz : sizeLine = 16777216 := sizeLine_eq
    refine ⟨_, (sb_cons (s_set (i := 2) sc_law_tnames.nd rfl (Or.inr rfl) z_str)
      (sb_cons (s_set (i := 3) sc_law_tnames.nd rfl (Or.inl rfl) (z_bm K PySem.F.plainAttrs_str PySem.F.slot_str_join PySem.F.type_str_join (mt_joinK K) z_str (sa_ListComp (z_lc (own := ["k"]) (idx := [0, 2]) (N' := ["k", "pen", "letters"]) (⟨rfl, by decide +kernel, by decide +kernel, (show ∀ y ∈ Scope.names _, y.2 = NameKind.free → ((defScope s_law_tnames).names.lookup y.1 = some NameKind.cell ∨ (defScope s_law_tnames).names.lookup y.1 = some NameKind.free) by decide +kernel), (show ∀ j ∈ ([0, 2] : List Nat), (Scope.names _).lookup ((["pen", "many", "letters", "ahead", "first", "found", "k", "name"] : List Str).getD j "") = some NameKind.free ∧ j < (["pen", "many", "letters", "ahead", "first", "found", "k", "name"] : List Str).length by decide +kernel), rfl⟩) rfl (i_range1 (by rfl) T.n_range (sa_Subscript (z_ix (ix_K K) (z_lst (sa_Constant z_int (sa_Constant z_int (sa_Constant z_int (sa_Constant z_int (sa_Constant z_int (sa_Constant z_int sa_nil))))))) (z_fn F_law_tdraw (hr.mono (by decide)) (sa_Name (zv 0) (sa_Constant z_int sa_nil))) (fun _ _ => rfl)) sa_nil)) (fun _ _ _ _ _ _ => (g_name (i := 0) (show List.Nodup (["k", "pen", "letters"] : List Str) by decide +kernel) rfl (Or.inl rfl))) (fun _ _ _ _ _ _ => c_nil) (fun _ _ _ _ _ _ => (z_ix (ix_K K) (zv 2) (z_fn F_law_tdraw (hr.mono (by decide)) (sa_Name (zv 1) (sa_Constant z_int sa_nil))) (fun _ _ => rfl)))) sa_nil)))
      (sb_cons (s_set (i := 4) sc_law_tnames.nd rfl (Or.inl rfl) (z_fn F_law_tdraw (hr.mono (by decide)) (sa_Name (zv 0) (sa_Constant z_int sa_nil))))
      (sb_cons (s_set (i := 5) sc_law_tnames.nd rfl (Or.inl rfl) (z_lst sa_nil))
      (sb_cons (s_for PassesOwn.never rfl (i_range1 (by rfl) T.n_range (sa_Name (zv 1) sa_nil)) (g_name (i := 6) sc_law_tnames.nd rfl (Or.inl rfl)) (sb_cons (s_set (i := 7) sc_law_tnames.nd rfl (Or.inl rfl) (z_op op_addD (zv 3) (z_ix (ix_K K) (zv 2) (z_op op_modD (z_op op_addD (zv 4) (z_op op_mulD z_int (zv 6))) z_int) (fun _ _ => rfl))))
      (sb_cons (s_if (y_cmpR (op_inK K) (zv 7) (z_tup (sa_Constant z_str (sa_Constant z_str (sa_Constant z_str (sa_Constant z_str (sa_Constant z_str sa_nil)))))) rfl) (sb_one (s_set (i := 7) sc_law_tnames.nd rfl (Or.inl rfl) (z_op op_addD (zv 7) z_str))) sb_nil)
      (sb_one (s_expr (z_bm K PySem.F.plainAttrs_list PySem.F.slot_list_append PySem.F.type_list_append mt_append (zv 5) (sa_Name (zv 7) sa_nil)))))))
      (sb_one (s_ret (zv 5)))))))), ?_⟩
    refine tSeq_setC ?_
    refine tSeq_set ⟨rfl, (show 6 ≤ sizeLine by decide), fun L0 hL0 => ⟨p, w', 6, t, rfl, hp.same (Same.upd hL0 _), ⟨by decide, by decide⟩, by show t < 1000000000000; omega, fun r H1 r0 r1 hp1 sm1 => ?_⟩⟩
    have nL0 := hp.ne1 hL0
    have nL0' := hp.ne2 hL0
    have hl0 := sm1 _ _ upd_same nL0 nL0'
    obtain ⟨c, hc1, hc2⟩ := atI_some ([.int 0, .int 0, .int 1, .int 2, .int 3, .int 7] : List V) r r0 (by show r < 6; omega)
    have hcj : ∃ j : Int, c = .int j ∧ 0 ≤ j ∧ j ≤ 7 := by
      have hm := List.mem_of_getElem? hc1
      simp only [List.mem_cons, List.mem_nil_iff, or_false] at hm
      rcases hm with rfl | rfl | rfl | rfl | rfl | rfl <;> exact ⟨_, rfl, by decide, by decide⟩
    obtain ⟨j, rfl, j0, j7⟩ := hcj
    have smA : Sm p w' H H1 := (Same.upd hL0 _).sm.trans sm1
    refine ⟨_, _, .inl (SqL.of hl0), hc2, j, rfl, by omega, by omega, fun D hD => ?_⟩
    have nDp : D ≠ p := hp1.ne1 hD
    have nDw : D ≠ w' := hp1.ne2 hD
    have hD0 : H D = none := smA.free hD nDp nDw
    refine lc_by (itn_range 0 j.toNat) (fun i τ H2 => ∃ (v : Option V) (ys : List Str), τ = [v, some (.ref p), some (.str ABC)] ∧ H2 D = some (.lst (ys.map V.str)) ∧ ys.length = i ∧ (∀ y ∈ ys, y.length = 1 ∧ Abc y) ∧ PenAt H2 p w' (t + 1 + i) ∧ Sm p w' H H2)
      ⟨none, [], rfl, upd_same, rfl, (fun _ h => nomatch h), hp1.same (Same.upd hD _), smA.upd hD0⟩ (fun _ _ _ _ _ => True.intro) ?_ ?_
    · rintro i τ H2 hi ⟨v, ys, rfl, h1, h2, h3, h4, h5⟩
      refine ⟨p, w', 26, t + 1 + i, rfl, h4, ⟨by decide, by decide⟩, by show t + 1 + i < 1000000000000; omega, fun r2 H3 a0 a1 hp3 sm3 => ?_⟩
      obtain ⟨c, hc1, hc⟩ := atI_some ABC.cps.toList r2 a0 (by have : ABC.cps.toList.length = 26 := rfl; omega)
      refine ⟨by decide, c, hc, ys.map V.str, sm3 _ _ h1 nDp nDw, by rw [List.length_map]; exact small1000 (by omega), ?_⟩
      refine ⟨_, ys ++ [⟨#[c]⟩], rfl, ?_, by simp [h2], fun y hy => ?_, hp3.upd nDp nDw, (h5.trans sm3).upd hD0⟩
      · rw [upd_same, List.map_append]; rfl
      · rcases List.mem_append.mp hy with hy | hy
        · exact h3 y hy
        · rw [List.mem_singleton.mp hy]
          refine ⟨rfl, fun d hd => ?_⟩
          have hd' : d = c := by simpa using hd
          rw [hd']
          exact abc_lt c (List.mem_of_getElem? hc1)
    · rintro τ H2 ⟨v, ys, rfl, h1, h2, h3, h4, h5⟩
      refine ⟨ys, SqL.of h1, ?_, ?_⟩
      · rw [PyProof.Rows.sumLen_of_ones ys (fun y hy => (h3 y hy).1), h2]
        show j.toNat + j.toNat * 0 ≤ 16777216
        omega
      have ahl : (Txt.join (Str.ofString "") ys).length ≤ 7 := by rw [join0_length ys _ rfl (fun y hy => (h3 y hy).1)]; omega
      have aha : Abc (Txt.join (Str.ofString "") ys) := fun c hc => by
        rcases mem_join hc with hc | ⟨y, hy, hc⟩
        · exact nomatch hc
        · exact (h3 y hy).2 c hc
      generalize Txt.join (Str.ofString "") ys = ah at ahl aha
      refine tSeq_set ⟨p, w', 26, _, rfl, h4, ⟨by decide, by decide⟩, by show t + 1 + j.toNat < 1000000000000; omega, fun f0 H3 f00 f01 hp3 sm3 => ?_⟩
      refine tSeq_set ⟨(show 0 ≤ sizeLine by decide), fun L hL => ?_⟩
      have nLp : L ≠ p := hp3.ne1 hL
      have nLw : L ≠ w' := hp3.ne2 hL
      have sm4 : Sm p w' H H3 := h5.trans sm3
      have hL0' : H L = none := sm4.free hL nLp nLw
      refine tSeq_by (fun σ' H' => ∃ (v6 v7 : Option V) (ns : List Str), σ' = [some (.ref p), some (.int m), some (.str ABC), some (.str ah), some (.int f0), some (.ref L), v6, v7] ∧ H' L = some (.lst (ns.map V.str)) ∧ ns.length = m.toNat ∧ (∀ i (h : i < ns.length), NmOf ah (97 + (f0.toNat + 7 * i) % 26) ns[i]) ∧ PenAt H' p w' (t + 1 + j.toNat + 1) ∧ Sm p w' H H') ?_ ?_
      · intro nx hnx
        refine ⟨m, rfl, by omega, by omega, for_by (itn_range 0 m.toNat) (fun i σ' H' => ∃ (v6 v7 : Option V) (ns : List Str), σ' = [some (.ref p), some (.int m), some (.str ABC), some (.str ah), some (.int f0), some (.ref L), v6, v7] ∧ H' L = some (.lst (ns.map V.str)) ∧ ns.length = i ∧ (∀ i (h : i < ns.length), NmOf ah (97 + (f0.toNat + 7 * i) % 26) ns[i]) ∧ PenAt H' p w' (t + 1 + j.toNat + 1) ∧ Sm p w' H H')
          ⟨none, none, [], rfl, upd_same, rfl, (fun i h => absurd h (by simp)), hp3.same (Same.upd hL _), sm4.upd hL0'⟩ (fun _ _ _ _ _ => True.intro) ?_ ?_⟩
        · rintro i σ' H' hi ⟨v6, v7, ns, rfl, q1, q2, q3, q4, q5⟩
          have hi26 : i < 26 := by omega
          have ea : atI ABC.cps.toList ((f0 + 7 * (0 + (i : Int))) % 26) = some (97 + (f0.toNat + 7 * i) % 26) := by
            have := abcI (f0.toNat + 7 * i)
            rw [show ((f0.toNat + 7 * i : Nat) : Int) = f0 + 7 * (0 + (i : Int)) by omega] at this
            exact this
          refine tSeq_set ⟨.inl ⟨by decide, by decide⟩, (by decide), (by decide), _, ea, (show ah.length + 1 ≤ sizeLine by omega), ?_⟩
          refine tSeq_by (fun σ2 H2 => ∃ z, σ2 = [some (.ref p), some (.int m), some (.str ABC), some (.str ah), some (.int f0), some (.ref L), some (.int (0 + (i : Int))), some (.str z)] ∧ NmOf ah (97 + (f0.toNat + 7 * i) % 26) z ∧ Same H' H2) ?_ ?_
          · intro nx' hnx'
            refine ⟨(show 5 ≤ sizeLine by decide), fun tt htt => ⟨_, .inr (SqT.of upd_same), rfl, rfl, _, rfl, ite2 (fun hh => ?_) (fun hh => ?_)⟩⟩
            · refine ⟨(show (ah ++ ⟨#[97 + (f0.toNat + 7 * i) % 26]⟩ : Str).length + 1 ≤ sizeLine by rw [Str.length_append]; show ah.length + 1 + 1 ≤ _; omega), ?_⟩
              refine hnx' _ _ ⟨_, rfl, nm_q ?_, Same.upd htt _⟩
              rw [Bool.false_xor, inV_non] at hh
              exact hh
            · refine hnx' _ _ ⟨_, rfl, nm_plain ahl aha (by omega) ?_, Same.upd htt _⟩
              rw [Bool.false_xor, inV_non] at hh
              exact Bool.eq_false_iff.mpr hh
          · rintro σ2 H2 ⟨z, rfl, hz, s2⟩
            refine ⟨.inl ⟨rfl, _, SqL.of (s2 _ _ q1)⟩, L, _, .str z, rfl, rfl, s2 _ _ q1, by rw [List.length_map]; exact small1000 (by omega), ?_⟩
            refine ⟨_, _, ns ++ [z], rfl, by rw [upd_same, List.map_append]; rfl, by simp [q2], fun i' h' => ?_, (q4.same s2).upd nLp nLw, (q5.trans s2.sm).upd hL0'⟩
            by_cases hlt : i' < ns.length
            · rw [List.getElem_append_left hlt]; exact q3 i' hlt
            · have e : i' = ns.length := by simp at h'; omega
              subst e
              rw [List.getElem_append_right (Nat.le_refl _)]
              simp only [Nat.sub_self, List.getElem_cons_zero]
              rw [q2]; exact hz
        · rintro σ' H' ⟨v6, v7, ns, rfl, q⟩
          exact hnx _ _ ⟨v6, v7, ns, rfl, q⟩
      · rintro σ' H' ⟨v6, v7, ns, rfl, q1, q2, q3, q4, q5⟩
        refine k L ns H' hL0' q1 (by omega) ?_ ?_ (q4.mono (by omega)) q5
        · refine List.pairwise_iff_getElem.mpr fun a b ha hb hab z => ?_
          have h1 := (q3 a ha).pl
          have h2 := (q3 b hb).pl
          rw [z, h2] at h1
          have h3 := Option.some.inj h1
          omega
        · intro n hn
          obtain ⟨i, hi, rfl⟩ := List.getElem_of_mem hn
          exact ⟨(q3 i hi).nm, (q3 i hi).wd⟩
theorem form_not {d : Dt} (h : d.isTup = false) : formD d = false := by cases d <;> first | rfl | cases h
theorem ok_is_formed (T : Txt K mg) : FnK P w K mg base 3 "is_formed" ["thing"] (spT formD) := by
  have F_is_name : FnK P w K mg base 1 "is_name" ["thing"] (spT nameD) := ok_is_nameD T
  have F_are_rising : FnK P w K mg base 2 "are_rising" ["words"] spRis := ok_are_rising T
  refine T.t_is_formed.okS sc_is_formed (fun vs H Q E h => ?_) (fun f cdv A outer s H vs Q E hr h => ?_)
  · obtain ⟨x, d, rfl, _⟩ := h
    rfl
  · obtain ⟨x, d, rfl, hd, k⟩ := h
    have hu0 := Nat.lt_of_succ_lt (hu_of hr)
    have hu20 := hu20_of hr
    have hu100 := hu100_of hr
    have hsz : sizeLine = 16777216 := sizeLine_eq
    refine ⟨_, (sb_cons (s_if (w_or (y_not (y_val (z_callB call_isiD (by rfl) T.n_isinstance PyProof.Rows.boot_isinstance (sa_Name (zv 0) (sa_Name (z_bltn (v := .ty "tuple") (by rfl) T.n_tuple PyProof.Rows.boot_tuple rfl) sa_nil))))) (w_or1 (y_cmpR (op_eqD hu0) (z_callB (call_lenK K) (by rfl) T.n_len PySem.boot_len (sa_Name (zv 0) sa_nil)) z_int (nomark _)))).pt (sb_one (s_ret z_bl)) sb_nil)
      (sb_cons (s_if (y_cmpR (op_eqSD hu20) (z_ix (ix_K K) (zv 0) z_int (fun _ _ => rfl)) z_str (nomark _)) (sb_one (s_ret (z_and (z_cmpR (op_eqD hu0) (z_callB (call_lenK K) (by rfl) T.n_len PySem.boot_len (sa_Name (zv 0) sa_nil)) z_int (nomark _)) (z_one (z_fn F_is_name (hr.mono (by decide)) (sa_Subscript (z_ix (ix_K K) (zv 0) z_int (fun _ _ => rfl)) sa_nil)))))) sb_nil)
      (sb_cons (s_if (w_or (y_cmpR (op_neSD hu100) (z_ix (ix_K K) (zv 0) z_int (fun _ _ => rfl)) z_str (nomark _)) (w_or (y_cmpR (op_neD hu0) (z_callB (call_lenK K) (by rfl) T.n_len PySem.boot_len (sa_Name (zv 0) sa_nil)) z_int (nomark _)) (w_or1 (y_not (y_val (z_callB call_isiD (by rfl) T.n_isinstance PyProof.Rows.boot_isinstance (sa_Subscript (z_ix (ix_K K) (zv 0) z_int (fun _ _ => rfl)) (sa_Name (z_bltn (v := .ty "tuple") (by rfl) T.n_tuple PyProof.Rows.boot_tuple rfl) sa_nil)))))))).pt (sb_one (s_ret z_bl)) sb_nil)
      (sb_cons (s_if (y_not (y_val (z_callB (call_allK K rfl) (by rfl) T.n_all PyProof.Rows.boot_all (sa_ListComp (z_lc (own := ["pair"]) (idx := []) (N' := ["pair"]) (⟨rfl, by decide +kernel, by decide +kernel, (show ∀ y ∈ Scope.names _, y.2 = NameKind.free → ((defScope s_is_formed).names.lookup y.1 = some NameKind.cell ∨ (defScope s_is_formed).names.lookup y.1 = some NameKind.free) by decide +kernel), (show ∀ j ∈ ([] : List Nat), (Scope.names _).lookup ((["thing"] : List Str).getD j "") = some NameKind.free ∧ j < (["thing"] : List Str).length by decide +kernel), rfl⟩) rfl (i_K K (z_ix (ix_K K) (zv 0) z_int (fun _ _ => rfl))) (fun _ _ _ _ _ _ => (g_name (i := 0) (show List.Nodup (["pair"] : List Str) by decide +kernel) rfl (Or.inl rfl))) (fun _ _ _ _ _ _ => c_nil) (fun _ _ _ _ _ _ => (z_and (z_callB call_isiD (by rfl) T.n_isinstance PyProof.Rows.boot_isinstance (sa_Name (zv 0) (sa_Name (z_bltn (v := .ty "tuple") (by rfl) T.n_tuple PyProof.Rows.boot_tuple rfl) sa_nil))) (z_one (z_cmpR (op_eqD hu0) (z_callB (call_lenK K) (by rfl) T.n_len PySem.boot_len (sa_Name (zv 0) sa_nil)) z_int (nomark _)))))) sa_nil)))) (sb_one (s_ret z_bl)) sb_nil)
      (sb_one (s_ret (z_fn F_are_rising (hr.mono (by decide)) (sa_ListComp (z_lc (own := ["word", "part"]) (idx := []) (N' := ["word", "part"]) (⟨rfl, by decide +kernel, by decide +kernel, (show ∀ y ∈ Scope.names _, y.2 = NameKind.free → ((defScope s_is_formed).names.lookup y.1 = some NameKind.cell ∨ (defScope s_is_formed).names.lookup y.1 = some NameKind.free) by decide +kernel), (show ∀ j ∈ ([] : List Nat), (Scope.names _).lookup ((["thing"] : List Str).getD j "") = some NameKind.free ∧ j < (["thing"] : List Str).length by decide +kernel), rfl⟩) rfl (i_K K (z_ix (ix_K K) (zv 0) z_int (fun _ _ => rfl))) (fun _ _ _ _ _ _ => (g_tup K (n := 2) rfl (gs_cons (g_name (i := 0) (show List.Nodup (["word", "part"] : List Str) by decide +kernel) rfl (Or.inl rfl)) (gs_cons (g_name (i := 1) (show List.Nodup (["word", "part"] : List Str) by decide +kernel) rfl (Or.inl rfl)) gs_nil)))) (fun _ _ _ _ _ _ => c_nil) (fun _ _ _ _ _ _ => (zv 0))) sa_nil)))))))), ?_⟩
    obtain ⟨t, ht, h1, h2⟩ := hd.ty
    have k0 := k H (Same.refl H)
    cases htup : d.isTup with
    | false =>
      rw [form_not htup] at k0
      refine tSeq_by (fun _ _ => False) (fun nx hnx => ?_) (fun _ _ h => h.elim)
      refine ⟨by decide, t, ht, _, rfl, ?_⟩
      rw [h1, htup]
      exact iteT (iteT k0)
    | true =>
      obtain ⟨ds, rfl⟩ : ∃ ds, d = .tup ds := by cases d <;> first | exact ⟨_, rfl⟩ | cases htup
      obtain ⟨a, xs, rfl, e, hl, hds⟩ := hd.tup_elt
      refine tSeq_by (fun σ' H' => σ' = [some (.ref a)] ∧ H = H' ∧ 0 < ds.length) (fun nx hnx => ?_) ?_
      · refine ⟨by decide, t, ht, _, rfl, ?_⟩
        rw [h1, htup]
        refine iteF (.inl ⟨_, .inr (SqT.of e), rfl, _, rfl, iteB (fun c => ?_) (fun c => hnx _ _ ⟨rfl, rfl, ?_⟩)⟩)
        · rw [Bool.false_xor, decV_int] at c
          have : xs.length = 0 := by have := of_decide_eq_true c; omega
          have : ds = [] := List.length_eq_zero_iff.mp (by omega)
          subst this
          exact k0
        · rw [Bool.false_xor, decV_int] at c
          have := of_decide_eq_false c
          omega
      rintro σ' _ ⟨rfl, rfl, hpos⟩
      obtain ⟨d0, r, rfl⟩ : ∃ d0 r, ds = d0 :: r := by
        cases ds with
        | nil => simp at hpos
        | cons d0 r => exact ⟨d0, r, rfl⟩
      obtain ⟨x0, xr, rfl⟩ : ∃ x0 xr, xs = x0 :: xr := by
        cases xs with
        | nil => simp at hl
        | cons d0 r => exact ⟨d0, r, rfl⟩
      have hd0 : DD H x0 d0 := hds 0 (by simp) (by simp)
      have hlr : xr.length = r.length := by simpa using hl
      refine tSeq_by (fun σ' H' => σ' = [some (.ref a)] ∧ H = H' ∧ d0.isS "pick" = false) (fun nx hnx => ?_) ?_
      · refine ⟨_, x0, .inr (SqT.of e), atI_zero _ _, d0, "pick", hd0, rfl, _, rfl, iteB (fun c => ?_) (fun c => hnx _ _ ⟨rfl, rfl, by rw [Bool.false_xor] at c; exact c⟩)⟩
        rw [Bool.false_xor] at c
        have e0 : d0 = .str "pick" := by
          cases d0 with
          | str y => rw [show y = "pick" from eq_of_beq c]
          | tup _ => cases c
          | oth => cases c
        subst e0
        refine .inl ⟨_, .inr (SqT.of e), rfl, _, rfl, iteB (fun c3 => ?_) (fun c3 => ?_)⟩
        · rw [Bool.false_xor, decV_int] at c3
          have l2 : xr.length = 2 := by have := of_decide_eq_true c3; simp at this; omega
          match xr, r, l2, hlr with
          | [x1, x2], [d1, d2], _, _ =>
            have ef : formD (.tup [.str "pick", d1, d2]) = nameD d1 := by
              show (("pick" : Str) == "pick" && nameD d1) = _
              simp
            refine ⟨_, x1, .inr (SqT.of e), rfl, x1, d1, rfl, hds 1 (by simp) (by simp), fun H' s' => ?_⟩
            rw [← ef]; exact k H' s'
        · rw [Bool.false_xor, decV_int] at c3
          have l2 : xr.length ≠ 2 := by have := of_decide_eq_false c3; simp at this; omega
          have ef : formD (.tup (.str "pick" :: r)) = false := by
            match r, hlr with
            | [], _ => rfl
            | [a], _ => cases a <;> rfl
            | [_, _], h => exact absurd h l2
            | _ :: _ :: _ :: _, _ => rfl
          rw [← ef]; exact k0
      rintro σ' _ ⟨rfl, rfl, hnp⟩
      have enp : ∀ r', formD (.tup (d0 :: r')) = (match r' with | [d1] => d0.isS "box" && (match d1 with | .tup ps => ps.all pr2 && ((ps.map fst2).all nameD && rising ((ps.map fst2).map strD)) | _ => false) | _ => false) := by
        intro r'
        match d0, r' with
        | .str z, [d1] => cases d1 <;> rfl
        | .str z, [d1, d2] =>
          show (z == "pick" && nameD d1) = false
          rw [show (z == "pick") = false from hnp]; rfl
        | .str z, [] => rfl
        | .str z, _ :: _ :: _ :: _ => rfl
        | .oth, [] => rfl
        | .oth, [_] => rfl
        | .oth, [_, _] => rfl
        | .oth, _ :: _ :: _ :: _ => rfl
        | .tup _, [] => rfl
        | .tup _, [_] => rfl
        | .tup _, [_, _] => rfl
        | .tup _, _ :: _ :: _ :: _ => rfl
      have kf : ∀ b, formD (.tup (d0 :: r)) = b → ∀ H', Same H H' → Q (.bl b) H' := fun b e H' s' => by have := k H' s'; rw [e] at this; exact this
      refine tSeq_by (fun σ' H' => σ' = [some (.ref a)] ∧ H = H' ∧ d0.isS "box" = true ∧ ∃ c2 ps, xr = [.ref c2] ∧ r = [.tup ps] ∧ DD H (.ref c2) (.tup ps)) (fun nx hnx => ?_) ?_
      · refine ⟨_, x0, .inr (SqT.of e), atI_zero _ _, d0, "box", hd0, rfl, _, rfl, iteB (fun c => iteT (kf false ?_ H (Same.refl H))) (fun c => ?_)⟩
        · rw [Bool.true_xor] at c
          have : d0.isS "box" = false := by simpa using c
          rw [enp]
          split
          · rw [this]; rfl
          · rfl
        · rw [Bool.true_xor] at c
          have hb : d0.isS "box" = true := by simpa using c
          refine .inl ⟨_, .inr (SqT.of e), rfl, _, rfl, iteB (fun c3 => iteT (kf false ?_ H (Same.refl H))) (fun c3 => ?_)⟩
          · rw [Bool.true_xor, decV_int] at c3
            have c3' : ¬ ((xr.length : Int) + 1 = 2) := by simpa using c3
            rw [enp]
            match r, hlr with
            | [], _ => rfl
            | [_], h => exact absurd (show (xr.length : Int) + 1 = 2 by rw [h]; rfl) c3'
            | _ :: _ :: _, _ => rfl
          · rw [Bool.true_xor, decV_int] at c3
            have c3' : (xr.length : Int) + 1 = 2 := by simpa using c3
            match xr, r, hlr, c3' with
            | [x1], [d1], _, _ =>
              have hd1 : DD H x1 d1 := hds 1 (by simp) (by simp)
              obtain ⟨t', ht', g1, g2⟩ := hd1.ty
              refine ⟨_, x1, .inr (SqT.of e), rfl, by decide, t', ht', _, rfl, ?_⟩
              rw [g1]
              cases hd1t : d1.isTup with
              | false =>
                refine iteT (kf false ?_ H (Same.refl H))
                rw [enp]
                cases d1 with
                | tup _ => cases hd1t
                | str _ => simp
                | oth => simp
              | true =>
                refine iteF ?_
                obtain ⟨ps, rfl⟩ : ∃ ps, d1 = .tup ps := by cases d1 <;> first | exact ⟨_, rfl⟩ | cases hd1t
                obtain ⟨c2, ys, rfl, _, _, _⟩ := hd1.tup_elt
                exact hnx _ _ ⟨rfl, rfl, hb, c2, ps, rfl, rfl, hd1⟩
      rintro σ' _ ⟨rfl, rfl, hbx, c2, ps, rfl, rfl, hd1⟩
      obtain ⟨c2', ys, ec2, e2, hl2, hds2⟩ := hd1.tup_elt
      cases ec2
      have hy1000 : ys.length ≤ 1000 := by
        cases hd1 with
        | tup e' _ hn _ => rw [e2] at e'; cases e'; exact hn
      have eff : formD (.tup [d0, .tup ps]) = (ps.all pr2 && ((ps.map fst2).all nameD && rising ((ps.map fst2).map strD))) := by
        rw [enp]; show (d0.isS "box" && _) = _; rw [hbx]; rfl
      refine tSeq_by (fun σ' H' => σ' = [some (.ref a)] ∧ Same H H' ∧ ps.all pr2 = true) (fun nx hnx => ?_) ?_
      · refine ⟨_, .ref c2, .inr (SqT.of e), rfl, Or.inr ⟨⟨ys, SqT.of e2⟩, fun D hD => ?_⟩⟩
        refine lc_bools (itn_tup ys) (fun i => pr2 (ps.getD i .oth)) (by omega) hD (fun H2 s2 => SqT.of (s2 _ _ e2)) (fun i H2 k' hi s2 hk => ?_) (fun H2 s2 hl2' => ?_)
        · have h3 := (hds2 i hi (by omega)).same s2
          have e1 : ys.getD i .non = ys[i] := by simp [List.getD_eq_getElem?_getD, hi]
          have e3 : ps.getD i .oth = ps[i]'(by omega) := by rw [List.getD_eq_getElem?_getD, List.getElem?_eq_getElem (by omega)]; rfl
          rw [e1]
          rw [e3] at hk
          generalize ys[i] = y at h3
          generalize ps[i]'(by omega) = dp at h3 hk
          obtain ⟨t', ht', g1, g2⟩ := h3.ty
          refine ⟨by decide, t', ht', _, rfl, ?_⟩
          rw [g1]
          cases hdt : dp.isTup with
          | false =>
            refine iteF ?_
            have : pr2 dp = false := by cases dp <;> first | rfl | cases hdt
            rw [this] at hk
            exact hk H2 (Same.refl _)
          | true =>
            refine iteT ?_
            obtain ⟨qs, rfl⟩ : ∃ qs, dp = .tup qs := by cases dp <;> first | exact ⟨_, rfl⟩ | cases hdt
            obtain ⟨b, zs, rfl, e4, hl4, _⟩ := h3.tup_elt
            refine .inl ⟨_, .inr (SqT.of e4), rfl, ?_⟩
            have : (false ^^ decide (V.int (zs.length : Int) = V.int 2)) = pr2 (.tup qs) := by
              rw [Bool.false_xor, decV_int, hl4]
              match qs with
              | [] => rfl
              | [_] => rfl
              | [_, _] => rfl
              | _ :: _ :: _ :: _ => simp [pr2, twoD]; omega
            rw [this]
            exact hk H2 (Same.refl _)
        · refine ⟨_, SqL.of hl2', _, rfl, ?_⟩
          rw [hl2, range_all_list ps .oth pr2]
          refine iteNB (fun h3 => hnx _ _ ⟨rfl, s2, h3⟩) (fun h3 => kf false ?_ H2 s2)
          rw [eff, h3]; rfl
      rintro σ' H1 ⟨rfl, s1, hall⟩
      have hpair : ∀ i (h : i < ys.length), ∃ b x y dx dy, ys[i] = .ref b ∧ ps[i]? = some (.tup [dx, dy]) ∧ H b = some (.tup [x, y]) ∧ DD H x dx := fun i hi => by
        have h4 := List.all_eq_true.mp hall _ (List.getElem_mem (show i < ps.length by omega))
        obtain ⟨b, x, y, dx, dy, q1, q2, q3, q4, q5⟩ := (hds2 i hi (by omega)).two h4
        exact ⟨b, x, y, dx, dy, q1, by rw [List.getElem?_eq_getElem (by omega), q2], q3, q4⟩
      refine ⟨_, .ref c2, .inr (SqT.of (s1 _ _ e)), rfl, Or.inr ⟨⟨ys, SqT.of (s1 _ _ e2)⟩, fun D2 hD2 => ?_⟩⟩
      refine lc_by (itn_tup ys) (fun i τ H3 => (∃ us : List V, H3 D2 = some (.lst us) ∧ us.length = i ∧ ∀ j (h : j < us.length) (h' : j < ps.length), DD H us[j] (fst2 ps[j])) ∧ Same H1 H3 ∧ ∃ v1 v2, τ = [v1, v2]) ⟨⟨[], upd_same, rfl, fun j h => nomatch h⟩, Same.upd hD2 _, none, none, rfl⟩ (fun i τ H3 _ h => SqT.of (h.2.1 _ _ (s1 _ _ e2))) ?_ ?_
      · rintro i τ H3 hi ⟨⟨us, q1, q1l, q1d⟩, q2, v1, v2, rfl⟩
        obtain ⟨b, x, y, dx, dy, e3, e5, e4, e6⟩ := hpair i hi
        have e1 : ys.getD i .non = .ref b := by rw [List.getD_eq_getElem?_getD, List.getElem?_eq_getElem hi, e3]; rfl
        rw [e1]
        refine g2_at (q2 _ _ (s1 _ _ e4)) ?_
        refine ⟨_, q1, by omega, ⟨us ++ [x], upd_same, by simp; omega, fun j hj hj' => ?_⟩, (q2.put hD2), _, _, rfl⟩
        by_cases hju : j < us.length
        · rw [List.getElem_append_left hju]; exact q1d j hju hj'
        · have ej : j = i := by simp at hj; omega
          subst ej
          have e7 : ps[j] = .tup [dx, dy] := by rw [List.getElem?_eq_getElem hj'] at e5; exact Option.some.inj e5
          rw [List.getElem_append_right (by omega), e7]
          simp only [q1l, Nat.sub_self, List.getElem_cons_zero]
          exact e6
      · rintro τ H3 ⟨⟨us, q1, q1l, q1d⟩, q2, v1, v2, rfl⟩
        refine ⟨D2, us, ps.map fst2, rfl, q1, by simp; omega, by omega, fun j hj hj' => ?_, fun H4 s4 => ?_⟩
        · rw [List.getElem_map]
          exact (q1d j hj (by simpa using hj')).same (s1.trans q2)
        · refine kf _ ?_ H4 ((s1.trans q2).trans s4)
          rw [eff, hall]; rfl
def DDs (H : Hp) (xs : List V) (ds : List Dt) : Prop := xs.length = ds.length ∧ ∀ i (h : i < xs.length) (h' : i < ds.length), DD H xs[i] ds[i]
theorem DDs.same {H H' : Hp} {xs : List V} {ds : List Dt} (h : DDs H xs ds) (s : Same H H') : DDs H' xs ds := ⟨h.1, fun i a b => (h.2 i a b).same s⟩
theorem DDs.nil {H : Hp} : DDs H [] [] := ⟨rfl, fun i h => absurd h (by simp)⟩
theorem DDs.snoc {H : Hp} {xs : List V} {ds : List Dt} (h : DDs H xs ds) {x : V} {d : Dt} (hx : DD H x d) : DDs H (xs ++ [x]) (ds ++ [d]) := by
  obtain ⟨hl, hh⟩ := h
  refine ⟨by simp [hl], fun i a b => ?_⟩
  by_cases hi : i < xs.length
  · rw [List.getElem_append_left hi, List.getElem_append_left (by omega)]; exact hh i hi (by omega)
  · obtain rfl : i = xs.length := by simp at a; omega
    rw [List.getElem_append_right (by omega), List.getElem_append_right (by omega)]
    simpa [hl] using hx
theorem form_box {d : Dt} (h : formD d = true) : (∃ ps, d = .tup [.str "box", .tup ps] ∧ ps.all pr2 = true) ∨ ∃ w x, d = .tup [.str "pick", w, x] := by
  unfold formD at h
  split at h
  · rw [Bool.and_eq_true_iff] at h
    obtain ⟨h1, h2⟩ := h
    split at h2
    · rw [Bool.and_eq_true_iff] at h2
      exact .inl ⟨_, by rw [eq_of_beq h1], h2.1⟩
    · cases h2
  · rw [Bool.and_eq_true_iff] at h
    exact .inr ⟨_, _, by rw [eq_of_beq h.1]⟩
  · cases h
theorem parts_pick (a w x : Dt) : partsD (.tup [a, w, x]) = [x] := by cases w <;> rfl
def spPIn : Sp := fun vs H Q _ => ∃ (Hb : Hp) (x : V) (d : Dt), vs = [x] ∧ DD Hb x d ∧ Same Hb H ∧ formD d = true ∧ ∀ (L : Addr) (us : List V) (H' : Hp), H L = none → H' L = some (.lst us) → DDs Hb us (kidsD d) → us.length ≤ 1000 → Same H H' → Q (.ref L) H'
theorem ok_parts_in (T : Txt K mg) : FnK P w K mg base 1 "parts_in" ["thing"] spPIn := by
  refine T.t_parts_in.okS sc_parts_in (fun vs H Q E h => ?_) (fun f cdv A outer s H vs Q E hr h => ?_)
  · obtain ⟨Hb, x, d, rfl, _⟩ := h
    rfl
  · obtain ⟨Hb, x, d, rfl, hd, sb, hf, k⟩ := h
    have hu0 := Nat.lt_of_succ_lt (hu_of hr)
    have hsz : sizeLine = 16777216 := sizeLine_eq
    refine ⟨_, (sb_cons (s_if (y_cmpR (op_eqD hu0) (z_ix (ix_K K) (zv 0) z_int (fun _ _ => rfl)) z_str (nomark _)) (sb_one (s_ret (z_lc (own := ["word", "part"]) (idx := []) (N' := ["word", "part"]) (⟨rfl, by decide +kernel, by decide +kernel, (show ∀ y ∈ Scope.names _, y.2 = NameKind.free → ((defScope s_parts_in).names.lookup y.1 = some NameKind.cell ∨ (defScope s_parts_in).names.lookup y.1 = some NameKind.free) by decide +kernel), (show ∀ j ∈ ([] : List Nat), (Scope.names _).lookup ((["thing"] : List Str).getD j "") = some NameKind.free ∧ j < (["thing"] : List Str).length by decide +kernel), rfl⟩) rfl (i_K K (z_ix (ix_K K) (zv 0) z_int (fun _ _ => rfl))) (fun _ _ _ _ _ _ => (g_tup K (n := 2) rfl (gs_cons (g_name (i := 0) (show List.Nodup (["word", "part"] : List Str) by decide +kernel) rfl (Or.inl rfl)) (gs_cons (g_name (i := 1) (show List.Nodup (["word", "part"] : List Str) by decide +kernel) rfl (Or.inl rfl)) gs_nil)))) (fun _ _ _ _ _ _ => c_nil) (fun _ _ _ _ _ _ => (zv 1))))) sb_nil)
      (sb_one (s_ret (z_lst (sa_Subscript (z_ix (ix_K K) (zv 0) z_int (fun _ _ => rfl)) sa_nil))))), ?_⟩
    rw [kids_form hf] at k
    rcases form_box hf with ⟨ps, rfl, hall⟩ | ⟨w, x2, rfl⟩
    · obtain ⟨a, xs, rfl, eb, hl, hds⟩ := hd.tup_elt
      have e := sb _ _ eb
      match xs, hl with
      | [x0, x1], _ =>
        have h0 : DD Hb x0 (.str "box") := hds 0 (by simp) (by simp)
        have h1 : DD Hb x1 (.tup ps) := hds 1 (by simp) (by simp)
        cases h0
        obtain ⟨c2, ys, rfl, e2b, hl2, hds2⟩ := h1.tup_elt
        have e2 := sb _ _ e2b
        have hy1000 : ys.length ≤ 1000 := by
          cases h1 with
          | tup e' _ hn _ => rw [e2b] at e'; cases e'; exact hn
        refine tSeq_by (fun _ _ => False) (fun nx hnx => ?_) (fun _ _ h => h.elim)
        refine ⟨_, .str "box", .inr (SqT.of e), atI_zero _ _, rfl, _, rfl, iteB (fun _ => ?_) (fun c => absurd c (by decide +kernel))⟩
        refine ⟨_, .ref c2, .inr (SqT.of e), rfl, Or.inr ⟨⟨ys, SqT.of e2⟩, fun D hD => ?_⟩⟩
        refine lc_by (itn_tup ys) (fun i τ H3 => (∃ us : List V, H3 D = some (.lst us) ∧ DDs Hb us ((ps.map snd2).take i)) ∧ Same H H3 ∧ ∃ v1 v2, τ = [v1, v2]) ⟨⟨[], upd_same, by simpa using DDs.nil⟩, Same.upd hD _, none, none, rfl⟩ (fun i τ H3 _ h => SqT.of (h.2.1 _ _ e2)) ?_ ?_
        · rintro i τ H3 hi ⟨⟨us, q1, q1d⟩, q2, v1, v2, rfl⟩
          have hip : i < ps.length := by omega
          have h4 := List.all_eq_true.mp hall _ (List.getElem_mem hip)
          obtain ⟨b, x, y, dx, dy, w1, w2, w3, w4, w5⟩ := (hds2 i hi hip).two h4
          have e1 : ys.getD i .non = .ref b := by rw [List.getD_eq_getElem?_getD, List.getElem?_eq_getElem hi, w1]; rfl
          rw [e1]
          refine g2_at (q2 _ _ (sb _ _ w3)) ?_
          have hul := q1d.1
          refine ⟨_, q1, by simp at hul; omega, ⟨us ++ [y], upd_same, ?_⟩, (q2.put hD), _, _, rfl⟩
          have et : (ps.map snd2).take (i + 1) = (ps.map snd2).take i ++ [dy] := by
            rw [List.take_add_one, List.getElem?_map, List.getElem?_eq_getElem hip, w2]; rfl
          rw [et]
          exact q1d.snoc w5
        · rintro τ H3 ⟨⟨us, q1, q1d⟩, q2, v1, v2, rfl⟩
          rw [List.take_of_length_le (by simp; omega)] at q1d
          have := q1d.1
          exact k D us H3 hD q1 q1d (by simp at this; omega) q2
    · obtain ⟨a, xs, rfl, eb, hl, hds⟩ := hd.tup_elt
      have e := sb _ _ eb
      match xs, hl with
      | [x0, x1, x2'], _ =>
        have h0 : DD Hb x0 (.str "pick") := hds 0 (by simp) (by simp)
        have h2 : DD Hb x2' x2 := hds 2 (by simp) (by simp)
        cases h0
        refine tSeq_by (fun σ' H' => σ' = [some (.ref a)] ∧ H = H') (fun nx hnx => ?_) ?_
        · exact ⟨_, .str "pick", .inr (SqT.of e), atI_zero _ _, rfl, _, rfl, iteB (fun c => absurd c (by decide +kernel)) (fun _ => hnx _ _ ⟨rfl, rfl⟩)⟩
        rintro σ' _ ⟨rfl, rfl⟩
        refine ⟨_, x2', .inr (SqT.of e), rfl, (show 1 ≤ sizeLine by decide), fun L hL => k L [x2'] _ hL upd_same ?_ (by simp) (Same.upd hL _)⟩
        rw [parts_pick]
        refine ⟨rfl, fun i a b => ?_⟩
        obtain rfl : i = 0 := by simp at a; omega
        exact h2
def spIsTh : Sp := fun vs H Q _ => ∃ (x : V) (d : Dt), vs = [x] ∧ DD H x d ∧ LvOk (d.dep + 1) [d] ∧ wD d ≤ 1000000 ∧ ∀ H', Same H H' → Q (.bl (thD d)) H'
theorem ok_is_thing (T : Txt K mg) : FnK P w K mg base 4 "is_thing" ["thing"] spIsTh := by
  have F_is_formed : FnK P w K mg base 3 "is_formed" ["thing"] (spT formD) := ok_is_formed T
  have F_parts_in : FnK P w K mg base 1 "parts_in" ["thing"] spPIn := ok_parts_in T
  refine T.t_is_thing.okS sc_is_thing (fun vs H Q E h => ?_) (fun f cdv A outer s H vs Q E hr h => ?_)
  · obtain ⟨x, d, rfl, _⟩ := h
    rfl
  · obtain ⟨x, d, rfl, hd, hlv, hw, k⟩ := h
    have hu0 := Nat.lt_of_succ_lt (hu_of hr)
    have hu100 := hu100_of hr
    have hsz : sizeLine = 16777216 := sizeLine_eq
    refine ⟨_, (sb_cons (s_set (i := 1) sc_is_thing.nd rfl (Or.inl rfl) (z_lst (sa_Name (zv 0) sa_nil)))
      (sb_cons (s_while PassesOwn.never (y_truth K (zv 1)) (sb_cons (s_if (y_not (y_val (z_callB (call_allK K rfl) (by rfl) T.n_all PyProof.Rows.boot_all (sa_ListComp (z_lc (own := ["one"]) (idx := []) (N' := ["one"]) (⟨rfl, by decide +kernel, by decide +kernel, (show ∀ y ∈ Scope.names _, y.2 = NameKind.free → ((defScope s_is_thing).names.lookup y.1 = some NameKind.cell ∨ (defScope s_is_thing).names.lookup y.1 = some NameKind.free) by decide +kernel), (show ∀ j ∈ ([] : List Nat), (Scope.names _).lookup ((["thing", "level", "inner"] : List Str).getD j "") = some NameKind.free ∧ j < (["thing", "level", "inner"] : List Str).length by decide +kernel), rfl⟩) rfl (i_K K (zv 1)) (fun _ _ _ _ _ _ => (g_name (i := 0) (show List.Nodup (["one"] : List Str) by decide +kernel) rfl (Or.inl rfl))) (fun _ _ _ _ _ _ => c_nil) (fun _ _ _ _ _ _ => (z_fn F_is_formed (hr.mono (by decide)) (sa_Name (zv 0) sa_nil)))) sa_nil)))) (sb_one (s_ret z_bl)) sb_nil)
      (sb_cons (s_set (i := 2) sc_is_thing.nd rfl (Or.inr rfl) (z_lc2 (own := ["one", "part"]) (idx := []) (N' := ["one", "part"]) (⟨rfl, by decide +kernel, by decide +kernel, (show ∀ y ∈ Scope.names _, y.2 = NameKind.free → ((defScope s_is_thing).names.lookup y.1 = some NameKind.cell ∨ (defScope s_is_thing).names.lookup y.1 = some NameKind.free) by decide +kernel), (show ∀ j ∈ ([] : List Nat), (Scope.names _).lookup ((["thing", "level", "inner"] : List Str).getD j "") = some NameKind.free ∧ j < (["thing", "level", "inner"] : List Str).length by decide +kernel), rfl⟩) rfl (i_K K (zv 1)) (fun _ _ _ _ _ _ => (g_name (i := 0) (show List.Nodup (["one", "part"] : List Str) by decide +kernel) rfl (Or.inl rfl))) (fun _ _ _ _ _ _ => (i_K K (z_fn F_parts_in (hr.mono (by decide)) (sa_Name (zv 0) sa_nil)))) (fun _ _ _ _ _ _ => (g_name (i := 1) (show List.Nodup (["one", "part"] : List Str) by decide +kernel) rfl (Or.inl rfl))) (fun _ _ _ _ _ _ => (zv 1))))
      (sb_one (s_lc (i := 1) (own := ["at", "one"]) (idx := [2]) (N' := ["at", "one", "inner"]) (⟨rfl, by decide +kernel, by decide +kernel, (show ∀ y ∈ Scope.names _, y.2 = NameKind.free → ((defScope s_is_thing).names.lookup y.1 = some NameKind.cell ∨ (defScope s_is_thing).names.lookup y.1 = some NameKind.free) by decide +kernel), (show ∀ j ∈ ([2] : List Nat), (Scope.names _).lookup ((["thing", "level", "inner"] : List Str).getD j "") = some NameKind.free ∧ j < (["thing", "level", "inner"] : List Str).length by decide +kernel), rfl⟩) rfl (pi_enumK K (by rfl) T.n_enumerate (sa_Name (zv 2) sa_nil)) (fun _ _ _ _ _ _ => (g_tup K (n := 2) rfl (gs_cons (g_name (i := 0) (show List.Nodup (["at", "one", "inner"] : List Str) by decide +kernel) rfl (Or.inl rfl)) (gs_cons (g_name (i := 1) (show List.Nodup (["at", "one", "inner"] : List Str) by decide +kernel) rfl (Or.inl rfl)) gs_nil)))) (fun _ _ _ _ _ _ => (c_one (w_or (y_cmpR (op_eqD hu0) (zv 0) z_int (nomark _)) (w_or1 (y_cmpR (op_neDD hu100) (zv 1) (z_ix (ix_K K) (zv 2) (z_op op_subD (zv 0) z_int) (fun _ _ => rfl)) (nomark _)))).pt)) (fun _ _ _ _ _ _ => (zv 1)) sc_is_thing.nd rfl rfl)))))
      (sb_one (s_ret z_bl)))), ?_⟩
    refine tSeq_set ⟨(show 1 ≤ sizeLine by decide), fun L hL => ?_⟩
    have s0 := Same.upd hL (.lst [x])
    have gL : upd H L (.lst [x]) L = some (.lst [x]) := upd_same
    dsimp only
    generalize upd H L (.lst [x]) = H0 at s0 gL
    refine tSeq_by (fun σ' H' => Same H H' ∧ thD d = true) ?_ (by rintro σ' H' ⟨s, e⟩; (have := k H' s; rw [e] at this; exact this))
    intro nx hnx
    refine ⟨fun m σ' H' => ∃ (L : Addr) (us : List V) (ds : List Dt) (v2 : Option V), σ' = [some x, some (.ref L), v2] ∧ H' L = some (.lst us) ∧ DDs H' us ds ∧ (∀ e ∈ ds, e.dep < m) ∧ LvOk m ds ∧ wS ds ≤ 1000000 ∧ thD d = ds.all thD ∧ Same H H', ⟨d.dep + 1, L, [x], [d], none, rfl, gL, ⟨rfl, fun i a b => ?_⟩, fun e he => ?_, hlv, by simpa [wS] using hw, by simp, s0⟩, ?_⟩
    · obtain rfl : i = 0 := by simp at a; omega
      exact hd.same s0
    · rw [List.mem_singleton.mp he]; omega
    rintro m σ' H1 ⟨L, us, ds, v2, rfl, g1, hds, hdep, hlv, hwS, hth, s1⟩
    have hul := hds.1
    have hlen := wS_len ds
    refine ⟨!us.isEmpty, .inl ⟨us, SqL.of g1, rfl⟩, iteB (fun c => ?_) (fun c => ?_)⟩
    rotate_left
    · have : us = [] := by simpa using c
      subst this
      have : ds = [] := List.length_eq_zero_iff.mp (by simpa using hul.symm)
      subst this
      exact hnx _ _ ⟨s1, by rw [hth]; rfl⟩
    have hpos : 0 < us.length := by
      cases us with
      | nil => cases c
      | cons _ _ => simp
    obtain ⟨m', rfl⟩ : ∃ m', m = m' + 1 := by
      have := hdep (ds[0]'(by omega)) (List.getElem_mem _)
      exact ⟨m - 1, by omega⟩
    refine ⟨fun σ' H' => ∃ m'', m'' < m' + 1 ∧ ∃ (L : Addr) (us : List V) (ds : List Dt) (v2 : Option V), σ' = [some x, some (.ref L), v2] ∧ H' L = some (.lst us) ∧ DDs H' us ds ∧ (∀ e ∈ ds, e.dep < m'') ∧ LvOk m'' ds ∧ wS ds ≤ 1000000 ∧ thD d = ds.all thD ∧ Same H H', fun σ' H' h => h, ?_⟩
    have hwf := wS_flat ds
    refine tSeq_by (fun σ' H' => σ' = [some x, some (.ref L), v2] ∧ Same H1 H' ∧ ds.all formD = true) (fun nx2 hnx2 => ?_) ?_
    · refine Or.inl ⟨⟨us, SqL.of g1⟩, fun D hD => ?_⟩
      refine lc_bools (itn_list us) (fun i => formD (ds.getD i .oth)) (by omega) hD (fun H2 s2 => SqL.of (s2 _ _ g1)) (fun i H2 k' hi s2 hk => ?_) (fun H2 s2 hl2' => ?_)
      · have h3 := (hds.2 i hi (by omega)).same s2
        have e1 : us.getD i .non = us[i] := by simp [List.getD_eq_getElem?_getD, hi]
        have e3 : ds.getD i .oth = ds[i]'(by omega) := by rw [List.getD_eq_getElem?_getD, List.getElem?_eq_getElem (by omega)]; rfl
        rw [e1]
        rw [e3] at hk
        exact ⟨_, _, rfl, h3, hk⟩
      · refine ⟨_, SqL.of hl2', _, rfl, ?_⟩
        rw [hul, range_all_list ds .oth formD]
        refine iteNB (fun h3 => hnx2 _ _ ⟨rfl, s2, h3⟩) (fun h3 => ?_)
        have := k H2 (s1.trans s2)
        rw [hth, th_flat, h3, Bool.false_and] at this
        exact this
    rintro σ' H2 ⟨rfl, s2, hall⟩
    have g2 := s2 _ _ g1
    have hds2 := hds.same s2
    refine tSeq_by (fun σ' H' => ∃ (I : Addr) (ws : List V), σ' = [some x, some (.ref L), some (.ref I)] ∧ H' I = some (.lst ws) ∧ DDs H' ws (ds.flatMap kidsD) ∧ Same H2 H') (fun nx2 hnx2 => ?_) ?_
    · refine Or.inl ⟨⟨us, SqL.of g2⟩, fun D hD => ?_⟩
      refine lc2_by (itn_list us) (fun i τ H' => ∃ (v0 v1 : Option V) (ws : List V), τ = [v0, v1] ∧ H' D = some (.lst ws) ∧ DDs H2 ws ((ds.take i).flatMap kidsD) ∧ Same H2 H') ⟨none, none, [], rfl, upd_same, by simpa using DDs.nil, Same.upd hD _⟩ (by rintro i τ H' _ ⟨_, _, _, _, _, _, s⟩; exact SqL.of (s _ _ g2)) ?_ ?_
      · rintro i τ H3 hi ⟨v0, v1, ws, rfl, q1, q2, q3⟩
        have hid : i < ds.length := by omega
        have e1 : us.getD i .non = us[i] := by simp [List.getD_eq_getElem?_getD, hi]
        rw [e1]
        have hfm := List.all_eq_true.mp hall _ (List.getElem_mem hid)
        refine ⟨H2, _, _, rfl, hds2.2 i hi hid, q3, hfm, fun L2 zs H4 hL2 gL2 dz hz s4 => ?_⟩
        have q1' := s4 _ _ q1
        have nLD : L2 ≠ D := fun z => by rw [z, q1] at hL2; cases hL2
        have hq2l := q2.1
        have hfl : ((ds.take i).flatMap kidsD).length ≤ 1000000 := by
          have a1 := wS_len ((ds.take i).flatMap kidsD)
          have a2 := wS_flat (ds.take i)
          have a3 := wS_sub (List.take_sublist i ds)
          omega
        refine Or.inl ⟨⟨zs, SqL.of gL2⟩, in2_by (itn_list zs) (fun j τ H' => ∃ (v1 : Option V) (ys : List V), τ = [some us[i], v1] ∧ H' D = some (.lst ys) ∧ DDs H2 ys ((ds.take i).flatMap kidsD ++ (kidsD ds[i]).take j) ∧ Same H2 H' ∧ H' L2 = some (.lst zs)) ⟨v1, ws, rfl, q1', by simpa using q2, q3.trans s4, gL2⟩ (by rintro j τ H' _ ⟨_, _, _, _, _, _, g⟩; exact SqL.of g) ?_ ?_⟩
        · rintro j τ H5 hj ⟨v1', ys, rfl, r1, r2, r3, r4⟩
          have hzl := dz.1
          have hjk : j < (kidsD ds[i]).length := by omega
          have e2 : zs.getD j .non = zs[j] := by simp [List.getD_eq_getElem?_getD, hj]
          rw [e2]
          have hyl := r2.1
          rw [List.length_append, List.length_take] at hyl
          refine ⟨ys, r1, by omega, _, ys ++ [zs[j]], rfl, upd_same, ?_, r3.put hD, by rw [upd_ne nLD]; exact r4⟩
          have et : (kidsD ds[i]).take (j + 1) = (kidsD ds[i]).take j ++ [(kidsD ds[i])[j]] := by
            rw [List.take_add_one, List.getElem?_eq_getElem hjk]; rfl
          rw [et, ← List.append_assoc]
          have hzd := dz.2 j hj hjk
          exact r2.snoc hzd
        · rintro τ H5 ⟨v1', ys, rfl, r1, r2, r3, r4⟩
          have hzl := dz.1
          rw [List.take_of_length_le (Nat.le_of_eq hzl.symm)] at r2
          refine ⟨_, _, ys, rfl, r1, ?_, r3⟩
          have et : (ds.take (i + 1)).flatMap kidsD = (ds.take i).flatMap kidsD ++ kidsD ds[i] := by
            rw [List.take_add_one, List.getElem?_eq_getElem hid, List.flatMap_append]; simp
          rw [et]; exact r2
      · rintro τ H3 ⟨v0, v1, ws, rfl, q1, q2, q3⟩
        rw [List.take_of_length_le (by omega)] at q2
        exact hnx2 _ _ ⟨D, ws, rfl, q1, q2.same q3, q3⟩
    rintro σ' H3 ⟨I, ws, rfl, gI, hws, s3⟩
    have hwl := hws.1
    have hDl := wS_len (ds.flatMap kidsD)
    have hlv2 := hlv.flat
    have hdep2 : ∀ e ∈ ds.flatMap kidsD, e.dep < m' := fun e he => by
      obtain ⟨q, hq, he⟩ := List.mem_flatMap.mp he
      have := hdep q hq
      have := kids_dep he
      omega
    have hth2 : thD d = (ds.flatMap kidsD).all thD := by rw [hth, th_flat, hall, Bool.true_and]
    generalize ds.flatMap kidsD = Ds at hws hwl hDl hlv2 hdep2 hth2 hwf
    refine ⟨I, ws, rfl, SqL.of gI, fun D hD => ?_⟩
    refine lc_pair (itp_enum ws) (fun i τ H' => ∃ (v0 v1 : Option V) (ys : List V) (es : List Dt), τ = [v0, v1, some (.ref I)] ∧ H' D = some (.lst ys) ∧ DDs H3 ys es ∧ es.Sublist (Ds.take i) ∧ (∀ e ∈ Ds.take i, e ∈ es) ∧ Same H3 H') ⟨none, none, [], [], rfl, upd_same, DDs.nil, by simp, by simp, Same.upd hD _⟩ (by rintro i τ H' _ ⟨_, _, _, _, _, _, _, _, _, s⟩; exact SqL.of (s _ _ gI)) ?_ ?_
    · rintro i τ H4 tt hi ⟨v0, v1, ys, es, rfl, q1, q2, q3, q4, q5⟩ htt
      have hiD : i < Ds.length := by omega
      have ex : ws.getD i .non = ws[i] := by simp [List.getD_eq_getElem?_getD, hi]
      rw [ex]
      have s5 := q5.trans (Same.upd htt (.tup [.int (i : Int), ws[i]]))
      have q1' := Same.upd htt (.tup [.int (i : Int), ws[i]]) _ _ q1
      generalize upd H4 tt (.tup [.int (i : Int), ws[i]]) = H5 at s5 q1'
      have hyl := q2.1
      have hel := q3.length_le
      rw [List.length_take] at hel
      have etk : Ds.take (i + 1) = Ds.take i ++ [Ds[i]] := by rw [List.take_add_one, List.getElem?_eq_getElem hiD]; rfl
      have app : ∃ xs, H5 D = some (.lst xs) ∧ xs.length < sizeLine ∧ ∃ (v0 v1 : Option V) (ys : List V) (es : List Dt), [some (V.int (i : Int)), some ws[i], some (V.ref I)] = [v0, v1, some (.ref I)] ∧ upd H5 D (.lst (xs ++ [ws[i]])) D = some (.lst ys) ∧ DDs H3 ys es ∧ es.Sublist (Ds.take (i + 1)) ∧ (∀ e ∈ Ds.take (i + 1), e ∈ es) ∧ Same H3 (upd H5 D (.lst (xs ++ [ws[i]]))) := by
        refine ⟨ys, q1', by omega, _, _, ys ++ [ws[i]], es ++ [Ds[i]], rfl, upd_same, q2.snoc (hws.2 i hi hiD), ?_, fun e he => ?_, s5.put hD⟩
        · rw [etk]; exact q3.append (List.Sublist.refl _)
        · rw [etk] at he
          rcases List.mem_append.mp he with h | h
          · exact List.mem_append_left _ (q4 e h)
          · exact List.mem_append_right _ h
      refine ⟨rfl, _, rfl, iteB (fun c => iteT app) (fun c => ?_)⟩
      rw [Bool.false_xor, decV_int] at c
      have hi0 : i ≠ 0 := fun z => by have := of_decide_eq_false c; omega
      obtain ⟨j, rfl⟩ : ∃ j, i = j + 1 := ⟨i - 1, by omega⟩
      obtain ⟨o1, o2, o3⟩ := hlv2.pair hiD
      have ej : (((j + 1 : Nat)) : Int) - 1 = (j : Int) := by omega
      refine ⟨ws, ws[j]'(by omega), .inl (SqL.of (s5 _ _ gI)), by rw [ej]; exact atI_nat (List.getElem?_eq_getElem (by omega)), Ds[j + 1], Ds[j]'(by omega), (hws.2 _ hi hiD).same s5, (hws.2 j (by omega) (by omega)).same s5, o1.symm, o2, _, rfl, iteB (fun _ => app) (fun c2 => ?_)⟩
      have eqd : Ds[j + 1] = Ds[j]'(by omega) := eqB_iff.mp (by simpa using c2)
      refine ⟨_, _, ys, es, rfl, q1', q2, ?_, fun e he => ?_, s5⟩
      · rw [etk]; exact q3.trans (List.sublist_append_left _ _)
      · rw [etk] at he
        rcases List.mem_append.mp he with h | h
        · exact q4 e h
        · rw [List.mem_singleton.mp h, eqd]
          refine q4 _ ?_
          rw [List.take_add_one, List.getElem?_eq_getElem (show j < Ds.length by omega)]
          exact List.mem_append_right _ (by simp)
    · rintro τ H4 ⟨v0, v1, ys, es, rfl, q1, q2, q3, q4, q5⟩
      rw [List.take_of_length_le (by omega)] at q3 q4
      refine ⟨m', by omega, D, ys, es, _, rfl, q1, q2.same q5, fun e he => hdep2 e (q3.subset he), hlv2.sub q3, by have := wS_sub q3; omega, ?_, (s1.trans s2).trans (s3.trans q5)⟩
      rw [hth2, Bool.eq_iff_iff, List.all_eq_true, List.all_eq_true]
      exact ⟨fun h e he => h e (q3.subset he), fun h e he => h e (q4 e he)⟩
theorem DDs.append {H : Hp} {xs ys : List V} {ds es : List Dt} (h : DDs H xs ds) (h' : DDs H ys es) : DDs H (xs ++ ys) (ds ++ es) := by
  obtain ⟨hl, hh⟩ := h
  obtain ⟨hl', hh'⟩ := h'
  refine ⟨by simp [hl, hl'], fun i a b => ?_⟩
  by_cases hi : i < xs.length
  · rw [List.getElem_append_left hi, List.getElem_append_left (by omega)]; exact hh i hi (by omega)
  · rw [List.getElem_append_right (by omega), List.getElem_append_right (by omega)]
    have e : i - xs.length = i - ds.length := by omega
    simp only [e]
    exact hh' _ (by simp at a; omega) (by simp at b; omega)
theorem DDs.drop {H : Hp} {xs : List V} {ds : List Dt} (h : DDs H xs ds) : DDs H xs.dropLast ds.dropLast := by
  obtain ⟨hl, hh⟩ := h
  refine ⟨by simp [hl], fun i a b => ?_⟩
  rw [List.getElem_dropLast, List.getElem_dropLast]
  exact hh i _ _
def spPcs : Sp := fun vs H Q _ => ∃ (x : V) (d : Dt), vs = [x] ∧ DD H x d ∧ thD d = true ∧ wD d ≤ 1000000 ∧ ∀ H', Same H H' → Q (.int (wD d : Int)) H'
theorem ok_pieces (T : Txt K mg) : FnK P w K mg base 2 "pieces" ["thing"] spPcs := by
  have F_parts_in : FnK P w K mg base 1 "parts_in" ["thing"] spPIn := ok_parts_in T
  refine T.t_pieces.okS sc_pieces (fun vs H Q E h => ?_) (fun f cdv A outer s H vs Q E hr h => ?_)
  · obtain ⟨x, d, rfl, _⟩ := h
    rfl
  · obtain ⟨x, d, rfl, hd, hth, hw, k⟩ := h
    have hu0 := Nat.lt_of_succ_lt (hu_of hr)
    have hsz : sizeLine = 16777216 := sizeLine_eq
    refine ⟨_, (sb_cons (s_set (i := 1) sc_pieces.nd rfl (Or.inl rfl) z_int)
      (sb_cons (s_set (i := 2) sc_pieces.nd rfl (Or.inl rfl) (z_lst (sa_Name (zv 0) sa_nil)))
      (sb_cons (s_while PassesOwn.never (y_truth K (zv 2)) (sb_cons (s_set (i := 3) sc_pieces.nd rfl (Or.inl rfl) (z_bm0 K PySem.F.plainAttrs_list PySem.F.slot_list_pop PySem.F.type_list_pop mt_pop (zv 2)))
      (sb_cons (s_expr (z_bm K PySem.F.plainAttrs_list PySem.F.slot_list_extend PySem.F.type_list_extend mt_extend (zv 2) (sa_Call (z_fn F_parts_in (hr.mono (by decide)) (sa_Name (zv 3) sa_nil)) sa_nil)))
      (sb_one (s_aug (i := 1) sc_pieces.nd rfl (Or.inl rfl) z_int ip_add)))))
      (sb_one (s_ret (zv 1)))))), ?_⟩
    refine tSeq_setC ?_
    refine tSeq_set ⟨(show 1 ≤ sizeLine by decide), fun L hL => ?_⟩
    have s0 := Same.upd hL (.lst [x])
    have gL : upd H L (.lst [x]) L = some (.lst [x]) := upd_same
    dsimp only
    generalize upd H L (.lst [x]) = H0 at s0 gL
    refine tSeq_by (fun σ' H' => ∃ v3, σ' = [some x, some (.int (wD d : Int)), some (.ref L), v3] ∧ Same H H') ?_ (by rintro σ' H' ⟨v3, e, s⟩; (subst e; exact k H' s))
    intro nx hnx
    refine ⟨fun m σ' H' => ∃ (us : List V) (ds : List Dt) (many : Nat) (v3 : Option V), σ' = [some x, some (.int (many : Int)), some (.ref L), v3] ∧ H' L = some (.lst us) ∧ DDs H us ds ∧ ds.all thD = true ∧ many + wS ds = wD d ∧ m = wS ds ∧ Same H H', ⟨wD d, [x], [d], 0, none, rfl, gL, ⟨rfl, fun i a b => ?_⟩, by simpa using hth, by simp [wS], by simp [wS], s0⟩, ?_⟩
    · obtain rfl : i = 0 := by simp at a; omega
      exact hd
    rintro m σ' H1 ⟨us, ds, many, v3, rfl, g1, hds, hall, hsum, rfl, s1⟩
    have hul := hds.1
    have hlen := wS_len ds
    refine ⟨!us.isEmpty, .inl ⟨us, SqL.of g1, rfl⟩, iteB (fun c => ?_) (fun c => ?_)⟩
    rotate_left
    · have : us = [] := by simpa using c
      subst this
      have : ds = [] := List.length_eq_zero_iff.mp (by simpa using hul.symm)
      subst this
      have : many = wD d := by simpa [wS] using hsum
      exact hnx _ _ ⟨v3, by rw [this], s1⟩
    have hpos : 0 < us.length := by
      cases us with
      | nil => cases c
      | cons _ _ => simp
    refine ⟨fun σ' H' => ∃ m', m' < wS ds ∧ ∃ (us : List V) (ds : List Dt) (many : Nat) (v3 : Option V), σ' = [some x, some (.int (many : Int)), some (.ref L), v3] ∧ H' L = some (.lst us) ∧ DDs H us ds ∧ ds.all thD = true ∧ many + wS ds = wD d ∧ m' = wS ds ∧ Same H H', fun σ' H' h => h, ?_⟩
    have hlast : us[us.length - 1]? = some (us[us.length - 1]'(by omega)) := List.getElem?_eq_getElem (by omega)
    have hdl := hds.2 (us.length - 1) (by omega) (by omega)
    have eds : ds = ds.dropLast ++ [ds[us.length - 1]'(by omega)] := by
      have h1 : ds ≠ [] := fun z => by subst z; simp at hul; subst hul; simp at hpos
      have h2 : ds[us.length - 1]'(by omega) = ds.getLast h1 := by rw [List.getLast_eq_getElem]; congr 1; omega
      rw [h2, List.dropLast_concat_getLast]
    generalize us[us.length - 1]'(by omega) = y at hlast hdl
    generalize ds[us.length - 1]'(by omega) = dl at hdl eds
    have hd1 := hds.drop
    have hwd : wS ds = wS ds.dropLast + wD dl := by
      have := congrArg wS eds
      rw [wS_append] at this
      simpa [wS] using this
    have hal : ds.dropLast.all thD = true ∧ thD dl = true := by
      rw [eds, List.all_append, Bool.and_eq_true_iff] at hall
      exact ⟨hall.1, by simpa using hall.2⟩
    rw [thD_eq, Bool.and_eq_true_iff] at hal
    have hwl : wD dl = 1 + wS (kidsD dl) := wD_eq dl
    refine tSeq_set ⟨.inl ⟨rfl, _, SqL.of g1⟩, L, us, y, rfl, rfl, g1, hlast, ?_⟩
    have s2 : Same H (upd H1 L (.lst us.dropLast)) := s1.put hL
    have g2 : upd H1 L (.lst us.dropLast) L = some (.lst us.dropLast) := upd_same
    dsimp only
    generalize upd H1 L (.lst us.dropLast) = H2 at s2 g2
    refine tSeq_by (fun σ' H' => ∃ zs, σ' = [some x, some (.int (many : Int)), some (.ref L), some y] ∧ H' L = some (.lst (us.dropLast ++ zs)) ∧ DDs H zs (kidsD dl) ∧ Same H H') (fun nx2 hnx2 => ?_) ?_
    · refine ⟨.inl ⟨rfl, _, SqL.of g2⟩, H, y, dl, rfl, hdl, s2, hal.2.1, fun L2 zs H3 hL2 gL2 dz hz s3 => ?_⟩
      have hzl := dz.1
      have := wS_len (kidsD dl)
      exact ⟨L, L2, us.dropLast, zs, rfl, rfl, s3 _ _ g2, gL2, by simp; omega, hnx2 _ _ ⟨zs, rfl, upd_same, dz, (s2.trans s3).put hL⟩⟩
    rintro σ' H3 ⟨zs, rfl, g3, dz, s3⟩
    refine ⟨_, rfl, _, _, rfl, rfl, wS (ds.dropLast ++ kidsD dl), by rw [wS_append]; omega, us.dropLast ++ zs, ds.dropLast ++ kidsD dl, many + 1, _, rfl, g3, hd1.append dz, ?_, by rw [wS_append]; omega, rfl, s3⟩
    rw [List.all_append, hal.1, hal.2.2]; rfl
theorem ok_law_tis_name (T : Txt K mg) : FnK P w K mg base 1 "_law_tis_name" ["thing"] (spT nameD) := by
  refine T.t_law_tis_name.okS sc_law_tis_name (fun vs H Q E h => ?_) (fun f cdv A outer s H vs Q E hr h => ?_)
  · obtain ⟨x, d, rfl, _⟩ := h
    rfl
  · obtain ⟨x, d, rfl, hd, k⟩ := h
    have hu0 := Nat.lt_of_succ_lt (hu_of hr)
    have hsz : sizeLine = 16777216 := sizeLine_eq
    refine ⟨_, (sb_cons (s_if (w_or (y_not (y_val (z_callB call_isiD (by rfl) T.n_isinstance PyProof.Rows.boot_isinstance (sa_Name (zv 0) (sa_Name (z_bltn (v := .ty "str") (by rfl) T.n_str PyProof.Rows.boot_str rfl) sa_nil))))) (w_or (y_cmpR op_ltD (z_callB (call_lenK K) (by rfl) T.n_len PySem.boot_len (sa_Name (zv 0) sa_nil)) z_int (nomark _)) (w_or1 (y_cmpR op_gtD (z_callB (call_lenK K) (by rfl) T.n_len PySem.boot_len (sa_Name (zv 0) sa_nil)) z_int (nomark _))))).pt (sb_one (s_ret z_bl)) sb_nil)
      (sb_one (s_ret (z_and (z_cmpR (op_notInK K) (zv 0) (z_lst (sa_Constant z_str (sa_Constant z_str (sa_Constant z_str (sa_Constant z_str (sa_Constant z_str sa_nil)))))) rfl) (z_one (z_cmpR (op_eqD hu0) (z_bm K PySem.F.plainAttrs_str PySem.F.slot_str_strip PySem.F.type_str_strip mt_strip (zv 0) (sa_Constant z_str sa_nil)) z_str (nomark _))))))), ?_⟩
    obtain ⟨t, ht, h1, h2⟩ := hd.ty
    refine ⟨by decide, t, ht, _, rfl, ?_⟩
    rw [h2]
    have k0 := k H (Same.refl H)
    cases hd with
    | @str z hz =>
      refine iteF ?_
      refine ⟨by omega, _, rfl, ?_⟩
      have fin : ∀ b, isName z = b → ∀ H', Same H H' → Q (.bl b) H' := fun b e H' s' => by have := k H' s'; rw [← e]; exact this
      refine iteB (fun h3 => iteT (fin false ?_ H (Same.refl H))) (fun h3 => ?_)
      · have : ¬ 1 ≤ z.length := by have := of_decide_eq_true h3; omega
        simp [isName, this]
      have h3' : 1 ≤ z.length := by have := of_decide_eq_false h3; omega
      refine ⟨by omega, _, rfl, iteB (fun h4 => fin false ?_ H (Same.refl H)) (fun h4 => ?_)⟩
      · have : ¬ z.length ≤ 8 := by have := of_decide_eq_true h4; omega
        simp [isName, this]
      have h4' : z.length ≤ 8 := by have := of_decide_eq_false h4; omega
      refine tNext_seq2 ⟨(show 5 ≤ sizeLine by decide), fun L hL => ⟨_, .inl (SqL.of upd_same), rfl, rfl, _, rfl, ?_⟩⟩
      have sL := Same.upd hL (.lst [.str "all", .str "none", .str "way", .str "box", .str "pick"])
      have hin : inV (.str z) [.str "all", .str "none", .str "way", .str "box", .str "pick"] = NON.any fun y => y == z := by
        unfold inV
        rfl
      refine ite2 (fun h5 => ?_) (fun h5 => ?_)
      · have h5' : (NON.any fun y => y == z) = false := by rw [← hin]; simpa using h5
        refine ⟨rfl, by omega, rfl, ?_⟩
        have e5 : (false ^^ decide (V.str (Txt.stripChars z (Str.ofString "abcdefghijklmnopqrstuvwxyz")) = V.str (Str.ofString ""))) = isName z := by
          rw [Bool.false_xor, decV_str]
          have := strip_abc z
          rw [show (Str.ofString "abcdefghijklmnopqrstuvwxyz") = ABC from rfl]
          rw [show (Str.ofString "") = ("" : Str) from rfl, this]
          simp [isName, h3', h4', h5']
        rw [e5]
        exact fin _ rfl _ sL
      · refine fin false ?_ _ sL
        have h5' : (NON.any fun y => y == z) = true := by rw [← hin]; simpa using h5
        simp [isName, h5']
    | _ => exact iteT k0
def scanD : Str → List Dt → Bool
  | _, [] => true
  | last, p :: r => pr2 p && (nameD (fst2 p) && (strLt last (strD (fst2 p)) && (thD (snd2 p) && scanD (strD (fst2 p)) r)))
theorem name_pos {z : Str} (h : isName z = true) : strLt "" z = true := by
  unfold strLt
  rw [decide_eq_true_iff]
  have h1 : 1 ≤ z.length := by
    unfold isName at h
    simp only [Bool.and_eq_true_iff, decide_eq_true_eq] at h
    omega
  have : z.cps.toList ≠ [] := fun e => by
    have : z.length = 0 := by show z.cps.size = 0; rw [← Array.length_toList, e]; rfl
    omega
  cases hz : z.cps.toList with
  | nil => exact absurd hz this
  | cons a r => exact List.nil_lt_cons a r
def fstLt (last : Str) : List Dt → Bool
  | [] => true
  | p :: _ => strLt last (strD (fst2 p))
theorem scan_eq : ∀ (last : Str) (ps : List Dt), scanD last ps = (ps.all pr2 && ((ps.map fst2).all nameD && (fstLt last ps && rising ((ps.map fst2).map strD))) && (ps.map snd2).all thD)
  | last, [] => rfl
  | last, p :: r => by
    have ih := scan_eq (strD (fst2 p)) r
    unfold scanD
    rw [ih]
    have er : rising (((p :: r).map fst2).map strD) = (fstLt (strD (fst2 p)) r && rising ((r.map fst2).map strD)) := by
      cases r <;> rfl
    rw [er]
    simp only [List.all_cons, List.map_cons]
    have e5 : fstLt last (p :: r) = strLt last (strD (fst2 p)) := rfl
    rw [e5]
    generalize fstLt (strD (fst2 p)) r = b1
    generalize rising ((r.map fst2).map strD) = b2
    generalize pr2 p = b3
    generalize nameD (fst2 p) = b4
    generalize strLt last (strD (fst2 p)) = b5
    generalize thD (snd2 p) = b6
    generalize r.all pr2 = b7
    generalize (r.map fst2).all nameD = b8
    generalize (r.map snd2).all thD = b9
    cases b1 <;> cases b2 <;> cases b3 <;> cases b4 <;> cases b5 <;> cases b6 <;> cases b7 <;> cases b8 <;> cases b9 <;> rfl
theorem parts_box (z : Dt) (ps : List Dt) : partsD (.tup [z, .tup ps]) = ps.map snd2 := rfl
theorem scan_th (ps : List Dt) : scanD "" ps = thD (.tup [.str "box", .tup ps]) := by
  rw [scan_eq, thD_eq]
  have ef : formD (.tup [.str "box", .tup ps]) = (ps.all pr2 && ((ps.map fst2).all nameD && rising ((ps.map fst2).map strD))) := by
    show (("box" : Str) == "box" && _) = _
    simp
  cases hf : formD (.tup [.str "box", .tup ps]) with
  | false =>
    rw [ef] at hf
    have : (ps.all pr2 && ((ps.map fst2).all nameD && (fstLt "" ps && rising ((ps.map fst2).map strD)))) = false := by
      revert hf
      generalize fstLt "" ps = b1
      cases ps.all pr2 <;> cases (ps.map fst2).all nameD <;> cases b1 <;> cases rising ((ps.map fst2).map strD) <;> simp
    rw [this, Bool.false_and, Bool.false_and]
  | true =>
    rw [kids_form hf, parts_box, Bool.true_and]
    rw [ef] at hf
    simp only [Bool.and_eq_true_iff] at hf
    rw [hf.1, hf.2.1, hf.2.2]
    have : fstLt "" ps = true := by
      cases ps with
      | nil => rfl
      | cons p r =>
        have h1 := hf.2.1
        rw [List.map_cons, List.all_cons, Bool.and_eq_true_iff] at h1
        have h2 := h1.1
        show strLt "" (strD (fst2 p)) = true
        cases hq : fst2 p with
        | str z => rw [hq] at h2; exact name_pos h2
        | tup _ => rw [hq] at h2; cases h2
        | oth => rw [hq] at h2; cases h2
    rw [this]; rfl
theorem th_pick (w x : Dt) : thD (.tup [.str "pick", w, x]) = (nameD w && thD x) := by
  rw [thD_eq]
  have ef : formD (.tup [.str "pick", w, x]) = nameD w := by
    show (("pick" : Str) == "pick" && nameD w) = _
    simp
  cases hn : nameD w with
  | false => rw [ef, hn]; rfl
  | true =>
    have hf : formD (.tup [.str "pick", w, x]) = true := by rw [ef]; exact hn
    rw [hf, kids_form hf, parts_pick]
    simp
theorem th_not {d : Dt} (h : formD d = false) : thD d = false := by rw [thD_eq, h]; rfl
def spTn (n : Nat) (f : Dt → Bool) : Sp := fun vs H Q _ => ∃ (x : V) (d : Dt), vs = [x] ∧ DD H x d ∧ d.dep < n ∧ ∀ H', Same H H' → Q (.bl (f d)) H'
set_option maxHeartbeats 1000000 in
theorem ok_law_tis_thing (T : Txt K mg) : ∀ n : Nat, FnK P w K mg base (2 + n) "_law_tis_thing" ["thing"] (spTn n thD) := by
  intro n
  induction n with
  | zero =>
    refine T.t_law_tis_thing.okS (k := 1) sc_law_tis_thing (fun vs H Q E h => ?_) (fun f cdv A outer s H vs Q E hr h => ?_)
    · obtain ⟨x, d, rfl, _⟩ := h
      rfl
    · obtain ⟨x, d, rfl, _, hn, _⟩ := h
      exact absurd hn (Nat.not_lt_zero _)
  | succ n ih =>
    have F_law_tis_thing : FnK P w K mg base (2 + n) "_law_tis_thing" ["thing"] (spTn n thD) := ih
    have F_law_tis_name : FnK P w K mg base 1 "_law_tis_name" ["thing"] (spT nameD) := ok_law_tis_name T
    refine T.t_law_tis_thing.okS (k := 2 + n) sc_law_tis_thing (fun vs H Q E h => ?_) (fun f cdv A outer s H vs Q E hr h => ?_)
    · obtain ⟨x, d, rfl, _⟩ := h
      rfl
    · obtain ⟨x, d, rfl, hd, hn, k⟩ := h
      have hu0 := Nat.lt_of_succ_lt (hu_of hr)
      have hsz : sizeLine = 16777216 := sizeLine_eq
      refine ⟨_, (sb_cons (s_if (w_or (y_not (y_val (z_callB call_isiD (by rfl) T.n_isinstance PyProof.Rows.boot_isinstance (sa_Name (zv 0) (sa_Name (z_bltn (v := .ty "tuple") (by rfl) T.n_tuple PyProof.Rows.boot_tuple rfl) sa_nil))))) (w_or (y_cmpR op_ltD (z_callB (call_lenK K) (by rfl) T.n_len PySem.boot_len (sa_Name (zv 0) sa_nil)) z_int (nomark _)) (w_or1 (y_not (y_val (z_callB call_isiD (by rfl) T.n_isinstance PyProof.Rows.boot_isinstance (sa_Subscript (z_ix (ix_K K) (zv 0) z_int (fun _ _ => rfl)) (sa_Name (z_bltn (v := .ty "str") (by rfl) T.n_str PyProof.Rows.boot_str rfl) sa_nil)))))))).pt (sb_one (s_ret z_bl)) sb_nil)
      (sb_cons (s_if (y_cmpR (op_eqD hu0) (z_ix (ix_K K) (zv 0) z_int (fun _ _ => rfl)) z_str (nomark _)) (sb_one (s_ret (z_and (z_cmpR (op_eqD hu0) (z_callB (call_lenK K) (by rfl) T.n_len PySem.boot_len (sa_Name (zv 0) sa_nil)) z_int (nomark _)) (z_and (z_fn F_law_tis_name (hr.mono (by omega)) (sa_Subscript (z_ix (ix_K K) (zv 0) z_int (fun _ _ => rfl)) sa_nil)) (z_one (z_fn F_law_tis_thing (hr.mono (by omega)) (sa_Subscript (z_ix (ix_K K) (zv 0) z_int (fun _ _ => rfl)) sa_nil))))))) sb_nil)
      (sb_cons (s_if (w_or (y_cmpR (op_neD hu0) (z_ix (ix_K K) (zv 0) z_int (fun _ _ => rfl)) z_str (nomark _)) (w_or (y_cmpR (op_neD hu0) (z_callB (call_lenK K) (by rfl) T.n_len PySem.boot_len (sa_Name (zv 0) sa_nil)) z_int (nomark _)) (w_or1 (y_not (y_val (z_callB call_isiD (by rfl) T.n_isinstance PyProof.Rows.boot_isinstance (sa_Subscript (z_ix (ix_K K) (zv 0) z_int (fun _ _ => rfl)) (sa_Name (z_bltn (v := .ty "tuple") (by rfl) T.n_tuple PyProof.Rows.boot_tuple rfl) sa_nil)))))))).pt (sb_one (s_ret z_bl)) sb_nil)
      (sb_cons (s_set (i := 1) sc_law_tis_thing.nd rfl (Or.inl rfl) z_str)
      (sb_cons (s_for PassesOwn.never rfl (i_K K (z_ix (ix_K K) (zv 0) z_int (fun _ _ => rfl))) (g_name (i := 2) sc_law_tis_thing.nd rfl (Or.inl rfl)) (sb_cons (s_if (w_or (y_not (y_val (z_callB call_isiD (by rfl) T.n_isinstance PyProof.Rows.boot_isinstance (sa_Name (zv 2) (sa_Name (z_bltn (v := .ty "tuple") (by rfl) T.n_tuple PyProof.Rows.boot_tuple rfl) sa_nil))))) (w_or (y_cmpR (op_neD hu0) (z_callB (call_lenK K) (by rfl) T.n_len PySem.boot_len (sa_Name (zv 2) sa_nil)) z_int (nomark _)) (w_or (y_not (y_val (z_fn F_law_tis_name (hr.mono (by omega)) (sa_Subscript (z_ix (ix_K K) (zv 2) z_int (fun _ _ => rfl)) sa_nil)))) (w_or1 (y_cmpR op_leS (z_ix (ix_K K) (zv 2) z_int (fun _ _ => rfl)) (zv 1) (nomark _)))))).pt (sb_one (s_ret z_bl)) sb_nil)
      (sb_cons (s_if (y_not (y_val (z_fn F_law_tis_thing (hr.mono (by omega)) (sa_Subscript (z_ix (ix_K K) (zv 2) z_int (fun _ _ => rfl)) sa_nil)))) (sb_one (s_ret z_bl)) sb_nil)
      (sb_one (s_set (i := 1) sc_law_tis_thing.nd rfl (Or.inl rfl) (z_ix (ix_K K) (zv 2) z_int (fun _ _ => rfl)))))))
      (sb_one (s_ret z_bl))))))), ?_⟩
      have kf : ∀ b, thD d = b → ∀ H', Same H H' → Q (.bl b) H' := fun b e H' s' => by have := k H' s'; rw [e] at this; exact this
      obtain ⟨t, ht, h1, h2⟩ := hd.ty
      refine tSeq_by (fun σ' H' => σ' = [some x, none, none] ∧ H = H' ∧ ∃ a z x1 xr d1 r, x = .ref a ∧ d = .tup (.str z :: d1 :: r) ∧ H a = some (.tup (.str z :: x1 :: xr)) ∧ DD H x1 d1 ∧ DDs H xr r) (fun nx hnx => ?_) ?_
      · refine ⟨by decide, t, ht, _, rfl, ?_⟩
        rw [h1]
        cases htup : d.isTup with
        | false => exact iteT (iteT (kf false (th_not (form_not htup)) H (Same.refl H)))
        | true =>
          refine iteF ?_
          obtain ⟨ds, rfl⟩ : ∃ ds, d = .tup ds := by cases d <;> first | exact ⟨_, rfl⟩ | cases htup
          obtain ⟨a, xs, rfl, e, hl, hds⟩ := hd.tup_elt
          refine .inl ⟨_, .inr (SqT.of e), ?_⟩
          refine ⟨_, rfl, iteB (fun c => iteT (kf false (th_not ?_) H (Same.refl H))) (fun c => ?_)⟩
          · have c' : (xs.length : Int) < 2 := by simpa using c
            match ds, hl with
            | [], _ => rfl
            | [_], _ => rename_i d9 _; cases d9 <;> rfl
            | _ :: _ :: _, h => simp at h; omega
          · have c' : ¬ (xs.length : Int) < 2 := by simpa using c
            match xs, ds, hl with
            | [], _, h => simp at c'
            | [_], _, h => simp at c'
            | x0 :: x1 :: xr, d0 :: d1 :: r, h =>
              have hd0 : DD H x0 d0 := hds 0 (by simp) (by simp)
              obtain ⟨t', ht', g1, g2⟩ := hd0.ty
              refine ⟨_, x0, .inr (SqT.of e), atI_zero _ _, by decide, t', ht', _, rfl, ?_⟩
              rw [g2]
              cases hs : d0.isStr with
              | false =>
                refine iteT (kf false (th_not ?_) H (Same.refl H))
                cases d0 with
                | str _ => cases hs
                | tup _ => rfl
                | oth => rfl
              | true =>
                refine iteF ?_
                obtain ⟨z, rfl⟩ : ∃ z, d0 = .str z := by cases d0 <;> first | exact ⟨_, rfl⟩ | cases hs
                cases hd0
                refine hnx _ _ ⟨rfl, rfl, a, z, x1, xr, d1, r, rfl, rfl, e, hds 1 (by simp) (by simp), by simpa using h, fun i a b => ?_⟩
                exact hds (i + 2) (by simpa using a) (by simpa using b)
      rintro σ' _ ⟨rfl, rfl, a, z, x1, xr, d1, r, rfl, rfl, e, hd1, hdr⟩
      have hlr := hdr.1
      refine tSeq_by (fun σ' H' => σ' = [some (.ref a), none, none] ∧ H = H' ∧ z ≠ "pick") (fun nx hnx => ?_) ?_
      · refine ⟨_, .str z, .inr (SqT.of e), atI_zero _ _, rfl, _, rfl, iteB (fun c => ?_) (fun c => hnx _ _ ⟨rfl, rfl, fun z' => ?_⟩)⟩
        rotate_left
        · rw [z'] at c; exact absurd c (by decide +kernel)
        rw [Bool.false_xor, decV_str] at c
        obtain rfl : z = "pick" := eq_of_beq c
        refine .inl ⟨_, .inr (SqT.of e), rfl, _, rfl, iteB (fun c3 => ?_) (fun c3 => ?_)⟩
        · rw [Bool.false_xor, decV_int] at c3
          have l2 : xr.length = 1 := by have := of_decide_eq_true c3; simp at this; omega
          match xr, r, l2, hdr with
          | [x2], [d2], _, hdr =>
            have hd2 : DD H x2 d2 := hdr.2 0 (by simp) (by simp)
            refine ⟨_, x1, .inr (SqT.of e), rfl, x1, d1, rfl, hd1, fun H1 s1 => ⟨_, rfl, iteB (fun c4 => ?_) (fun c4 => ?_)⟩⟩
            · refine ⟨_, x2, .inr (SqT.of (s1 _ _ e)), rfl, x2, d2, rfl, hd2.same s1, ?_, fun H2 s2 => kf _ ?_ H2 (s1.trans s2)⟩
              · simp only [Dt.dep, deps] at hn; omega
              · rw [th_pick, c4]; rfl
            · refine kf _ ?_ H1 s1
              rw [th_pick, c4]; rfl
          | [_], [], _, hdr => exact absurd hdr.1 (by simp)
          | [_], _ :: _ :: _, _, hdr => exact absurd hdr.1 (by simp)
        · rw [Bool.false_xor, decV_int] at c3
          have l2 : xr.length ≠ 1 := by have := of_decide_eq_false c3; simp at this; omega
          refine kf false (th_not ?_) H (Same.refl H)
          match r, hlr with
          | [], _ => cases d1 <;> rfl
          | [_], h => exact absurd h l2
          | _ :: _ :: _, _ => cases d1 <;> rfl
      rintro σ' _ ⟨rfl, rfl, hzp⟩
      have fnot : z ≠ "box" ∨ r ≠ [] ∨ d1.isTup = false → formD (.tup (.str z :: d1 :: r)) = false := by
        intro h
        match d1, r with
        | d1, [] =>
          show (z == "box" && _) = false
          rcases h with h | h | h
          · rw [show (z == "box") = false from by simpa using h]; rfl
          · exact absurd rfl h
          · cases d1 with
            | tup _ => cases h
            | str _ => simp
            | oth => simp
        | d1, [d2] =>
          have : formD (.tup [.str z, d1, d2]) = (z == "pick" && nameD d1) := by cases d1 <;> rfl
          rw [this, show (z == "pick") = false from by simpa using hzp]; rfl
        | d1, _ :: _ :: _ => cases d1 <;> rfl
      refine tSeq_by (fun σ' H' => σ' = [some (.ref a), none, none] ∧ H = H' ∧ z = "box" ∧ xr = [] ∧ r = [] ∧ ∃ c2 ps, x1 = .ref c2 ∧ d1 = .tup ps) (fun nx hnx => ?_) ?_
      · refine ⟨_, .str z, .inr (SqT.of e), atI_zero _ _, rfl, _, rfl, iteB (fun c => iteT (kf false (th_not (fnot (.inl ?_))) H (Same.refl H))) (fun c => ?_)⟩
        · rw [Bool.true_xor, decV_str] at c; simpa using c
        rw [Bool.true_xor, decV_str] at c
        obtain rfl : z = "box" := by simpa using c
        refine .inl ⟨_, .inr (SqT.of e), rfl, _, rfl, iteB (fun c3 => iteT (kf false (th_not (fnot (.inr (.inl ?_)))) H (Same.refl H))) (fun c3 => ?_)⟩
        · rw [Bool.true_xor, decV_int] at c3
          have c3' : ¬ ((xr.length : Int) + 1 + 1 = 2) := by simpa using c3
          intro h; subst h
          have : xr.length = 0 := by simpa using hlr
          omega
        · rw [Bool.true_xor, decV_int] at c3
          have c3' : (xr.length : Int) + 1 + 1 = 2 := by simpa using c3
          have hx0 : xr = [] := List.length_eq_zero_iff.mp (by omega)
          have hr0 : r = [] := List.length_eq_zero_iff.mp (by omega)
          obtain ⟨t', ht', g1, g2⟩ := hd1.ty
          refine ⟨_, x1, .inr (SqT.of e), atI_nat (j := 1) rfl, by decide, t', ht', _, rfl, ?_⟩
          rw [g1]
          cases hd1t : d1.isTup with
          | false => exact iteT (kf false (th_not (fnot (.inr (.inr hd1t)))) H (Same.refl H))
          | true =>
            refine iteF ?_
            obtain ⟨ps, rfl⟩ : ∃ ps, d1 = .tup ps := by cases d1 <;> first | exact ⟨_, rfl⟩ | cases hd1t
            obtain ⟨c2, ys, rfl, _, _, _⟩ := hd1.tup_elt
            exact hnx _ _ ⟨rfl, rfl, rfl, hx0, hr0, c2, ps, rfl, rfl⟩
      rintro σ' _ ⟨rfl, rfl, rfl, rfl, rfl, c2, ps, rfl, rfl⟩
      obtain ⟨c2', ys, ec2, e2, hl2, hds2⟩ := hd1.tup_elt
      cases ec2
      rw [← scan_th] at kf
      refine tSeq_setC ?_
      refine tSeq_by (fun σ' H' => Same H H' ∧ scanD "" ps = true) ?_ (by rintro σ' H' ⟨s, e⟩; exact kf true e H' s)
      intro nx hnx
      refine ⟨_, .ref c2, .inr (SqT.of e), rfl, Or.inr ⟨⟨ys, SqT.of e2⟩, ?_⟩⟩
      refine for_by (itn_tup ys) (fun i σ' H' => ∃ (last : Str) (v2 : Option V), σ' = [some (.ref a), some (.str last), v2] ∧ scanD "" ps = scanD last (ps.drop i) ∧ Same H H') ⟨"", none, rfl, rfl, Same.refl H⟩ (by rintro i τ H' _ ⟨_, _, _, _, s⟩; exact SqT.of (s _ _ e2)) ?_ ?_
      · rintro i σ' H1 hi ⟨last, v2, rfl, hsc, s1⟩
        have hip : i < ps.length := by omega
        have eg : ys.getD i .non = ys[i] := by simp [List.getD_eq_getElem?_getD, hi]
        rw [eg]
        have hp := hds2 i hi hip
        rw [List.drop_eq_getElem_cons hip] at hsc
        have hpd : ps[i].dep ≤ deps ps := deps_mem (List.getElem_mem hip)
        generalize ys[i] = y at hp
        generalize ps[i] = dp at hp hsc hpd
        obtain ⟨t', ht', g1, g2⟩ := (hp.same s1).ty
        refine tSeq_by (fun σ' H' => ∃ (b : Addr) (z : Str) (x : V) (dx : Dt), σ' = [some (.ref a), some (.str last), some y] ∧ y = .ref b ∧ dp = .tup [.str z, dx] ∧ H b = some (.tup [.str z, x]) ∧ DD H x dx ∧ isName z = true ∧ strLt last z = true ∧ Same H H') (fun nx2 hnx2 => ?_) ?_
        · refine ⟨by decide, t', ht', _, rfl, ?_⟩
          rw [g1]
          cases hdt : dp.isTup with
          | false =>
            refine iteT (iteT (kf false ?_ H1 s1))
            rw [hsc]
            have : pr2 dp = false := by cases dp <;> first | rfl | cases hdt
            unfold scanD; rw [this]; rfl
          | true =>
            refine iteF ?_
            obtain ⟨qs, rfl⟩ : ∃ qs, dp = .tup qs := by cases dp <;> first | exact ⟨_, rfl⟩ | cases hdt
            obtain ⟨b, zs, rfl, e4, hl4, hd4⟩ := hp.tup_elt
            refine .inl ⟨_, .inr (SqT.of (s1 _ _ e4)), rfl, _, rfl, iteB (fun c => iteT (kf false ?_ H1 s1)) (fun c => ?_)⟩
            · rw [Bool.true_xor, decV_int] at c
              have c' : ¬ ((zs.length : Int) = 2) := by simpa using c
              rw [hsc]
              have : pr2 (.tup qs) = false := by
                match qs, hl4 with
                | [], _ => rfl
                | [_], _ => rfl
                | [_, _], h => exact absurd (show (zs.length : Int) = 2 by rw [h]; rfl) c'
                | _ :: _ :: _ :: _, _ => rfl
              unfold scanD; rw [this]; rfl
            · rw [Bool.true_xor, decV_int] at c
              have c' : (zs.length : Int) = 2 := by simpa using c
              match zs, qs, hl4, c' with
              | [w1, w2], [dw, dx], _, _ =>
                have hw1 : DD H w1 dw := hd4 0 (by simp) (by simp)
                have hw2 : DD H w2 dx := hd4 1 (by simp) (by simp)
                refine ⟨_, w1, .inr (SqT.of (s1 _ _ e4)), atI_zero _ _, w1, dw, rfl, hw1.same s1, fun H2 s2 => ⟨_, rfl, ?_⟩⟩
                cases hnm : nameD dw with
                | false =>
                  refine iteT (kf false ?_ H2 (s1.trans s2))
                  rw [hsc]
                  unfold scanD
                  show (true && (nameD dw && _)) = false
                  rw [hnm]; rfl
                | true =>
                  refine iteF ?_
                  obtain ⟨z, rfl⟩ : ∃ z, dw = .str z := by cases dw <;> first | exact ⟨_, rfl⟩ | cases hnm
                  cases hw1
                  refine ⟨_, .str z, .inr (SqT.of ((s1.trans s2) _ _ e4)), atI_zero _ _, z, last, rfl, rfl, _, rfl, iteB (fun c5 => kf false ?_ H2 (s1.trans s2)) (fun c5 => hnx2 _ _ ⟨b, z, w2, dx, rfl, rfl, rfl, e4, hw2, hnm, by simpa using c5, s1.trans s2⟩)⟩
                  have c6 : strLt last z = false := by simpa using c5
                  rw [hsc]
                  unfold scanD
                  show (true && (nameD (.str z) && (strLt last z && _))) = false
                  rw [c6, hnm]; rfl
        rintro σ' H2 ⟨b, z, w2, dx, rfl, rfl, rfl, e4, hw2, hnm, hlt, s2⟩
        have esc : scanD "" ps = (thD dx && scanD z (ps.drop (i + 1))) := by
          rw [hsc]
          show (true && (isName z && (strLt last z && _))) = _
          rw [hnm, hlt]; rfl
        refine tSeq_by (fun σ' H' => σ' = [some (.ref a), some (.str last), some (.ref b)] ∧ Same H H' ∧ thD dx = true) (fun nx2 hnx2 => ?_) ?_
        · refine ⟨_, w2, .inr (SqT.of (s2 _ _ e4)), rfl, w2, dx, rfl, hw2.same s2, ?_, fun H3 s3 => ⟨_, rfl, ?_⟩⟩
          · simp only [Dt.dep, deps] at hn hpd; omega
          cases hdx : thD dx with
          | false =>
            refine iteT (kf false ?_ H3 (s2.trans s3))
            rw [esc, hdx]; rfl
          | true => exact iteF (hnx2 _ _ ⟨rfl, s2.trans s3, hdx⟩)
        rintro σ' H3 ⟨rfl, s3, hdx⟩
        refine ⟨_, .str z, .inr (SqT.of (s3 _ _ e4)), atI_zero _ _, z, _, rfl, ?_, s3⟩
        rw [esc, hdx]; rfl
      · rintro σ' H1 ⟨last, v2, rfl, hsc, s1⟩
        rw [hl2, List.drop_length] at hsc
        exact hnx _ _ ⟨s1, hsc⟩
def spTpc (n : Nat) : Sp := fun vs H Q _ => ∃ (x : V) (d : Dt), vs = [x] ∧ DD H x d ∧ d.dep < n ∧ thD d = true ∧ ∀ H', Same H H' → Q (.int (wD d : Int)) H'
theorem th_box {ps : List Dt} (h : thD (.tup [.str "box", .tup ps]) = true) : ps.all pr2 = true ∧ (ps.map fst2).all nameD = true ∧ rising ((ps.map fst2).map strD) = true ∧ (ps.map snd2).all thD = true := by
  rw [thD_eq, Bool.and_eq_true_iff] at h
  have hf := h.1
  have ef : formD (.tup [.str "box", .tup ps]) = (ps.all pr2 && ((ps.map fst2).all nameD && rising ((ps.map fst2).map strD))) := by
    show (("box" : Str) == "box" && _) = _
    simp
  rw [kids_form hf, parts_box] at h
  rw [ef] at hf
  simp only [Bool.and_eq_true_iff] at hf
  exact ⟨hf.1, hf.2.1, hf.2.2, h.2⟩
theorem w_box {ps : List Dt} (h : thD (.tup [.str "box", .tup ps]) = true) : wD (.tup [.str "box", .tup ps]) = 1 + ((ps.map snd2).map wD).sum := by
  rw [thD_eq, Bool.and_eq_true_iff] at h
  rw [wD_eq, kids_form h.1, parts_box]
theorem w_pick {w x : Dt} (h : thD (.tup [.str "pick", w, x]) = true) : wD (.tup [.str "pick", w, x]) = 1 + wD x := by
  rw [thD_eq, Bool.and_eq_true_iff] at h
  rw [wD_eq, kids_form h.1, parts_pick]
  simp
theorem ok_law_tpieces (T : Txt K mg) : ∀ n : Nat, FnK P w K mg base (1 + n) "_law_tpieces" ["thing"] (spTpc n) := by
  intro n
  induction n with
  | zero =>
    refine T.t_law_tpieces.okS (k := 0) sc_law_tpieces (fun vs H Q E h => ?_) (fun f cdv A outer s H vs Q E hr h => ?_)
    · obtain ⟨x, d, rfl, _⟩ := h
      rfl
    · obtain ⟨x, d, rfl, _, hn, _⟩ := h
      exact absurd hn (Nat.not_lt_zero _)
  | succ n ih =>
    have F_law_tpieces : FnK P w K mg base (1 + n) "_law_tpieces" ["thing"] (spTpc n) := ih
    refine T.t_law_tpieces.okS (k := 1 + n) sc_law_tpieces (fun vs H Q E h => ?_) (fun f cdv A outer s H vs Q E hr h => ?_)
    · obtain ⟨x, d, rfl, _⟩ := h
      rfl
    · obtain ⟨x, d, rfl, hd, hn, hth, k⟩ := h
      have hu0 := Nat.lt_of_succ_lt (hu_of hr)
      have hsz : sizeLine = 16777216 := sizeLine_eq
      refine ⟨_, (sb_cons (s_if (y_cmpR (op_eqD hu0) (z_ix (ix_K K) (zv 0) z_int (fun _ _ => rfl)) z_str (nomark _)) (sb_one (s_ret (z_op op_addD z_int (z_fn F_law_tpieces (hr.mono (by omega)) (sa_Subscript (z_ix (ix_K K) (zv 0) z_int (fun _ _ => rfl)) sa_nil))))) sb_nil)
      (sb_cons (s_set (i := 1) sc_law_tpieces.nd rfl (Or.inl rfl) z_int)
      (sb_cons (s_for PassesOwn.never rfl (i_K K (z_ix (ix_K K) (zv 0) z_int (fun _ _ => rfl))) (g_tup K (n := 2) rfl (gs_cons (g_name (i := 2) sc_law_tpieces.nd rfl (Or.inl rfl)) (gs_cons (g_name (i := 3) sc_law_tpieces.nd rfl (Or.inl rfl)) gs_nil))) (sb_one (s_set (i := 1) sc_law_tpieces.nd rfl (Or.inl rfl) (z_op op_addD (zv 1) (z_fn F_law_tpieces (hr.mono (by omega)) (sa_Name (zv 3) sa_nil))))))
      (sb_one (s_ret (zv 1)))))), ?_⟩
      have hf : formD d = true := by rw [thD_eq, Bool.and_eq_true_iff] at hth; exact hth.1
      rcases form_box hf with ⟨ps, rfl, hall⟩ | ⟨dw, x2, rfl⟩
      · obtain ⟨a, xs, rfl, e, hl, hds⟩ := hd.tup_elt
        obtain ⟨_, _, _, hk⟩ := th_box hth
        rw [w_box hth] at k
        match xs, hl with
        | [x0, x1], _ =>
          have h0 : DD H x0 (.str "box") := hds 0 (by simp) (by simp)
          have h1 : DD H x1 (.tup ps) := hds 1 (by simp) (by simp)
          cases h0
          obtain ⟨c2, ys, rfl, e2, hl2, hds2⟩ := h1.tup_elt
          refine tSeq_by (fun σ' H' => σ' = [some (.ref a), none, none, none] ∧ H = H') (fun nx hnx => ?_) ?_
          · exact ⟨_, .str "box", .inr (SqT.of e), atI_zero _ _, rfl, _, rfl, iteB (fun c => absurd c (by decide +kernel)) (fun _ => hnx _ _ ⟨rfl, rfl⟩)⟩
          rintro σ' _ ⟨rfl, rfl⟩
          refine tSeq_setC ?_
          refine tSeq_by (fun σ' H' => ∃ v2 v3, σ' = [some (.ref a), some (.int ((1 + ((ps.map snd2).map wD).sum : Nat) : Int)), v2, v3] ∧ Same H H') ?_ (by rintro σ' H' ⟨v2, v3, e, s⟩; (subst e; exact k H' s))
          intro nx hnx
          refine ⟨_, .ref c2, .inr (SqT.of e), rfl, Or.inr ⟨⟨ys, SqT.of e2⟩, ?_⟩⟩
          refine for_by (itn_tup ys) (fun i σ' H' => ∃ (v2 v3 : Option V), σ' = [some (.ref a), some (.int ((1 + (((ps.take i).map snd2).map wD).sum : Nat) : Int)), v2, v3] ∧ Same H H') ⟨none, none, rfl, Same.refl H⟩ (by rintro i τ H' _ ⟨_, _, _, s⟩; exact SqT.of (s _ _ e2)) ?_ ?_
          · rintro i σ' H1 hi ⟨v2, v3, rfl, s1⟩
            have hip : i < ps.length := by omega
            have h4 := List.all_eq_true.mp hall _ (List.getElem_mem hip)
            obtain ⟨b, x, y, dx, dy, w1, w2, w3, w4, w5⟩ := (hds2 i hi hip).two h4
            have e1 : ys.getD i .non = .ref b := by rw [List.getD_eq_getElem?_getD, List.getElem?_eq_getElem hi, w1]; rfl
            rw [e1]
            refine g2_at (s1 _ _ w3) ?_
            have hy : thD dy = true := by
              refine List.all_eq_true.mp hk dy (List.mem_map.mpr ⟨ps[i], List.getElem_mem hip, ?_⟩)
              rw [w2]; rfl
            refine ⟨y, dy, rfl, w5.same s1, ?_, hy, fun H2 s2 => ⟨some x, some y, ?_, s1.trans s2⟩⟩
            · have := deps_mem (List.getElem_mem hip)
              rw [w2] at this
              simp only [Dt.dep, deps] at this hn; omega
            · have et : (ps.take (i + 1)) = ps.take i ++ [.tup [dx, dy]] := by
                rw [List.take_add_one, List.getElem?_eq_getElem hip, w2]; rfl
              rw [et]
              simp only [List.map_append, List.sum_append, List.map_cons, List.map_nil, List.sum_cons, List.sum_nil, snd2]
              have : ((1 + (((ps.take i).map snd2).map wD).sum : Nat) : Int) + ((wD dy : Nat) : Int) = ((1 + ((((ps.take i).map snd2).map wD).sum + (wD dy + 0)) : Nat) : Int) := by push_cast; omega
              rw [← this]; rfl
          · rintro σ' H1 ⟨v2, v3, rfl, s1⟩
            rw [List.take_of_length_le (by omega)]
            exact hnx _ _ ⟨v2, v3, rfl, s1⟩
      · obtain ⟨a, xs, rfl, e, hl, hds⟩ := hd.tup_elt
        rw [w_pick hth] at k
        rw [th_pick, Bool.and_eq_true_iff] at hth
        match xs, hl with
        | [x0, x1, x2'], _ =>
          have h0 : DD H x0 (.str "pick") := hds 0 (by simp) (by simp)
          have h2 : DD H x2' x2 := hds 2 (by simp) (by simp)
          cases h0
          refine tSeq_by (fun _ _ => False) (fun nx hnx => ?_) (fun _ _ h => h.elim)
          refine ⟨_, .str "pick", .inr (SqT.of e), atI_zero _ _, rfl, _, rfl, iteB (fun _ => ?_) (fun c => absurd c (by decide +kernel))⟩
          refine ⟨_, x2', .inr (SqT.of e), rfl, x2', x2, rfl, h2, ?_, hth.2, fun H1 s1 => ?_⟩
          · simp only [Dt.dep, deps] at hn; omega
          · have := k H1 s1
            push_cast at this
            exact this
structure TxtsAt (H : Hp) (l : Addr) (ss : List Str) : Prop where
  e : H l = some (.lst (ss.map V.str))
  ne : ss ≠ []
  few : ss.length ≤ 60
  wd : ∀ z ∈ ss, Wd z
theorem TxtsAt.sm {H H' : Hp} {p w l : Addr} {t : Nat} {ss : List Str} (h : TxtsAt H l ss) (hp : PenAt H p w t) (s : Sm p w H H') : TxtsAt H' l ss := ⟨s _ _ h.e (hp.neL h.e h.ne).1 (hp.neL h.e h.ne).2, h.ne, h.few, h.wd⟩
theorem TxtsAt.same {H H' : Hp} {l : Addr} {ss : List Str} (h : TxtsAt H l ss) (s : Same H H') : TxtsAt H' l ss := ⟨s _ _ h.e, h.ne, h.few, h.wd⟩
theorem TxtsAt.at {H : Hp} {l : Addr} {ss : List Str} (h : TxtsAt H l ss) (r : Int) (h0 : 0 ≤ r) (h1 : r < ss.length) : ∃ z, atI (ss.map V.str) r = some (.str z) ∧ ss[r.toNat]? = some z ∧ Wd z := by
  obtain ⟨c, hc1, hc2⟩ := atI_some (ss.map V.str) r h0 (by rw [List.length_map]; exact h1)
  rw [List.getElem?_map] at hc1
  cases e : ss[r.toNat]? with
  | none => rw [e] at hc1; cases hc1
  | some z =>
    rw [e] at hc1
    cases hc1
    exact ⟨z, hc2, rfl, h.wd z (List.mem_of_getElem? e)⟩
theorem TxtsAt.pos {H : Hp} {l : Addr} {ss : List Str} (h : TxtsAt H l ss) : 0 < ss.length := List.length_pos_iff.mpr h.ne
def CC : Nat → Nat
  | 0 => 3
  | l + 1 => 4 * CC l + 11
theorem CC_pos : ∀ l, 3 ≤ CC l
  | 0 => Nat.le_refl _
  | l + 1 => by simp only [CC]; omega
theorem thing_bare {H : Hp} {a c : Addr} {l : Nat} (h1 : H a = some (.tup [.str "box", .ref c])) (h2 : H c = some (.tup [])) : PX H (.ref a) (.tup [.str "box", .tup []]) (3 * l + 3) (CC l) := by
  have q : PX H (.ref c) (.tup []) 1 1 := PX.tup (k := 0) h2 (by simp) .nil
  have := PX.tup (k := 3 * l + 2) h1 (by simp) (.cons (PX.str (wd_ascii (by decide) (by decide))) (.cons (q.mono (by omega) (Nat.le_refl _)) .nil))
  exact this.mono (by omega) (by have := CC_pos l; omega)
theorem th_empty : thD (.tup [.str "box", .tup []]) = true := by rw [← scan_th]; rfl
def PTR (R : V → Dt → Prop) (H : Hp) (xs : List V) (qs : List Dt) : Prop := xs.length = qs.length ∧ ∀ i (h : i < xs.length) (h' : i < qs.length), ∃ (b : Addr) (z : Str) (u : V) (du : Dt), xs[i] = .ref b ∧ H b = some (.tup [.str z, u]) ∧ qs[i] = .tup [.str z, du] ∧ Wd z ∧ isName z = true ∧ R u du
def BareV (H : Hp) (v : V) (d : Dt) : Prop := ∃ a c : Addr, v = .ref a ∧ H a = some (.tup [.str "box", .ref c]) ∧ H c = some (.tup []) ∧ d = .tup [.str "box", .tup []]
def PT (H : Hp) : Nat → V → Dt → Prop
  | 0, v, d => BareV H v d
  | l + 1, v, d => BareV H v d ∨ (∃ (a : Addr) (z : Str) (u : V) (du : Dt), v = .ref a ∧ H a = some (.tup [.str "pick", .str z, u]) ∧ d = .tup [.str "pick", .str z, du] ∧ Wd z ∧ isName z = true ∧ PT H l u du) ∨
      ∃ (a c : Addr) (xs : List V) (qs : List Dt), v = .ref a ∧ H a = some (.tup [.str "box", .ref c]) ∧ H c = some (.tup xs) ∧ d = .tup [.str "box", .tup qs] ∧ xs.length ≤ 4 ∧ rising ((qs.map fst2).map strD) = true ∧ PTR (PT H l) H xs qs
theorem BareV.tk {H H' : Hp} (s : Tk H H') {v : V} {d : Dt} (h : BareV H v d) : BareV H' v d := let ⟨a, c, h1, h2, h3, h4⟩ := h; ⟨a, c, h1, s _ _ h2, s _ _ h3, h4⟩
theorem PTR.tk {R R' : V → Dt → Prop} {H H' : Hp} (s : Tk H H') (f : ∀ v d, R v d → R' v d) {xs : List V} {qs : List Dt} (h : PTR R H xs qs) : PTR R' H' xs qs := ⟨h.1, fun i a b => let ⟨c, z, u, du, h1, h2, h3, h4, h5, h6⟩ := h.2 i a b; ⟨c, z, u, du, h1, s _ _ h2, h3, h4, h5, f _ _ h6⟩⟩
theorem PT.tk {H H' : Hp} (s : Tk H H') : ∀ {l : Nat} {v : V} {d : Dt}, PT H l v d → PT H' l v d
  | 0, _, _, h => BareV.tk s h
  | l + 1, _, _, h => by
    rcases h with h | ⟨a, z, u, du, h1, h2, h3, h4, h5, h6⟩ | ⟨a, c, xs, qs, h1, h2, h3, h4, h5, h6, h7⟩
    · exact .inl (h.tk s)
    · exact .inr (.inl ⟨a, z, u, du, h1, s _ _ h2, h3, h4, h5, PT.tk s h6⟩)
    · exact .inr (.inr ⟨a, c, xs, qs, h1, s _ _ h2, s _ _ h3, h4, h5, h6, h7.tk s fun _ _ h => PT.tk s h⟩)
theorem PTR.nil {R : V → Dt → Prop} {H : Hp} : PTR R H [] [] := ⟨rfl, fun i h => absurd h (by simp)⟩
theorem PTR.snoc {R : V → Dt → Prop} {H : Hp} {xs : List V} {qs : List Dt} (h : PTR R H xs qs) {b : Addr} {z : Str} {u : V} {du : Dt} (e : H b = some (.tup [.str z, u])) (hz : Wd z) (hn : isName z = true) (r : R u du) : PTR R H (xs ++ [.ref b]) (qs ++ [.tup [.str z, du]]) := by
  obtain ⟨hl, hh⟩ := h
  refine ⟨by simp [hl], fun i g1 g2 => ?_⟩
  by_cases hi : i < xs.length
  · rw [List.getElem_append_left hi, List.getElem_append_left (by omega)]; exact hh i hi (by omega)
  · obtain rfl : i = xs.length := by simp at g1; omega
    refine ⟨b, z, u, du, by simp, e, ?_, hz, hn, r⟩
    rw [List.getElem_append_right (by omega)]; simp [hl]
theorem PTR.facts {R : V → Dt → Prop} {H : Hp} {k c : Nat} (f : ∀ v d, R v d → PX H v d k c ∧ thD d = true) : ∀ {xs : List V} {qs : List Dt}, PTR R H xs qs → (∃ cs, PXs H (k + 1) xs qs cs ∧ cs ≤ xs.length * (c + 2)) ∧ qs.all pr2 = true ∧ (qs.map fst2).all nameD = true ∧ (qs.map snd2).all thD = true
  | [], [], _ => ⟨⟨0, .nil, by simp⟩, rfl, rfl, rfl⟩
  | [], _ :: _, h => by have := h.1; simp at this
  | _ :: _, [], h => by have := h.1; simp at this
  | x :: xs, q :: qs, h => by
    obtain ⟨b, z, u, du, h1, h2, h3, h4, h5, h6⟩ := h.2 0 (by simp) (by simp)
    have ht : PTR R H xs qs := ⟨by have := h.1; simpa using this, fun i a b => by
      have := h.2 (i + 1) (by simpa using a) (by simpa using b)
      simpa using this⟩
    obtain ⟨⟨cs, g1, g2⟩, g3, g4, g5⟩ := PTR.facts f ht
    simp only [List.getElem_cons_zero] at h1 h3
    subst h1 h3
    obtain ⟨p1, p2⟩ := f u du h6
    have := PX.tup (k := k) h2 (by simp) (.cons (PX.str h4) (.cons p1 .nil))
    refine ⟨⟨_, .cons this g1, by simp only [List.length_cons]; rw [Nat.succ_mul]; omega⟩, by rw [List.all_cons, g3]; rfl, by rw [List.map_cons, List.all_cons, g4]; simp [fst2, nameD, h5], by rw [List.map_cons, List.all_cons, g5]; simp [snd2, p2]⟩
theorem BareV.px {H : Hp} {v : V} {d : Dt} (h : BareV H v d) (l : Nat) : PX H v d (3 * l + 3) (CC l) ∧ thD d = true := by
  obtain ⟨a, c, rfl, h1, h2, rfl⟩ := h
  exact ⟨thing_bare h1 h2, th_empty⟩
theorem PT.px {H : Hp} : ∀ {l : Nat} {v : V} {d : Dt}, PT H l v d → PX H v d (3 * l + 3) (CC l) ∧ thD d = true
  | 0, _, _, h => BareV.px h 0
  | l + 1, _, _, h => by
    rcases h with h | ⟨a, z, u, du, rfl, h2, rfl, h4, h5, h6⟩ | ⟨a, c, xs, qs, rfl, h2, h3, rfl, h5, h6, h7⟩
    · exact h.px (l + 1)
    · obtain ⟨p1, p2⟩ := PT.px h6
      have := PX.tup (k := 3 * l + 3) h2 (by simp) (.cons (PX.str (wd_ascii (by decide) (by decide))) (.cons (PX.str h4) (.cons p1 .nil)))
      exact ⟨this.mono (by omega) (by simp only [CC]; omega), by rw [th_pick, p2, show nameD (.str z) = true from h5]; rfl⟩
    · obtain ⟨⟨cs, g1, g2⟩, g3, g4, g5⟩ := PTR.facts (fun v d h => PT.px h) h7
      have p1 := PX.tup h3 (by omega) g1
      have p2 := PX.tup (k := 3 * l + 5) h2 (by simp) (.cons (PX.str (wd_ascii (by decide) (by decide))) (.cons p1 .nil))
      have hc : xs.length * (CC l + 2) ≤ 4 * (CC l + 2) := Nat.mul_le_mul_right _ h5
      refine ⟨p2.mono (by omega) (by simp only [CC]; omega), ?_⟩
      rw [thD_eq]
      have ef : formD (.tup [.str "box", .tup qs]) = true := by
        show (("box" : Str) == "box" && (qs.all pr2 && ((qs.map fst2).all nameD && rising ((qs.map fst2).map strD)))) = true
        rw [g3, g4, h6]; simp
      rw [ef, kids_form ef, parts_box, g5]; rfl
theorem bareT {H : Hp} {l : Nat} {v : V} {d : Dt} (h : BareV H v d) : PT H l v d := by
  cases l with
  | zero => exact h
  | succ l => exact .inl h
def spThing (d : Nat) : Sp := fun vs H Q _ => ∃ (p w wd : Addr) (l t : Nat) (ws : List Str), vs = [.ref p, .ref wd, .int (l : Int)] ∧ l < d ∧ PenAt H p w t ∧ t + 6 ^ (l + 2) < TMAX ∧ TxtsAt H wd ws ∧ ws.length ≤ 4 ∧ ws.Nodup ∧ (∀ z ∈ ws, isName z = true) ∧
  ∀ (v : V) (dt : Dt) (H' : Hp), PT H' l v dt → PenAt H' p w (t + 6 ^ (l + 2)) → Sm p w H H' → Q v H'
set_option maxHeartbeats 2000000 in
theorem ok_law_tthing (T : Txt K mg) : ∀ d : Nat, FnK P w K mg base (2 + d) "_law_tthing" ["pen", "words", "left"] (spThing d) := by
  intro d
  induction d with
  | zero =>
    refine T.t_law_tthing.okS (k := 1) sc_law_tthing (fun vs H Q E h => ?_) (fun f cdv A outer s H vs Q E hr h => ?_)
    · obtain ⟨p, w', wd, l, t, ws, rfl, _⟩ := h
      rfl
    · obtain ⟨p, w', wd, l, t, ws, rfl, hl, _⟩ := h
      omega
  | succ d ih =>
    have F_law_tthing : FnK P w K mg base (2 + d) "_law_tthing" ["pen", "words", "left"] (spThing d) := ih
    have F_law_tdraw : FnK P w K mg base 1 "_law_tdraw" ["pen", "many"] spDraw := ok_law_tdraw T
    refine T.t_law_tthing.okS (k := 2 + d) sc_law_tthing (fun vs H Q E h => ?_) (fun f cdv A outer s H vs Q E hr h => ?_)
    · obtain ⟨p, w', wd, l, t, ws, rfl, _⟩ := h
      rfl
    · obtain ⟨p, w', wd, l, t, ws, rfl, hl, hp, ht, hw, h3, hnd, hnm, k⟩ := h
      have hu0 := Nat.lt_of_succ_lt (hu_of hr)
      have hsz : sizeLine = 16777216 := sizeLine_eq
      have ht' : t + 6 ^ (l + 2) < 1000000000000 := ht
      have hpow : 6 ^ (l + 2) = 6 * 6 ^ (l + 1) := by rw [show l + 2 = (l + 1) + 1 by omega, Nat.pow_succ]; omega
      have hpos : 6 ≤ 6 ^ (l + 1) := by rw [Nat.pow_succ]; have : 0 < 6 ^ l := Nat.pow_pos (by decide); omega
      refine ⟨_, (sb_cons (s_if (w_or (y_cmpR (op_eqD hu0) (zv 2) z_int (nomark _)) (w_or1 (y_cmpR (op_eqD hu0) (z_fn F_law_tdraw (hr.mono (by omega)) (sa_Name (zv 0) (sa_Constant z_int sa_nil))) z_int (nomark _)))).pt (sb_one (s_ret (z_tup (sa_Constant z_str (sa_Tuple (z_tup sa_nil) sa_nil))))) sb_nil)
      (sb_cons (s_if (y_cmpR (op_eqD hu0) (z_fn F_law_tdraw (hr.mono (by omega)) (sa_Name (zv 0) (sa_Constant z_int sa_nil))) z_int (nomark _)) (sb_one (s_ret (z_tup (sa_Constant z_str (sa_Subscript (z_ix (ix_K K) (zv 1) (z_fn F_law_tdraw (hr.mono (by omega)) (sa_Name (zv 0) (sa_Call (z_callB (call_lenK K) (by rfl) T.n_len PySem.boot_len (sa_Name (zv 1) sa_nil)) sa_nil))) (fun _ _ => rfl)) (sa_Call (z_fn F_law_tthing (hr.mono (by omega)) (sa_Name (zv 0) (sa_Name (zv 1) (sa_BinOp (z_op op_subD (zv 2) z_int) sa_nil)))) sa_nil)))))) sb_nil)
      (sb_cons (s_lc (i := 3) (own := ["word"]) (idx := [0]) (N' := ["word", "pen"]) (⟨rfl, by decide +kernel, by decide +kernel, (show ∀ y ∈ Scope.names _, y.2 = NameKind.free → ((defScope s_law_tthing).names.lookup y.1 = some NameKind.cell ∨ (defScope s_law_tthing).names.lookup y.1 = some NameKind.free) by decide +kernel), (show ∀ j ∈ ([0] : List Nat), (Scope.names _).lookup ((["pen", "words", "left", "some"] : List Str).getD j "") = some NameKind.free ∧ j < (["pen", "words", "left", "some"] : List Str).length by decide +kernel), rfl⟩) rfl (i_K K (z_callB (call_sortedK K) (by rfl) T.n_sorted PyProof.Rows.boot_sorted (sa_Name (zv 1) sa_nil))) (fun _ _ _ _ _ _ => (g_name (i := 0) (show List.Nodup (["word", "pen"] : List Str) by decide +kernel) rfl (Or.inl rfl))) (fun _ _ _ _ _ _ => (c_one (y_cmpR (op_eqD hu0) (z_fn F_law_tdraw (hr.mono (by omega)) (sa_Name (zv 1) (sa_Constant z_int sa_nil))) z_int (nomark _)))) (fun _ _ _ _ _ _ => (zv 0)) sc_law_tthing.nd rfl rfl)
      (sb_one (s_ret (z_tup (sa_Constant z_str (sa_Call (z_callTy (call_tupK K) (by rfl) T.n_tuple PyProof.Rows.boot_tuple (sa_ListComp (z_lc (own := ["word"]) (idx := [0, 1, 2]) (N' := ["word", "pen", "words", "left"]) (⟨rfl, by decide +kernel, by decide +kernel, (show ∀ y ∈ Scope.names _, y.2 = NameKind.free → ((defScope s_law_tthing).names.lookup y.1 = some NameKind.cell ∨ (defScope s_law_tthing).names.lookup y.1 = some NameKind.free) by decide +kernel), (show ∀ j ∈ ([0, 1, 2] : List Nat), (Scope.names _).lookup ((["pen", "words", "left", "some"] : List Str).getD j "") = some NameKind.free ∧ j < (["pen", "words", "left", "some"] : List Str).length by decide +kernel), rfl⟩) rfl (i_K K (zv 3)) (fun _ _ _ _ _ _ => (g_name (i := 0) (show List.Nodup (["word", "pen", "words", "left"] : List Str) by decide +kernel) rfl (Or.inl rfl))) (fun _ _ _ _ _ _ => c_nil) (fun _ _ _ _ _ _ => (z_tup (sa_Name (zv 0) (sa_Call (z_fn F_law_tthing (hr.mono (by omega)) (sa_Name (zv 1) (sa_Name (zv 2) (sa_BinOp (z_op op_subD (zv 3) z_int) sa_nil)))) sa_nil))))) sa_nil)) sa_nil)))))))), ?_⟩
      have bare : ∀ (H1 : Hp) (t1 : Nat), PenAt H1 p w' t1 → t1 ≤ t + 6 ^ (l + 2) → Sm p w' H H1 → tRet (tTup (tCons (tC (V.str "box")) (tCons (tTup tNil) tNil))) { nx := fun _ H' => Q .non H', rt := Q } [some (.ref p), some (.ref wd), some (.int (l : Int)), none] H1 := fun H1 t1 hp1 ht1 sm1 => by
        refine ⟨(show 0 ≤ sizeLine by decide), fun c hc => ⟨(show 2 ≤ sizeLine by decide), fun a ha => ?_⟩⟩
        have s1 := Same.upd hc (.tup [])
        have s2 := Same.upd ha (.tup [.str "box", .ref c])
        refine k _ _ _ (bareT ⟨a, c, rfl, upd_same, s2 _ _ upd_same, rfl⟩) (((hp1.same s1).same s2).mono ht1) (sm1.trans (s1.trans s2).sm)
      refine tSeq_by (fun σ' H' => σ' = [some (.ref p), some (.ref wd), some (.int (l : Int)), none] ∧ 0 < l ∧ PenAt H' p w' (t + 1) ∧ Sm p w' H H') ?_ ?_
      · intro nx hnx
        refine ⟨rfl, _, rfl, iteB (fun c => ?_) (fun c => ?_)⟩
        · exact iteT (bare H t hp (by omega) Sm.refl)
        · rw [Bool.false_xor, decV_int] at c
          have hl0 : 0 < l := by have := of_decide_eq_false c; omega
          refine ⟨p, w', 4, t, rfl, hp, ⟨by decide, by decide⟩, by show t < 1000000000000; omega, fun r H1 r0 r1 hp1 sm1 => ⟨rfl, _, rfl, iteB (fun _ => bare H1 _ hp1 (by omega) sm1) (fun _ => hnx _ _ ⟨rfl, hl0, hp1, sm1⟩)⟩⟩
      · rintro σ' H1 ⟨rfl, hl0, hp1, sm1⟩
        obtain ⟨m, rfl⟩ : ∃ m, l = m + 1 := ⟨l - 1, by omega⟩
        have em : (((m + 1 : Nat) : Int) - 1) = (m : Int) := by omega
        have hB : 6 ^ (m + 2) = 36 * 6 ^ m := by rw [Nat.pow_succ, Nat.pow_succ]; omega
        have hB1 : 1 ≤ 6 ^ m := Nat.pow_pos (by decide)
        refine tSeq_by (fun σ' H' => σ' = [some (.ref p), some (.ref wd), some (.int ((m + 1 : Nat) : Int)), none] ∧ PenAt H' p w' (t + 2) ∧ Sm p w' H H') ?_ ?_
        · intro nx hnx
          refine ⟨p, w', 2, _, rfl, hp1, ⟨by decide, by decide⟩, by show t + 1 < 1000000000000; omega, fun r H2 r0 r1 hp2 sm2 => ⟨rfl, _, rfl, iteB (fun _ => ?_) (fun _ => hnx _ _ ⟨rfl, hp2, sm1.trans sm2⟩)⟩⟩
          have sm02 := sm1.trans sm2
          have hw2 := hw.sm hp sm02
          have wpos := hw2.pos
          refine .inl ⟨_, .inl (SqL.of hw2.e), p, w', _, t + 2, rfl, hp2, ⟨by rw [List.length_map]; omega, by rw [List.length_map]; omega⟩, by show t + 2 < 1000000000000; omega, fun r' H3 a0 a1 hp3 sm3 => ?_⟩
          rw [List.length_map] at a1
          have sm03 := sm02.trans sm3
          have hw3 := hw.sm hp sm03
          obtain ⟨z, hz1, hz2, hz3⟩ := hw3.at r' a0 a1
          refine ⟨_, _, .inl (SqL.of hw3.e), hz1, ?_⟩
          refine ⟨p, w', wd, m, t + 3, ws, by rw [← em]; rfl, by omega, hp3, by show t + 3 + 6 ^ (m + 2) < 1000000000000; omega, hw3, h3, hnd, hnm, fun v th H4 hv hp4 sm4 => ⟨(show 3 ≤ sizeLine by decide), fun a ha => ?_⟩⟩
          have s5 := Same.upd ha (.tup [.str "pick", .str z, v])
          have hzn : isName z = true := hnm z (List.mem_of_getElem? hz2)
          exact k _ (.tup [.str "pick", .str z, th]) _ (.inr (.inl ⟨a, z, v, th, rfl, upd_same, rfl, hz3, hzn, hv.tk s5.ts⟩)) ((hp4.same s5).mono (by omega)) ((sm03.trans sm4).trans s5.sm)
        · rintro σ' H2 ⟨rfl, hp2, sm2⟩
          have hw2 := hw.sm hp sm2
          refine tSeq_set ⟨wd, ws, rfl, SqL.of hw2.e, by omega, fun lq ss hlq hperm hsorted => ?_⟩
          have hsl : ss.length = ws.length := hperm.length_eq
          have ndss : ss.Nodup := hperm.nodup_iff.mpr hnd
          have pwss := pw_of_sorted hsorted ndss
          have s1 : Same H2 (upd H2 lq (.lst (ss.map V.str))) := Same.upd hlq _
          have el : upd H2 lq (.lst (ss.map V.str)) lq = some (.lst (ss.map V.str)) := upd_same
          have nlp : lq ≠ p := hp2.ne1 hlq
          have nlw : lq ≠ w' := hp2.ne2 hlq
          have hp3 := hp2.same s1
          have sm3 := sm2.trans s1.sm
          generalize upd H2 lq (.lst (ss.map V.str)) = H3 at s1 el hp3 sm3 ⊢
          refine Or.inl ⟨⟨_, SqL.of el⟩, fun D hD => ?_⟩
          have nDp : D ≠ p := hp3.ne1 hD
          have nDw : D ≠ w' := hp3.ne2 hD
          have nDl : D ≠ lq := fun e => by rw [e, el] at hD; cases hD
          have hD0 : H D = none := sm3.free hD nDp nDw
          refine lc_by (itn_list (ss.map V.str)) (fun i τ H4 => ∃ (v : Option V) (os : List Str), τ = [v, some (.ref p)] ∧ H4 D = some (.lst (os.map V.str)) ∧ os.Sublist (ss.take i) ∧ H4 lq = some (.lst (ss.map V.str)) ∧ PenAt H4 p w' (t + 2 + i) ∧ Sm p w' H H4)
            ⟨none, [], rfl, upd_same, List.Sublist.refl _, by rw [upd_ne nDl.symm]; exact el, hp3.same (Same.upd hD _), sm3.upd hD0⟩ (by rintro i τ H2 _ ⟨_, _, _, _, _, q, _⟩; exact SqL.of q) ?_ ?_
          · rintro i τ H4 hi ⟨v, os, rfl, q1, q2, q4, q5, q6⟩
            rw [List.length_map] at hi
            rw [mapStr_getD ss i hi]
            have hti : ss.take (i + 1) = ss.take i ++ [ss.getD i ""] := by
              rw [List.take_add_one, List.getD_eq_getElem?_getD, List.getElem?_eq_getElem hi]; rfl
            generalize ss.getD i "" = z at hti
            have hol : os.length ≤ i := by have := q2.length_le; simp at this; omega
            refine ⟨p, w', 2, t + 2 + i, rfl, q5, ⟨by decide, by decide⟩, by show t + 2 + i < 1000000000000; omega, fun r H5 r0 r1 hp5 sm5 => ?_⟩
            refine ⟨rfl, _, rfl, ?_⟩
            have g4 := sm5 _ _ q4 nlp nlw
            have g1 := sm5 _ _ q1 nDp nDw
            refine iteB (fun _ => ?_) (fun _ => ?_)
            · refine ⟨_, g1, by rw [List.length_map]; exact small1000 (by omega), _, os ++ [z], rfl, by rw [upd_same, List.map_append]; rfl, by rw [hti]; exact q2.append (List.Sublist.refl _), by rw [upd_ne nDl.symm]; exact g4, hp5.upd nDp nDw, (q6.trans sm5).upd hD0⟩
            · exact ⟨_, os, rfl, g1, by rw [hti]; exact q2.trans (List.sublist_append_left _ _), g4, hp5, q6.trans sm5⟩
          · rintro τ H4 ⟨v, os, rfl, q1, q2, q4, q5, q6⟩
            rw [List.length_map] at q2 q5
            rw [List.take_length] at q2
            have hol : os.length ≤ 4 := by have := q2.length_le; omega
            have pwo := pwss.sublist q2
            have hos : ∀ z ∈ os, z ∈ ws := fun z hz => hperm.mem_iff.mp (q2.subset hz)
            clear q2 q4 s1 el
            refine Or.inl ⟨⟨_, SqL.of q1⟩, fun D2 hD2 => ?_⟩
            have n2p : D2 ≠ p := q5.ne1 hD2
            have n2w : D2 ≠ w' := q5.ne2 hD2
            have n2D : D2 ≠ D := fun e => by rw [e, q1] at hD2; cases hD2
            have hD20 : H D2 = none := q6.free hD2 n2p n2w
            refine lc_by (itn_list (os.map V.str)) (fun i τ H5 => ∃ (v : Option V) (xs : List V) (qs : List Dt), τ = [v, some (.ref p), some (.ref wd), some (.int ((m + 1 : Nat) : Int))] ∧ H5 D2 = some (.lst xs) ∧ PTR (PT H5 m) H5 xs qs ∧ qs.map fst2 = (os.take i).map Dt.str ∧ H5 D = some (.lst (os.map V.str)) ∧ PenAt H5 p w' (t + 6 + 6 ^ (m + 2) * i) ∧ Sm p w' H H5)
              ⟨none, [], [], rfl, upd_same, PTR.nil, rfl, by rw [upd_ne n2D.symm]; exact q1, (q5.same (Same.upd hD2 _)).mono (by omega), q6.upd hD20⟩ (by rintro i τ H2 _ ⟨_, _, _, _, _, _, _, q, _⟩; exact SqL.of q) ?_ ?_
            · rintro i τ H5 hi ⟨v, xs, qs, rfl, r1, r2, r3, r4, r5, r6⟩
              rw [List.length_map] at hi
              rw [mapStr_getD os i hi]
              have hti : os.take (i + 1) = os.take i ++ [os.getD i ""] := by
                rw [List.take_add_one, List.getD_eq_getElem?_getD, List.getElem?_eq_getElem hi]; rfl
              have hzo : os.getD i "" ∈ os := by rw [List.getD_eq_getElem?_getD, List.getElem?_eq_getElem hi]; exact List.getElem_mem hi
              generalize os.getD i "" = z at hti hzo
              have hql : qs.length = i := by have := congrArg List.length r3; simp at this; omega
              have hxl := r2.1
              have hzw := hw.wd z (hos z hzo)
              have hmul : 6 ^ (m + 2) * i ≤ 6 ^ (m + 2) * 3 := Nat.mul_le_mul_left _ (by omega)
              refine ⟨p, w', wd, m, t + 6 + 6 ^ (m + 2) * i, ws, by rw [← em]; rfl, by omega, r5, by show t + 6 + 6 ^ (m + 2) * i + 6 ^ (m + 2) < 1000000000000; omega, hw.sm hp r6, h3, hnd, hnm, fun u th H6 hv hp6 sm6 => ⟨(show 2 ≤ sizeLine by decide), fun b hb => ?_⟩⟩
              have g1 := sm6 _ _ r1 n2p n2w
              have g4 := sm6 _ _ r4 nDp nDw
              have s7 := Same.upd hb (.tup [.str z, u])
              have e7 : upd H6 b (.tup [.str z, u]) b = some (.tup [.str z, u]) := upd_same
              have hp7 := hp6.same s7
              have sm7 := (r6.trans sm6).trans s7.sm (p := p) (w := w')
              have g1' := s7 _ _ g1
              have g4' := s7 _ _ g4
              have tk7 : Tk H5 (upd H6 b (.tup [.str z, u])) := (r5.ts sm6).trans s7.ts
              have hv7 := hv.tk s7.ts
              dsimp only
              generalize upd H6 b (.tup [.str z, u]) = H7 at s7 e7 hp7 sm7 g1' g4' tk7 hv7 ⊢
              have tk8 : Tk H7 (upd H7 D2 (.lst (xs ++ [.ref b]))) := Tk.refl.set g1' (fun _ z => nomatch z)
              refine ⟨xs, g1', by omega, _, xs ++ [.ref b], qs ++ [.tup [.str z, th]], rfl, upd_same, ((r2.tk tk7 fun _ _ h => PT.tk tk7 h).snoc e7 hzw (hnm z (hos z hzo)) hv7).tk tk8 (fun _ _ h => PT.tk tk8 h), by rw [List.map_append, r3, hti, List.map_append]; rfl, by rw [upd_ne n2D.symm]; exact g4', (hp7.upd n2p n2w).mono (by rw [Nat.mul_succ]; omega), sm7.upd hD20⟩
            · rintro τ H5 ⟨v, xs, qs, rfl, r1, r2, r3, r4, r5, r6⟩
              rw [List.length_map] at r3 r5
              rw [List.take_length] at r3
              have hql : qs.length = os.length := by have := congrArg List.length r3; simpa using this
              have hxl := r2.1
              have hmul : 6 ^ (m + 2) * os.length ≤ 6 ^ (m + 2) * 4 := Nat.mul_le_mul_left _ hol
              refine ⟨D2, xs, rfl, .inl ⟨SqL.of r1, fun b hb => ⟨(show 2 ≤ sizeLine by decide), fun a ha => ?_⟩⟩⟩
              have s7 := Same.upd hb (.tup xs)
              have s8 := Same.upd ha (.tup [.str "box", .ref b])
              have s9 := s7.trans s8
              refine k _ _ _ (.inr (.inr ⟨a, b, xs, qs, rfl, upd_same, s8 _ _ upd_same, rfl, by omega, ?_, r2.tk s9.ts fun _ _ h => PT.tk s9.ts h⟩)) ((r5.same s9).mono (by omega)) (r6.trans s9.sm)
              have e2 : (os.map Dt.str).map strD = os := by rw [List.map_map]; simp [Function.comp_def, strD]
              rw [r3, e2]; exact rising_of_pw pwo
abbrev np (p w : Addr) : Addr → Prop := fun a => a ≠ p ∧ a ≠ w
theorem pen_np {H : Hp} {p w a : Addr} {t : Nat} {ys : List V} (h : PenAt H p w t) (e : H a = some (.tup ys)) : np p w a := by
  obtain ⟨_, _, _, h1, h2, _⟩ := h.ex
  exact ⟨fun z => (by rw [z, h1] at e; cases e), fun z => (by rw [z, h2] at e; cases e)⟩
def spOdd : Sp := fun vs H Q _ => ∃ (p w wd : Addr) (t k0 c0 : Nat) (ws : List Str) (v : V) (d : Dt), vs = [.ref p, v, .ref wd] ∧ PenAt H p w t ∧ t < TMAX ∧ TxtsAt H wd ws ∧ 2 ≤ ws.length ∧ ws.length ≤ 60 ∧ PX H v d k0 c0 ∧ k0 ≤ 20 ∧
  ∀ (m : Bool) (v' : V) (d' : Dt) (H' : Hp), DX (np p w) H' m v' d' 30 (c0 + 60) → d'.oc ≤ 1 → PenAt H' p w (t + 1) → Sm p w H H' → Q v' H'
set_option maxHeartbeats 8000000 in
theorem ok_law_todd (T : Txt K mg) : FnK P w K mg base 2 "_law_todd" ["pen", "thing", "words"] spOdd := by
  have F_law_tdraw : FnK P w K mg base 1 "_law_tdraw" ["pen", "many"] spDraw := ok_law_tdraw T
  refine T.t_law_todd.okS sc_law_todd (fun vs H Q E h => ?_) (fun f cdv A outer s H vs Q E hr h => ?_)
  · obtain ⟨p, w', wd, t, k0, c0, ws, v, d, rfl, _⟩ := h
    rfl
  · obtain ⟨p, w', wd, t, k0, c0, ws, th, dth, rfl, hp, ht, hw, h2, h60, px, hk0, k⟩ := h
    have hu0 := Nat.lt_of_succ_lt (hu_of hr)
    have hsz : sizeLine = 16777216 := sizeLine_eq
    refine ⟨_, (sb_cons (s_set (i := 3) sc_law_todd.nd rfl (Or.inl rfl) (z_tup (sa_Constant z_str (sa_Tuple (z_tup sa_nil) sa_nil))))
      (sb_cons (s_asg (z_slice (sl_K K) (z_callB (call_sortedK K) (by rfl) T.n_sorted PyProof.Rows.boot_sorted (sa_Name (zv 2) sa_nil)) zo_none (zo_some z_int)) (g_tupL K (n := 2) rfl (gs_cons (g_name (i := 4) sc_law_todd.nd rfl (Or.inl rfl)) (gs_cons (g_name (i := 5) sc_law_todd.nd rfl (Or.inl rfl)) gs_nil))))
      (sb_cons (s_set (i := 6) sc_law_todd.nd rfl (Or.inl rfl) (z_lst (sa_Tuple (z_tup (sa_Constant z_str sa_nil)) (sa_Tuple (z_tup (sa_Constant z_str (sa_Tuple (z_tup (sa_Tuple (z_tup (sa_Name (zv 4) (sa_Name (zv 3) sa_nil))) (sa_Tuple (z_tup (sa_Name (zv 4) (sa_Name (zv 3) sa_nil))) sa_nil))) sa_nil))) (sa_Tuple (z_tup (sa_Constant z_str (sa_Tuple (z_tup (sa_Tuple (z_tup (sa_Name (zv 5) (sa_Name (zv 3) sa_nil))) (sa_Tuple (z_tup (sa_Name (zv 4) (sa_Name (zv 3) sa_nil))) sa_nil))) sa_nil))) (sa_Tuple (z_tup (sa_Constant z_str (sa_Tuple (z_tup (sa_Tuple (z_tup (sa_Name (zv 4) (sa_Name (zv 3) sa_nil))) (sa_Tuple (z_tup (sa_Name (zv 5) (sa_Name (zv 3) sa_nil))) sa_nil))) sa_nil))) (sa_Tuple (z_tup (sa_Constant z_str (sa_Name (zv 4) sa_nil))) sa_nil)))))))
      (sb_cons (s_set (i := 6) sc_law_todd.nd rfl (Or.inl rfl) (z_op op_addD (zv 6) (z_lst (sa_Tuple (z_tup (sa_Constant z_str (sa_Name (zv 4) (sa_Name (zv 3) (sa_Name (zv 3) sa_nil))))) (sa_Tuple (z_tup (sa_Constant z_str (sa_Constant z_str (sa_Name (zv 3) sa_nil)))) (sa_Tuple (z_tup (sa_Constant z_str (sa_Constant z_str (sa_Name (zv 3) sa_nil)))) (sa_Tuple (z_tup (sa_Constant z_str (sa_Name (zv 4) (sa_Constant z_non sa_nil)))) (sa_List (z_lst (sa_Constant z_str (sa_Tuple (z_tup sa_nil) sa_nil))) (sa_Tuple (z_tup (sa_Constant z_str (sa_List (z_lst sa_nil) sa_nil))) sa_nil)))))))))
      (sb_cons (s_set (i := 6) sc_law_todd.nd rfl (Or.inl rfl) (z_op op_addD (zv 6) (z_lst (sa_Tuple (z_tup (sa_Constant z_str (sa_Tuple (z_tup (sa_List (z_lst (sa_Name (zv 4) (sa_Name (zv 3) sa_nil))) sa_nil)) sa_nil))) (sa_Tuple (z_tup (sa_Constant z_str (sa_Tuple (z_tup (sa_Tuple (z_tup (sa_Name (zv 4) sa_nil)) sa_nil)) sa_nil))) (sa_Tuple (z_tup (sa_Constant z_str (sa_Tuple (z_tup (sa_Tuple (z_tup (sa_Name (zv 4) (sa_Name (zv 3) (sa_Name (zv 3) sa_nil)))) sa_nil)) sa_nil))) (sa_Tuple (z_tup (sa_Constant z_str (sa_Tuple (z_tup (sa_Tuple (z_tup (sa_Constant z_int (sa_Name (zv 3) sa_nil))) sa_nil)) sa_nil))) (sa_Tuple (z_tup (sa_Constant z_str (sa_Tuple (z_tup sa_nil) sa_nil))) sa_nil))))))))
      (sb_cons (s_set (i := 6) sc_law_todd.nd rfl (Or.inl rfl) (z_op op_addD (zv 6) (z_lst (sa_Tuple (z_tup (sa_Constant z_str (sa_Name (zv 4) (sa_Tuple (z_tup (sa_Constant z_str (sa_Tuple (z_tup (sa_Tuple (z_tup (sa_Name (zv 5) (sa_Name (zv 4) sa_nil))) sa_nil)) sa_nil))) sa_nil)))) (sa_Tuple (z_tup (sa_Constant z_str (sa_Tuple (z_tup (sa_Tuple (z_tup (sa_Name (zv 4) (sa_Name (zv 1) sa_nil))) sa_nil)) sa_nil))) (sa_Tuple (z_tup (sa_Constant z_str (sa_Name (zv 5) (sa_Name (zv 1) sa_nil)))) (sa_Tuple (z_tup (sa_Name (zv 1) sa_nil)) (sa_Name (zv 4) sa_nil))))))))
      (sb_cons (s_set (i := 6) sc_law_todd.nd rfl (Or.inl rfl) (z_op op_addD (zv 6) (z_lst (sa_Tuple (z_tup sa_nil) (sa_Constant z_non (sa_Constant z_int (sa_Constant z_bl (sa_Dict z_dnew (sa_Tuple (z_tup (sa_Constant z_str (sa_Tuple (z_tup sa_nil) (sa_Name (zv 3) sa_nil)))) (sa_Tuple (z_tup (sa_Constant z_str (sa_Tuple (z_tup (sa_Tuple (z_tup (sa_Name (zv 4) (sa_Name (zv 3) sa_nil))) sa_nil)) (sa_Tuple (z_tup sa_nil) sa_nil)))) (sa_Tuple (z_tup (sa_Constant z_str (sa_Tuple (z_tup (sa_Tuple (z_tup (sa_Constant z_int (sa_Name (zv 3) sa_nil))) (sa_Tuple (z_tup (sa_Name (zv 4) (sa_Name (zv 3) sa_nil))) sa_nil))) sa_nil))) sa_nil)))))))))))
      (sb_cons (s_set (i := 6) sc_law_todd.nd rfl (Or.inl rfl) (z_op op_addD (zv 6) (z_lst (sa_Tuple (z_tup (sa_Constant z_str (sa_Tuple (z_tup (sa_Tuple (z_tup (sa_Name (zv 4) (sa_Name (zv 3) sa_nil))) (sa_Constant z_non sa_nil))) sa_nil))) (sa_Tuple (z_tup (sa_Constant z_str (sa_Tuple (z_tup (sa_Tuple (z_tup (sa_Name (zv 4) (sa_Name (zv 3) sa_nil))) (sa_List (z_lst (sa_Name (zv 5) (sa_Name (zv 3) sa_nil))) sa_nil))) sa_nil))) (sa_Tuple (z_tup (sa_Constant z_str (sa_Tuple (z_tup (sa_Tuple (z_tup (sa_Name (zv 4) (sa_Name (zv 3) sa_nil))) (sa_Tuple (z_tup (sa_Name (zv 5) sa_nil)) sa_nil))) sa_nil))) sa_nil))))))
      (sb_cons (s_set (i := 6) sc_law_todd.nd rfl (Or.inl rfl) (z_op op_addD (zv 6) (z_lst (sa_Tuple (z_tup (sa_Constant z_str (sa_Tuple (z_tup (sa_Tuple (z_tup (sa_Name (zv 4) (sa_Name (zv 3) sa_nil))) (sa_Tuple (z_tup (sa_Name (zv 5) (sa_Name (zv 3) (sa_Name (zv 3) sa_nil)))) sa_nil))) sa_nil))) (sa_Tuple (z_tup (sa_Constant z_str (sa_Tuple (z_tup (sa_Tuple (z_tup (sa_Constant z_str (sa_Name (zv 3) sa_nil))) (sa_Tuple (z_tup (sa_Name (zv 4) (sa_Name (zv 3) sa_nil))) sa_nil))) sa_nil))) (sa_Tuple (z_tup (sa_Constant z_str (sa_Tuple (z_tup (sa_Tuple (z_tup (sa_Constant z_non (sa_Name (zv 3) sa_nil))) (sa_Tuple (z_tup (sa_Name (zv 4) (sa_Name (zv 3) sa_nil))) sa_nil))) sa_nil))) sa_nil))))))
      (sb_cons (s_set (i := 6) sc_law_todd.nd rfl (Or.inl rfl) (z_op op_addD (zv 6) (z_lst (sa_Tuple (z_tup (sa_Constant z_str (sa_Tuple (z_tup (sa_Tuple (z_tup (sa_Call (z_bm0 K PySem.F.plainAttrs_str PySem.F.slot_str_upper PySem.F.type_str_upper mt_upper (zv 4)) (sa_Name (zv 3) sa_nil))) sa_nil)) sa_nil))) (sa_Tuple (z_tup (sa_Constant z_str sa_nil)) (sa_Tuple (z_tup (sa_Constant z_str (sa_Name (zv 3) (sa_Name (zv 3) sa_nil)))) (sa_Tuple (z_tup (sa_Constant z_str (sa_Constant z_int (sa_Name (zv 3) sa_nil)))) (sa_Tuple (z_tup (sa_Constant z_str (sa_Tuple (z_tup (sa_Name (zv 4) (sa_Name (zv 3) sa_nil))) sa_nil))) (sa_Tuple (z_tup (sa_Constant z_str (sa_Constant z_non sa_nil))) sa_nil)))))))))
      (sb_one (s_ret (z_ix (ix_K K) (zv 6) (z_fn F_law_tdraw (hr.mono (by decide)) (sa_Name (zv 0) (sa_Call (z_callB (call_lenK K) (by rfl) T.n_len PySem.boot_len (sa_Name (zv 6) sa_nil)) sa_nil))) (fun _ _ => rfl)))))))))))))), ?_⟩
    refine tSeq_set ⟨(show 0 ≤ sizeLine by decide), fun c1 h1 => ⟨(show 2 ≤ sizeLine by decide), fun e1 he1 => ?_⟩⟩
    have s1 := (Same.upd h1 (.tup [])).trans (Same.upd he1 (.tup [.str "box", .ref c1]))
    have g1 : upd (upd H c1 (.tup [])) e1 (.tup [.str "box", .ref c1]) e1 = some (.tup [.str "box", .ref c1]) := upd_same
    have g2 := Same.upd he1 (.tup [.str "box", .ref c1]) _ _ (upd_same : upd H c1 (.tup []) c1 = some (.tup []))
    dsimp only
    generalize upd (upd H c1 (.tup [])) e1 (.tup [.str "box", .ref c1]) = H1 at s1 g1 g2
    have pe : PX H1 (.ref e1) (.tup [.str "box", .tup []]) 2 3 := PX.tup (k := 1) g1 (by simp) (.cons (PX.str (wd_ascii (by decide) (by decide))) (.cons (PX.tup (k := 0) g2 (by simp) .nil) .nil))
    have hw1 := hw.same s1
    refine tSeq_by (fun σ' H' => ∃ z1 z2, σ' = [some (.ref p), some th, some (.ref wd), some (.ref e1), some (.str z1), some (.str z2), none] ∧ Wd z1 ∧ Wd z2 ∧ Same H1 H') (fun nx hnx => ?_) ?_
    · refine ⟨wd, ws, rfl, SqL.of hw1.e, by omega, fun lq ss hlq hperm hsorted => ?_⟩
      have hsl : ss.length = ws.length := hperm.length_eq
      have sl := Same.upd hlq (.lst (ss.map V.str))
      have gl : upd H1 lq (.lst (ss.map V.str)) lq = some (.lst (ss.map V.str)) := upd_same
      generalize upd H1 lq (.lst (ss.map V.str)) = Hl at sl gl
      match ss, hsl, hperm with
      | z1 :: z2 :: r, hsl, hperm =>
        have w1 : Wd z1 := hw.wd z1 (hperm.mem_iff.mp (by simp))
        have w2 : Wd z2 := hw.wd z2 (hperm.mem_iff.mp (by simp))
        refine ⟨2, rfl, ?_⟩
        refine Or.inr ?_
        refine Or.inl ?_
        refine ⟨lq, _, rfl, SqL.of gl, fun c2 hc2 => ?_⟩
        have ecut : cutV ((z1 :: z2 :: r).map V.str) none (some 2) = [.str z1, .str z2] := by
          simp [cutV, HT.sIx]
        rw [ecut]
        have sc := Same.upd hc2 (.lst [.str z1, .str z2])
        refine ⟨c2, _, rfl, SqL.of upd_same, rfl, _, _, rfl, _, _, rfl, rfl, ?_⟩
        exact hnx _ _ ⟨z1, z2, rfl, w1, w2, sl.trans sc⟩
      | [_], hsl, _ => simp at hsl; omega
      | [], hsl, _ => simp at hsl; omega
    rintro σ' H2 ⟨z1, z2, rfl, wz1, wz2, s2⟩
    have s02 := s1.trans s2
    have hp2 := hp.same s02
    have px2 := px.tk s02.ts
    have pe2 := pe.tk s2.ts
    have hPt : ∀ a xs, H2 a = some (.tup xs) → np p w' a := fun a xs e => pen_np hp2 e
    have hPf : ∀ a, H2 a = none → np p w' a := fun a e => ⟨hp2.ne1 e, hp2.ne2 e⟩
    clear s1 g1 g2 hw1 pe
    refine set_gx (P := np p w') (C := c0 + 60) (n := 5) (by repeat' (first | with_reducible exact gxl_nil | (apply gxl_T; (case h => (repeat' (first | with_reducible exact gxa_nil | with_reducible apply gxa_cons | ((with_reducible show Gx _ _ _ _ (tV _) _ _ _); (first | exact gx_s rfl (by assumption) | exact gx_v rfl (by assumption) (by assumption) (by omega))) | with_reducible exact gx_cn | with_reducible exact gx_cb | exact gx_cs (wd_ascii (by decide) (by decide)) | exact gx_ci (by decide) (by decide) | exact gx_up rfl (by assumption) | with_reducible apply gx_tup | with_reducible apply gx_lst | with_reducible apply gx_dn | assumption | decide))); (case hc => omega); (case ho => omega)) | (apply gxl_F; (case h => (repeat' (first | with_reducible exact gxa_nil | with_reducible apply gxa_cons | ((with_reducible show Gx _ _ _ _ (tV _) _ _ _); (first | exact gx_s rfl (by assumption) | exact gx_v rfl (by assumption) (by assumption) (by omega))) | with_reducible exact gx_cn | with_reducible exact gx_cb | exact gx_cs (wd_ascii (by decide) (by decide)) | exact gx_ci (by decide) (by decide) | exact gx_up rfl (by assumption) | with_reducible apply gx_tup | with_reducible apply gx_lst | with_reducible apply gx_dn | assumption | decide))); (case hc => omega); (case ho => omega)))) (by decide) fun S3 ws3 H3 s3 f3 g3 l3 o3 => ?_
    have hpH3 := hp2.same s3
    have pxH3 := px2.tk (s3).ts
    have peH3 := pe2.tk (s3).ts
    have hPtH3 : ∀ a xs, H3 a = some (.tup xs) → np p w' a := fun a xs e => pen_np hpH3 e
    have hPfH3 : ∀ a, H3 a = none → np p w' a := fun a e => ⟨hpH3.ne1 e, hpH3.ne2 e⟩
    refine add_gx (P := np p w') (C := c0 + 60) (n := 6) rfl g3 o3 (by omega) (by repeat' (first | with_reducible exact gxl_nil | (apply gxl_T; (case h => (repeat' (first | with_reducible exact gxa_nil | with_reducible apply gxa_cons | ((with_reducible show Gx _ _ _ _ (tV _) _ _ _); (first | exact gx_s rfl (by assumption) | exact gx_v rfl (by assumption) (by assumption) (by omega))) | with_reducible exact gx_cn | with_reducible exact gx_cb | exact gx_cs (wd_ascii (by decide) (by decide)) | exact gx_ci (by decide) (by decide) | exact gx_up rfl (by assumption) | with_reducible apply gx_tup | with_reducible apply gx_lst | with_reducible apply gx_dn | assumption | decide))); (case hc => omega); (case ho => omega)) | (apply gxl_F; (case h => (repeat' (first | with_reducible exact gxa_nil | with_reducible apply gxa_cons | ((with_reducible show Gx _ _ _ _ (tV _) _ _ _); (first | exact gx_s rfl (by assumption) | exact gx_v rfl (by assumption) (by assumption) (by omega))) | with_reducible exact gx_cn | with_reducible exact gx_cb | exact gx_cs (wd_ascii (by decide) (by decide)) | exact gx_ci (by decide) (by decide) | exact gx_up rfl (by assumption) | with_reducible apply gx_tup | with_reducible apply gx_lst | with_reducible apply gx_dn | assumption | decide))); (case hc => omega); (case ho => omega)))) (by decide) fun S4 ws4 H4 s4 f4 g4 l4 o4 => ?_
    have hpH4 := hp2.same (s3.trans s4)
    have pxH4 := px2.tk ((s3.trans s4)).ts
    have peH4 := pe2.tk ((s3.trans s4)).ts
    have hPtH4 : ∀ a xs, H4 a = some (.tup xs) → np p w' a := fun a xs e => pen_np hpH4 e
    have hPfH4 : ∀ a, H4 a = none → np p w' a := fun a e => ⟨hpH4.ne1 e, hpH4.ne2 e⟩
    clear hpH3 pxH3 peH3 hPtH3 hPfH3
    refine add_gx (P := np p w') (C := c0 + 60) (n := 5) rfl g4 o4 (by omega) (by repeat' (first | with_reducible exact gxl_nil | (apply gxl_T; (case h => (repeat' (first | with_reducible exact gxa_nil | with_reducible apply gxa_cons | ((with_reducible show Gx _ _ _ _ (tV _) _ _ _); (first | exact gx_s rfl (by assumption) | exact gx_v rfl (by assumption) (by assumption) (by omega))) | with_reducible exact gx_cn | with_reducible exact gx_cb | exact gx_cs (wd_ascii (by decide) (by decide)) | exact gx_ci (by decide) (by decide) | exact gx_up rfl (by assumption) | with_reducible apply gx_tup | with_reducible apply gx_lst | with_reducible apply gx_dn | assumption | decide))); (case hc => omega); (case ho => omega)) | (apply gxl_F; (case h => (repeat' (first | with_reducible exact gxa_nil | with_reducible apply gxa_cons | ((with_reducible show Gx _ _ _ _ (tV _) _ _ _); (first | exact gx_s rfl (by assumption) | exact gx_v rfl (by assumption) (by assumption) (by omega))) | with_reducible exact gx_cn | with_reducible exact gx_cb | exact gx_cs (wd_ascii (by decide) (by decide)) | exact gx_ci (by decide) (by decide) | exact gx_up rfl (by assumption) | with_reducible apply gx_tup | with_reducible apply gx_lst | with_reducible apply gx_dn | assumption | decide))); (case hc => omega); (case ho => omega)))) (by decide) fun S5 ws5 H5 s5 f5 g5 l5 o5 => ?_
    have hpH5 := hp2.same ((s3.trans s4).trans s5)
    have pxH5 := px2.tk (((s3.trans s4).trans s5)).ts
    have peH5 := pe2.tk (((s3.trans s4).trans s5)).ts
    have hPtH5 : ∀ a xs, H5 a = some (.tup xs) → np p w' a := fun a xs e => pen_np hpH5 e
    have hPfH5 : ∀ a, H5 a = none → np p w' a := fun a e => ⟨hpH5.ne1 e, hpH5.ne2 e⟩
    clear hpH4 pxH4 peH4 hPtH4 hPfH4
    refine add_gx (P := np p w') (C := c0 + 60) (n := 5) rfl g5 o5 (by omega) (by repeat' (first | with_reducible exact gxl_nil | (apply gxl_T; (case h => (repeat' (first | with_reducible exact gxa_nil | with_reducible apply gxa_cons | ((with_reducible show Gx _ _ _ _ (tV _) _ _ _); (first | exact gx_s rfl (by assumption) | exact gx_v rfl (by assumption) (by assumption) (by omega))) | with_reducible exact gx_cn | with_reducible exact gx_cb | exact gx_cs (wd_ascii (by decide) (by decide)) | exact gx_ci (by decide) (by decide) | exact gx_up rfl (by assumption) | with_reducible apply gx_tup | with_reducible apply gx_lst | with_reducible apply gx_dn | assumption | decide))); (case hc => omega); (case ho => omega)) | (apply gxl_F; (case h => (repeat' (first | with_reducible exact gxa_nil | with_reducible apply gxa_cons | ((with_reducible show Gx _ _ _ _ (tV _) _ _ _); (first | exact gx_s rfl (by assumption) | exact gx_v rfl (by assumption) (by assumption) (by omega))) | with_reducible exact gx_cn | with_reducible exact gx_cb | exact gx_cs (wd_ascii (by decide) (by decide)) | exact gx_ci (by decide) (by decide) | exact gx_up rfl (by assumption) | with_reducible apply gx_tup | with_reducible apply gx_lst | with_reducible apply gx_dn | assumption | decide))); (case hc => omega); (case ho => omega)))) (by decide) fun S6 ws6 H6 s6 f6 g6 l6 o6 => ?_
    have hpH6 := hp2.same (((s3.trans s4).trans s5).trans s6)
    have pxH6 := px2.tk ((((s3.trans s4).trans s5).trans s6)).ts
    have peH6 := pe2.tk ((((s3.trans s4).trans s5).trans s6)).ts
    have hPtH6 : ∀ a xs, H6 a = some (.tup xs) → np p w' a := fun a xs e => pen_np hpH6 e
    have hPfH6 : ∀ a, H6 a = none → np p w' a := fun a e => ⟨hpH6.ne1 e, hpH6.ne2 e⟩
    clear hpH5 pxH5 peH5 hPtH5 hPfH5
    refine add_gx (P := np p w') (C := c0 + 60) (n := 8) rfl g6 o6 (by omega) (by repeat' (first | with_reducible exact gxl_nil | (apply gxl_T; (case h => (repeat' (first | with_reducible exact gxa_nil | with_reducible apply gxa_cons | ((with_reducible show Gx _ _ _ _ (tV _) _ _ _); (first | exact gx_s rfl (by assumption) | exact gx_v rfl (by assumption) (by assumption) (by omega))) | with_reducible exact gx_cn | with_reducible exact gx_cb | exact gx_cs (wd_ascii (by decide) (by decide)) | exact gx_ci (by decide) (by decide) | exact gx_up rfl (by assumption) | with_reducible apply gx_tup | with_reducible apply gx_lst | with_reducible apply gx_dn | assumption | decide))); (case hc => omega); (case ho => omega)) | (apply gxl_F; (case h => (repeat' (first | with_reducible exact gxa_nil | with_reducible apply gxa_cons | ((with_reducible show Gx _ _ _ _ (tV _) _ _ _); (first | exact gx_s rfl (by assumption) | exact gx_v rfl (by assumption) (by assumption) (by omega))) | with_reducible exact gx_cn | with_reducible exact gx_cb | exact gx_cs (wd_ascii (by decide) (by decide)) | exact gx_ci (by decide) (by decide) | exact gx_up rfl (by assumption) | with_reducible apply gx_tup | with_reducible apply gx_lst | with_reducible apply gx_dn | assumption | decide))); (case hc => omega); (case ho => omega)))) (by decide) fun S7 ws7 H7 s7 f7 g7 l7 o7 => ?_
    have hpH7 := hp2.same ((((s3.trans s4).trans s5).trans s6).trans s7)
    have pxH7 := px2.tk (((((s3.trans s4).trans s5).trans s6).trans s7)).ts
    have peH7 := pe2.tk (((((s3.trans s4).trans s5).trans s6).trans s7)).ts
    have hPtH7 : ∀ a xs, H7 a = some (.tup xs) → np p w' a := fun a xs e => pen_np hpH7 e
    have hPfH7 : ∀ a, H7 a = none → np p w' a := fun a e => ⟨hpH7.ne1 e, hpH7.ne2 e⟩
    clear hpH6 pxH6 peH6 hPtH6 hPfH6
    refine add_gx (P := np p w') (C := c0 + 60) (n := 3) rfl g7 o7 (by omega) (by repeat' (first | with_reducible exact gxl_nil | (apply gxl_T; (case h => (repeat' (first | with_reducible exact gxa_nil | with_reducible apply gxa_cons | ((with_reducible show Gx _ _ _ _ (tV _) _ _ _); (first | exact gx_s rfl (by assumption) | exact gx_v rfl (by assumption) (by assumption) (by omega))) | with_reducible exact gx_cn | with_reducible exact gx_cb | exact gx_cs (wd_ascii (by decide) (by decide)) | exact gx_ci (by decide) (by decide) | exact gx_up rfl (by assumption) | with_reducible apply gx_tup | with_reducible apply gx_lst | with_reducible apply gx_dn | assumption | decide))); (case hc => omega); (case ho => omega)) | (apply gxl_F; (case h => (repeat' (first | with_reducible exact gxa_nil | with_reducible apply gxa_cons | ((with_reducible show Gx _ _ _ _ (tV _) _ _ _); (first | exact gx_s rfl (by assumption) | exact gx_v rfl (by assumption) (by assumption) (by omega))) | with_reducible exact gx_cn | with_reducible exact gx_cb | exact gx_cs (wd_ascii (by decide) (by decide)) | exact gx_ci (by decide) (by decide) | exact gx_up rfl (by assumption) | with_reducible apply gx_tup | with_reducible apply gx_lst | with_reducible apply gx_dn | assumption | decide))); (case hc => omega); (case ho => omega)))) (by decide) fun S8 ws8 H8 s8 f8 g8 l8 o8 => ?_
    have hpH8 := hp2.same (((((s3.trans s4).trans s5).trans s6).trans s7).trans s8)
    have pxH8 := px2.tk ((((((s3.trans s4).trans s5).trans s6).trans s7).trans s8)).ts
    have peH8 := pe2.tk ((((((s3.trans s4).trans s5).trans s6).trans s7).trans s8)).ts
    have hPtH8 : ∀ a xs, H8 a = some (.tup xs) → np p w' a := fun a xs e => pen_np hpH8 e
    have hPfH8 : ∀ a, H8 a = none → np p w' a := fun a e => ⟨hpH8.ne1 e, hpH8.ne2 e⟩
    clear hpH7 pxH7 peH7 hPtH7 hPfH7
    refine add_gx (P := np p w') (C := c0 + 60) (n := 3) rfl g8 o8 (by omega) (by repeat' (first | with_reducible exact gxl_nil | (apply gxl_T; (case h => (repeat' (first | with_reducible exact gxa_nil | with_reducible apply gxa_cons | ((with_reducible show Gx _ _ _ _ (tV _) _ _ _); (first | exact gx_s rfl (by assumption) | exact gx_v rfl (by assumption) (by assumption) (by omega))) | with_reducible exact gx_cn | with_reducible exact gx_cb | exact gx_cs (wd_ascii (by decide) (by decide)) | exact gx_ci (by decide) (by decide) | exact gx_up rfl (by assumption) | with_reducible apply gx_tup | with_reducible apply gx_lst | with_reducible apply gx_dn | assumption | decide))); (case hc => omega); (case ho => omega)) | (apply gxl_F; (case h => (repeat' (first | with_reducible exact gxa_nil | with_reducible apply gxa_cons | ((with_reducible show Gx _ _ _ _ (tV _) _ _ _); (first | exact gx_s rfl (by assumption) | exact gx_v rfl (by assumption) (by assumption) (by omega))) | with_reducible exact gx_cn | with_reducible exact gx_cb | exact gx_cs (wd_ascii (by decide) (by decide)) | exact gx_ci (by decide) (by decide) | exact gx_up rfl (by assumption) | with_reducible apply gx_tup | with_reducible apply gx_lst | with_reducible apply gx_dn | assumption | decide))); (case hc => omega); (case ho => omega)))) (by decide) fun S9 ws9 H9 s9 f9 g9 l9 o9 => ?_
    have hpH9 := hp2.same ((((((s3.trans s4).trans s5).trans s6).trans s7).trans s8).trans s9)
    have pxH9 := px2.tk (((((((s3.trans s4).trans s5).trans s6).trans s7).trans s8).trans s9)).ts
    have peH9 := pe2.tk (((((((s3.trans s4).trans s5).trans s6).trans s7).trans s8).trans s9)).ts
    have hPtH9 : ∀ a xs, H9 a = some (.tup xs) → np p w' a := fun a xs e => pen_np hpH9 e
    have hPfH9 : ∀ a, H9 a = none → np p w' a := fun a e => ⟨hpH9.ne1 e, hpH9.ne2 e⟩
    clear hpH8 pxH8 peH8 hPtH8 hPfH8
    refine add_gx (P := np p w') (C := c0 + 60) (n := 6) rfl g9 o9 (by omega) (by repeat' (first | with_reducible exact gxl_nil | (apply gxl_T; (case h => (repeat' (first | with_reducible exact gxa_nil | with_reducible apply gxa_cons | ((with_reducible show Gx _ _ _ _ (tV _) _ _ _); (first | exact gx_s rfl (by assumption) | exact gx_v rfl (by assumption) (by assumption) (by omega))) | with_reducible exact gx_cn | with_reducible exact gx_cb | exact gx_cs (wd_ascii (by decide) (by decide)) | exact gx_ci (by decide) (by decide) | exact gx_up rfl (by assumption) | with_reducible apply gx_tup | with_reducible apply gx_lst | with_reducible apply gx_dn | assumption | decide))); (case hc => omega); (case ho => omega)) | (apply gxl_F; (case h => (repeat' (first | with_reducible exact gxa_nil | with_reducible apply gxa_cons | ((with_reducible show Gx _ _ _ _ (tV _) _ _ _); (first | exact gx_s rfl (by assumption) | exact gx_v rfl (by assumption) (by assumption) (by omega))) | with_reducible exact gx_cn | with_reducible exact gx_cb | exact gx_cs (wd_ascii (by decide) (by decide)) | exact gx_ci (by decide) (by decide) | exact gx_up rfl (by assumption) | with_reducible apply gx_tup | with_reducible apply gx_lst | with_reducible apply gx_dn | assumption | decide))); (case hc => omega); (case ho => omega)))) (by decide) fun S10 ws10 H10 s10 f10 g10 l10 o10 => ?_
    have hpH10 := hp2.same (((((((s3.trans s4).trans s5).trans s6).trans s7).trans s8).trans s9).trans s10)
    have pxH10 := px2.tk ((((((((s3.trans s4).trans s5).trans s6).trans s7).trans s8).trans s9).trans s10)).ts
    have peH10 := pe2.tk ((((((((s3.trans s4).trans s5).trans s6).trans s7).trans s8).trans s9).trans s10)).ts
    have hPtH10 : ∀ a xs, H10 a = some (.tup xs) → np p w' a := fun a xs e => pen_np hpH10 e
    have hPfH10 : ∀ a, H10 a = none → np p w' a := fun a e => ⟨hpH10.ne1 e, hpH10.ne2 e⟩
    clear hpH9 pxH9 peH9 hPtH9 hPfH9
    refine .inl ⟨_, .inl (SqL.of g10), p, w', _, t, rfl, hpH10, ⟨by omega, by omega⟩, ht, fun r H' r0 r1 hp' sm' => ?_⟩
    obtain ⟨i, rfl⟩ : ∃ i : Nat, r = (i : Int) := ⟨r.toNat, by omega⟩
    have hi : i < ws10.length := by simpa using r1
    have nS : np p w' S10 := by
      refine ⟨fun z => ?_, fun z => ?_⟩
      · obtain ⟨_, _, _, h1, h2, _⟩ := hpH10.ex
        rw [← z, g10] at h1; cases h1
      · exact absurd (z ▸ f10) (fun q => by
          obtain ⟨_, _, _, h1, h2, _⟩ := (hp2.same (((((((s3.trans s4).trans s5).trans s6).trans s7).trans s8).trans s9))).ex
          rw [h2] at q; cases q)
    obtain ⟨m, d, q1, q2⟩ := o10 _ (List.getElem_mem hi)
    refine ⟨_, ws10[i], .inl (SqL.of (sm' _ _ g10 nS.1 nS.2)), atI_nat (List.getElem?_eq_getElem hi), ?_⟩
    exact k m _ d H' (q1.keep fun a u hP e => sm' _ _ e hP.1 hP.2) q2 hp' (((s02.trans (((((((s3.trans s4).trans s5).trans s6).trans s7).trans s8).trans s9).trans s10)).sm).trans sm')
theorem dxs_append {P : Addr → Prop} {H : Hp} {m : Bool} {k : Nat} {xs ys : List V} {ds es : List Dt} {c c' : Nat} (h : DXs P H m k xs ds c) (h' : DXs P H m k ys es c') : DXs P H m k (xs ++ ys) (ds ++ es) (c + c') := by
  induction h with
  | nil => simpa using h'
  | cons a _ ih =>
    have := DXs.cons a ih
    rw [← Nat.add_assoc] at this
    exact this
theorem pxs_dxs {P : Addr → Prop} {H : Hp} {m : Bool} {k k' : Nat} {xs : List V} {ds : List Dt} {c : Nat} (h : PXs H k xs ds c) (hP : ∀ a ys, H a = some (.tup ys) → P a) (hk : k ≤ k') : DXs P H m k' xs ds c ∧ ocs ds = 0 := by
  induction h with
  | nil => exact ⟨.nil, by simp [ocs]⟩
  | cons a _ ih => exact ⟨.cons ((a.dx hP).mono hk (Nat.le_refl _)) ih.1, by have := a.oc; simp only [ocs]; omega⟩
theorem PTR.take {R : V → Dt → Prop} {H : Hp} {xs : List V} {qs : List Dt} (h : PTR R H xs qs) (i : Nat) : PTR R H (xs.take i) (qs.take i) := by
  refine ⟨by simp [h.1], fun j a b => ?_⟩
  rw [List.getElem_take, List.getElem_take]
  exact h.2 j _ _
theorem PTR.drop {R : V → Dt → Prop} {H : Hp} {xs : List V} {qs : List Dt} (h : PTR R H xs qs) (i : Nat) : PTR R H (xs.drop i) (qs.drop i) := by
  refine ⟨by simp [h.1], fun j a b => ?_⟩
  rw [List.getElem_drop, List.getElem_drop]
  exact h.2 (i + j) _ _
def spBent (n : Nat) : Sp := fun vs H Q _ => ∃ (p w wd : Addr) (l t : Nat) (ws : List Str) (v : V) (d : Dt), vs = [.ref p, v, .ref wd] ∧ l < n ∧ l ≤ 5 ∧ PenAt H p w t ∧ t + 10 * (l + 1) < TMAX ∧ TxtsAt H wd ws ∧ 2 ≤ ws.length ∧ ws.length ≤ 60 ∧ PT H l v d ∧
  ∀ (m : Bool) (v' : V) (d' : Dt) (H' : Hp), DX (np p w) H' m v' d' (30 + 3 * l) (CC l + 60) → d'.oc ≤ 1 → PenAt H' p w (t + 10 * (l + 1)) → Sm p w H H' → Q v' H'
set_option maxHeartbeats 2000000 in
theorem ok_law_tbent (T : Txt K mg) : ∀ n : Nat, FnK P w K mg base (3 + n) "_law_tbent" ["pen", "thing", "words"] (spBent n) := by
  intro n
  induction n with
  | zero =>
    refine T.t_law_tbent.okS (k := 2) sc_law_tbent (fun vs H Q E h => ?_) (fun f cdv A outer s H vs Q E hr h => ?_)
    · obtain ⟨p, w', wd, l, t, ws, v, d, rfl, _⟩ := h
      rfl
    · obtain ⟨p, w', wd, l, t, ws, v, d, rfl, hn, _⟩ := h
      exact absurd hn (Nat.not_lt_zero _)
  | succ n ih =>
    have F_law_tbent : FnK P w K mg base (3 + n) "_law_tbent" ["pen", "thing", "words"] (spBent n) := ih
    have F_law_tdraw : FnK P w K mg base 1 "_law_tdraw" ["pen", "many"] spDraw := ok_law_tdraw T
    have F_law_todd : FnK P w K mg base 2 "_law_todd" ["pen", "thing", "words"] spOdd := ok_law_todd T
    refine T.t_law_tbent.okS (k := 3 + n) sc_law_tbent (fun vs H Q E h => ?_) (fun f cdv A outer s H vs Q E hr h => ?_)
    · obtain ⟨p, w', wd, l, t, ws, v, d, rfl, _⟩ := h
      rfl
    · obtain ⟨p, w', wd, l, t, ws, v, d, rfl, hn, h5, hp, ht, hw, h2, h60, pt, k⟩ := h
      have hu0 := Nat.lt_of_succ_lt (hu_of hr)
      have hsz : sizeLine = 16777216 := sizeLine_eq
      have htm : TMAX = 1000000000000 := rfl
      refine ⟨_, (sb_cons (s_if (w_or (y_not (y_val (z_callB call_isiD (by rfl) T.n_isinstance PyProof.Rows.boot_isinstance (sa_Name (zv 1) (sa_Name (z_bltn (v := .ty "tuple") (by rfl) T.n_tuple PyProof.Rows.boot_tuple rfl) sa_nil))))) (w_or (y_cmpR op_ltD (z_callB (call_lenK K) (by rfl) T.n_len PySem.boot_len (sa_Name (zv 1) sa_nil)) z_int (nomark _)) (w_or1 (y_cmpR (op_eqD hu0) (z_fn F_law_tdraw (hr.mono (by omega)) (sa_Name (zv 0) (sa_Constant z_int sa_nil))) z_int (nomark _))))).pt (sb_one (s_ret (z_fn F_law_todd (hr.mono (by omega)) (sa_Name (zv 0) (sa_Name (zv 1) (sa_Name (zv 2) sa_nil)))))) sb_nil)
      (sb_cons (s_if (y_cmpR (op_eqD hu0) (z_ix (ix_K K) (zv 1) z_int (fun _ _ => rfl)) z_str (nomark _)) (sb_one (s_ret (z_tup (sa_Constant z_str (sa_Subscript (z_ix (ix_K K) (zv 1) z_int (fun _ _ => rfl)) (sa_Call (z_fn F_law_tbent (hr.mono (by omega)) (sa_Name (zv 0) (sa_Subscript (z_ix (ix_K K) (zv 1) z_int (fun _ _ => rfl)) (sa_Name (zv 2) sa_nil)))) sa_nil)))))) sb_nil)
      (sb_cons (s_if (y_cmpR (op_eqD hu0) (z_callB (call_lenK K) (by rfl) T.n_len PySem.boot_len (sa_Subscript (z_ix (ix_K K) (zv 1) z_int (fun _ _ => rfl)) sa_nil)) z_int (nomark _)) (sb_one (s_ret (z_fn F_law_todd (hr.mono (by omega)) (sa_Name (zv 0) (sa_Name (zv 1) (sa_Name (zv 2) sa_nil)))))) sb_nil)
      (sb_cons (s_set (i := 3) sc_law_tbent.nd rfl (Or.inl rfl) (z_fn F_law_tdraw (hr.mono (by omega)) (sa_Name (zv 0) (sa_Call (z_callB (call_lenK K) (by rfl) T.n_len PySem.boot_len (sa_Subscript (z_ix (ix_K K) (zv 1) z_int (fun _ _ => rfl)) sa_nil)) sa_nil))))
      (sb_cons (s_set (i := 4) sc_law_tbent.nd rfl (Or.inl rfl) (z_tup (sa_Subscript (z_ix (ix_K K) (z_ix (ix_K K) (z_ix (ix_K K) (zv 1) z_int (fun _ _ => rfl)) (zv 3) (fun _ _ => rfl)) z_int (fun _ _ => rfl)) (sa_Call (z_fn F_law_tbent (hr.mono (by omega)) (sa_Name (zv 0) (sa_Subscript (z_ix (ix_K K) (z_ix (ix_K K) (z_ix (ix_K K) (zv 1) z_int (fun _ _ => rfl)) (zv 3) (fun _ _ => rfl)) z_int (fun _ _ => rfl)) (sa_Name (zv 2) sa_nil)))) sa_nil))))
      (sb_one (s_ret (z_tup (sa_Constant z_str (sa_BinOp (z_op (op_catA K) (z_op (op_catA K) (z_slice (sl_K K) (z_ix (ix_K K) (zv 1) z_int (fun _ _ => rfl)) zo_none (zo_some (zv 3))) (z_tup (sa_Name (zv 4) sa_nil))) (z_slice (sl_K K) (z_ix (ix_K K) (zv 1) z_int (fun _ _ => rfl)) (zo_some (z_op op_addD (zv 3) z_int)) zo_none)) sa_nil)))))))))), ?_⟩
      have shape : ∃ a x0 x1 xr, v = .ref a ∧ H a = some (.tup (x0 :: x1 :: xr)) := by
        cases l with
        | zero => obtain ⟨a, c, rfl, h1, _⟩ := pt; exact ⟨a, _, _, _, rfl, h1⟩
        | succ l => rcases pt with ⟨a, c, rfl, h1, _⟩ | ⟨a, z, u, du, rfl, h1, _⟩ | ⟨a, c, xs, qs, rfl, h1, _⟩ <;> exact ⟨a, _, _, _, rfl, h1⟩
      obtain ⟨a, x0, x1, xr, rfl, ea⟩ := shape
      have odd : ∀ (H1 : Hp) (t1 : Nat) (E' : XK), PenAt H1 p w' t1 → t1 + 1 ≤ t + 10 * (l + 1) → Sm p w' H H1 → PT H1 l (.ref a) d → spOdd [.ref p, .ref a, .ref wd] H1 Q E' := fun H1 t1 E' hp1 ht1 sm1 pt1 =>
        ⟨p, w', wd, t1, _, _, ws, .ref a, d, rfl, hp1, by omega, hw.sm hp sm1, h2, h60, (PT.px pt1).1, by omega, fun m v' d' H' hx ho hp' sm' => k m v' d' H' (hx.mono (by omega) (Nat.le_refl _)) ho (hp'.mono ht1) (sm1.trans sm')⟩
      refine tSeq_by (fun σ' H' => σ' = [some (.ref p), some (.ref a), some (.ref wd), none, none] ∧ PenAt H' p w' (t + 1) ∧ Sm p w' H H') (fun nx hnx => ?_) ?_
      · refine ⟨by decide, "tuple", by simp [tyName, ea], _, rfl, iteF ?_⟩
        refine .inl ⟨_, .inr (SqT.of ea), ⟨_, rfl, iteB (fun c => ?_) (fun c => ?_)⟩⟩
        · exfalso
          have c' : ((xr.length : Int) + 1 + 1) < 2 := by simpa using c
          omega
        · refine ⟨p, w', 3, t, rfl, hp, ⟨by decide, by decide⟩, by omega, fun r H1 r0 r1 hp1 sm1 => ⟨rfl, _, rfl, iteB (fun _ => ?_) (fun _ => hnx _ _ ⟨rfl, hp1, sm1⟩)⟩⟩
          exact odd H1 (t + 1) E hp1 (by omega) sm1 (PT.tk (hp.ts sm1) pt)
      rintro σ' H1 ⟨rfl, hp1, sm1⟩
      have pt1 := PT.tk (hp.ts sm1) pt
      clear ea
      have shp : (∃ (l' : Nat) (z : Str) (u : V) (du : Dt), l = l' + 1 ∧ H1 a = some (.tup [.str "pick", .str z, u]) ∧ d = .tup [.str "pick", .str z, du] ∧ Wd z ∧ PT H1 l' u du) ∨
          ∃ (c : Addr) (xs : List V) (qs : List Dt), H1 a = some (.tup [.str "box", .ref c]) ∧ H1 c = some (.tup xs) ∧ d = .tup [.str "box", .tup qs] ∧ xs.length ≤ 4 ∧ (xs = [] ∨ ∃ l', l = l' + 1 ∧ PTR (PT H1 l') H1 xs qs) := by
        cases l with
        | zero => obtain ⟨a', c, ea, h1, h2', rfl⟩ := pt1; cases ea; exact .inr ⟨c, [], [], h1, h2', rfl, by simp, .inl rfl⟩
        | succ l' =>
          rcases pt1 with ⟨a', c, ea, h1, h2', rfl⟩ | ⟨a', z, u, du, ea, h1, rfl, h3, h4, h5'⟩ | ⟨a', c, xs, qs, ea, h1, h2', rfl, h3, h4, h5'⟩
          · cases ea; exact .inr ⟨c, [], [], h1, h2', rfl, by simp, .inl rfl⟩
          · cases ea; exact .inl ⟨l', z, u, du, rfl, h1, rfl, h3, h5'⟩
          · cases ea; exact .inr ⟨c, xs, qs, h1, h2', rfl, h3, .inr ⟨l', rfl, h5'⟩⟩
      rcases shp with ⟨l', z, u, du, rfl, e, rfl, wz, ptu⟩ | ⟨c, xs, qs, e, ec, rfl, hx4, hor⟩
      · refine tSeq_by (fun _ _ => False) (fun nx hnx => ?_) (fun _ _ h => h.elim)
        refine ⟨_, .str "pick", .inr (SqT.of e), atI_zero _ _, rfl, _, rfl, iteB (fun _ => ?_) (fun c => absurd c (by decide +kernel))⟩
        refine ⟨_, .str z, .inr (SqT.of e), rfl, _, u, .inr (SqT.of e), rfl, p, w', wd, l', t + 1, ws, u, du, rfl, by omega, by omega, hp1, by omega, hw.sm hp sm1, h2, h60, ptu, fun m v' d' H3 hx ho hp3 sm3 => ⟨(show 3 ≤ sizeLine by decide), fun pr hpr => ?_⟩⟩
        have s4 := Same.upd hpr (.tup [.str "pick", .str z, v'])
        have dx := DX.tup (P := np p w') (m := m) (k := 30 + 3 * l') ⟨hp3.ne1 hpr, hp3.ne2 hpr⟩ (upd_same : upd H3 pr (.tup [.str "pick", .str z, v']) pr = _) (by simp) (.cons (DX.str (wd_ascii (by decide) (by decide))) (.cons (DX.str wz) (.cons (hx.same s4) .nil)))
        exact k m _ _ _ (dx.mono (by omega) (by simp only [CC]; omega)) (by simp only [Dt.oc, ocs]; omega) ((hp3.same s4).mono (by omega)) ((sm1.trans sm3).trans s4.sm)
      · refine tSeq_by (fun σ' H' => σ' = [some (.ref p), some (.ref a), some (.ref wd), none, none] ∧ H1 = H') (fun nx hnx => ?_) ?_
        · exact ⟨_, .str "box", .inr (SqT.of e), atI_zero _ _, rfl, _, rfl, iteB (fun c => absurd c (by decide +kernel)) (fun _ => hnx _ _ ⟨rfl, rfl⟩)⟩
        rintro σ' _ ⟨rfl, rfl⟩
        refine tSeq_by (fun σ' H' => σ' = [some (.ref p), some (.ref a), some (.ref wd), none, none] ∧ H1 = H' ∧ xs ≠ []) (fun nx hnx => ?_) ?_
        · refine ⟨_, .ref c, .inr (SqT.of e), rfl, .inl ⟨_, .inr (SqT.of ec), rfl, _, rfl, iteB (fun _ => odd H1 (t + 1) E hp1 (by omega) sm1 pt1) (fun c0 => hnx _ _ ⟨rfl, rfl, fun z => ?_⟩)⟩⟩
          subst z
          exact absurd c0 (by decide)
        rintro σ' _ ⟨rfl, rfl, hne⟩
        obtain ⟨l', rfl, ptr⟩ := hor.resolve_left hne
        have hpos : 0 < xs.length := List.length_pos_iff.mpr hne
        have hql := ptr.1
        refine tSeq_set ⟨_, .ref c, .inr (SqT.of e), rfl, .inl ⟨_, .inr (SqT.of ec), p, w', _, t + 1, rfl, hp1, ⟨by omega, by omega⟩, by omega, fun r H2 r0 r1 hp2 sm2 => ?_⟩⟩
        obtain ⟨i, rfl⟩ : ∃ i : Nat, r = (i : Int) := ⟨r.toNat, by omega⟩
        have hi : i < xs.length := by omega
        have tk2 := hp1.ts sm2
        have e2 := tk2 _ _ e
        have ec2 := tk2 _ _ ec
        obtain ⟨b, z, u, du, w1, w2, w3, w4, w5, w6⟩ := ptr.2 i hi (by omega)
        have hat : atI xs (i : Int) = some (.ref b) := atI_nat (by rw [List.getElem?_eq_getElem hi, w1])
        refine tSeq_set ⟨_, .ref c, .inr (SqT.of e2), rfl, _, .ref b, .inr (SqT.of ec2), hat, _, .str z, .inr (SqT.of (tk2 _ _ w2)), atI_zero _ _, ?_⟩
        refine ⟨_, .ref c, .inr (SqT.of e2), rfl, _, .ref b, .inr (SqT.of ec2), hat, _, u, .inr (SqT.of (tk2 _ _ w2)), rfl, ?_⟩
        refine ⟨p, w', wd, l', t + 2, ws, u, du, rfl, by omega, by omega, hp2, by omega, hw.sm hp (sm1.trans sm2), h2, h60, PT.tk tk2 w6, fun m v' d' H3 hx ho hp3 sm3 => ⟨(show 2 ≤ sizeLine by decide), fun pr hpr => ?_⟩⟩
        have s4 := Same.upd hpr (.tup [.str z, v'])
        have g4 : upd H3 pr (.tup [.str z, v']) pr = some (.tup [.str z, v']) := upd_same
        have hx4' := hx.same s4
        have hp4 := hp3.same s4
        have tk4 := (hp2.ts sm3).trans s4.ts
        have sm4 := sm3.trans s4.sm (p := p) (w := w')
        have npr : np p w' pr := ⟨hp3.ne1 hpr, hp3.ne2 hpr⟩
        dsimp only
        generalize upd H3 pr (.tup [.str z, v']) = H4 at s4 g4 hx4' hp4 tk4 sm4
        have e4 := tk4 _ _ e2
        have ec4 := tk4 _ _ ec2
        have ptr4 := (ptr.tk tk2 fun _ _ h => PT.tk tk2 h).tk tk4 fun _ _ h => PT.tk tk4 h
        have hPt4 : ∀ a ys, H4 a = some (.tup ys) → np p w' a := fun a ys e => pen_np hp4 e
        have FIN : ∀ (H5 : Hp) (r' : Addr), Same H4 H5 → H5 r' = some (.tup (xs.take i ++ [.ref pr] ++ xs.drop (i + 1))) → ∀ fa, H5 fa = none → Q (.ref fa) (upd H5 fa (.tup [.str "box", .ref r'])) := by
          intro H5 r' s5 er fa hfa
          have s6 := Same.upd hfa (.tup [.str "box", .ref r'])
          have gfa : upd H5 fa (.tup [.str "box", .ref r']) fa = some (.tup [.str "box", .ref r']) := upd_same
          have hp6 := (hp4.same s5).same s6
          have nfa : np p w' fa := ⟨(hp4.same s5).ne1 hfa, (hp4.same s5).ne2 hfa⟩
          have er6 := s6 _ _ er
          generalize upd H5 fa (.tup [.str "box", .ref r']) = H6 at s6 gfa hp6 er6
          have s46 := s5.trans s6
          have ptr6 := ptr4.tk s46.ts fun _ _ h => PT.tk s46.ts h
          have hP6 : ∀ a ys, H6 a = some (.tup ys) → np p w' a := fun a ys e => pen_np hp6 e
          obtain ⟨⟨cs1, a1, a2⟩, _, _, _⟩ := PTR.facts (fun v d h => PT.px h) (ptr6.take i)
          obtain ⟨⟨cs3, b1, b2⟩, _, _, _⟩ := PTR.facts (fun v d h => PT.px h) (ptr6.drop (i + 1))
          obtain ⟨a1', a3⟩ := pxs_dxs a1 (P := np p w') (m := m) (k' := 31 + 3 * l') hP6 (by omega)
          obtain ⟨b1', b3⟩ := pxs_dxs b1 (P := np p w') (m := m) (k' := 31 + 3 * l') hP6 (by omega)
          have pdx := DX.tup (P := np p w') (m := m) (k := 30 + 3 * l') npr (s46 _ _ g4) (by simp) (.cons (DX.str w4) (.cons (hx4'.same s46) .nil))
          have pdx' : DX (np p w') H6 m (.ref pr) (.tup [.str z, d']) (31 + 3 * l') (CC l' + 62) := pdx.mono (by omega) (by omega)
          have all := dxs_append (dxs_append a1' (.cons pdx' .nil)) b1'
          have d1 := DX.tup (hP6 _ _ er6) er6 (by simp; omega) all
          have d2 := DX.tup (k := 32 + 3 * l') nfa gfa (by simp) (.cons (DX.str (wd_ascii (by decide) (by decide))) (.cons (d1.mono (by omega) (Nat.le_refl _)) .nil))
          have c1 : (xs.take i).length * (CC l' + 2) + (xs.drop (i + 1)).length * (CC l' + 2) ≤ 3 * (CC l' + 2) := by
            rw [← Nat.add_mul]
            refine Nat.mul_le_mul_right _ ?_
            simp; omega
          refine k m _ _ H6 (d2.mono (by omega) (by simp only [CC]; omega)) ?_ (hp6.mono (by omega)) (((sm1.trans sm2).trans sm4).trans s46.sm)
          simp only [Dt.oc, ocs, ocs_append]
          omega
        refine ⟨_, .ref c, .inr (SqT.of e4), rfl, (i : Int), rfl, ?_⟩
        refine Or.inr ?_
        refine Or.inr ?_
        have esi : HT.sIx xs.length xs.length (some (i : Int)) = i := by
          simp only [HT.sIx]
          rw [if_neg (by omega)]
          omega
        refine ⟨c, xs, rfl, SqT.of ec4, fun h => by rw [esi] at h; omega, fun q1 hq1 => ?_⟩
        have ecut : cutV xs none (some (i : Int)) = xs.take i := by
          unfold cutV
          rw [esi, HT.sIx_none]; simp
        rw [ecut]
        have t1 := Same.upd hq1 (.tup (xs.take i))
        have f1 : upd H4 q1 (.tup (xs.take i)) q1 = some (.tup (xs.take i)) := upd_same
        generalize upd H4 q1 (.tup (xs.take i)) = G1 at t1 f1
        refine ⟨(show 1 ≤ sizeLine by decide), fun q2 hq2 => ?_⟩
        have t2 := Same.upd hq2 (.tup [.ref pr])
        have f2 : upd G1 q2 (.tup [.ref pr]) q2 = some (.tup [.ref pr]) := upd_same
        generalize upd G1 q2 (.tup [.ref pr]) = G2 at t2 f2
        have t12 := t1.trans t2
        have REST : ∀ (G : Hp) (r' : Addr), Same H4 G → G r' = some (.tup (xs.take i ++ [.ref pr])) → tSl (fun x lo hi H Q => rSlS x lo hi H Q ∨ rSlL K x lo hi H Q ∨ rSlT K x lo hi H Q) (tOp (rIxD K) (tV 1) (tC (V.int 1))) (tPart (tOp rAddD (tV 3) (tC (V.int 1)))) tNoPart [some (.ref p), some (.ref a), some (.ref wd), some (.int (i : Int)), some (.ref pr)] G (fun y H2 => rCatA K (.ref r') y H2 fun v H3 => tNil [some (.ref p), some (.ref a), some (.ref wd), some (.int (i : Int)), some (.ref pr)] H3 fun vs H4 => ((V.str "box") :: v :: vs).length ≤ sizeLine ∧ ∀ fa, H4 fa = none → Q (.ref fa) (upd H4 fa (.tup ((V.str "box") :: v :: vs)))) := by
          intro G r' sG er
          refine ⟨_, .ref c, .inr (SqT.of (sG _ _ e4)), rfl, (i : Int) + 1, rfl, ?_⟩
          refine Or.inr ?_
          refine Or.inr ?_
          have es : HT.sIx xs.length 0 (some ((i : Int) + 1)) = i + 1 := by
            simp only [HT.sIx]
            rw [if_neg (by omega)]
            omega
          refine ⟨c, xs, rfl, SqT.of (sG _ _ ec4), fun h => by rw [es] at h; omega, fun q3 hq3 => ?_⟩
          have ecut2 : cutV xs (some ((i : Int) + 1)) none = xs.drop (i + 1) := by
            unfold cutV
            rw [es, HT.sIx_none]
            rw [List.take_of_length_le (by simp)]
          rw [ecut2]
          have t3 := Same.upd hq3 (.tup (xs.drop (i + 1)))
          have f3 : upd G q3 (.tup (xs.drop (i + 1))) q3 = some (.tup (xs.drop (i + 1))) := upd_same
          generalize upd G q3 (.tup (xs.drop (i + 1))) = G3 at t3 f3
          refine ⟨r', q3, _, _, rfl, rfl, SqT.of (t3 _ _ er), SqT.of f3, by simp; omega, fun h => absurd h (by simp), fun _ h => ?_, fun _ _ q4 hq4 => ?_⟩
          · refine ⟨(show 2 ≤ sizeLine by decide), fun fa hfa => FIN G3 r' (sG.trans t3) ?_ fa hfa⟩
            rw [h, List.append_nil]; exact t3 _ _ er
          · refine ⟨(show 2 ≤ sizeLine by decide), fun fa hfa => FIN _ q4 ((sG.trans t3).trans (Same.upd hq4 _)) upd_same fa hfa⟩
        refine ⟨q1, q2, _, _, rfl, rfl, SqT.of (t2 _ _ f1), SqT.of f2, by simp; omega, fun h => ?_, fun _ h => absurd h (by simp), fun _ _ q3 hq3 => ?_⟩
        · exact REST G2 q2 t12 (by rw [h]; exact f2)
        · exact REST _ q3 (t12.trans (Same.upd hq3 _)) upd_same
def Dq (d : Dt) (b : Bool) (n : Nat) : Prop := thD d = b ∧ (∀ k, Ch k d) ∧ wD d ≤ n
theorem ch_not {d : Dt} (h : kidsD d = []) : ∀ k, Ch k d
  | 0 => trivial
  | k + 1 => ⟨by rw [h]; simp, fun x hx => by rw [h] at hx; cases hx⟩
theorem dq_not {d : Dt} (h : formD d = false) : Dq d false 1 := ⟨th_not h, ch_not (kids_not h), by rw [wD_eq, kids_not h]; simp⟩
theorem dq_bare : Dq (.tup [.str "box", .tup []]) true 1 := by
  have hf : formD (.tup [.str "box", .tup []]) = true := by decide +kernel
  have hk : kidsD (.tup [.str "box", .tup []]) = [] := by rw [kids_form hf]; rfl
  exact ⟨th_empty, ch_not hk, by rw [wD_eq, hk]; simp⟩
theorem ch_one {d x : Dt} (h : kidsD d = [x]) (hx : ∀ k, Ch k x) : ∀ k, Ch k d
  | 0 => trivial
  | k + 1 => ⟨by rw [h]; simp, fun y hy => by rw [h, List.mem_singleton] at hy; rw [hy]; exact hx k⟩
theorem dq_pick {d : Dt} {z : Str} {b : Bool} {n : Nat} (h : Dq d b n) (hz : isName z = true) : Dq (.tup [.str "pick", .str z, d]) b (n + 1) := by
  have hf : formD (.tup [.str "pick", .str z, d]) = true := by
    show (("pick" : Str) == "pick" && isName z) = true
    rw [hz]; simp
  have hk : kidsD (.tup [.str "pick", .str z, d]) = [d] := by rw [kids_form hf]; rfl
  refine ⟨by rw [th_pick, show nameD (.str z) = true from hz, h.1]; rfl, ch_one hk h.2.1, by rw [wD_eq, hk]; have := h.2.2; simp; omega⟩
theorem dq_box {d : Dt} {z : Str} {b : Bool} {n : Nat} (h : Dq d b n) (hz : isName z = true) : Dq (.tup [.str "box", .tup [.tup [.str z, d]]]) b (n + 1) := by
  have hf : formD (.tup [.str "box", .tup [.tup [.str z, d]]]) = true := by
    show (("box" : Str) == "box" && (true && ((isName z && true) && true))) = true
    rw [hz]; simp
  have hk : kidsD (.tup [.str "box", .tup [.tup [.str z, d]]]) = [d] := by rw [kids_form hf]; rfl
  refine ⟨?_, ch_one hk h.2.1, by rw [wD_eq, hk]; have := h.2.2; simp; omega⟩
  rw [thD_eq, hf, hk, Bool.true_and, List.all_cons, h.1]; simp
def spDeep : Sp := fun vs H Q _ => ∃ (wy wd : Addr) (ns : List Int) (ws : List Str) (x : V) (d : Dt) (b : Bool), vs = [.ref wy, .ref wd, x] ∧ H wy = some (.lst (ns.map V.int)) ∧ (∀ n ∈ ns, 0 ≤ n ∧ n < 8) ∧ ns.length ≤ 1000 ∧ TxtsAt H wd ws ∧ ws.length = 4 ∧ (∀ z ∈ ws, isName z = true) ∧ DD H x d ∧ Dq d b 1 ∧
  ∀ (x' : V) (d' : Dt) (H' : Hp), Same H H' → DD H' x' d' → Dq d' b 2000 → Q x' H'
theorem wd_len {z : Str} (h : Wd z) : z.length ≤ 100000 := by have := h.1; omega
theorem ok_law_tdeep (T : Txt K mg) : FnK P w K mg base 1 "_law_tdeep" ["ways", "words", "inner"] spDeep := by
  refine T.t_law_tdeep.okS sc_law_tdeep (fun vs H Q E h => ?_) (fun f cdv A outer s H vs Q E hr h => ?_)
  · obtain ⟨wy, wd, ns, ws, x, d, b, rfl, _⟩ := h
    rfl
  · obtain ⟨wy, wd, ns, ws, x, d, b, rfl, gy, hns, hnl, hw, h4, hnm, hd, hq, k⟩ := h
    have hu0 := Nat.lt_of_succ_lt (hu_of hr)
    have hsz : sizeLine = 16777216 := sizeLine_eq
    refine ⟨_, (sb_cons (s_for PassesOwn.never rfl (i_K K (zv 0)) (g_name (i := 3) sc_law_tdeep.nd rfl (Or.inl rfl)) (sb_one (s_set (i := 2) sc_law_tdeep.nd rfl (Or.inl rfl) (z_ix (ix_K K) (z_lst (sa_Tuple (z_tup (sa_Constant z_str (sa_Subscript (z_ix (ix_K K) (zv 1) (z_op op_divD (zv 3) z_int) (fun _ _ => rfl)) (sa_Name (zv 2) sa_nil)))) (sa_Tuple (z_tup (sa_Constant z_str (sa_Tuple (z_tup (sa_Tuple (z_tup (sa_Subscript (z_ix (ix_K K) (zv 1) (z_op op_divD (zv 3) z_int) (fun _ _ => rfl)) (sa_Name (zv 2) sa_nil))) sa_nil)) sa_nil))) sa_nil))) (z_op op_modD (zv 3) z_int) (fun _ _ => rfl)))))
      (sb_one (s_ret (zv 2)))), ?_⟩
    refine tSeq_by (fun σ' H' => ∃ x' d' v3, σ' = [some (.ref wy), some (.ref wd), some x', v3] ∧ Same H H' ∧ DD H' x' d' ∧ Dq d' b 2000) ?_ (by rintro σ' H' ⟨x', d', v3, e, s, h1, h2⟩; (subst e; exact k x' d' H' s h1 h2))
    intro nx hnx
    refine Or.inl ⟨⟨_, SqL.of gy⟩, ?_⟩
    refine for_by (itn_list (ns.map V.int)) (fun i σ' H' => ∃ x' d' v3, σ' = [some (.ref wy), some (.ref wd), some x', v3] ∧ Same H H' ∧ DD H' x' d' ∧ Dq d' b (1 + i)) ⟨x, d, none, rfl, Same.refl H, hd, hq⟩ (by rintro i τ H' _ ⟨_, _, _, _, s, _⟩; exact SqL.of (s _ _ gy)) ?_ ?_
    · rintro i σ' H1 hi ⟨x', d', v3, rfl, s1, hd1, hq1⟩
      have hi' : i < ns.length := by simpa using hi
      have eg : (ns.map V.int).getD i .non = .int ns[i] := by simp [List.getD_eq_getElem?_getD, hi']
      rw [eg]
      obtain ⟨n0, n8⟩ := hns _ (List.getElem_mem hi')
      generalize ns[i] = n at n0 n8
      have hw1 := hw.same s1
      obtain ⟨z, z1, z2, z3⟩ := hw1.at (n / 2) (by omega) (by omega)
      have hz := hnm z (List.mem_of_getElem? z2)
      refine ⟨⟨by decide, by decide⟩, _, _, .inl (SqL.of hw1.e), z1, (show 3 ≤ sizeLine by decide), fun a1 ha1 => ?_⟩
      have t1 := Same.upd ha1 (.tup [.str "pick", .str z, x'])
      have f1 : upd H1 a1 (.tup [.str "pick", .str z, x']) a1 = some (.tup [.str "pick", .str z, x']) := upd_same
      generalize upd H1 a1 (.tup [.str "pick", .str z, x']) = G1 at t1 f1
      refine ⟨⟨by decide, by decide⟩, _, _, .inl (SqL.of (hw1.same t1).e), z1, (show 2 ≤ sizeLine by decide), fun a2 ha2 => ?_⟩
      have t2 := Same.upd ha2 (.tup [.str z, x'])
      have f2 : upd G1 a2 (.tup [.str z, x']) a2 = some (.tup [.str z, x']) := upd_same
      generalize upd G1 a2 (.tup [.str z, x']) = G2 at t2 f2
      refine ⟨(show 1 ≤ sizeLine by decide), fun a3 ha3 => ⟨(show 2 ≤ sizeLine by decide), fun a4 ha4 => ⟨(show 2 ≤ sizeLine by decide), fun L hL => ?_⟩⟩⟩
      have t3 := Same.upd ha3 (.tup [.ref a2])
      have f3 : upd G2 a3 (.tup [.ref a2]) a3 = some (.tup [.ref a2]) := upd_same
      generalize upd G2 a3 (.tup [.ref a2]) = G3 at t3 f3 ha4 hL
      have t4 := Same.upd ha4 (.tup [.str "box", .ref a3])
      have f4 : upd G3 a4 (.tup [.str "box", .ref a3]) a4 = some (.tup [.str "box", .ref a3]) := upd_same
      generalize upd G3 a4 (.tup [.str "box", .ref a3]) = G4 at t4 f4 hL
      have t5 := Same.upd hL (.lst [.ref a1, .ref a4])
      have f5 : upd G4 L (.lst [.ref a1, .ref a4]) L = some (.lst [.ref a1, .ref a4]) := upd_same
      generalize upd G4 L (.lst [.ref a1, .ref a4]) = G5 at t5 f5
      have tt := t1.trans (t2.trans (t3.trans (t4.trans t5)))
      have hz5 : DD G5 (.str z) (.str z) := .str (wd_len z3)
      have hx5 := hd1.same tt
      have dp : DD G5 (.ref a1) (.tup [.str "pick", .str z, d']) := .tup ((t2.trans (t3.trans (t4.trans t5))) _ _ f1) rfl (by simp) fun i h h' => by
        match i, h with
        | 0, _ => exact .str (by decide)
        | 1, _ => exact hz5
        | 2, _ => exact hx5
      have dpr := DD.tup2 ((t3.trans (t4.trans t5)) _ _ f2) hz5 hx5
      have db : DD G5 (.ref a4) (.tup [.str "box", .tup [.tup [.str z, d']]]) := DD.tup2 (t5 _ _ f4) (.str (by decide)) (DD.tup1 ((t4.trans t5) _ _ f3) dpr)
      refine ⟨by decide, ?_⟩
      rcases (show n % 2 = 0 ∨ n % 2 = 1 by omega) with h | h
      · rw [h]
        exact ⟨_, .ref a1, .inl (SqL.of f5), rfl, _, _, _, rfl, s1.trans tt, dp, by rw [← Nat.add_assoc]; exact dq_pick hq1 hz⟩
      · rw [h]
        exact ⟨_, .ref a4, .inl (SqL.of f5), rfl, _, _, _, rfl, s1.trans tt, db, by rw [← Nat.add_assoc]; exact dq_box hq1 hz⟩
    · rintro σ' H1 ⟨x', d', v3, rfl, s1, hd1, hq1⟩
      exact hnx _ _ ⟨x', d', v3, rfl, s1, hd1, hq1.1, hq1.2.1, by have := hq1.2.2; simp at this; omega⟩
section
variable {Pp : Addr → Prop} {H : Hp} {a : Addr} {x y : V} {p q : PyData} {d e : Dt}
theorem da_t0 (hP : Pp a) (h : H a = some (.tup [])) : DA Pp H true (.ref a) (.tuple []) (.tup []) := .tup hP h rfl rfl (by simp) fun i h => absurd h (by simp)
theorem da_t1 (hP : Pp a) (h : H a = some (.tup [x])) (h1 : DA Pp H true x p d) : DA Pp H true (.ref a) (.tuple [p]) (.tup [d]) := .tup hP h rfl rfl (by simp) fun i h _ _ => by
  match i, h with
  | 0, _ => exact h1
theorem da_t2 (hP : Pp a) (h : H a = some (.tup [x, y])) (h1 : DA Pp H true x p d) (h2 : DA Pp H true y q e) : DA Pp H true (.ref a) (.tuple [p, q]) (.tup [d, e]) := .tup hP h rfl rfl (by simp) fun i h _ _ => by
  match i, h with
  | 0, _ => exact h1
  | 1, _ => exact h2
theorem da_l0 (hP : Pp a) (h : H a = some (.lst [])) : DA Pp H true (.ref a) (.list []) .oth := .lst (ds := []) hP h rfl rfl fun i h => absurd h (by simp)
theorem da_l2 (hP : Pp a) (h : H a = some (.lst [x, y])) (h1 : DA Pp H true x p d) (h2 : DA Pp H true y q e) : DA Pp H true (.ref a) (.list [p, q]) .oth := .lst (ds := [d, e]) hP h rfl rfl fun i h _ _ => by
  match i, h with
  | 0, _ => exact h1
  | 1, _ => exact h2
end
def OD (Pp : Addr → Prop) (H : Hp) (x : V) : Prop := ∃ pd d, DA Pp H true x pd d ∧ formD d = false
theorem atI_lastV {α : Type} (ys : List α) (y : α) : atI (ys ++ [y]) (-1) = some y := by
  unfold atI ixN
  rw [if_neg (by decide), if_pos (by simp; omega)]
  have : (-1 + ((ys ++ [y]).length : Int)).toNat = ys.length := by simp; omega
  show (ys ++ [y])[(-1 + ((ys ++ [y]).length : Int)).toNat]? = some y
  rw [this]; simp
def spDR : Sp := fun vs H Q _ => ∃ (p w wd : Addr) (t : Nat) (ws : List Str), vs = [.ref p, .ref wd] ∧ PenAt H p w t ∧ t + 200 < TMAX ∧ TxtsAt H wd ws ∧ ws.length = 4 ∧ (∀ z ∈ ws, isName z = true) ∧ ∀ H', PenAt H' p w (t + 200) → Sm p w H H' → Q (.bl true) H'
theorem ok_law_tdeep_right (T : Txt K mg) : FnK P w K mg base 5 "_law_tdeep_right" ["pen", "words"] spDR := by
  have F_law_tdraw : FnK P w K mg base 1 "_law_tdraw" ["pen", "many"] spDraw := ok_law_tdraw T
  have F_law_tdeep : FnK P w K mg base 1 "_law_tdeep" ["ways", "words", "inner"] spDeep := ok_law_tdeep T
  have F_is_thing : FnK P w K mg base 4 "is_thing" ["thing"] spIsTh := ok_is_thing T
  refine T.t_law_tdeep_right.okS sc_law_tdeep_right (fun vs H Q E h => ?_) (fun f cdv A outer s H vs Q E hr h => ?_)
  · obtain ⟨p, w', wd, t, ws, rfl, _⟩ := h
    rfl
  · obtain ⟨p, w', wd, t, ws, rfl, hp, ht, hw, h4, hnm, k⟩ := h
    have hu0 := Nat.lt_of_succ_lt (hu_of hr)
    have hsz : sizeLine = 16777216 := sizeLine_eq
    have htm : TMAX = 1000000000000 := rfl
    refine ⟨_, (sb_cons (s_set (i := 2) sc_law_tdeep_right.nd rfl (Or.inl rfl) (z_op op_addD z_int (z_fn F_law_tdraw (hr.mono (by decide)) (sa_Name (zv 0) (sa_Constant z_int sa_nil)))))
      (sb_cons (s_set (i := 3) sc_law_tdeep_right.nd rfl (Or.inr rfl) (z_lst sa_nil))
      (sb_cons (s_while PassesOwn.never (y_cmpR op_gtD (zv 2) z_int (nomark _)) (sb_cons (s_expr (z_bm K PySem.F.plainAttrs_list PySem.F.slot_list_append PySem.F.type_list_append mt_append (zv 3) (sa_Call (z_fn F_law_tdraw (hr.mono (by decide)) (sa_Name (zv 0) (sa_Constant z_int sa_nil))) sa_nil)))
      (sb_one (s_set (i := 2) sc_law_tdeep_right.nd rfl (Or.inl rfl) (z_op op_subD (zv 2) (z_ix (ix_K K) (z_lst (sa_Constant z_int (sa_Constant z_int sa_nil))) (z_op op_modD (z_ix (ix_K K) (zv 3) (z_un un_neg z_int) (fun _ _ => rfl)) z_int) (fun _ _ => rfl)))))))
      (sb_cons (s_set (i := 4) sc_law_tdeep_right.nd rfl (Or.inl rfl) (z_ix (ix_K K) (z_lst (sa_Tuple (z_tup (sa_Constant z_str sa_nil)) (sa_Tuple (z_tup (sa_Constant z_str (sa_Subscript (z_ix (ix_K K) (zv 1) z_int (fun _ _ => rfl)) sa_nil))) (sa_Constant z_non (sa_List (z_lst (sa_Constant z_str (sa_Tuple (z_tup sa_nil) sa_nil))) (sa_Tuple (z_tup (sa_Constant z_str (sa_List (z_lst sa_nil) sa_nil))) (sa_Subscript (z_ix (ix_K K) (zv 1) z_int (fun _ _ => rfl)) (sa_Tuple (z_tup (sa_Constant z_str (sa_Tuple (z_tup sa_nil) sa_nil))) sa_nil)))))))) (z_fn F_law_tdraw (hr.mono (by decide)) (sa_Name (zv 0) (sa_Constant z_int sa_nil))) (fun _ _ => rfl)))
      (sb_cons (s_lc (i := 5) (own := ["one"]) (idx := [1, 3]) (N' := ["one", "words", "ways"]) (⟨rfl, by decide +kernel, by decide +kernel, (show ∀ y ∈ Scope.names _, y.2 = NameKind.free → ((defScope s_law_tdeep_right).names.lookup y.1 = some NameKind.cell ∨ (defScope s_law_tdeep_right).names.lookup y.1 = some NameKind.free) by decide +kernel), (show ∀ j ∈ ([1, 3] : List Nat), (Scope.names _).lookup ((["pen", "words", "left", "ways", "odd", "due"] : List Str).getD j "") = some NameKind.free ∧ j < (["pen", "words", "left", "ways", "odd", "due"] : List Str).length by decide +kernel), rfl⟩) rfl (i_K K (z_lst (sa_Tuple (z_tup (sa_Constant z_str (sa_Tuple (z_tup sa_nil) sa_nil))) (sa_Name (zv 4) sa_nil)))) (fun _ _ _ _ _ _ => (g_name (i := 0) (show List.Nodup (["one", "words", "ways"] : List Str) by decide +kernel) rfl (Or.inl rfl))) (fun _ _ _ _ _ _ => c_nil) (fun _ _ _ _ _ _ => (z_fn F_is_thing (hr.mono (by decide)) (sa_Call (z_fn F_law_tdeep (hr.mono (by decide)) (sa_Name (zv 2) (sa_Name (zv 1) (sa_Name (zv 0) sa_nil)))) sa_nil))) sc_law_tdeep_right.nd rfl rfl)
      (sb_one (s_ret (z_cmpR (op_eqD hu0) (z_callB (call_reprM hr.gd hr.units) (by rfl) T.n_repr PyProof.Rows.boot_repr (sa_Name (zv 5) sa_nil)) (z_callB (call_reprM hr.gd hr.units) (by rfl) T.n_repr PyProof.Rows.boot_repr (sa_List (z_lst (sa_Constant z_bl (sa_Constant z_bl sa_nil))) sa_nil)) (nomark _))))))))), ?_⟩
    refine tSeq_set ⟨p, w', 86, t, rfl, hp, ⟨by decide, by decide⟩, by omega, fun r H1 r0 r1 hp1 sm1 => ?_⟩
    refine tSeq_set ⟨(show 0 ≤ sizeLine by decide), fun Y hY => ?_⟩
    have sY := Same.upd hY (.lst [])
    have gY : upd H1 Y (.lst []) Y = some (.lst (([] : List Int).map V.int)) := upd_same
    have nY : np p w' Y := ⟨hp1.ne1 hY, hp1.ne2 hY⟩
    have fY : H Y = none := sm1.free hY nY.1 nY.2
    have hp2 := hp1.same sY
    have sm2 := sm1.trans sY.sm
    dsimp only
    generalize upd H1 Y (.lst []) = H2 at sY gY hp2 sm2
    refine tSeq_by (fun σ' H' => ∃ (lf : Int) (ns : List Int), σ' = [some (.ref p), some (.ref wd), some (.int lf), some (.ref Y), none, none] ∧ H' Y = some (.lst (ns.map V.int)) ∧ (∀ n ∈ ns, 0 ≤ n ∧ n < 8) ∧ ns.length ≤ 120 ∧ PenAt H' p w' (t + 130) ∧ Sm p w' H H') (fun nx hnx => ?_) ?_
    · refine ⟨fun m σ' H' => ∃ (lf : Int) (ns : List Int), m = lf.toNat ∧ σ' = [some (.ref p), some (.ref wd), some (.int lf), some (.ref Y), none, none] ∧ H' Y = some (.lst (ns.map V.int)) ∧ (∀ n ∈ ns, 0 ≤ n ∧ n < 8) ∧ lf + ns.length ≤ 100 ∧ -10 ≤ lf ∧ PenAt H' p w' (t + 1 + ns.length) ∧ Sm p w' H H', ⟨(9 + r).toNat, 9 + r, [], rfl, rfl, gY, (fun n hn => by cases hn), by simp; omega, by omega, hp2, sm2⟩, ?_⟩
      rintro m σ' H3 ⟨lf, ns, rfl, rfl, g3, hns, hsum, hlo, hp3, sm3⟩
      refine ⟨_, rfl, iteB (fun c => ?_) (fun c => ?_)⟩
      · have c' : lf > 2 := by simpa using c
        refine ⟨fun σ' H' => ∃ m', m' < lf.toNat ∧ ∃ (lf : Int) (ns : List Int), m' = lf.toNat ∧ σ' = [some (.ref p), some (.ref wd), some (.int lf), some (.ref Y), none, none] ∧ H' Y = some (.lst (ns.map V.int)) ∧ (∀ n ∈ ns, 0 ≤ n ∧ n < 8) ∧ lf + ns.length ≤ 100 ∧ -10 ≤ lf ∧ PenAt H' p w' (t + 1 + ns.length) ∧ Sm p w' H H', fun _ _ h => h, ?_⟩
        refine tSeq_by (fun σ' H' => ∃ n : Int, σ' = [some (.ref p), some (.ref wd), some (.int lf), some (.ref Y), none, none] ∧ 0 ≤ n ∧ n < 8 ∧ H' Y = some (.lst ((ns ++ [n]).map V.int)) ∧ PenAt H' p w' (t + 1 + ns.length + 1) ∧ Sm p w' H H') (fun nx2 hnx2 => ?_) ?_
        · refine ⟨.inl ⟨rfl, _, SqL.of g3⟩, p, w', 8, _, rfl, hp3, ⟨by decide, by decide⟩, by omega, fun n H4 n0 n1 hp4 sm4 => ?_⟩
          have g4 := sm4 _ _ g3 nY.1 nY.2
          exact ⟨Y, _, _, rfl, rfl, g4, by simp; omega, hnx2 _ _ ⟨n, rfl, n0, n1, by rw [upd_same, List.map_append]; rfl, hp4.upd nY.1 nY.2, (sm3.trans sm4).upd fY⟩⟩
        rintro σ' H4 ⟨n, rfl, n0, n1, g4, hp4, sm4⟩
        refine ⟨(show 2 ≤ sizeLine by decide), fun L hL => ?_⟩
        have sL := Same.upd hL (.lst [.int 1, .int 3])
        have gL : upd H4 L (.lst [.int 1, .int 3]) L = some (.lst [.int 1, .int 3]) := upd_same
        have g5 := sL _ _ g4
        have hp5 := hp4.same sL
        have sm5 := sm4.trans sL.sm
        generalize upd H4 L (.lst [.int 1, .int 3]) = H5 at sL gL g5 hp5 sm5
        refine ⟨1, rfl, _, .int n, .inl (SqL.of g5), by rw [List.map_append]; exact atI_lastV _ _, by decide, ?_⟩
        rcases (show n % 2 = 0 ∨ n % 2 = 1 by omega) with h | h
        · rw [h]
          exact ⟨_, .int 1, .inl (SqL.of gL), rfl, _, by omega, lf - 1, ns ++ [n], rfl, rfl, g5, (fun q hq => by rcases List.mem_append.mp hq with h | h; exact hns q h; rw [List.mem_singleton.mp h]; exact ⟨n0, n1⟩), by simp; omega, by omega, by simpa [Nat.add_assoc] using hp5, sm5⟩
        · rw [h]
          exact ⟨_, .int 3, .inl (SqL.of gL), rfl, _, by omega, lf - 3, ns ++ [n], rfl, rfl, g5, (fun q hq => by rcases List.mem_append.mp hq with h | h; exact hns q h; rw [List.mem_singleton.mp h]; exact ⟨n0, n1⟩), by simp; omega, by omega, by simpa [Nat.add_assoc] using hp5, sm5⟩
      · exact hnx _ _ ⟨lf, ns, rfl, g3, hns, by omega, hp3.mono (by omega), sm3⟩
    rintro σ' H3 ⟨lf, ns, rfl, g3, hns, hnl, hp3, sm3⟩
    have hw3 := hw.sm hp sm3
    obtain ⟨z, z1, z2, z3⟩ := hw3.at 0 (by decide) (by omega)
    have zlen := wd_len z3
    refine tSeq_by (fun σ' H' => ∃ (x : V), σ' = [some (.ref p), some (.ref wd), some (.int lf), some (.ref Y), some x, none] ∧ OD (np p w') H' x ∧ PenAt H' p w' (t + 131) ∧ Sm p w' H3 H') (fun nx hnx => ?_) ?_
    · refine ⟨(show 1 ≤ sizeLine by decide), fun a1 h1 => ?_⟩
      have t1 := Same.upd h1 (.tup [.str "box"])
      have f1 : upd H3 a1 (.tup [.str "box"]) a1 = some (.tup [.str "box"]) := upd_same
      generalize upd H3 a1 (.tup [.str "box"]) = G1 at t1 f1
      refine ⟨_, .str z, .inl (SqL.of (hw3.same t1).e), z1, (show 2 ≤ sizeLine by decide), fun a2 h2 => ⟨(show 0 ≤ sizeLine by decide), fun c4 hc4 => ⟨(show 2 ≤ sizeLine by decide), fun l4 hl4 => ⟨(show 0 ≤ sizeLine by decide), fun l5 hl5 => ⟨(show 2 ≤ sizeLine by decide), fun a5 ha5 => ?_⟩⟩⟩⟩⟩
      have t2 := Same.upd h2 (.tup [.str "pick", .str z])
      have f2 : upd G1 a2 (.tup [.str "pick", .str z]) a2 = some (.tup [.str "pick", .str z]) := upd_same
      generalize upd G1 a2 (.tup [.str "pick", .str z]) = G2 at *
      have t3 := Same.upd hc4 (.tup [])
      have f3 : upd G2 c4 (.tup []) c4 = some (.tup []) := upd_same
      generalize upd G2 c4 (.tup []) = G3 at *
      have t4 := Same.upd hl4 (.lst [.str "box", .ref c4])
      have f4 : upd G3 l4 (.lst [.str "box", .ref c4]) l4 = some (.lst [.str "box", .ref c4]) := upd_same
      generalize upd G3 l4 (.lst [.str "box", .ref c4]) = G4 at *
      have t5 := Same.upd hl5 (.lst [])
      have f5 : upd G4 l5 (.lst []) l5 = some (.lst []) := upd_same
      generalize upd G4 l5 (.lst []) = G5 at *
      have t6 := Same.upd ha5 (.tup [.str "box", .ref l5])
      have f6 : upd G5 a5 (.tup [.str "box", .ref l5]) a5 = some (.tup [.str "box", .ref l5]) := upd_same
      generalize upd G5 a5 (.tup [.str "box", .ref l5]) = G6 at *
      have t16 := t1.trans (t2.trans (t3.trans (t4.trans (t5.trans t6))))
      refine ⟨_, .str z, .inl (SqL.of (hw3.same t16).e), z1, (show 0 ≤ sizeLine by decide), fun c7 hc7 => ⟨(show 2 ≤ sizeLine by decide), fun a7 ha7 => ⟨(show 7 ≤ sizeLine by decide), fun L hL => ?_⟩⟩⟩
      have t7 := Same.upd hc7 (.tup [])
      have f7 : upd G6 c7 (.tup []) c7 = some (.tup []) := upd_same
      generalize upd G6 c7 (.tup []) = G7 at *
      have t8 := Same.upd ha7 (.tup [.str "bag", .ref c7])
      have f8 : upd G7 a7 (.tup [.str "bag", .ref c7]) a7 = some (.tup [.str "bag", .ref c7]) := upd_same
      generalize upd G7 a7 (.tup [.str "bag", .ref c7]) = G8 at *
      have t9 := Same.upd hL (.lst [.ref a1, .ref a2, .non, .ref l4, .ref a5, .str z, .ref a7])
      have f9 : upd G8 L (.lst [.ref a1, .ref a2, .non, .ref l4, .ref a5, .str z, .ref a7]) L = some (.lst [.ref a1, .ref a2, .non, .ref l4, .ref a5, .str z, .ref a7]) := upd_same
      generalize upd G8 L (.lst [.ref a1, .ref a2, .non, .ref l4, .ref a5, .str z, .ref a7]) = G9 at *
      have t69 := t6.trans (t7.trans (t8.trans t9))
      have tt := t16.trans (t7.trans (t8.trans t9))
      have hp9 := hp3.same tt
      have nt : ∀ (a : Addr) (ys : List V), G9 a = some (.tup ys) → np p w' a := fun a ys e => pen_np hp9 e
      have fr : ∀ a : Addr, H3 a = none → np p w' a := fun a e => ⟨hp3.ne1 e, hp3.ne2 e⟩
      have n4 : np p w' l4 := fr l4 (t1.free (t2.free (t3.free hl4)))
      have n5 : np p w' l5 := fr l5 (t1.free (t2.free (t3.free (t4.free hl5))))
      have nL : np p w' L := fr L (t16.free (t7.free (t8.free hL)))
      have e1 := (t2.trans (t3.trans (t4.trans (t5.trans t69)))) _ _ f1
      have e2 := (t3.trans (t4.trans (t5.trans t69))) _ _ f2
      have e3 := (t4.trans (t5.trans t69)) _ _ f3
      have e4 := (t5.trans t69) _ _ f4
      have e5 := t69 _ _ f5
      have e6 := (t7.trans (t8.trans t9)) _ _ f6
      have e7 := (t8.trans t9) _ _ f7
      have e8 := t9 _ _ f8
      have ds : ∀ u : Str, u.length ≤ 100000 → DA (np p w') G9 true (.str u) (.str u) (.str u) := fun u h => .str h
      have all : ∀ x ∈ ([.ref a1, .ref a2, .non, .ref l4, .ref a5, .str z, .ref a7] : List V), OD (np p w') G9 x := by
        intro x hx
        simp only [List.mem_cons, List.mem_nil_iff, or_false] at hx
        rcases hx with rfl | rfl | rfl | rfl | rfl | rfl | rfl
        · exact ⟨_, _, da_t1 (nt _ _ e1) e1 (ds "box" (by decide)), rfl⟩
        · exact ⟨_, _, da_t2 (nt _ _ e2) e2 (ds "pick" (by decide)) (ds z zlen), rfl⟩
        · exact ⟨_, _, .non, rfl⟩
        · exact ⟨_, _, da_l2 n4 e4 (ds "box" (by decide)) (da_t0 (nt _ _ e3) e3), rfl⟩
        · exact ⟨_, _, da_t2 (nt _ _ e6) e6 (ds "box" (by decide)) (da_l0 n5 e5), rfl⟩
        · exact ⟨_, _, ds z zlen, rfl⟩
        · exact ⟨_, _, da_t2 (nt _ _ e8) e8 (ds "bag" (by decide)) (da_t0 (nt _ _ e7) e7), by decide +kernel⟩
      refine ⟨p, w', 7, _, rfl, hp9, ⟨by decide, by decide⟩, by omega, fun r H4 r0 r1 hp4 sm4 => ?_⟩
      obtain ⟨i, rfl⟩ : ∃ i : Nat, r = (i : Int) := ⟨r.toNat, by omega⟩
      have hi : i < ([.ref a1, .ref a2, .non, .ref l4, .ref a5, .str z, .ref a7] : List V).length := by simp; omega
      obtain ⟨pd, d, q1, q2⟩ := all _ (List.getElem_mem hi)
      exact ⟨_, _, .inl (SqL.of (sm4 _ _ f9 nL.1 nL.2)), atI_nat (List.getElem?_eq_getElem hi), hnx _ _ ⟨_, rfl, ⟨pd, d, q1.keep fun a u hP e => sm4 _ _ e hP.1 hP.2, q2⟩, hp4, tt.sm.trans sm4⟩⟩
    rintro σ' H4 ⟨x, rfl, ⟨pd, dx, dax, hfx⟩, hp4, sm4⟩
    have sm34 := sm3.trans sm4
    have hw4 := hw.sm hp sm34
    have gY4 := sm4 _ _ g3 nY.1 nY.2
    refine tSeq_by (fun σ' H' => ∃ D, σ' = [some (.ref p), some (.ref wd), some (.int lf), some (.ref Y), some x, some (.ref D)] ∧ H' D = some (.lst [.bl true, .bl false]) ∧ Same H4 H') (fun nx hnx => ?_) ?_
    · refine ⟨(show 0 ≤ sizeLine by decide), fun c1 h1 => ⟨(show 2 ≤ sizeLine by decide), fun c2 h2 => ⟨(show 2 ≤ sizeLine by decide), fun L hL => Or.inl ⟨⟨_, SqL.of upd_same⟩, fun D hD => ?_⟩⟩⟩⟩
      have t1 := Same.upd h1 (.tup [])
      have f1 : upd H4 c1 (.tup []) c1 = some (.tup []) := upd_same
      generalize upd H4 c1 (.tup []) = G1 at *
      have t2 := Same.upd h2 (.tup [.str "box", .ref c1])
      have f2 : upd G1 c2 (.tup [.str "box", .ref c1]) c2 = some (.tup [.str "box", .ref c1]) := upd_same
      generalize upd G1 c2 (.tup [.str "box", .ref c1]) = G2 at *
      have t3 := Same.upd hL (.lst [.ref c2, x])
      have f3 : upd G2 L (.lst [.ref c2, x]) L = some (.lst [.ref c2, x]) := upd_same
      generalize upd G2 L (.lst [.ref c2, x]) = G3 at *
      have tt := t1.trans (t2.trans t3)
      have dbare : DD G3 (.ref c2) (.tup [.str "box", .tup []]) := DD.tup2 (t3 _ _ f2) (.str (by decide)) (.tup ((t2.trans t3) _ _ f1) rfl (by simp) fun i h => absurd h (by simp))
      have dx3 : DD G3 x dx := (dax.same tt).dd
      refine lc_bools (itn_list [.ref c2, x]) (fun i => i == 0) (show 2 < sizeLine by decide) hD (fun H2 s2 => SqL.of (s2 _ _ f3)) (fun i H5 k' hi s5 hk => ?_) (fun H5 s5 g5 => ?_)
      · have hi2 : i < 2 := hi
        have core : ∀ (y : V) (dy : Dt) (b : Bool), DD G3 y dy → Dq dy b 1 → b = (i == 0) → tCall spIsTh [] E0 (tCons (tCall spDeep [] E0 (tCons (tV 2) (tCons (tV 1) (tCons (tV 0) tNil)))) tNil) [some y, some (.ref wd), some (.ref Y)] H5 k' := by
          intro y dy b hy hq hb
          refine ⟨Y, wd, ns, ws, y, dy, b, rfl, (tt.trans s5) _ _ gY4, hns, by omega, hw4.same (tt.trans s5), h4, hnm, hy.same s5, hq, fun x' d' H6 s6 hd6 hq6 => ?_⟩
          refine ⟨x', d', rfl, hd6, .inr ⟨by simp, fun e he => by rw [List.mem_singleton.mp he]; exact hq6.2.1 _⟩, by have := hq6.2.2; omega, fun H7 s7 => ?_⟩
          rw [hq6.1, hb]
          exact hk H7 (s6.trans s7)
        rcases (show i = 0 ∨ i = 1 by omega) with rfl | rfl
        · exact core (.ref c2) _ true dbare dq_bare rfl
        · exact core x dx false dx3 (dq_not hfx) rfl
      · exact hnx _ _ ⟨D, rfl, g5, tt.trans s5⟩
    rintro σ' H5 ⟨D, rfl, gD, s5⟩
    have dl : DA (fun _ => True) H5 true (.ref D) (.list [.bool true, .bool false]) .oth := da_l2 trivial gD (.bl true) (.bl false)
    refine ⟨_, true, _, _, _, rfl, dl, by decide, by show _ ≤ sizeLine; rw [hsz]; decide +kernel, by decide, ?_⟩
    refine ⟨(show 2 ≤ sizeLine by decide), fun L hL => ?_⟩
    have s6 := Same.upd hL (.lst [.bl true, .bl false])
    have dl2 : DA (fun _ => True) (upd H5 L (.lst [.bl true, .bl false])) true (.ref L) (.list [.bool true, .bool false]) .oth := da_l2 trivial upd_same (.bl true) (.bl false)
    refine ⟨_, true, _, _, _, rfl, dl2, by decide, by show _ ≤ sizeLine; rw [hsz]; decide +kernel, by decide, rfl, ?_⟩
    have := k (upd H5 L (.lst [.bl true, .bl false])) (((hp4.same s5).same s6).mono (by omega)) ((sm34.trans s5.sm).trans s6.sm)
    simpa using this
theorem wW : ∀ z ∈ (["b", "ba", "ab", "a", "abc"] : List Str), isName z = true ∧ Wd z := fun z hz => by
  simp only [List.mem_cons, List.mem_nil_iff, or_false] at hz
  rcases hz with rfl | rfl | rfl | rfl | rfl <;> exact ⟨by decide +kernel, wd_ascii (by decide) (by decide)⟩
set_option maxHeartbeats 2000000 in
theorem ok_law (T : Txt K mg) : FnK P w K mg base 60 "law" ["script"] (spLaw K) := by
  have F_law_tpen : FnK P w K mg base 1 "_law_tpen" ["script"] (spPen K) := ok_law_tpen T
  have F_law_tdraw : FnK P w K mg base 1 "_law_tdraw" ["pen", "many"] spDraw := ok_law_tdraw T
  have F_law_tnames : FnK P w K mg base 2 "_law_tnames" ["pen", "many"] spNames := ok_law_tnames T
  have F_law_tdeep_right : FnK P w K mg base 5 "_law_tdeep_right" ["pen", "words"] spDR := ok_law_tdeep_right T
  have F_law_tthing : FnK P w K mg base 8 "_law_tthing" ["pen", "words", "left"] (spThing 6) := ok_law_tthing T 6
  have F_is_thing : FnK P w K mg base 4 "is_thing" ["thing"] spIsTh := ok_is_thing T
  have F_pieces : FnK P w K mg base 2 "pieces" ["thing"] spPcs := ok_pieces T
  have F_law_tpieces : FnK P w K mg base 51 "_law_tpieces" ["thing"] (spTpc 50) := ok_law_tpieces T 50
  have F_law_tbent : FnK P w K mg base 9 "_law_tbent" ["pen", "thing", "words"] (spBent 6) := ok_law_tbent T 6
  have F_law_tis_thing : FnK P w K mg base 52 "_law_tis_thing" ["thing"] (spTn 50 thD) := ok_law_tis_thing T 50
  refine T.t_law.okS (k := 59) sc_law (fun vs H Q E h => ?_) (fun f cdv A outer s H vs Q E hr h => ?_)
  · obtain ⟨a, ns, rfl, _⟩ := h
    rfl
  · obtain ⟨sc, cells, rfl, hsc, hl63, k⟩ := h
    have hu := hu_of hr
    have hu0 := Nat.lt_of_succ_lt (hu_of hr)
    have hsz : sizeLine = 16777216 := sizeLine_eq
    have htm : TMAX = 1000000000000 := rfl
    refine ⟨_, (sb_cons (s_set (i := 1) sc_law.nd rfl (Or.inl rfl) (z_fn F_law_tpen (hr.mono (by decide)) (sa_Name (zv 0) sa_nil)))
      (sb_cons (s_set (i := 2) sc_law.nd rfl (Or.inl rfl) (z_ix (ix_K K) (z_lst (sa_Call (z_fn F_law_tnames (hr.mono (by decide)) (sa_Name (zv 1) (sa_Constant z_int sa_nil))) (sa_List (z_lst (sa_Constant z_str (sa_Constant z_str (sa_Constant z_str (sa_Constant z_str sa_nil))))) (sa_List (z_lst (sa_Constant z_str (sa_Constant z_str (sa_Constant z_str (sa_Constant z_str sa_nil))))) sa_nil)))) (z_fn F_law_tdraw (hr.mono (by decide)) (sa_Name (zv 1) (sa_Constant z_int sa_nil))) (fun _ _ => rfl)))
      (sb_cons (s_if (y_not (y_val (z_fn F_law_tdeep_right (hr.mono (by decide)) (sa_Name (zv 1) (sa_Name (zv 2) sa_nil))))) (sb_one (s_ret z_bl)) sb_nil)
      (sb_cons (s_for PassesOwn.never rfl (i_range1 (by rfl) T.n_range (sa_Constant z_int sa_nil)) (g_name (i := 3) sc_law.nd rfl (Or.inl rfl)) (sb_cons (s_set (i := 4) sc_law.nd rfl (Or.inl rfl) (z_fn F_law_tthing (hr.mono (by decide)) (sa_Name (zv 1) (sa_Name (zv 2) (sa_Constant z_int sa_nil)))))
      (sb_cons (s_if (y_cmpR op_isnB (z_fn F_is_thing (hr.mono (by decide)) (sa_Name (zv 4) sa_nil)) z_bl (nomark _)) (sb_one (s_ret z_bl)) sb_nil)
      (sb_cons (s_set (i := 5) sc_law.nd rfl (Or.inl rfl) (z_fn F_pieces (hr.mono (by decide)) (sa_Name (zv 4) sa_nil)))
      (sb_cons (s_if (w_or (y_not (y_val (z_callB call_isiD (by rfl) T.n_isinstance PyProof.Rows.boot_isinstance (sa_Name (zv 5) (sa_Name (z_bltn (v := .ty "int") (by rfl) T.n_int PyProof.Rows.boot_int rfl) sa_nil))))) (w_or (y_val (z_callB call_isiD (by rfl) T.n_isinstance PyProof.Rows.boot_isinstance (sa_Name (zv 5) (sa_Name (z_bltn (v := .ty "bool") (by rfl) T.n_bool PyProof.Rows.boot_bool rfl) sa_nil)))) (w_or1 (y_cmpR (op_neD hu0) (zv 5) (z_fn F_law_tpieces (hr.mono (by decide)) (sa_Name (zv 4) sa_nil)) (nomark _))))).pt (sb_one (s_ret z_bl)) sb_nil)
      (sb_one (s_for PassesOwn.never rfl (i_range1 (by rfl) T.n_range (sa_Constant z_int sa_nil)) (g_name (i := 6) sc_law.nd rfl (Or.inl rfl)) (sb_cons (s_set (i := 7) sc_law.nd rfl (Or.inl rfl) (z_fn F_law_tbent (hr.mono (by decide)) (sa_Name (zv 1) (sa_Name (zv 4) (sa_Name (zv 2) sa_nil)))))
      (sb_cons (s_set (i := 8) sc_law.nd rfl (Or.inl rfl) (z_callB (call_reprM hr.gd hr.units) (by rfl) T.n_repr PyProof.Rows.boot_repr (sa_Name (zv 7) sa_nil)))
      (sb_cons (s_set (i := 5) sc_law.nd rfl (Or.inl rfl) (z_fn F_is_thing (hr.mono (by decide)) (sa_Name (zv 7) sa_nil)))
      (sb_one (s_if (w_or (y_not (y_val (z_callB call_isiD (by rfl) T.n_isinstance PyProof.Rows.boot_isinstance (sa_Name (zv 5) (sa_Name (z_bltn (v := .ty "bool") (by rfl) T.n_bool PyProof.Rows.boot_bool rfl) sa_nil))))) (w_or (y_cmpR (op_neD hu0) (zv 5) (z_fn F_law_tis_thing (hr.mono (by decide)) (sa_Name (zv 7) sa_nil)) (nomark _)) (w_or1 (y_cmpR (op_neD hu0) (z_callB (call_reprM hr.gd hr.units) (by rfl) T.n_repr PyProof.Rows.boot_repr (sa_Name (zv 7) sa_nil)) (zv 8) (nomark _))))).pt (sb_one (s_ret z_bl)) sb_nil))))))))))))
      (sb_one (s_ret z_bl)))))), ?_⟩
    refine tSeq_set ⟨sc, cells, rfl, hsc, hl63, fun p w' H1 _ _ hp1 s1 => ?_⟩
    dsimp only
    refine tSeq_by (fun σ' H' => ∃ (wd : Addr) (ws : List Str), σ' = [some (.ref sc), some (.ref p), some (.ref wd), none, none, none, none, none, none] ∧ TxtsAt H' wd ws ∧ ws.length = 4 ∧ ws.Nodup ∧ (∀ z ∈ ws, isName z = true) ∧ PenAt H' p w' 21) (fun nx hnx => ?_) ?_
    · refine ⟨p, w', 4, 0, rfl, hp1, ⟨by decide, by decide⟩, by omega, fun L ns H2 hL gL hln hnd hnn hp2 sm2 => ?_⟩
      have nL : L ≠ p ∧ L ≠ w' := ⟨hp1.ne1 hL, hp1.ne2 hL⟩
      refine ⟨(show 4 ≤ sizeLine by decide), fun L2 hL2 => ⟨(show 4 ≤ sizeLine by decide), fun L3 hL3 => ⟨(show 3 ≤ sizeLine by decide), fun L4 hL4 => ?_⟩⟩⟩
      have t2 := Same.upd hL2 (.lst [.str "b", .str "ba", .str "ab", .str "a"])
      have f2 : upd H2 L2 (.lst [.str "b", .str "ba", .str "ab", .str "a"]) L2 = some (.lst ((["b", "ba", "ab", "a"] : List Str).map V.str)) := upd_same
      generalize upd H2 L2 (.lst [.str "b", .str "ba", .str "ab", .str "a"]) = G2 at *
      have t3 := Same.upd hL3 (.lst [.str "abc", .str "b", .str "a", .str "ab"])
      have f3 : upd G2 L3 (.lst [.str "abc", .str "b", .str "a", .str "ab"]) L3 = some (.lst ((["abc", "b", "a", "ab"] : List Str).map V.str)) := upd_same
      generalize upd G2 L3 (.lst [.str "abc", .str "b", .str "a", .str "ab"]) = G3 at *
      have t4 := Same.upd hL4 (.lst [.ref L, .ref L2, .ref L3])
      have f4 : upd G3 L4 (.lst [.ref L, .ref L2, .ref L3]) L4 = some (.lst [.ref L, .ref L2, .ref L3]) := upd_same
      generalize upd G3 L4 (.lst [.ref L, .ref L2, .ref L3]) = G4 at *
      have hp4 := ((hp2.same t2).same t3).same t4
      have nL4 : L4 ≠ p ∧ L4 ≠ w' := ⟨((hp2.same t2).same t3).ne1 hL4, ((hp2.same t2).same t3).ne2 hL4⟩
      have g1 := (t2.trans (t3.trans t4)) _ _ gL
      have g2 := (t3.trans t4) _ _ f2
      have g3 := t4 _ _ f3
      have nsl : ns.length = 4 := by omega
      have x1 : TxtsAt G4 L ns := ⟨g1, fun z => by rw [z] at nsl; simp at nsl, by omega, fun z hz => (hnn z hz).2⟩
      have x2 : TxtsAt G4 L2 ["b", "ba", "ab", "a"] := ⟨g2, by simp, by simp, fun z hz => (wW z (by simp only [List.mem_cons, List.mem_nil_iff, or_false] at hz ⊢; rcases hz with rfl | rfl | rfl | rfl <;> simp)).2⟩
      have x3 : TxtsAt G4 L3 ["abc", "b", "a", "ab"] := ⟨g3, by simp, by simp, fun z hz => (wW z (by simp only [List.mem_cons, List.mem_nil_iff, or_false] at hz ⊢; rcases hz with rfl | rfl | rfl | rfl <;> simp)).2⟩
      refine ⟨p, w', 3, _, rfl, hp4, ⟨by decide, by decide⟩, by omega, fun r H5 r0 r1 hp5 sm5 => ?_⟩
      have f5 := sm5 _ _ f4 nL4.1 nL4.2
      rcases (show r = 0 ∨ r = 1 ∨ r = 2 by omega) with rfl | rfl | rfl
      · exact ⟨_, .ref L, .inl (SqL.of f5), rfl, hnx _ _ ⟨L, ns, rfl, x1.sm hp4 sm5, nsl, hnd, fun z hz => (hnn z hz).1, hp5⟩⟩
      · exact ⟨_, .ref L2, .inl (SqL.of f5), rfl, hnx _ _ ⟨L2, _, rfl, x2.sm hp4 sm5, rfl, by decide +kernel, fun z hz => (wW z (by simp only [List.mem_cons, List.mem_nil_iff, or_false] at hz ⊢; rcases hz with rfl | rfl | rfl | rfl <;> simp)).1, hp5⟩⟩
      · exact ⟨_, .ref L3, .inl (SqL.of f5), rfl, hnx _ _ ⟨L3, _, rfl, x3.sm hp4 sm5, rfl, by decide +kernel, fun z hz => (wW z (by simp only [List.mem_cons, List.mem_nil_iff, or_false] at hz ⊢; rcases hz with rfl | rfl | rfl | rfl <;> simp)).1, hp5⟩⟩
    clear hp1 s1
    rintro σ' H2 ⟨wd, ws, rfl, hw2, h4, hnd, hnm, hp2⟩
    refine tSeq_by (fun σ' H' => σ' = [some (.ref sc), some (.ref p), some (.ref wd), none, none, none, none, none, none] ∧ TxtsAt H' wd ws ∧ PenAt H' p w' 221) (fun nx hnx => ?_) ?_
    · exact ⟨p, w', wd, 21, ws, rfl, hp2, by omega, hw2, h4, hnm, fun H3 hp3 sm3 => ⟨_, rfl, iteF (hnx _ _ ⟨rfl, hw2.sm hp2 sm3, hp3⟩)⟩⟩
    clear hw2 hp2
    rintro σ' H3 ⟨rfl, hw3, hp3⟩
    refine tSeq_by (fun σ' H' => True) ?_ (fun σ' H' _ => k H')
    intro nx hnx
    refine ⟨4, rfl, by decide, by decide, ?_⟩
    refine for_by (itn_range 0 4) (fun i σ' H' => ∃ v3 v4 v5 v6 v7 v8, σ' = [some (.ref sc), some (.ref p), some (.ref wd), v3, v4, v5, v6, v7, v8] ∧ TxtsAt H' wd ws ∧ PenAt H' p w' (221 + i * 1000000)) ⟨none, none, none, none, none, none, rfl, hw3, hp3⟩ (fun _ _ _ _ _ => trivial) ?_ (fun σ' H' _ => hnx _ _ trivial)
    rintro i σ' H4 hi ⟨v3, v4, v5, v6, v7, v8, rfl, hw4, hp4⟩
    have hi4 : i < 4 := hi
    have h65 : 6 ^ (5 + 2) = 279936 := by decide
    refine tSeq_set ⟨p, w', wd, 5, _, ws, rfl, by decide, hp4, by rw [h65]; omega, hw4, by omega, hnd, hnm, fun th d H5 pt hp5 sm5 => ?_⟩
    rw [h65] at hp5
    have hw5 := hw4.sm hp4 sm5
    obtain ⟨px, hth⟩ := PT.px pt
    have hdd := px.dd
    have hdep := px.dep
    have hcn := px.cn
    have hoc := px.oc
    have ecc : CC 5 = 6823 := rfl
    have hwd : wD d ≤ 6823 := Nat.le_trans (wD_cn _ d (Nat.lt_succ_self _)) (by omega)
    have lv : LvOk (d.dep + 1) [d] := .inl ⟨by simp only [ocs]; omega, fun e he => by rw [List.mem_singleton.mp he]; omega⟩
    dsimp only
    refine tSeq_by (fun σ' H' => σ' = [some (.ref sc), some (.ref p), some (.ref wd), some (.int (0 + (i : Int))), some th, v5, v6, v7, v8] ∧ Same H5 H') (fun nx2 hnx2 => ?_) ?_
    · refine ⟨th, d, rfl, hdd, lv, by omega, fun H6 s6 => ?_⟩
      rw [hth]
      exact ⟨_, rfl, iteF (hnx2 _ _ ⟨rfl, s6⟩)⟩
    rintro σ' H6 ⟨rfl, s6⟩
    refine tSeq_set ⟨th, d, rfl, hdd.same s6, hth, by omega, fun H7 s7 => ?_⟩
    have s57 := s6.trans s7
    dsimp only
    refine tSeq_by (fun σ' H' => σ' = [some (.ref sc), some (.ref p), some (.ref wd), some (.int (0 + (i : Int))), some th, some (.int (wD d : Int)), v6, v7, v8] ∧ Same H5 H') (fun nx2 hnx2 => ?_) ?_
    · refine ⟨by decide, "int", rfl, _, rfl, iteF ⟨by decide, "int", rfl, _, rfl, iteF ⟨th, d, rfl, hdd.same s57, by omega, hth, fun H8 s8 => ⟨rfl, _, rfl, ?_⟩⟩⟩⟩
      refine iteB (fun c => ?_) (fun _ => hnx2 _ _ ⟨rfl, s57.trans s8⟩)
      exact absurd c (by simp)
    clear s6 s7 s57
    rintro σ' H8 ⟨rfl, s8⟩
    have hp8 := hp5.same s8
    have hw8 := hw5.same s8
    have pt8 := PT.tk s8.ts pt
    refine ⟨8, rfl, by decide, by decide, ?_⟩
    refine for_by (itn_range 0 8) (fun j σ' H' => ∃ v5 v6 v7 v8, σ' = [some (.ref sc), some (.ref p), some (.ref wd), some (.int (0 + (i : Int))), some th, v5, v6, v7, v8] ∧ TxtsAt H' wd ws ∧ PT H' 5 th d ∧ PenAt H' p w' (221 + i * 1000000 + 279936 + j * 100)) ⟨_, _, _, _, rfl, hw8, pt8, hp8⟩ (fun _ _ _ _ _ => trivial) ?_ (by rintro σ' H' ⟨v5, v6, v7, v8, e, a, _, b⟩; exact ⟨_, _, _, _, _, _, e, a, b.mono (by omega)⟩)
    rintro j σ' H9 hj ⟨v5, v6, v7, v8, rfl, hw9, pt9, hp9⟩
    have hj8 : j < 8 := hj
    refine tSeq_set ⟨p, w', wd, 5, _, ws, th, d, rfl, by decide, by decide, hp9, by omega, hw9, by omega, by omega, pt9, fun m ot dt HA hx ho hpA smA => ?_⟩
    have hwA := hw9.sm hp9 smA
    have ptA := PT.tk (hp9.ts smA) pt9
    have hoD := hx.dd
    have hoP := hx.dep
    have hoC := hx.cn
    obtain ⟨pd, q1, q2, q3, q4, _, _⟩ := hx.ex
    have hwo : wD dt ≤ 6883 := Nat.le_trans (wD_cn _ dt (Nat.lt_succ_self _)) (by omega)
    have lvo : LvOk (dt.dep + 1) [dt] := .inl ⟨by simp only [ocs]; omega, fun e he => by rw [List.mem_singleton.mp he]; omega⟩
    refine tSeq_set ⟨np p w', m, ot, pd, dt, rfl, q1, q4, by omega, by omega, ?_⟩
    refine tSeq_set ⟨ot, dt, rfl, hoD, lvo, by omega, fun HB sB => ?_⟩
    dsimp only
    refine ⟨by decide, "bool", rfl, _, rfl, iteF ⟨ot, dt, rfl, hoD.same sB, by omega, fun HC sC => ⟨rfl, _, rfl, ?_⟩⟩⟩
    refine iteB (fun c => absurd c (by simp)) (fun _ => ?_)
    refine ⟨np p w', m, ot, pd, dt, rfl, q1.same (sB.trans sC), q4, by omega, by omega, rfl, _, rfl, iteB (fun c => absurd c (by simp)) (fun _ => ?_)⟩
    exact ⟨_, _, _, _, rfl, hwA.same (sB.trans sC), PT.tk (sB.trans sC).ts ptA, (hpA.same (sB.trans sC)).mono (by omega)⟩
end
theorem lnS {n : Nat} {us : List Value} (h : us.length = n + 1) : ∃ a t, us = a :: t ∧ t.length = n := by
  cases us with
  | nil => cases h
  | cons a t => exact ⟨a, t, rfl, by simpa using h⟩
theorem txt_mk {K : PySem.W.Frag} {h : Heap} {mg : Str → Option Value} (X : K.In h) (G : h.Ns mainGlobals mg)
    {f_is_name : Addr} {od_is_name an_is_name : Option Addr} {sl_is_name : Array (Option Value)} {oc_is_name kV_is_name dc_is_name pm_is_name cd_is_name ct_is_name : Value}
    {f_are_rising : Addr} {od_are_rising an_are_rising : Option Addr} {sl_are_rising : Array (Option Value)} {oc_are_rising kV_are_rising dc_are_rising pm_are_rising cd_are_rising ct_are_rising : Value}
    {f_is_thing : Addr} {od_is_thing an_is_thing : Option Addr} {sl_is_thing : Array (Option Value)} {oc_is_thing kV_is_thing dc_is_thing pm_is_thing cd_is_thing ct_is_thing : Value}
    {f_pieces : Addr} {od_pieces an_pieces : Option Addr} {sl_pieces : Array (Option Value)} {oc_pieces kV_pieces dc_pieces pm_pieces cd_pieces ct_pieces : Value}
    {f_is_formed : Addr} {od_is_formed an_is_formed : Option Addr} {sl_is_formed : Array (Option Value)} {oc_is_formed kV_is_formed dc_is_formed pm_is_formed cd_is_formed ct_is_formed : Value}
    {f_parts_in : Addr} {od_parts_in an_parts_in : Option Addr} {sl_parts_in : Array (Option Value)} {oc_parts_in kV_parts_in dc_parts_in pm_parts_in cd_parts_in ct_parts_in : Value}
    {f_law_tpen : Addr} {od_law_tpen an_law_tpen : Option Addr} {sl_law_tpen : Array (Option Value)} {oc_law_tpen kV_law_tpen dc_law_tpen pm_law_tpen cd_law_tpen ct_law_tpen : Value}
    {f_law_tdraw : Addr} {od_law_tdraw an_law_tdraw : Option Addr} {sl_law_tdraw : Array (Option Value)} {oc_law_tdraw kV_law_tdraw dc_law_tdraw pm_law_tdraw cd_law_tdraw ct_law_tdraw : Value}
    {f_law_tnames : Addr} {od_law_tnames an_law_tnames : Option Addr} {sl_law_tnames : Array (Option Value)} {oc_law_tnames kV_law_tnames dc_law_tnames pm_law_tnames cd_law_tnames ct_law_tnames : Value}
    {f_law_tthing : Addr} {od_law_tthing an_law_tthing : Option Addr} {sl_law_tthing : Array (Option Value)} {oc_law_tthing kV_law_tthing dc_law_tthing pm_law_tthing cd_law_tthing ct_law_tthing : Value}
    {f_law_tis_name : Addr} {od_law_tis_name an_law_tis_name : Option Addr} {sl_law_tis_name : Array (Option Value)} {oc_law_tis_name kV_law_tis_name dc_law_tis_name pm_law_tis_name cd_law_tis_name ct_law_tis_name : Value}
    {f_law_tis_thing : Addr} {od_law_tis_thing an_law_tis_thing : Option Addr} {sl_law_tis_thing : Array (Option Value)} {oc_law_tis_thing kV_law_tis_thing dc_law_tis_thing pm_law_tis_thing cd_law_tis_thing ct_law_tis_thing : Value}
    {f_law_tpieces : Addr} {od_law_tpieces an_law_tpieces : Option Addr} {sl_law_tpieces : Array (Option Value)} {oc_law_tpieces kV_law_tpieces dc_law_tpieces pm_law_tpieces cd_law_tpieces ct_law_tpieces : Value}
    {f_law_todd : Addr} {od_law_todd an_law_todd : Option Addr} {sl_law_todd : Array (Option Value)} {oc_law_todd kV_law_todd dc_law_todd pm_law_todd cd_law_todd ct_law_todd : Value}
    {f_law_tbent : Addr} {od_law_tbent an_law_tbent : Option Addr} {sl_law_tbent : Array (Option Value)} {oc_law_tbent kV_law_tbent dc_law_tbent pm_law_tbent cd_law_tbent ct_law_tbent : Value}
    {f_law_tdeep : Addr} {od_law_tdeep an_law_tdeep : Option Addr} {sl_law_tdeep : Array (Option Value)} {oc_law_tdeep kV_law_tdeep dc_law_tdeep pm_law_tdeep cd_law_tdeep ct_law_tdeep : Value}
    {f_law_tdeep_right : Addr} {od_law_tdeep_right an_law_tdeep_right : Option Addr} {sl_law_tdeep_right : Array (Option Value)} {oc_law_tdeep_right kV_law_tdeep_right dc_law_tdeep_right pm_law_tdeep_right cd_law_tdeep_right ct_law_tdeep_right : Value}
    {f_law : Addr} {od_law an_law : Option Addr} {sl_law : Array (Option Value)} {oc_law kV_law dc_law pm_law cd_law ct_law : Value}
    {u_LETTERS : Value}
    {u_LONGEST : Value}
    {ad_NO_NAMES : Addr} {oe_NO_NAMES : Option Addr} {it_NO_NAMES : Array Value} {nn_NO_NAMES : Nat} {sq_NO_NAMES : Array (Option Value)}
    (a_is_name : PySem.W.nsIn K mainGlobals "is_name" = some (some (.ref f_is_name)))
    (l_is_name : K.lookup f_is_name = some ⟨oc_is_name, od_is_name, .func (PySem.W.fnOf "is_name" "is_name" (defArgs s_is_name) (defBody s_is_name) (defScope s_is_name) .none kV_is_name dc_is_name pm_is_name an_is_name cd_is_name ct_is_name), sl_is_name⟩)
    (cc_is_name : PySem.W.codeIn K cd_is_name "is_name" = true)
    (k_is_name : PySem.W.keepIn K (.ref f_is_name) = true)
    (a_are_rising : PySem.W.nsIn K mainGlobals "are_rising" = some (some (.ref f_are_rising)))
    (l_are_rising : K.lookup f_are_rising = some ⟨oc_are_rising, od_are_rising, .func (PySem.W.fnOf "are_rising" "are_rising" (defArgs s_are_rising) (defBody s_are_rising) (defScope s_are_rising) .none kV_are_rising dc_are_rising pm_are_rising an_are_rising cd_are_rising ct_are_rising), sl_are_rising⟩)
    (cc_are_rising : PySem.W.codeIn K cd_are_rising "are_rising" = true)
    (k_are_rising : PySem.W.keepIn K (.ref f_are_rising) = true)
    (a_is_thing : PySem.W.nsIn K mainGlobals "is_thing" = some (some (.ref f_is_thing)))
    (l_is_thing : K.lookup f_is_thing = some ⟨oc_is_thing, od_is_thing, .func (PySem.W.fnOf "is_thing" "is_thing" (defArgs s_is_thing) (defBody s_is_thing) (defScope s_is_thing) .none kV_is_thing dc_is_thing pm_is_thing an_is_thing cd_is_thing ct_is_thing), sl_is_thing⟩)
    (cc_is_thing : PySem.W.codeIn K cd_is_thing "is_thing" = true)
    (k_is_thing : PySem.W.keepIn K (.ref f_is_thing) = true)
    (a_pieces : PySem.W.nsIn K mainGlobals "pieces" = some (some (.ref f_pieces)))
    (l_pieces : K.lookup f_pieces = some ⟨oc_pieces, od_pieces, .func (PySem.W.fnOf "pieces" "pieces" (defArgs s_pieces) (defBody s_pieces) (defScope s_pieces) .none kV_pieces dc_pieces pm_pieces an_pieces cd_pieces ct_pieces), sl_pieces⟩)
    (cc_pieces : PySem.W.codeIn K cd_pieces "pieces" = true)
    (k_pieces : PySem.W.keepIn K (.ref f_pieces) = true)
    (a_is_formed : PySem.W.nsIn K mainGlobals "is_formed" = some (some (.ref f_is_formed)))
    (l_is_formed : K.lookup f_is_formed = some ⟨oc_is_formed, od_is_formed, .func (PySem.W.fnOf "is_formed" "is_formed" (defArgs s_is_formed) (defBody s_is_formed) (defScope s_is_formed) .none kV_is_formed dc_is_formed pm_is_formed an_is_formed cd_is_formed ct_is_formed), sl_is_formed⟩)
    (cc_is_formed : PySem.W.codeIn K cd_is_formed "is_formed" = true)
    (k_is_formed : PySem.W.keepIn K (.ref f_is_formed) = true)
    (a_parts_in : PySem.W.nsIn K mainGlobals "parts_in" = some (some (.ref f_parts_in)))
    (l_parts_in : K.lookup f_parts_in = some ⟨oc_parts_in, od_parts_in, .func (PySem.W.fnOf "parts_in" "parts_in" (defArgs s_parts_in) (defBody s_parts_in) (defScope s_parts_in) .none kV_parts_in dc_parts_in pm_parts_in an_parts_in cd_parts_in ct_parts_in), sl_parts_in⟩)
    (cc_parts_in : PySem.W.codeIn K cd_parts_in "parts_in" = true)
    (k_parts_in : PySem.W.keepIn K (.ref f_parts_in) = true)
    (a_law_tpen : PySem.W.nsIn K mainGlobals "_law_tpen" = some (some (.ref f_law_tpen)))
    (l_law_tpen : K.lookup f_law_tpen = some ⟨oc_law_tpen, od_law_tpen, .func (PySem.W.fnOf "_law_tpen" "_law_tpen" (defArgs s_law_tpen) (defBody s_law_tpen) (defScope s_law_tpen) .none kV_law_tpen dc_law_tpen pm_law_tpen an_law_tpen cd_law_tpen ct_law_tpen), sl_law_tpen⟩)
    (cc_law_tpen : PySem.W.codeIn K cd_law_tpen "_law_tpen" = true)
    (k_law_tpen : PySem.W.keepIn K (.ref f_law_tpen) = true)
    (a_law_tdraw : PySem.W.nsIn K mainGlobals "_law_tdraw" = some (some (.ref f_law_tdraw)))
    (l_law_tdraw : K.lookup f_law_tdraw = some ⟨oc_law_tdraw, od_law_tdraw, .func (PySem.W.fnOf "_law_tdraw" "_law_tdraw" (defArgs s_law_tdraw) (defBody s_law_tdraw) (defScope s_law_tdraw) .none kV_law_tdraw dc_law_tdraw pm_law_tdraw an_law_tdraw cd_law_tdraw ct_law_tdraw), sl_law_tdraw⟩)
    (cc_law_tdraw : PySem.W.codeIn K cd_law_tdraw "_law_tdraw" = true)
    (k_law_tdraw : PySem.W.keepIn K (.ref f_law_tdraw) = true)
    (a_law_tnames : PySem.W.nsIn K mainGlobals "_law_tnames" = some (some (.ref f_law_tnames)))
    (l_law_tnames : K.lookup f_law_tnames = some ⟨oc_law_tnames, od_law_tnames, .func (PySem.W.fnOf "_law_tnames" "_law_tnames" (defArgs s_law_tnames) (defBody s_law_tnames) (defScope s_law_tnames) .none kV_law_tnames dc_law_tnames pm_law_tnames an_law_tnames cd_law_tnames ct_law_tnames), sl_law_tnames⟩)
    (cc_law_tnames : PySem.W.codeIn K cd_law_tnames "_law_tnames" = true)
    (k_law_tnames : PySem.W.keepIn K (.ref f_law_tnames) = true)
    (a_law_tthing : PySem.W.nsIn K mainGlobals "_law_tthing" = some (some (.ref f_law_tthing)))
    (l_law_tthing : K.lookup f_law_tthing = some ⟨oc_law_tthing, od_law_tthing, .func (PySem.W.fnOf "_law_tthing" "_law_tthing" (defArgs s_law_tthing) (defBody s_law_tthing) (defScope s_law_tthing) .none kV_law_tthing dc_law_tthing pm_law_tthing an_law_tthing cd_law_tthing ct_law_tthing), sl_law_tthing⟩)
    (cc_law_tthing : PySem.W.codeIn K cd_law_tthing "_law_tthing" = true)
    (k_law_tthing : PySem.W.keepIn K (.ref f_law_tthing) = true)
    (a_law_tis_name : PySem.W.nsIn K mainGlobals "_law_tis_name" = some (some (.ref f_law_tis_name)))
    (l_law_tis_name : K.lookup f_law_tis_name = some ⟨oc_law_tis_name, od_law_tis_name, .func (PySem.W.fnOf "_law_tis_name" "_law_tis_name" (defArgs s_law_tis_name) (defBody s_law_tis_name) (defScope s_law_tis_name) .none kV_law_tis_name dc_law_tis_name pm_law_tis_name an_law_tis_name cd_law_tis_name ct_law_tis_name), sl_law_tis_name⟩)
    (cc_law_tis_name : PySem.W.codeIn K cd_law_tis_name "_law_tis_name" = true)
    (k_law_tis_name : PySem.W.keepIn K (.ref f_law_tis_name) = true)
    (a_law_tis_thing : PySem.W.nsIn K mainGlobals "_law_tis_thing" = some (some (.ref f_law_tis_thing)))
    (l_law_tis_thing : K.lookup f_law_tis_thing = some ⟨oc_law_tis_thing, od_law_tis_thing, .func (PySem.W.fnOf "_law_tis_thing" "_law_tis_thing" (defArgs s_law_tis_thing) (defBody s_law_tis_thing) (defScope s_law_tis_thing) .none kV_law_tis_thing dc_law_tis_thing pm_law_tis_thing an_law_tis_thing cd_law_tis_thing ct_law_tis_thing), sl_law_tis_thing⟩)
    (cc_law_tis_thing : PySem.W.codeIn K cd_law_tis_thing "_law_tis_thing" = true)
    (k_law_tis_thing : PySem.W.keepIn K (.ref f_law_tis_thing) = true)
    (a_law_tpieces : PySem.W.nsIn K mainGlobals "_law_tpieces" = some (some (.ref f_law_tpieces)))
    (l_law_tpieces : K.lookup f_law_tpieces = some ⟨oc_law_tpieces, od_law_tpieces, .func (PySem.W.fnOf "_law_tpieces" "_law_tpieces" (defArgs s_law_tpieces) (defBody s_law_tpieces) (defScope s_law_tpieces) .none kV_law_tpieces dc_law_tpieces pm_law_tpieces an_law_tpieces cd_law_tpieces ct_law_tpieces), sl_law_tpieces⟩)
    (cc_law_tpieces : PySem.W.codeIn K cd_law_tpieces "_law_tpieces" = true)
    (k_law_tpieces : PySem.W.keepIn K (.ref f_law_tpieces) = true)
    (a_law_todd : PySem.W.nsIn K mainGlobals "_law_todd" = some (some (.ref f_law_todd)))
    (l_law_todd : K.lookup f_law_todd = some ⟨oc_law_todd, od_law_todd, .func (PySem.W.fnOf "_law_todd" "_law_todd" (defArgs s_law_todd) (defBody s_law_todd) (defScope s_law_todd) .none kV_law_todd dc_law_todd pm_law_todd an_law_todd cd_law_todd ct_law_todd), sl_law_todd⟩)
    (cc_law_todd : PySem.W.codeIn K cd_law_todd "_law_todd" = true)
    (k_law_todd : PySem.W.keepIn K (.ref f_law_todd) = true)
    (a_law_tbent : PySem.W.nsIn K mainGlobals "_law_tbent" = some (some (.ref f_law_tbent)))
    (l_law_tbent : K.lookup f_law_tbent = some ⟨oc_law_tbent, od_law_tbent, .func (PySem.W.fnOf "_law_tbent" "_law_tbent" (defArgs s_law_tbent) (defBody s_law_tbent) (defScope s_law_tbent) .none kV_law_tbent dc_law_tbent pm_law_tbent an_law_tbent cd_law_tbent ct_law_tbent), sl_law_tbent⟩)
    (cc_law_tbent : PySem.W.codeIn K cd_law_tbent "_law_tbent" = true)
    (k_law_tbent : PySem.W.keepIn K (.ref f_law_tbent) = true)
    (a_law_tdeep : PySem.W.nsIn K mainGlobals "_law_tdeep" = some (some (.ref f_law_tdeep)))
    (l_law_tdeep : K.lookup f_law_tdeep = some ⟨oc_law_tdeep, od_law_tdeep, .func (PySem.W.fnOf "_law_tdeep" "_law_tdeep" (defArgs s_law_tdeep) (defBody s_law_tdeep) (defScope s_law_tdeep) .none kV_law_tdeep dc_law_tdeep pm_law_tdeep an_law_tdeep cd_law_tdeep ct_law_tdeep), sl_law_tdeep⟩)
    (cc_law_tdeep : PySem.W.codeIn K cd_law_tdeep "_law_tdeep" = true)
    (k_law_tdeep : PySem.W.keepIn K (.ref f_law_tdeep) = true)
    (a_law_tdeep_right : PySem.W.nsIn K mainGlobals "_law_tdeep_right" = some (some (.ref f_law_tdeep_right)))
    (l_law_tdeep_right : K.lookup f_law_tdeep_right = some ⟨oc_law_tdeep_right, od_law_tdeep_right, .func (PySem.W.fnOf "_law_tdeep_right" "_law_tdeep_right" (defArgs s_law_tdeep_right) (defBody s_law_tdeep_right) (defScope s_law_tdeep_right) .none kV_law_tdeep_right dc_law_tdeep_right pm_law_tdeep_right an_law_tdeep_right cd_law_tdeep_right ct_law_tdeep_right), sl_law_tdeep_right⟩)
    (cc_law_tdeep_right : PySem.W.codeIn K cd_law_tdeep_right "_law_tdeep_right" = true)
    (k_law_tdeep_right : PySem.W.keepIn K (.ref f_law_tdeep_right) = true)
    (a_law : PySem.W.nsIn K mainGlobals "law" = some (some (.ref f_law)))
    (l_law : K.lookup f_law = some ⟨oc_law, od_law, .func (PySem.W.fnOf "law" "law" (defArgs s_law) (defBody s_law) (defScope s_law) .none kV_law dc_law pm_law an_law cd_law ct_law), sl_law⟩)
    (cc_law : PySem.W.codeIn K cd_law "law" = true)
    (k_law : PySem.W.keepIn K (.ref f_law) = true)
    (z_len : PySem.W.nsIn K mainGlobals "len" = some none)
    (z_isinstance : PySem.W.nsIn K mainGlobals "isinstance" = some none)
    (z_all : PySem.W.nsIn K mainGlobals "all" = some none)
    (z_range : PySem.W.nsIn K mainGlobals "range" = some none)
    (z_str : PySem.W.nsIn K mainGlobals "str" = some none)
    (z_bool : PySem.W.nsIn K mainGlobals "bool" = some none)
    (z_int : PySem.W.nsIn K mainGlobals "int" = some none)
    (z_tuple : PySem.W.nsIn K mainGlobals "tuple" = some none)
    (z_sorted : PySem.W.nsIn K mainGlobals "sorted" = some none)
    (z_repr : PySem.W.nsIn K mainGlobals "repr" = some none)
    (z_enumerate : PySem.W.nsIn K mainGlobals "enumerate" = some none)
    (z_zip : PySem.W.nsIn K mainGlobals "zip" = some none)
    (g_LETTERS : PySem.W.nsIn K mainGlobals "LETTERS" = some (some u_LETTERS)) (gv_LETTERS : RelV (.str "abcdefghijklmnopqrstuvwxyz") u_LETTERS)
    (g_LONGEST : PySem.W.nsIn K mainGlobals "LONGEST" = some (some u_LONGEST)) (gv_LONGEST : RelV (.int 8) u_LONGEST)
    (g_NO_NAMES : PySem.W.nsIn K mainGlobals "NO_NAMES" = some (some (.ref ad_NO_NAMES)))
    (gl_NO_NAMES : K.lookup ad_NO_NAMES = some ⟨.type "tuple", oe_NO_NAMES, .seq it_NO_NAMES nn_NO_NAMES, sq_NO_NAMES⟩)
    (gz_NO_NAMES : it_NO_NAMES.size ≤ sizeLine) (gv_NO_NAMES : Vals [.str "all", .str "none", .str "way", .str "box", .str "pick"] it_NO_NAMES.toList) : Txt K mg := by
  have F_is_name := fun_mk (st := s_is_name) l_is_name cc_is_name k_is_name
  have b_is_name := F_is_name.binds (ps := ["thing"]) fun _ _ _ _ _ _ us hl => by obtain ⟨a0, us0, rfl, hl0⟩ := lnS (n := 0) hl;  obtain rfl := List.eq_nil_of_length_eq_zero hl0; rfl
  have F_are_rising := fun_mk (st := s_are_rising) l_are_rising cc_are_rising k_are_rising
  have b_are_rising := F_are_rising.binds (ps := ["words"]) fun _ _ _ _ _ _ us hl => by obtain ⟨a0, us0, rfl, hl0⟩ := lnS (n := 0) hl;  obtain rfl := List.eq_nil_of_length_eq_zero hl0; rfl
  have F_is_thing := fun_mk (st := s_is_thing) l_is_thing cc_is_thing k_is_thing
  have b_is_thing := F_is_thing.binds (ps := ["thing"]) fun _ _ _ _ _ _ us hl => by obtain ⟨a0, us0, rfl, hl0⟩ := lnS (n := 0) hl;  obtain rfl := List.eq_nil_of_length_eq_zero hl0; rfl
  have F_pieces := fun_mk (st := s_pieces) l_pieces cc_pieces k_pieces
  have b_pieces := F_pieces.binds (ps := ["thing"]) fun _ _ _ _ _ _ us hl => by obtain ⟨a0, us0, rfl, hl0⟩ := lnS (n := 0) hl;  obtain rfl := List.eq_nil_of_length_eq_zero hl0; rfl
  have F_is_formed := fun_mk (st := s_is_formed) l_is_formed cc_is_formed k_is_formed
  have b_is_formed := F_is_formed.binds (ps := ["thing"]) fun _ _ _ _ _ _ us hl => by obtain ⟨a0, us0, rfl, hl0⟩ := lnS (n := 0) hl;  obtain rfl := List.eq_nil_of_length_eq_zero hl0; rfl
  have F_parts_in := fun_mk (st := s_parts_in) l_parts_in cc_parts_in k_parts_in
  have b_parts_in := F_parts_in.binds (ps := ["thing"]) fun _ _ _ _ _ _ us hl => by obtain ⟨a0, us0, rfl, hl0⟩ := lnS (n := 0) hl;  obtain rfl := List.eq_nil_of_length_eq_zero hl0; rfl
  have F_law_tpen := fun_mk (st := s_law_tpen) l_law_tpen cc_law_tpen k_law_tpen
  have b_law_tpen := F_law_tpen.binds (ps := ["script"]) fun _ _ _ _ _ _ us hl => by obtain ⟨a0, us0, rfl, hl0⟩ := lnS (n := 0) hl;  obtain rfl := List.eq_nil_of_length_eq_zero hl0; rfl
  have F_law_tdraw := fun_mk (st := s_law_tdraw) l_law_tdraw cc_law_tdraw k_law_tdraw
  have b_law_tdraw := F_law_tdraw.binds (ps := ["pen", "many"]) fun _ _ _ _ _ _ us hl => by obtain ⟨a0, us0, rfl, hl0⟩ := lnS (n := 1) hl; obtain ⟨a1, us1, rfl, hl1⟩ := lnS (n := 0) hl0;  obtain rfl := List.eq_nil_of_length_eq_zero hl1; rfl
  have F_law_tnames := fun_mk (st := s_law_tnames) l_law_tnames cc_law_tnames k_law_tnames
  have b_law_tnames := F_law_tnames.binds (ps := ["pen", "many"]) fun _ _ _ _ _ _ us hl => by obtain ⟨a0, us0, rfl, hl0⟩ := lnS (n := 1) hl; obtain ⟨a1, us1, rfl, hl1⟩ := lnS (n := 0) hl0;  obtain rfl := List.eq_nil_of_length_eq_zero hl1; rfl
  have F_law_tthing := fun_mk (st := s_law_tthing) l_law_tthing cc_law_tthing k_law_tthing
  have b_law_tthing := F_law_tthing.binds (ps := ["pen", "words", "left"]) fun _ _ _ _ _ _ us hl => by obtain ⟨a0, us0, rfl, hl0⟩ := lnS (n := 2) hl; obtain ⟨a1, us1, rfl, hl1⟩ := lnS (n := 1) hl0; obtain ⟨a2, us2, rfl, hl2⟩ := lnS (n := 0) hl1;  obtain rfl := List.eq_nil_of_length_eq_zero hl2; rfl
  have F_law_tis_name := fun_mk (st := s_law_tis_name) l_law_tis_name cc_law_tis_name k_law_tis_name
  have b_law_tis_name := F_law_tis_name.binds (ps := ["thing"]) fun _ _ _ _ _ _ us hl => by obtain ⟨a0, us0, rfl, hl0⟩ := lnS (n := 0) hl;  obtain rfl := List.eq_nil_of_length_eq_zero hl0; rfl
  have F_law_tis_thing := fun_mk (st := s_law_tis_thing) l_law_tis_thing cc_law_tis_thing k_law_tis_thing
  have b_law_tis_thing := F_law_tis_thing.binds (ps := ["thing"]) fun _ _ _ _ _ _ us hl => by obtain ⟨a0, us0, rfl, hl0⟩ := lnS (n := 0) hl;  obtain rfl := List.eq_nil_of_length_eq_zero hl0; rfl
  have F_law_tpieces := fun_mk (st := s_law_tpieces) l_law_tpieces cc_law_tpieces k_law_tpieces
  have b_law_tpieces := F_law_tpieces.binds (ps := ["thing"]) fun _ _ _ _ _ _ us hl => by obtain ⟨a0, us0, rfl, hl0⟩ := lnS (n := 0) hl;  obtain rfl := List.eq_nil_of_length_eq_zero hl0; rfl
  have F_law_todd := fun_mk (st := s_law_todd) l_law_todd cc_law_todd k_law_todd
  have b_law_todd := F_law_todd.binds (ps := ["pen", "thing", "words"]) fun _ _ _ _ _ _ us hl => by obtain ⟨a0, us0, rfl, hl0⟩ := lnS (n := 2) hl; obtain ⟨a1, us1, rfl, hl1⟩ := lnS (n := 1) hl0; obtain ⟨a2, us2, rfl, hl2⟩ := lnS (n := 0) hl1;  obtain rfl := List.eq_nil_of_length_eq_zero hl2; rfl
  have F_law_tbent := fun_mk (st := s_law_tbent) l_law_tbent cc_law_tbent k_law_tbent
  have b_law_tbent := F_law_tbent.binds (ps := ["pen", "thing", "words"]) fun _ _ _ _ _ _ us hl => by obtain ⟨a0, us0, rfl, hl0⟩ := lnS (n := 2) hl; obtain ⟨a1, us1, rfl, hl1⟩ := lnS (n := 1) hl0; obtain ⟨a2, us2, rfl, hl2⟩ := lnS (n := 0) hl1;  obtain rfl := List.eq_nil_of_length_eq_zero hl2; rfl
  have F_law_tdeep := fun_mk (st := s_law_tdeep) l_law_tdeep cc_law_tdeep k_law_tdeep
  have b_law_tdeep := F_law_tdeep.binds (ps := ["ways", "words", "inner"]) fun _ _ _ _ _ _ us hl => by obtain ⟨a0, us0, rfl, hl0⟩ := lnS (n := 2) hl; obtain ⟨a1, us1, rfl, hl1⟩ := lnS (n := 1) hl0; obtain ⟨a2, us2, rfl, hl2⟩ := lnS (n := 0) hl1;  obtain rfl := List.eq_nil_of_length_eq_zero hl2; rfl
  have F_law_tdeep_right := fun_mk (st := s_law_tdeep_right) l_law_tdeep_right cc_law_tdeep_right k_law_tdeep_right
  have b_law_tdeep_right := F_law_tdeep_right.binds (ps := ["pen", "words"]) fun _ _ _ _ _ _ us hl => by obtain ⟨a0, us0, rfl, hl0⟩ := lnS (n := 1) hl; obtain ⟨a1, us1, rfl, hl1⟩ := lnS (n := 0) hl0;  obtain rfl := List.eq_nil_of_length_eq_zero hl1; rfl
  have F_law := fun_mk (st := s_law) l_law cc_law k_law
  have b_law := F_law.binds (ps := ["script"]) fun _ _ _ _ _ _ us hl => by obtain ⟨a0, us0, rfl, hl0⟩ := lnS (n := 0) hl;  obtain rfl := List.eq_nil_of_length_eq_zero hl0; rfl
  exact ⟨PySem.W.mg_none_of X G z_len,
    PySem.W.mg_none_of X G z_isinstance,
    PySem.W.mg_none_of X G z_all,
    PySem.W.mg_none_of X G z_range,
    PySem.W.mg_none_of X G z_str,
    PySem.W.mg_none_of X G z_bool,
    PySem.W.mg_none_of X G z_int,
    PySem.W.mg_none_of X G z_tuple,
    PySem.W.mg_none_of X G z_sorted,
    PySem.W.mg_none_of X G z_repr,
    PySem.W.mg_none_of X G z_enumerate,
    PySem.W.mg_none_of X G z_zip,
    ⟨u_LETTERS, PySem.W.mg_of X G g_LETTERS, gv_LETTERS⟩,
    ⟨u_LONGEST, PySem.W.mg_of X G g_LONGEST, gv_LONGEST⟩,
    ⟨ad_NO_NAMES, PySem.W.mg_of X G g_NO_NAMES, fun H => .inr ⟨_, it_NO_NAMES, nn_NO_NAMES, gl_NO_NAMES, rfl, rfl, gz_NO_NAMES, gv_NO_NAMES⟩⟩,
    ⟨f_is_name, _, F_is_name, PySem.W.mg_of X G a_is_name, b_is_name⟩,
    ⟨f_are_rising, _, F_are_rising, PySem.W.mg_of X G a_are_rising, b_are_rising⟩,
    ⟨f_is_thing, _, F_is_thing, PySem.W.mg_of X G a_is_thing, b_is_thing⟩,
    ⟨f_pieces, _, F_pieces, PySem.W.mg_of X G a_pieces, b_pieces⟩,
    ⟨f_is_formed, _, F_is_formed, PySem.W.mg_of X G a_is_formed, b_is_formed⟩,
    ⟨f_parts_in, _, F_parts_in, PySem.W.mg_of X G a_parts_in, b_parts_in⟩,
    ⟨f_law_tpen, _, F_law_tpen, PySem.W.mg_of X G a_law_tpen, b_law_tpen⟩,
    ⟨f_law_tdraw, _, F_law_tdraw, PySem.W.mg_of X G a_law_tdraw, b_law_tdraw⟩,
    ⟨f_law_tnames, _, F_law_tnames, PySem.W.mg_of X G a_law_tnames, b_law_tnames⟩,
    ⟨f_law_tthing, _, F_law_tthing, PySem.W.mg_of X G a_law_tthing, b_law_tthing⟩,
    ⟨f_law_tis_name, _, F_law_tis_name, PySem.W.mg_of X G a_law_tis_name, b_law_tis_name⟩,
    ⟨f_law_tis_thing, _, F_law_tis_thing, PySem.W.mg_of X G a_law_tis_thing, b_law_tis_thing⟩,
    ⟨f_law_tpieces, _, F_law_tpieces, PySem.W.mg_of X G a_law_tpieces, b_law_tpieces⟩,
    ⟨f_law_todd, _, F_law_todd, PySem.W.mg_of X G a_law_todd, b_law_todd⟩,
    ⟨f_law_tbent, _, F_law_tbent, PySem.W.mg_of X G a_law_tbent, b_law_tbent⟩,
    ⟨f_law_tdeep, _, F_law_tdeep, PySem.W.mg_of X G a_law_tdeep, b_law_tdeep⟩,
    ⟨f_law_tdeep_right, _, F_law_tdeep_right, PySem.W.mg_of X G a_law_tdeep_right, b_law_tdeep_right⟩,
    ⟨f_law, _, F_law, PySem.W.mg_of X G a_law, b_law⟩⟩
theorem walk {l : PySem.W.OpenLaw} {q : Program} {loose : List Str} {XP : (Str → Option Value) → Heap → Prop} {YP : World → Heap → Prop} {d : DefRec} {K : Params → PySem.W.Frag} (hn : l.most = some 63) (hdf : d.params.defaults = [])
    (hY : ∀ (w : World) (h : Heap), YP w h → (K w.params).In h) (hname : d.name = "law")
    (F : ∀ (w : World) (mg : Str → Option Value) (h : Heap), (K w.params).In h → h.Ns mainGlobals mg → Txt (K w.params) mg) :
    PySem.W.WalkO q loose XP YP l.row.toRowW d [] (fun f vs => PySem.call f vs) :=
  L2.walk_of (n := 63) (k := 60) (x := "script") (CX := fun _ => CX0) (sp := fun w => spLaw (K w.params)) hn (by decide) hdf ⟨rfl, by decide, by decide, rfl⟩ hY (fun w mg fa h KX G hmg => by
    have T := F w mg h KX G
    obtain ⟨f, fd, Fu, m, b⟩ := T.t_law
    rw [hname] at hmg
    rw [m] at hmg
    cases hmg
    refine ⟨fd, fun s u => ?_, fun base kb nb => ?_⟩
    · have := Fu.ex
      obtain ⟨oc, od, kV, doc, pm, an, cdv, ct, osl, rfl, lk, hcd⟩ := this
      exact .of_eq rfl
    · obtain ⟨f', fd', G', m', k', b', oc', od', osl', lk'⟩ := (ok_law T : FnK l.prog w (K w.params) mg base 60 "law" ["script"] (spLaw (K w.params)))
      rw [m] at m'
      cases m'
      have e : fd = fd' := by
        have hx := Fu.ex
        obtain ⟨oc, od, kV, doc, pm, an, cdv, ct, osl, e1, lk, hcd⟩ := hx
        rw [lk] at lk'
        have := Option.some.inj lk'
        injection this with _ _ h3 _
        injection h3
      rw [e]; exact G') (fun _ _ a ns hl _ hS => ⟨a, ns, rfl, hS, hl, fun _ => rfl⟩) fun _ _ _ _ _ z => z
end T1
open PySem PySem.W PyProof.Rows L2
set_option maxRecDepth 100000 in
set_option maxHeartbeats 0 in
theorem PySem.Challenge.cw_coilkind_k55_things_known_holds : PySem.Challenge.rw_coilkind_k55_things_known.Holds := by
  w_on; o_law; k_head; (case hw => w_witness2)
  k_fill
  refine T1.walk (l := PySem.Challenge.rw_coilkind_k55_things_known) rfl rfl (fun w h Y => PySem.W.kIn_of Y) rfl ?F
  case F =>
    intro w mg h KX G
    refine' T1.txt_mk KX G (a_is_name := ?a_is_name) (l_is_name := ?l_is_name) (cc_is_name := ?cc_is_name) (k_is_name := ?k_is_name) (a_are_rising := ?a_are_rising) (l_are_rising := ?l_are_rising) (cc_are_rising := ?cc_are_rising) (k_are_rising := ?k_are_rising) (a_is_thing := ?a_is_thing) (l_is_thing := ?l_is_thing) (cc_is_thing := ?cc_is_thing) (k_is_thing := ?k_is_thing) (a_pieces := ?a_pieces) (l_pieces := ?l_pieces) (cc_pieces := ?cc_pieces) (k_pieces := ?k_pieces) (a_is_formed := ?a_is_formed) (l_is_formed := ?l_is_formed) (cc_is_formed := ?cc_is_formed) (k_is_formed := ?k_is_formed) (a_parts_in := ?a_parts_in) (l_parts_in := ?l_parts_in) (cc_parts_in := ?cc_parts_in) (k_parts_in := ?k_parts_in) (a_law_tpen := ?a_law_tpen) (l_law_tpen := ?l_law_tpen) (cc_law_tpen := ?cc_law_tpen) (k_law_tpen := ?k_law_tpen) (a_law_tdraw := ?a_law_tdraw) (l_law_tdraw := ?l_law_tdraw) (cc_law_tdraw := ?cc_law_tdraw) (k_law_tdraw := ?k_law_tdraw) (a_law_tnames := ?a_law_tnames) (l_law_tnames := ?l_law_tnames) (cc_law_tnames := ?cc_law_tnames) (k_law_tnames := ?k_law_tnames) (a_law_tthing := ?a_law_tthing) (l_law_tthing := ?l_law_tthing) (cc_law_tthing := ?cc_law_tthing) (k_law_tthing := ?k_law_tthing) (a_law_tis_name := ?a_law_tis_name) (l_law_tis_name := ?l_law_tis_name) (cc_law_tis_name := ?cc_law_tis_name) (k_law_tis_name := ?k_law_tis_name) (a_law_tis_thing := ?a_law_tis_thing) (l_law_tis_thing := ?l_law_tis_thing) (cc_law_tis_thing := ?cc_law_tis_thing) (k_law_tis_thing := ?k_law_tis_thing) (a_law_tpieces := ?a_law_tpieces) (l_law_tpieces := ?l_law_tpieces) (cc_law_tpieces := ?cc_law_tpieces) (k_law_tpieces := ?k_law_tpieces) (a_law_todd := ?a_law_todd) (l_law_todd := ?l_law_todd) (cc_law_todd := ?cc_law_todd) (k_law_todd := ?k_law_todd) (a_law_tbent := ?a_law_tbent) (l_law_tbent := ?l_law_tbent) (cc_law_tbent := ?cc_law_tbent) (k_law_tbent := ?k_law_tbent) (a_law_tdeep := ?a_law_tdeep) (l_law_tdeep := ?l_law_tdeep) (cc_law_tdeep := ?cc_law_tdeep) (k_law_tdeep := ?k_law_tdeep) (a_law_tdeep_right := ?a_law_tdeep_right) (l_law_tdeep_right := ?l_law_tdeep_right) (cc_law_tdeep_right := ?cc_law_tdeep_right) (k_law_tdeep_right := ?k_law_tdeep_right) (a_law := ?a_law) (l_law := ?l_law) (cc_law := ?cc_law) (k_law := ?k_law) (z_len := ?z_len) (z_isinstance := ?z_isinstance) (z_all := ?z_all) (z_range := ?z_range) (z_str := ?z_str) (z_bool := ?z_bool) (z_int := ?z_int) (z_tuple := ?z_tuple) (z_sorted := ?z_sorted) (z_repr := ?z_repr) (z_enumerate := ?z_enumerate) (z_zip := ?z_zip) (g_LETTERS := ?g_LETTERS) (g_LONGEST := ?g_LONGEST) (g_NO_NAMES := ?g_NO_NAMES) (gl_NO_NAMES := ?gl_NO_NAMES) (gv_LETTERS := ?gv_LETTERS) (gv_LONGEST := ?gv_LONGEST) (gz_NO_NAMES := ?gz_NO_NAMES) (gv_NO_NAMES := ?gv_NO_NAMES)
    (case a_is_name => k_is)
    (case l_is_name => k_is)
    (case cc_is_name => k_is)
    (case k_is_name => k_is)
    (case a_are_rising => k_is)
    (case l_are_rising => k_is)
    (case cc_are_rising => k_is)
    (case k_are_rising => k_is)
    (case a_is_thing => k_is)
    (case l_is_thing => k_is)
    (case cc_is_thing => k_is)
    (case k_is_thing => k_is)
    (case a_pieces => k_is)
    (case l_pieces => k_is)
    (case cc_pieces => k_is)
    (case k_pieces => k_is)
    (case a_is_formed => k_is)
    (case l_is_formed => k_is)
    (case cc_is_formed => k_is)
    (case k_is_formed => k_is)
    (case a_parts_in => k_is)
    (case l_parts_in => k_is)
    (case cc_parts_in => k_is)
    (case k_parts_in => k_is)
    (case a_law_tpen => k_is)
    (case l_law_tpen => k_is)
    (case cc_law_tpen => k_is)
    (case k_law_tpen => k_is)
    (case a_law_tdraw => k_is)
    (case l_law_tdraw => k_is)
    (case cc_law_tdraw => k_is)
    (case k_law_tdraw => k_is)
    (case a_law_tnames => k_is)
    (case l_law_tnames => k_is)
    (case cc_law_tnames => k_is)
    (case k_law_tnames => k_is)
    (case a_law_tthing => k_is)
    (case l_law_tthing => k_is)
    (case cc_law_tthing => k_is)
    (case k_law_tthing => k_is)
    (case a_law_tis_name => k_is)
    (case l_law_tis_name => k_is)
    (case cc_law_tis_name => k_is)
    (case k_law_tis_name => k_is)
    (case a_law_tis_thing => k_is)
    (case l_law_tis_thing => k_is)
    (case cc_law_tis_thing => k_is)
    (case k_law_tis_thing => k_is)
    (case a_law_tpieces => k_is)
    (case l_law_tpieces => k_is)
    (case cc_law_tpieces => k_is)
    (case k_law_tpieces => k_is)
    (case a_law_todd => k_is)
    (case l_law_todd => k_is)
    (case cc_law_todd => k_is)
    (case k_law_todd => k_is)
    (case a_law_tbent => k_is)
    (case l_law_tbent => k_is)
    (case cc_law_tbent => k_is)
    (case k_law_tbent => k_is)
    (case a_law_tdeep => k_is)
    (case l_law_tdeep => k_is)
    (case cc_law_tdeep => k_is)
    (case k_law_tdeep => k_is)
    (case a_law_tdeep_right => k_is)
    (case l_law_tdeep_right => k_is)
    (case cc_law_tdeep_right => k_is)
    (case k_law_tdeep_right => k_is)
    (case a_law => k_is)
    (case l_law => k_is)
    (case cc_law => k_is)
    (case k_law => k_is)
    (case z_len => k_is)
    (case z_isinstance => k_is)
    (case z_all => k_is)
    (case z_range => k_is)
    (case z_str => k_is)
    (case z_bool => k_is)
    (case z_int => k_is)
    (case z_tuple => k_is)
    (case z_sorted => k_is)
    (case z_repr => k_is)
    (case z_enumerate => k_is)
    (case z_zip => k_is)
    (case g_LETTERS => k_is)
    (case g_LONGEST => k_is)
    (case g_NO_NAMES => k_is)
    (case gl_NO_NAMES => k_is)
    (case gv_LETTERS => exact ⟨_, rfl⟩)
    (case gv_LONGEST => exact ⟨_, rfl⟩)
    (case gz_NO_NAMES => decide)
    (case gv_NO_NAMES => exact .cons ⟨_, rfl⟩ (.cons ⟨_, rfl⟩ (.cons ⟨_, rfl⟩ (.cons ⟨_, rfl⟩ (.cons ⟨_, rfl⟩ (.nil))))))

