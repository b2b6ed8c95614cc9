import PyProof.Rows.All
import Wide.All
import OpenK.AllK
import Wide.FinOn
import Lean
import PyProof.EqAt
import PyProof.EqKinds
import PyProof.TupleCall
import PyProof.DictCompW
import PyProof.AutoListH
import PyProof.EnumMake
import PyProof.ZipIter
import PyProof.AttrMissSeq
import KE.KDictOf
import PyProof.ReprLen
import PyProof.StrLawsRepr
import KE.KUnpackStar
import PyProof.DictWalks
import PyProof.Rows.DictUnroll
import PyProof.Rows.Range3
import PyProof.Rows.ChunkEnd
import PyProof.Rows.ChunkLeaf
import PyProof.StrCalls2
import PyProof.StrLawsTight
import PyProof.StrLawsChain
import PyProof.Rows.StrSplitJoin
import PyProof.Conv_int_bool
import PyProof.Rows.TupMore
import PyProof.Rows.SetFrom
import PyProof.SetRoads
import KE.KRevIter
import PyProof.CollectIter
import PyProof.TupleOfGen
import KE.KItemsList
import PyProof.NeKinds
import PyProof.StrLawsIn
import PyProof.Rows.StrCut
import PyProof.StrCalls
import PyProof.CallFns
import PyProof.FString5
import PyProof.NsCount
import PyProof.DictItems
import KE.KPairComp
import PyProof.DictValues
import PyProof.SumWalk
import PyProof.ConsumeWalk
import PyProof.SumAny
import PyProof.FactsAll.range_2
import PyProof.WalksMore
import PyProof.MinMaxWalk
import PyProof.SeqI3
import KE.KDictList
import KE.KDictLaws
import KE.KSortTup
import KE.KDictSum
import KE.KStrOpen
import PySem.Challenge.RW_coilkind_k76_makers_at_places
set_option Elab.async false
set_option linter.all false
set_option maxRecDepth 100000
namespace L2
open PySem PySem.Spec PyProof.Rows
abbrev Key := Sum Int Str
def keyIs : Key → Value → Bool
  | .inl k, v => Value.isInt k v
  | .inr x, v => Value.isStrOf x v
def keyH (w : World) : Key → Int
  | .inl k => hashInt k
  | .inr x => hashStr w x
theorem keyIs_shape : ∀ {k : Key} {v : Value}, keyIs k v = true → (∃ i t, k = Sum.inl i ∧ v = Value.int i t) ∨ (∃ x t, k = Sum.inr x ∧ v = Value.str x t)
  | .inl i, v, h => by
    obtain ⟨t, e⟩ := Value.isInt_shape (k := i) (v := v) h
    exact .inl ⟨i, t, rfl, e⟩
  | .inr x, v, h => by
    obtain ⟨t, e⟩ := Value.isStrOf_shape (x := x) (v := v) h
    exact .inr ⟨x, t, rfl, e⟩
theorem keyIs_int (i : Int) (t : Tok) : keyIs (.inl i) (.int i t) = true := by simp [keyIs, Value.isInt]
theorem keyIs_str (x : Str) (t : Tok) : keyIs (.inr x) (.str x t) = true := by simp [keyIs, Value.isStrOf]
theorem key_ll (a b : Int) : decide ((Sum.inl a : Key) = Sum.inl b) = (a == b) := by
  by_cases e : a = b
  · subst e; simp
  · have h : ¬ (Sum.inl a : Key) = Sum.inl b := fun q => e (Sum.inl.inj q)
    rw [decide_eq_false h]
    exact (beq_eq_false_iff_ne.mpr e).symm
theorem key_rr (a b : Str) : decide ((Sum.inr a : Key) = Sum.inr b) = decide (a = b) := by
  by_cases e : a = b
  · subst e; simp
  · have h : ¬ (Sum.inr a : Key) = Sum.inr b := fun q => e (Sum.inr.inj q)
    rw [decide_eq_false h, decide_eq_false e]
theorem key_lr (a : Int) (b : Str) : decide ((Sum.inl a : Key) = Sum.inr b) = false := decide_eq_false (fun q => nomatch q)
theorem key_rl (a : Str) (b : Int) : decide ((Sum.inr a : Key) = Sum.inl b) = false := decide_eq_false (fun q => nomatch q)
def mixKind (prog : Program) (w : World) : PySem.KeyKind prog w Key where
  is := keyIs
  hash := keyH w
  inj := fun v a b ha hb => by
    rcases keyIs_shape ha with ⟨i, t, rfl, rfl⟩ | ⟨x, t, rfl, rfl⟩
    · rcases keyIs_shape hb with ⟨j, u, rfl, e⟩ | ⟨y, u, rfl, e⟩
      · injection e with e1 _; rw [e1]
      · exact nomatch e
    · rcases keyIs_shape hb with ⟨j, u, rfl, e⟩ | ⟨y, u, rfl, e⟩
      · exact nomatch e
      · injection e with e1 _; rw [e1]
  byValue := fun k v h => by
    rcases keyIs_shape h with ⟨i, t, rfl, rfl⟩ | ⟨x, t, rfl, rfl⟩ <;> rfl
  pyHash := fun hv h => by
    rcases keyIs_shape hv with ⟨i, t, rfl, rfl⟩ | ⟨x, t, rfl, rfl⟩
    · exact wpAny_pyHash_int h
    · exact wpAny_pyHash_str h
  eqBool := fun hu hv h => by
    rcases keyIs_shape hu with ⟨i, t, rfl, rfl⟩ | ⟨x, t, rfl, rfl⟩
    · rcases keyIs_shape hv with ⟨j, u, rfl, rfl⟩ | ⟨y, u, rfl, rfl⟩
      · rw [key_ll] at h; exact wpAny_eqBool_int h
      · rw [key_lr] at h; exact SeqAt.EqAt.int_str i t y u _ _ _ _ h
    · rcases keyIs_shape hv with ⟨j, u, rfl, rfl⟩ | ⟨y, u, rfl, rfl⟩
      · rw [key_rl] at h; exact SeqAt.EqAt.str_int x t j u _ _ _ _ h
      · rw [key_rr] at h; exact wpAny_eqBool_str h
  «strs» := fun k x t v h => by
    rcases keyIs_shape h with ⟨i, u, rfl, e⟩ | ⟨y, u, rfl, e⟩
    · exact nomatch e
    · injection e with e1 _
      subst e1
      cases v <;> rfl
theorem mixKind_int (prog : Program) (w : World) (i : Int) (t : Tok) : (mixKind prog w).is (.inl i) (.int i t) = true := keyIs_int i t
theorem mixKind_str (prog : Program) (w : World) (x : Str) (t : Tok) : (mixKind prog w).is (.inr x) (.str x t) = true := keyIs_str x t
end L2
namespace L2
open PySem PySem.Spec PyProof.Rows
inductive V where
  | non | bl (b : Bool) | int (i : Int) | str (x : Str) | byt (b : Array UInt8) | flt (b : UInt64) | ref (a : Addr) | ty (n : String)
  deriving DecidableEq
def RelV : V → Value → Prop
  | .non, u => u = Value.none
  | .bl b, u => u = Value.bool b
  | .int i, u => ∃ t, u = Value.int i t
  | .str x, u => ∃ t, u = Value.str x t
  | .byt b, u => ∃ t, u = Value.bytes b t
  | .flt b, u => ∃ t, u = Value.float b t
  | .ref a, u => u = Value.ref a
  | .ty n, u => u = Value.type n
abbrev Vals : List V → List Value → Prop := Paired RelV
theorem Vals.length {xs : List V} {us : List Value} (r : Vals xs us) : xs.length = us.length := Paired.length r
theorem Vals.get : ∀ {xs : List V} {us : List Value} {i : Nat} {x : V}, Vals xs us → xs[i]? = some x → ∃ u, us[i]? = some u ∧ RelV x u
  | _, _, _, _, .nil, e => by simp at e
  | _, _, 0, _, .cons r _, e => by simp at e; subst e; exact ⟨_, rfl, r⟩
  | _, _, i + 1, x, .cons _ t, e => by
    obtain ⟨u, h1, h2⟩ := Vals.get (i := i) (x := x) t (by simpa using e)
    exact ⟨u, by simpa using h1, h2⟩
theorem Vals.set {x : V} {u : Value} (r : RelV x u) : ∀ {xs : List V} {us : List Value} (i : Nat), Vals xs us → Vals (xs.set i x) (us.set i u)
  | _, _, _, .nil => .nil
  | _, _, 0, .cons _ t => .cons r t
  | _, _, i + 1, .cons q t => .cons q (Vals.set r i t)
theorem Vals.append : ∀ {xs ys : List V} {us ws : List Value}, Vals xs us → Vals ys ws → Vals (xs ++ ys) (us ++ ws)
  | _, _, _, _, .nil, s => s
  | _, _, _, _, .cons r t, s => .cons r (Vals.append t s)
theorem Vals.take : ∀ {xs : List V} {us : List Value} (n : Nat), Vals xs us → Vals (xs.take n) (us.take n)
  | _, _, 0, _ => .nil
  | _, _, _ + 1, .nil => .nil
  | _, _, n + 1, .cons r t => .cons r (Vals.take n t)
theorem Vals.drop : ∀ {xs : List V} {us : List Value} (n : Nat), Vals xs us → Vals (xs.drop n) (us.drop n)
  | _, _, 0, r => r
  | _, _, _ + 1, .nil => .nil
  | _, _, n + 1, .cons _ t => Vals.drop n t
def RelO : Option V → Option Value → Prop
  | some v, some u => RelV v u
  | none, none => True
  | _, _ => False
def KV {κ : Type} : List (κ × V) → List (κ × Value) → Prop := Paired fun (p : κ × V) (q : κ × Value) => p.1 = q.1 ∧ RelV p.2 q.2
def kV : Key → V
  | .inl i => .int i
  | .inr x => .str x
inductive HO where
    | lst (xs : List V)
    | tup (xs : List V)
    | dK (kvs : List (Key × V)) | dT (kvs : List (List Key × V))
    | set (S : Int → Bool) (n : Nat)
    | ins (C dx : Addr) (fs : List (Str × V))
    | own (x : Addr)
    | xd (fs : List (Str × V))
    | met (f x : Addr)
    | rng (lo hi : Int)
    | frz (o : Obj) (u : HO)
    | tbl (ps : Array Value)
    | ext (φ : Heap → Prop)
abbrev Hp := Addr → Option HO
def upd (H : Hp) (a : Addr) (o : HO) : Hp := fun b => if b = a then some o else H b
theorem upd_same {H : Hp} {a : Addr} {o : HO} : upd H a o a = some o := by unfold upd; rw [if_pos rfl]
theorem upd_ne {H : Hp} {a b : Addr} {o : HO} (h : b ≠ a) : upd H a o b = H b := by unfold upd; rw [if_neg h]
theorem upd_upd {H : Hp} {a : Addr} {o u : HO} : upd (upd H a o) a u = upd H a u := by
  funext b; unfold upd; split <;> rfl
theorem ne_of_none {H : Hp} {a b : Addr} {o : HO} (h : H a = some o) (h' : H b = none) : a ≠ b := by
  intro e; subst e; rw [h] at h'; cases h'
def NoDct (h : Heap) (a : Addr) : Prop := ∀ o, h.get? a = some o → o.dict = none
theorem NoDct.new {h : Heap} {ob : Obj} (h0 : ob.isFreed = false) (hd : ob.dict = none) : NoDct (h.push ob) h.objs.size := fun o q => by rw [Heap.get?_push_size _ h0] at q; cases q; exact hd
def RdT (H : Hp) (b : Addr) (ys : List V) : Prop := H b = some (.tup ys) ∨ ∃ o, H b = some (.frz o (.tup ys))
theorem RdT.upd {H : Hp} {b a : Addr} {ys : List V} {o : HO} (r : RdT H b ys) (ne : ∀ u, H b = some u → b ≠ a) : RdT (L2.upd H a o) b ys := by
  rcases r with r | ⟨ob, r⟩
  · exact .inl (by rw [upd_ne (ne _ r)]; exact r)
  · exact .inr ⟨ob, by rw [upd_ne (ne _ r)]; exact r⟩
section
variable (P : Program) (w : World)
def ObjOk (H : Hp) (h : Heap) (a : Addr) : HO → Prop
  | .lst xs => xs.length ≤ sizeLine ∧ ∃ (its : List Value) (n : Nat), Vals xs its ∧ h.get? a = some { cls := .type "list", data := .seq its.toArray n }
  | .tup xs => (xs.length ≤ sizeLine ∧ NoDct h a) ∧ ∃ its : List Value, Vals xs its ∧ IsTup h a its.toArray
  | .dK kvs => kvs.length ≤ sizeLine ∧ (a == sysModules) = false ∧ ∃ vs, KV kvs vs ∧ h.DictOf (mixKind P w) a vs
  | .dT kvs => kvs.length ≤ sizeLine ∧ (a == sysModules) = false ∧ ∃ xs : List (List Key × Addr × Value),
      Paired (fun (p : List Key × V) (q : List Key × Addr × Value) => p.1 = q.1 ∧ RdT H q.2.1 (p.1.map kV) ∧ RelV p.2 q.2.2) kvs xs ∧
      ∃ o es ep, h.get? a = some o ∧ o.ExactDict ∧ o.data = .dict es ep ∧ es.toList = xs.map (entryOfKey (tupleKind (mixKind P w))) ∧ (xs.map (·.1)).Nodup
  | .set S n => h.SetOf (intKind P w) a S n
  | .ins C dx fs => H dx = some (.own a) ∧ fs.length ≤ 1000 ∧ dx ≠ a ∧ h.get? a = some (PySem.W.instObj C dx) ∧
      ∃ mA, h.Ns1 dx mA ∧ (∀ f, RelO (fs.lookup f) (mA f)) ∧ PySem.Within mA (fs.map (·.1))
  | .own _ => ∃ o, h.get? a = some o
  | .xd fs => ∃ mA, h.Ns1 a mA ∧ ∀ f, RelO (fs.lookup f) (mA f)
  | .rng lo hi => ∃ t u v, h.get? a = some { cls := .type "range", data := .fields #[.int lo t, .int hi u, .int 1 v] }
  | .frz o u => h.get? a = some o ∧ ObjOk H h a u
  | .tbl ps => h.get? a = some { cls := .none, data := .fields ps }
  | .met f x => h.get? a = some (PySem.W.methodObj (.ref f) (.ref x))
  | .ext φ => φ h ∧ (∃ o, h.get? a = some o) ∧ ∀ h1 h2 : Heap, φ h1 → (∀ o, h1.get? a = some o → h2.get? a = some o) → φ h2
def HOk (H : Hp) (h : Heap) : Prop := ∀ a o, H a = some o → ObjOk P w H h a o
end
section
variable {P : Program} {w : World} {H H' : Hp} {h h' : Heap} {a : Addr} {o : HO}
theorem ObjOk.lt (x : ObjOk P w H h a o) : a < h.objs.size := by
  cases o with
  | lst xs => obtain ⟨_, _, _, _, e⟩ := x; exact Heap.lt_size e
  | tup xs => obtain ⟨_, _, _, p⟩ := x; exact p.lt
  | dK kvs => obtain ⟨_, _, _, _, o, _, _, e, _⟩ := x; exact Heap.lt_size e
  | dT kvs => obtain ⟨_, _, _, _, o, _, _, e, _⟩ := x; exact Heap.lt_size e
  | set S n => obtain ⟨o, _, _, _, e, _⟩ := x; exact Heap.lt_size e
  | ins C dx fs => obtain ⟨_, _, _, e, _⟩ := x; exact Heap.lt_size e
  | own y => obtain ⟨_, e⟩ := x; exact Heap.lt_size e
  | xd fs => obtain ⟨_, ⟨_, _, _, e, _⟩, _⟩ := x; exact Heap.lt_size e
  | rng lo hi => obtain ⟨_, _, _, e⟩ := x; exact Heap.lt_size e
  | frz ob u => obtain ⟨e, _⟩ := x; exact Heap.lt_size e
  | tbl ps => exact Heap.lt_size (show h.get? a = some _ from x)
  | met f y => exact Heap.lt_size (show h.get? a = some _ from x)
  | ext φ => obtain ⟨_, ⟨_, e⟩, _⟩ := x; exact Heap.lt_size e
theorem Paired.mapP {α β : Type} {F G : α → β → Prop} : ∀ {l₁ : List α} {l₂ : List β}, Paired F l₁ l₂ → (∀ a b, F a b → G a b) → Paired G l₁ l₂
  | _, _, .nil, _ => .nil
  | _, _, .cons r t, f => .cons (f _ _ r) (Paired.mapP t f)
theorem ObjOk.stay (x : ObjOk P w H h a o) (k : ∀ b u, (b = a ∨ H b = some (.own a)) → h.get? b = some u → h'.get? b = some u)
    (ho : ∀ b, H b = some (.own a) → H' b = some (.own a)) (ht : ∀ b xs, RdT H b xs → RdT H' b xs) : ObjOk P w H' h' a o := by
  induction o with
  | lst xs => obtain ⟨z, its, n, r, e⟩ := x; exact ⟨z, its, n, r, k _ _ (.inl rfl) e⟩
  | tup xs => obtain ⟨⟨z, nd⟩, its, r, ob, e, c⟩ := x; exact ⟨⟨z, fun o q => by rw [k _ _ (.inl rfl) e] at q; cases q; exact nd _ e⟩, its, r, ob, k _ _ (.inl rfl) e, c⟩
  | dK kvs => obtain ⟨z, y, vs, r, ob, es, ep, e, c⟩ := x; exact ⟨z, y, vs, r, ob, es, ep, k _ _ (.inl rfl) e, c⟩
  | dT kvs =>
    obtain ⟨z, y, xs, r, ob, es, ep, e, c⟩ := x
    exact ⟨z, y, xs, Paired.mapP r fun p q z => ⟨z.1, ht _ _ z.2.1, z.2.2⟩, ob, es, ep, k _ _ (.inl rfl) e, c⟩
  | set S n => obtain ⟨ob, es, ep, t, e, c⟩ := x; exact ⟨ob, es, ep, t, k _ _ (.inl rfl) e, c⟩
  | ins C dx fs =>
    obtain ⟨d, z, ne, e, mA, ⟨od, es, ep, e2, c⟩, r⟩ := x
    exact ⟨ho _ d, z, ne, k _ _ (.inl rfl) e, mA, ⟨od, es, ep, k _ _ (.inr d) e2, c⟩, r⟩
  | own y => obtain ⟨ob, e⟩ := x; exact ⟨ob, k _ _ (.inl rfl) e⟩
  | xd fs => obtain ⟨mA, ⟨od, es, ep, e, c⟩, r⟩ := x; exact ⟨mA, ⟨od, es, ep, k _ _ (.inl rfl) e, c⟩, r⟩
  | rng lo hi => obtain ⟨t, u, v, e⟩ := x; exact ⟨t, u, v, k _ _ (.inl rfl) e⟩
  | frz ob u ih => obtain ⟨e, q⟩ := x; exact ⟨k _ _ (.inl rfl) e, ih q⟩
  | tbl ps =>
    have e : h.get? a = some { cls := .none, data := .fields ps } := x
    show h'.get? a = some { cls := .none, data := .fields ps }
    exact k a _ (.inl rfl) e
  | met f y =>
    have e : h.get? a = some (PySem.W.methodObj (.ref f) (.ref y)) := x
    show h'.get? a = some (PySem.W.methodObj (.ref f) (.ref y))
    exact k a _ (.inl rfl) e
  | ext φ => obtain ⟨p, ⟨o, e⟩, st⟩ := x; exact ⟨st _ _ p fun o q => k _ _ (.inl rfl) q, ⟨o, k _ _ (.inl rfl) e⟩, st⟩
theorem HOk.lt (x : HOk P w H h) (e : H a = some o) : a < h.objs.size := (x a o e).lt
theorem HOk.fresh (x : HOk P w H h) (e : h.objs.size ≤ a) : H a = none := by
  cases q : H a with
  | none => rfl
  | some u => exact absurd (Nat.lt_of_lt_of_le (x.lt q) e) (Nat.lt_irrefl _)
theorem HOk.kept (x : HOk P w H h) (k : ∀ b u, h.get? b = some u → h'.get? b = some u) : HOk P w H h' := fun a o e =>
  (x a o e).stay (fun b u _ q => k b u q) (fun _ q => q) fun _ _ q => q
theorem HOk.laid (x : HOk P w H h) (k : ∀ b u, h.get? b = some u → h'.get? b = some u) (hp : h.objs.size ≤ a) (new : ObjOk P w (upd H a o) h' a o) : HOk P w (upd H a o) h' := fun b u e => by
  have hn := x.fresh hp
  by_cases hb : b = a
  · subst hb; rw [upd_same] at e; cases e; exact new
  · rw [upd_ne hb] at e
    exact (x b u e).stay (fun c v _ q => k c v q) (fun c q => by rw [upd_ne (ne_of_none q hn)]; exact q) fun c xs q => q.upd fun u hu => ne_of_none hu hn
end
def Rd (H : Hp) (a : Addr) (u : HO) : Prop := H a = some u ∨ ∃ o, H a = some (.frz o u)
theorem Rd.ok {P : Program} {w : World} {H : Hp} {h : Heap} {a : Addr} {u : HO} (r : Rd H a u) (x : HOk P w H h) : ObjOk P w H h a u := by
  rcases r with r | ⟨o, r⟩
  · exact x a u r
  · obtain ⟨_, q⟩ := x a _ r
    exact q
def Mut : Option HO → Prop
  | some (.lst _) => True
  | some (.dK _) => True
  | some (.dT _) => True
  | some (.set _ _) => True
  | some (.ins _ _ _) => True
  | some (.ext _) => True
  | _ => False
section
variable {P : Program} {w : World} {H : Hp} {h h' : Heap} {x e : Addr} {o' : HO}
theorem HOk.write (ok : HOk P w H h) (mu : Mut (H x)) (he : e = x ∨ H e = some (.own x)) (k : ∀ b u, b ≠ e → h.get? b = some u → h'.get? b = some u) (heo : ∃ u, h'.get? e = some u)
    (new : ObjOk P w (upd H x o') h' x o') : HOk P w (upd H x o') h' := fun b u q => by
  have nown : ∀ c y, H c = some (.own y) → c ≠ x := fun c y r z => by subst z; rw [r] at mu; exact mu
  have ntup : ∀ c xs, H c = some (.tup xs) → c ≠ x := fun c xs r z => by subst z; rw [r] at mu; exact mu
  by_cases hb : b = x
  · subst hb; rw [upd_same] at q; cases q; exact new
  · rw [upd_ne hb] at q
    by_cases hbe : b = e
    · have q' : H b = some (.own x) := by
        rcases he with z | z
        · exact absurd (hbe.trans z) hb
        · rw [hbe]; exact z
      rw [q] at q'; cases q'
      obtain ⟨v, hv⟩ := heo
      exact ⟨v, by rw [hbe]; exact hv⟩
    · refine (ok b u q).stay (fun c v hc r => k c v ?_ r) (fun c r => by rw [upd_ne (nown c b r)]; exact r) fun c xs r => r.upd fun _ _ z => by
        subst z
        rcases r with r | ⟨_, r⟩ <;> (rw [r] at mu; exact mu)
      rcases hc with rfl | hc
      · exact hbe
      · rintro rfl
        rcases he with z | z
        · exact nown c b hc z
        · rw [hc] at z; cases z; exact hb rfl
end
structure Un (fs ex : List Addr) (H H' : Hp) (h h' : Heap) : Prop where
  keep : ∀ b o, h.get? b = some o → H b = none → b ∉ fs → b ∉ ex → h'.get? b = some o
  slot : ∀ b o, h.get? b = some o → H b = none → b ∈ fs → b ∉ ex → ∃ sl, h'.get? b = some { o with slots := sl }
  free : ∀ b o, h.get? b = some o → H b = none → b ∉ ex → H' b = none
  there : ∀ b o, h.get? b = some o → b ∉ ex → ∃ o', h'.get? b = some o'
  tups : ∀ b xs, H b = some (.tup xs) → H' b = some (.tup xs)
  frzs : ∀ b o u, H b = some (.frz o u) → H' b = some (.frz o u)
  tbls : ∀ b ps, H b = some (.tbl ps) → ∃ more, H' b = some (.tbl (ps ++ more))
section
variable {fs fs' ex ex' : List Addr} {H H1 H2 : Hp} {h h1 h2 h' : Heap} {a x e : Addr} {o : HO}
theorem Un.any (u : Un fs ex H H1 h h1) {b : Addr} {ob : Obj} (q : h.get? b = some ob) (n : H b = none) (hx : b ∉ ex) : ∃ sl, h1.get? b = some { ob with slots := sl } := by
  by_cases hb : b ∈ fs
  · exact u.slot b ob q n hb hx
  · exact ⟨ob.slots, u.keep b ob q n hb hx⟩
theorem Un.trans (a : Un fs ex H H1 h h1) (b : Un fs ex H1 H2 h1 h2) : Un fs ex H H2 h h2 where
  keep := fun c ob q n hc hx => b.keep c ob (a.keep c ob q n hc hx) (a.free c ob q n hx) hc hx
  slot := fun c ob q n hc hx => by
    obtain ⟨sl, e1⟩ := a.slot c ob q n hc hx
    obtain ⟨sl', e2⟩ := b.slot c _ e1 (a.free c ob q n hx) hc hx
    exact ⟨sl', e2⟩
  free := fun c ob q n hx => by
    obtain ⟨o', e1⟩ := a.there c ob q hx
    exact b.free c o' e1 (a.free c ob q n hx) hx
  there := fun c ob q hx => by
    obtain ⟨o', e1⟩ := a.there c ob q hx
    exact b.there c o' e1 hx
  tups := fun c xs q => b.tups c xs (a.tups c xs q)
  frzs := fun c ob xs q => b.frzs c ob xs (a.frzs c ob xs q)
  tbls := fun c ps q => by
    obtain ⟨m1, e1⟩ := a.tbls c ps q
    obtain ⟨m2, e2⟩ := b.tbls c _ e1
    exact ⟨m1 ++ m2, by rw [e2, Array.append_assoc]⟩
theorem Un.kept (k : ∀ b u, h.get? b = some u → h'.get? b = some u) : Un fs ex H H h h' :=
  ⟨fun b ob q _ _ _ => k b ob q, fun b ob q _ _ _ => ⟨ob.slots, k b ob q⟩, fun _ _ _ n _ => n, fun b ob q _ => ⟨ob, k b ob q⟩, fun _ _ q => q, fun _ _ _ q => q, fun _ ps q => ⟨#[], by rw [q]; simp⟩⟩
theorem Un.refl : Un fs ex H H h h := Un.kept fun _ _ q => q
theorem Un.laid (k : ∀ b u, h.get? b = some u → h'.get? b = some u) (hp : h.objs.size ≤ a) (hn : H a = none) : Un fs ex H (upd H a o) h h' where
  keep := fun b u q _ _ _ => k b u q
  slot := fun b u q _ _ _ => ⟨u.slots, k b u q⟩
  free := fun b u q n _ => by rw [upd_ne (Nat.ne_of_lt (Nat.lt_of_lt_of_le (Heap.lt_size q) hp))]; exact n
  there := fun b u q _ => ⟨u, k b u q⟩
  tups := fun b xs q => by rw [upd_ne (ne_of_none q hn)]; exact q
  frzs := fun b u xs q => by rw [upd_ne (ne_of_none q hn)]; exact q
  tbls := fun b ps q => ⟨#[], by rw [upd_ne (ne_of_none q hn), q]; simp⟩
theorem Un.write (mu : Mut (H x)) (he : e = x ∨ H e = some (.own x)) (k : ∀ b u, b ≠ e → h.get? b = some u → h'.get? b = some u) (heo : ∃ u, h'.get? e = some u) : Un fs ex H (upd H x o) h h' := by
  have hx : ∀ b, H b = none → b ≠ x := fun b n z => by subst z; rw [n] at mu; exact mu
  have hb : ∀ b, H b = none → b ≠ e := fun b n z => by
    subst z
    rcases he with r | r
    · exact hx b n r
    · rw [n] at r; cases r
  have hm : ∀ b u, H b = some u → ¬ Mut (some u) → b ≠ x := fun b u q nm z => by subst z; rw [q] at mu; exact nm mu
  refine ⟨fun b u q n _ _ => k b u (hb b n) q, fun b u q n _ _ => ⟨u.slots, k b u (hb b n) q⟩, fun b u q n _ => by rw [upd_ne (hx b n)]; exact n, fun b u q _ => ?_,
    fun b xs q => by rw [upd_ne (hm b _ q fun z => z)]; exact q, fun b u xs q => by rw [upd_ne (hm b _ q fun z => z)]; exact q, fun b ps q => ⟨#[], by rw [upd_ne (hm b _ q fun z => z), q]; simp⟩⟩
  by_cases hbe : b = e
  · subst hbe; exact heo
  · exact ⟨u, k b u hbe q⟩
end
def trk (h : Heap) (H : Hp) : List Addr := (List.range h.objs.size).filter fun a => (H a).isSome
def hidT (h : Heap) (H : Hp) : Heap := PySem.W.hideAll h (trk h H)
theorem hidT_size (h : Heap) (H : Hp) : (hidT h H).objs.size = h.objs.size := PySem.W.hideAll_size _ _
theorem hidT_get {h : Heap} {H : Hp} {b : Addr} {o : Obj} (e : h.get? b = some o) (n : H b = none) : (hidT h H).get? b = some o :=
  PySem.W.hideAll_get _ e fun hm => by
    have q : (H b).isSome = true := (List.mem_filter.mp hm).2
    rw [n] at q; simp at q
theorem of_hidT {h : Heap} {H : Hp} {b : Addr} {o : Obj} (e : (hidT h H).get? b = some o) : h.get? b = some o ∧ H b = none := by
  have e' : h.get? b = some o := PySem.W.of_hideAll (trk h H) e
  refine ⟨e', ?_⟩
  cases q : H b with
  | none => rfl
  | some x =>
    have hm : b ∈ trk h H := List.mem_filter.mpr ⟨List.mem_range.mpr (Heap.lt_size e'), by simp [q]⟩
    have z : (hidT h H).get? b = none := PySem.W.hideAll_none (trk h H) hm
    rw [z] at e; cases e
end L2
namespace L2
open PySem PySem.Spec PyProof.Rows
structure Mod (K : PySem.W.Frag) (mg : Str → Option Value) (base : Heap) : Prop where
  kin : K.In base
  glob : base.Ns mainGlobals mg
  blt : ∃ mb, base.Ns builtinsNs mb ∧ ∀ x : Str, x ≠ "__name__" → mb x = bootBuiltins x
  nolimit : base.NoLimit
structure Cx where
  prog : Program
  w : World
  K : PySem.W.Frag
  mg : Str → Option Value
  base : Heap
  A : Around
  N : List Str
  s₀ : Shared
  H₀ : Hp
  env : Env
  outer : List Env
  stack : List Env
  ex : List Addr
  fn : Str → Bool
  calm : Bool
  pn : List (Addr × Obj)
  xe : Value → Shared → Prop
def frs (l : List Env) : List Addr := l.filterMap (·.frame)
abbrev Cx.fs (X : Cx) : List Addr := frs X.outer
def Vis (sc : Scope) (x : Str) : Prop := sc.names.lookup x = some .local ∨ sc.names.lookup x = some .cell ∨ sc.names.lookup x = some .free
def Loc (sc : Scope) (x : Str) : Prop := sc.names.lookup x = some .local ∨ sc.names.lookup x = some .cell
def Look (env : Env) (h : Heap) (m : Str → Option Value) (x : Str) (u : Value) : Prop :=
  (env.kindOf x = some .local ∧ m x = some u) ∨ ((env.kindOf x = some .cell ∨ env.kindOf x = some .free) ∧ ∃ c, env.cells.lookup x = some c ∧ h.IsCell c (some u))
structure Cx.Ok (X : Cx) : Prop where
  mod : Mod X.K X.mg X.base
  kind : X.env.scope.kind = .function
  glob : X.env.globals = mainGlobals
  blt : X.env.builtins = builtinsNs
  above : X.s₀.heap.objs.size ≤ X.env.locals
  inj : ∀ x y c, X.env.cells.lookup x = some c → X.env.cells.lookup y = some c → x = y
  has : ∀ x, (X.env.kindOf x = some .cell ∨ X.env.kindOf x = some .free) → ∃ c, X.env.cells.lookup x = some c
  cab : ∀ x c, X.fn x = true → X.env.cells.lookup x = some c → X.s₀.heap.objs.size ≤ c
  hd : X.calm = true → X.A.handled = none
  frames : X.A.frames = some X.stack
  stk : X.stack = X.outer ∨ (X.stack = X.env :: X.outer ∧ X.env.frame = some X.env.locals)
  exf : ∀ b ∈ X.ex, b ≠ X.env.locals ∧ ∀ x c, X.env.cells.lookup x = some c → c ≠ b
  bs : ∀ b o, X.base.get? b = some o → X.s₀.heap.get? b = some o ∧ X.H₀ b = none
  bsz : X.base.objs.size ≤ X.s₀.heap.objs.size
  noex : ∀ b o, X.base.get? b = some o → b ∉ X.ex
  exfs : ∀ b ∈ X.ex, b ∉ X.fs
  funs : X.s₀.heap.FunFrames X.base X.outer
  frf : ∀ b ∈ X.fs, X.H₀ b = none
structure Inv (X : Cx) (pins : List (Addr × Obj)) (σ : List (Option V)) (H : Hp) (s : Shared) : Prop where
  ok : X.Ok
  os : s.os = X.s₀.os
  bare : AllBare s.gens
  base : Un X.fs X.ex X.H₀ H X.s₀.heap s.heap
  loc : ∃ m, s.heap.Ns X.env.locals m ∧ ∀ (i : Nat) (x : Str) (v : V), X.N[i]? = some x → σ[i]? = some (some v) → Vis X.env.scope x → ∃ u, RelV v u ∧ Look X.env s.heap m x u
  cell : ∀ x c, X.env.cells.lookup x = some c → ∃ v, s.heap.IsCell c v
  free : H X.env.locals = none
  freeC : ∀ x c, X.env.cells.lookup x = some c → H c = none
  pin : ∀ p ∈ X.pn ++ pins, s.heap.get? p.1 = some p.2 ∧ H p.1 = none ∧ p.1 ≠ X.env.locals ∧ p.1 ∉ X.fs ∧ ∀ v, p.2.data ≠ .cell v
  hok : HOk X.prog X.w H s.heap
  len : σ.length = X.N.length
section
variable {X : Cx} {pins : List (Addr × Obj)} {σ : List (Option V)} {H H' : Hp} {s : Shared} {h' : Heap}
theorem Cx.Ok.nofr (ok : X.Ok) {b : Addr} {o : Obj} (e : X.base.get? b = some o) : b ∉ X.fs := fun hb => by
  have := (ok.funs.mem hb).1
  rw [e] at this; cases this
theorem Inv.bs (I : Inv X pins σ H s) : ∀ b o, X.base.get? b = some o → s.heap.get? b = some o ∧ H b = none := fun b o e =>
  ⟨I.base.keep b o (I.ok.bs b o e).1 (I.ok.bs b o e).2 (I.ok.nofr e) (I.ok.noex b o e), I.base.free b o (I.ok.bs b o e).1 (I.ok.bs b o e).2 (I.ok.noex b o e)⟩
theorem Inv.bk (I : Inv X pins σ H s) : ∀ b o, X.base.get? b = some o → s.heap.get? b = some o := fun b o e => (I.bs b o e).1
theorem Inv.mod (I : Inv X pins σ H s) : Mod X.K X.mg X.base := I.ok.mod
theorem Inv.kIn (I : Inv X pins σ H s) : X.K.In s.heap := I.ok.mod.kin.keeps I.bk
theorem Inv.lt (I : Inv X pins σ H s) : X.env.locals < s.heap.objs.size := let ⟨_, hn, _⟩ := I.loc; hn.lt
theorem Inv.sz (I : Inv X pins σ H s) : X.s₀.heap.objs.size ≤ s.heap.objs.size := Nat.le_trans I.ok.above (Nat.le_of_lt I.lt)
theorem Inv.nofs (I : Inv X pins σ H s) {a : Addr} (h : s.heap.objs.size ≤ a) : a ∉ X.fs := fun hb => by
  obtain ⟨_, o, ho, _⟩ := I.ok.funs.mem hb
  exact absurd (Nat.lt_of_lt_of_le (Heap.lt_size ho) (Nat.le_trans I.sz h)) (Nat.lt_irrefl _)
theorem Inv.cne (I : Inv X pins σ H s) : ∀ x c, X.env.cells.lookup x = some c → c ≠ X.env.locals := fun x c e z => by
  obtain ⟨v, o, ho, hd⟩ := I.cell x c e
  obtain ⟨m, ⟨o', es, ep, ho', hd', _⟩, _⟩ := I.loc
  rw [z, ho'] at ho; cases ho; rw [hd'] at hd; cases hd
theorem Inv.funs (I : Inv X pins σ H s) : s.heap.FunFrames X.base X.outer := by
  have all : ∀ (l : List Env), (∀ b ∈ frs l, b ∈ X.fs) → X.s₀.heap.FunFrames X.base l → s.heap.FunFrames X.base l := by
    intro l
    induction l with
    | nil => intro _ _; trivial
    | cons env r ih =>
      intro hs hl
      obtain ⟨hk, ⟨L, o, hf, hn, ho, hd⟩, hr⟩ := hl
      have hL : L ∈ X.fs := hs L (by unfold frs; rw [List.filterMap_cons, hf]; exact List.mem_cons_self)
      obtain ⟨sl, e⟩ := I.base.slot L o ho (I.ok.frf L hL) hL fun z => I.ok.exfs L z hL
      exact ⟨hk, ⟨L, _, hf, hn, e, hd⟩, ih (fun b hb => hs b (by unfold frs; rw [List.filterMap_cons, hf]; exact List.mem_cons_of_mem _ hb)) hr⟩
  exact all X.outer (fun _ hb => hb) I.ok.funs
theorem Inv.stack (I : Inv X pins σ H s) : s.heap.FunFrames X.base X.stack := by
  rcases I.ok.stk with e | ⟨e, hf⟩
  · rw [e]; exact I.funs
  · rw [e]
    obtain ⟨m, hn, _⟩ := I.loc
    refine .cons (by rw [I.ok.kind]; decide) hf hn ?_ I.funs
    exact Heap.get?_none_of_le (Nat.le_trans I.ok.bsz I.ok.above)
theorem Inv.stkSub (I : Inv X pins σ H s) : ∀ b ∈ frs X.stack, b ∈ X.env.locals :: X.fs := fun b hb => by
  rcases I.ok.stk with e | ⟨e, hf⟩
  · rw [e] at hb; exact List.mem_cons_of_mem _ hb
  · rw [e] at hb
    unfold frs at hb
    rw [List.filterMap_cons, hf] at hb
    exact hb
theorem Inv.stkFree (I : Inv X pins σ H s) : ∀ b ∈ frs X.stack, H b = none := fun b hb => by
  rcases List.mem_cons.mp (I.stkSub b hb) with e | hb
  · rw [e]; exact I.free
  · obtain ⟨_, o, ho, _⟩ := I.ok.funs.mem hb
    exact I.base.free b o ho (I.ok.frf b hb) fun z => I.ok.exfs b z hb
theorem Inv.step {g' : Array GenState} {t' : Nat} {d' : Drawn} {ch : List Addr} (I : Inv X pins σ H s)
    (hch : ∀ b ∈ ch, (b ∈ X.ex ∨ X.s₀.heap.objs.size ≤ b) ∧ b ≠ X.env.locals ∧ (∀ x c, X.env.cells.lookup x = some c → c ≠ b) ∧ ∀ p ∈ X.pn ++ pins, p.1 ≠ b)
    (keep : ∀ b o, b ≠ X.env.locals → b ∉ X.fs → b ∉ ch → s.heap.get? b = some o → H b = none → h'.get? b = some o)
    (slot : ∀ b o, b ≠ X.env.locals → b ∈ X.fs → b ∉ ch → s.heap.get? b = some o → H b = none → ∃ sl, h'.get? b = some { o with slots := sl }) (free : ∀ b o, b ∉ ch → s.heap.get? b = some o → H b = none → H' b = none)
    (there : ∀ b o, b ∉ ch → s.heap.get? b = some o → ∃ o', h'.get? b = some o')
    (tups : ∀ b xs, H b = some (.tup xs) → H' b = some (.tup xs)) (frzs : ∀ b o u, H b = some (.frz o u) → H' b = some (.frz o u)) (tbls : ∀ b ps, H b = some (.tbl ps) → ∃ more, H' b = some (.tbl (ps ++ more)))
    (ns : ∀ m, s.heap.Ns X.env.locals m → h'.Ns X.env.locals m) (hok : HOk X.prog X.w H' h') (hg : AllBare g') :
    Inv X pins σ H' { s with heap := h', gens := g', drawn := d', toks := t' } := by
  have neL : ∀ b o, X.s₀.heap.get? b = some o → b ≠ X.env.locals := fun b o e => Nat.ne_of_lt (Nat.lt_of_lt_of_le (Heap.lt_size e) I.ok.above)
  have neC : ∀ b o, X.s₀.heap.get? b = some o → b ∉ X.ex → b ∉ ch := fun b o e hx hb => by
    rcases (hch b hb).1 with z | z
    · exact hx z
    · exact absurd (Nat.lt_of_lt_of_le (Heap.lt_size e) z) (Nat.lt_irrefl _)
  have cellK : ∀ x c, X.env.cells.lookup x = some c → ∀ v, s.heap.IsCell c v → h'.IsCell c v := fun x c e v ⟨o, ho, hd⟩ => by
    have nch : c ∉ ch := fun z => (hch c z).2.2.1 x c e rfl
    by_cases hc : c ∈ X.fs
    · obtain ⟨sl, q⟩ := slot c o (I.cne x c e) hc nch ho (I.freeC x c e)
      exact ⟨_, q, hd⟩
    · exact ⟨o, keep c o (I.cne x c e) hc nch ho (I.freeC x c e), hd⟩
  refine ⟨I.ok, I.os, hg, ⟨fun b o e n hb hx => ?_, fun b o e n hb hx => ?_, fun b o e n hx => ?_, fun b o e hx => ?_, fun b xs e => tups b xs (I.base.tups b xs e), fun b o xs e => frzs b o xs (I.base.frzs b o xs e), fun b ps e => ?_⟩, ?_, fun x c e => ?_, ?_, fun x c e => ?_, fun p hp => ?_, hok, I.len⟩
  · exact keep b o (neL b o e) hb (neC b o e hx) (I.base.keep b o e n hb hx) (I.base.free b o e n hx)
  · obtain ⟨sl, e1⟩ := I.base.slot b o e n hb hx
    obtain ⟨sl', e2⟩ := slot b _ (neL b o e) hb (neC b o e hx) e1 (I.base.free b o e n hx)
    exact ⟨sl', e2⟩
  · obtain ⟨o', e1⟩ := I.base.there b o e hx
    exact free b o' (neC b o e hx) e1 (I.base.free b o e n hx)
  · obtain ⟨o', e1⟩ := I.base.there b o e hx
    exact there b o' (neC b o e hx) e1
  · obtain ⟨m1, e1⟩ := I.base.tbls b ps e
    obtain ⟨m2, e2⟩ := tbls b _ e1
    exact ⟨m1 ++ m2, by rw [e2, Array.append_assoc]⟩
  · obtain ⟨m, hn, hl⟩ := I.loc
    refine ⟨m, ns m hn, fun i x v e1 e2 e3 => ?_⟩
    obtain ⟨u, r, l⟩ := hl i x v e1 e2 e3
    refine ⟨u, r, ?_⟩
    rcases l with l | ⟨k, c, e, z⟩
    · exact .inl l
    · exact .inr ⟨k, c, e, cellK x c e _ z⟩
  · obtain ⟨v, z⟩ := I.cell x c e
    exact ⟨v, cellK x c e v z⟩
  · obtain ⟨m, ⟨o, _, _, ho, _⟩, _⟩ := I.loc
    exact free _ o (fun z => (hch _ z).2.1 rfl) ho I.free
  · obtain ⟨v, o, ho, hd⟩ := I.cell x c e
    exact free c o (fun z => (hch c z).2.2.1 x c e rfl) ho (I.freeC x c e)
  · obtain ⟨e, n, ne, nf, d⟩ := I.pin p hp
    have nch : p.1 ∉ ch := fun z => (hch p.1 z).2.2.2 p hp rfl
    exact ⟨keep p.1 p.2 ne nf nch e n, free p.1 p.2 nch e n, ne, nf, d⟩
theorem Inv.un {t' : Nat} (I : Inv X pins σ H s) (u : Un X.fs [] H H' s.heap h') (hok : HOk X.prog X.w H' h') : Inv X pins σ H' { s with heap := h', toks := t' } := by
  obtain ⟨m, ⟨o, es, ep, ho, r⟩, _⟩ := id I.loc
  obtain ⟨sl, hL⟩ := u.any ho I.free (by simp)
  exact I.step (g' := s.gens) (d' := s.drawn) (ch := []) (fun _ z => nomatch z) (fun b o _ hb _ e n => u.keep b o e n hb (by simp)) (fun b o _ hb _ e n => u.slot b o e n hb (by simp)) (fun b o _ e n => u.free b o e n (by simp)) (fun b o _ e => u.there b o e (by simp)) u.tups u.frzs u.tbls (fun m' hm => by
    obtain ⟨o', es', ep', ho', r'⟩ := hm
    rw [ho] at ho'; cases ho'
    exact ⟨_, es', ep', hL, r'⟩) hok I.bare
theorem Inv.call {g' : Array GenState} {t' : Nat} {d' : Drawn} {ch : List Addr} (I : Inv X pins σ H s) (u : Un (frs X.stack) ch H H' s.heap h') (hok : HOk X.prog X.w H' h') (hg : AllBare g')
    (hch : ∀ b ∈ ch, (b ∈ X.ex ∨ X.s₀.heap.objs.size ≤ b) ∧ b ≠ X.env.locals ∧ (∀ x c, X.env.cells.lookup x = some c → c ≠ b) ∧ ∀ p ∈ X.pn ++ pins, p.1 ≠ b) :
    Inv X pins σ H' { s with heap := h', gens := g', drawn := d', toks := t' } := by
  obtain ⟨m, ⟨o, es, ep, ho, r⟩, _⟩ := id I.loc
  obtain ⟨sl, hL⟩ := u.any ho I.free fun z => (hch _ z).2.1 rfl
  exact I.step (ch := ch) hch (fun b o hL hb hc e n => u.keep b o e n (fun z => (List.mem_cons.mp (I.stkSub b z)).elim hL hb) hc) (fun b o _ _ hc e n => u.any e n hc) (fun b o hc e n => u.free b o e n hc) (fun b o hc e => u.there b o e hc) u.tups u.frzs u.tbls (fun m' hm => by
    obtain ⟨o', es', ep', ho', r'⟩ := hm
    rw [ho] at ho'; cases ho'
    exact ⟨_, es', ep', hL, r'⟩) hok hg
theorem Inv.turned {t' : Nat} {it : Addr} (I : Inv X pins σ H s) (k : ∀ b o, b ≠ it → s.heap.get? b = some o → h'.get? b = some o) (hn : H it = none) (hL : it ≠ X.env.locals)
    (h1 : it ∈ X.ex ∨ X.s₀.heap.objs.size ≤ it) (h2 : ∀ x c, X.env.cells.lookup x = some c → c ≠ it) (h3 : ∀ p ∈ X.pn ++ pins, p.1 ≠ it) : Inv X pins σ H { s with heap := h', toks := t' } := by
  have nit : ∀ b u, H b = some u → b ≠ it := fun b u e z => by rw [z, hn] at e; cases e
  refine I.step (g' := s.gens) (d' := s.drawn) (ch := [it]) (fun b hb => ?_) (fun b o _ _ hc e _ => k b o (fun z => hc (by simp [z])) e) (fun b o _ _ hc e _ => ⟨o.slots, k b o (fun z => hc (by simp [z])) e⟩) (fun _ _ _ _ n => n)
    (fun b o hc e => ⟨o, k b o (fun z => hc (by simp [z])) e⟩) (fun _ _ e => e) (fun _ _ _ e => e) (fun b ps e => ⟨#[], by rw [e]; simp⟩) (fun m hm => ?_) (fun b u e => ?_) I.bare
  · have e : b = it := by simpa using hb
    subst e
    exact ⟨h1, hL, h2, h3⟩
  · obtain ⟨o, es, ep, ho, r⟩ := hm
    exact ⟨o, es, ep, k _ o (Ne.symm hL) ho, r⟩
  · refine (I.hok b u e).stay (fun c v hc q => k c v ?_ q) (fun _ q => q) fun _ _ q => q
    rcases hc with z | z
    · rw [z]; exact nit b u e
    · exact nit c _ z
theorem Inv.tok (I : Inv X pins σ H s) (t : Nat) : Inv X pins σ H { s with toks := t } := I.un (h' := s.heap) (t' := t) Un.refl I.hok
theorem Inv.kept {t' : Nat} (I : Inv X pins σ H s) (k : ∀ b u, s.heap.get? b = some u → h'.get? b = some u) : Inv X pins σ H { s with heap := h', toks := t' } := I.un (Un.kept k) (I.hok.kept k)
theorem Inv.laid {a : Addr} {o : HO} {t' : Nat} (I : Inv X pins σ H s) (k : ∀ b u, s.heap.get? b = some u → h'.get? b = some u) (hp : s.heap.objs.size ≤ a) (new : ObjOk X.prog X.w (upd H a o) h' a o) :
    Inv X pins σ (upd H a o) { s with heap := h', toks := t' } := I.un (Un.laid k hp (I.hok.fresh hp)) (I.hok.laid k hp new)
theorem Inv.write {x e : Addr} {o : HO} {t' : Nat} (I : Inv X pins σ H s) (mu : Mut (H x)) (he : e = x ∨ H e = some (.own x)) (k : ∀ b u, b ≠ e → s.heap.get? b = some u → h'.get? b = some u) (heo : ∃ u, h'.get? e = some u)
    (new : ObjOk X.prog X.w (upd H x o) h' x o) : Inv X pins σ (upd H x o) { s with heap := h', toks := t' } := I.un (Un.write mu he k heo) (I.hok.write mu he k heo new)
theorem Inv.pins_of {pins' : List (Addr × Obj)} (I : Inv X pins σ H s) (h : ∀ p ∈ pins', s.heap.get? p.1 = some p.2 ∧ H p.1 = none ∧ p.1 ≠ X.env.locals ∧ p.1 ∉ X.fs ∧ ∀ v, p.2.data ≠ .cell v) : Inv X pins' σ H s :=
  ⟨I.ok, I.os, I.bare, I.base, I.loc, I.cell, I.free, I.freeC, fun p hp => (List.mem_append.mp hp).elim (fun z => I.pin p (List.mem_append_left _ z)) (h p), I.hok, I.len⟩
theorem nodup_ix {N : List Str} (hN : N.Nodup) {i j : Nat} {x : Str} (a : N[i]? = some x) (b : N[j]? = some x) : i = j := by
  obtain ⟨h1, e1⟩ := List.getElem?_eq_some_iff.mp a
  obtain ⟨h2, e2⟩ := List.getElem?_eq_some_iff.mp b
  exact (List.getElem_inj hN).mp (e1.trans e2.symm)
theorem store_ok2 {M : Model} {A : Around} {E : Value → Shared → Prop} {i : Nat} {x : Str} {v : V} {u : Value} {Q : Unit → Shared → Prop} (I : Inv X pins σ H s) (hN : X.N.Nodup) (hi : X.N[i]? = some x) (hx : Loc X.env.scope x) (r : RelV v u)
    (h : ∀ s', Inv X pins (σ.set i (some v)) H s' → (∃ a, Heap.SameBut a s.heap s'.heap ∧ (a = X.env.locals ∨ X.env.cells.lookup x = some a)) → Q () s') (hf : X.fn x = true ∨ X.env.scope.names.lookup x = some .local := by first | exact .inl rfl | exact .inr rfl | assumption) : wpAny M A (storeName X.env x u) Q E s := by
  obtain ⟨m, hn, hl⟩ := id I.loc
  have hcls : (X.env.scope.kind == .class || (X.env.scope.kind == .module && X.env.locals != X.env.globals)) = false := by rw [I.ok.kind]; rfl
  have hiσ : i < σ.length := by rw [I.len]; exact (List.getElem?_eq_some_iff.mp hi).1
  have cne := I.cne
  have tracked : ∀ {a : Addr} {h' : Heap}, (∃ o, s.heap.get? a = some o ∧ H a = none) → Heap.SameBut a s.heap h' → HOk X.prog X.w H h' := fun {a h'} ha hs b ob e => by
    obtain ⟨_, _, hfree⟩ := ha
    refine (I.hok b ob e).stay (fun c w' hc q => (hs.2 c ?_).trans q) (fun _ q => q) fun _ _ q => q
    rintro rfl
    rcases hc with rfl | hc
    · rw [hfree] at e; cases e
    · rw [hfree] at hc; cases hc
  rcases hx with hk | hk
  · refine wpAny_storeName_local hk hn (fun h' hn' hs => ?_) hcls
    obtain ⟨oL, _, _, hoL, _⟩ := id hn
    refine h _ ⟨I.ok, I.os, I.bare, ⟨fun b o e n hb hx => ?_, fun b o e n hb hx => ?_, I.base.free, fun b o e hx => ?_, I.base.tups, I.base.frzs, I.base.tbls⟩, ⟨_, hn', fun j y v' e1 e2 e3 => ?_⟩, fun y c e => ?_, I.free, I.freeC, fun p hp => ?_, tracked ⟨oL, hoL, I.free⟩ hs, by simpa using I.len⟩ ⟨_, hs, .inl rfl⟩
    · exact (hs.2 b (Nat.ne_of_lt (Nat.lt_of_lt_of_le (Heap.lt_size e) I.ok.above))).trans (I.base.keep b o e n hb hx)
    · obtain ⟨sl, e1⟩ := I.base.slot b o e n hb hx
      exact ⟨sl, (hs.2 b (Nat.ne_of_lt (Nat.lt_of_lt_of_le (Heap.lt_size e) I.ok.above))).trans e1⟩
    · obtain ⟨o', e1⟩ := I.base.there b o e hx
      exact ⟨o', (hs.2 b (Nat.ne_of_lt (Nat.lt_of_lt_of_le (Heap.lt_size e) I.ok.above))).trans e1⟩
    · by_cases hj : j = i
      · subst hj
        rw [hi] at e1; cases e1
        rw [List.getElem?_set_self hiσ] at e2
        cases e2
        exact ⟨u, r, .inl ⟨hk, by simp⟩⟩
      · rw [List.getElem?_set_ne (Ne.symm hj)] at e2
        obtain ⟨u', r', q⟩ := hl j y v' e1 e2 e3
        refine ⟨u', r', ?_⟩
        rcases q with ⟨k, e⟩ | ⟨k, c, e, z⟩
        · refine .inl ⟨k, ?_⟩
          have : y ≠ x := fun e => hj (nodup_ix hN e1 (e ▸ hi))
          simp [this, e]
        · exact .inr ⟨k, c, e, z.sameBut hs (cne y c e)⟩
    · obtain ⟨w', z⟩ := I.cell y c e
      exact ⟨w', z.sameBut hs (cne y c e)⟩
    · obtain ⟨e, n, ne, nf, d⟩ := I.pin p hp
      exact ⟨(hs.2 p.1 ne).trans e, n, ne, nf, d⟩
  · have hfn : X.fn x = true := by
      rcases hf with z | z
      · exact z
      · rw [z] at hk; cases hk
    obtain ⟨c, hc⟩ := I.ok.has x (.inl hk)
    obtain ⟨w', z⟩ := I.cell x c hc
    refine wpAny_storeName_cell I.ok.kind hk hc z (fun h' hc' hs => ?_)
    obtain ⟨oc, hoc, hocd⟩ := id z
    refine h { s with heap := h' } ⟨I.ok, I.os, I.bare, ⟨fun b o e n hb hx => ?_, fun b o e n hb hx => ?_, I.base.free, fun b o e hx => ?_, I.base.tups, I.base.frzs, I.base.tbls⟩, ⟨m, hn.sameBut hs (Ne.symm (cne x c hc)), fun j y v' e1 e2 e3 => ?_⟩, fun y c' e => ?_, I.free, I.freeC, fun p hp => ?_, tracked ⟨oc, hoc, I.freeC x c hc⟩ hs, by simpa using I.len⟩ ⟨c, hs, .inr hc⟩
    · exact (hs.2 b (Nat.ne_of_lt (Nat.lt_of_lt_of_le (Heap.lt_size e) (I.ok.cab x c hfn hc)))).trans (I.base.keep b o e n hb hx)
    · obtain ⟨sl, e1⟩ := I.base.slot b o e n hb hx
      exact ⟨sl, (hs.2 b (Nat.ne_of_lt (Nat.lt_of_lt_of_le (Heap.lt_size e) (I.ok.cab x c hfn hc)))).trans e1⟩
    · obtain ⟨o', e1⟩ := I.base.there b o e hx
      exact ⟨o', (hs.2 b (Nat.ne_of_lt (Nat.lt_of_lt_of_le (Heap.lt_size e) (I.ok.cab x c hfn hc)))).trans e1⟩
    · by_cases hj : j = i
      · subst hj
        rw [hi] at e1; cases e1
        rw [List.getElem?_set_self hiσ] at e2
        cases e2
        exact ⟨u, r, .inr ⟨.inl hk, c, hc, hc'⟩⟩
      · rw [List.getElem?_set_ne (Ne.symm hj)] at e2
        obtain ⟨u', r', q⟩ := hl j y v' e1 e2 e3
        refine ⟨u', r', ?_⟩
        rcases q with q | ⟨k, c', e, z'⟩
        · exact .inl q
        · refine .inr ⟨k, c', e, z'.sameBut hs ?_⟩
          rintro rfl
          exact hj (nodup_ix hN e1 (I.ok.inj _ _ _ e hc ▸ hi))
    · by_cases hcc : c' = c
      · subst hcc; exact ⟨_, hc'⟩
      · obtain ⟨w2, z2⟩ := I.cell y c' e
        exact ⟨w2, z2.sameBut hs hcc⟩
    · obtain ⟨e, n, ne, nf, d⟩ := I.pin p hp
      refine ⟨(hs.2 p.1 ?_).trans e, n, ne, nf, d⟩
      intro q
      rw [q, hoc] at e
      have q' : oc = p.2 := Option.some.inj e
      exact d w' (by rw [← q']; exact hocd)
theorem store_ok {M : Model} {A : Around} {E : Value → Shared → Prop} {i : Nat} {x : Str} {v : V} {u : Value} {Q : Unit → Shared → Prop} (I : Inv X pins σ H s) (hN : X.N.Nodup) (hi : X.N[i]? = some x) (hx : Loc X.env.scope x) (r : RelV v u)
    (h : ∀ s', Inv X pins (σ.set i (some v)) H s' → Q () s') (hf : X.fn x = true ∨ X.env.scope.names.lookup x = some .local := by first | exact .inl rfl | exact .inr rfl | assumption) : wpAny M A (storeName X.env x u) Q E s :=
  store_ok2 I hN hi hx r (fun s' I' _ => h s' I') hf
theorem Inv.call' {s' : Shared} {ch : List Addr} (I : Inv X pins σ H s) (ho : s'.os = s.os) (u : Un (frs X.stack) ch H H' s.heap s'.heap) (hok : HOk X.prog X.w H' s'.heap) (hg : AllBare s'.gens)
    (hch : ∀ b ∈ ch, (b ∈ X.ex ∨ X.s₀.heap.objs.size ≤ b) ∧ b ≠ X.env.locals ∧ (∀ x c, X.env.cells.lookup x = some c → c ≠ b) ∧ ∀ p ∈ X.pn ++ pins, p.1 ≠ b) : Inv X pins σ H' s' := by
  obtain ⟨h', g', d', t', o'⟩ := s'
  have e : o' = s.os := ho
  subst e
  exact I.call (g' := g') (t' := t') (d' := d') u hok hg hch
end
abbrev XK := Value → Option Addr → Hp → Prop
abbrev St := List (Option V)
abbrev VK := V → Hp → Prop
abbrev TE := St → Hp → VK → Prop
abbrev TT := St → Hp → (Bool → Hp → Prop) → Prop
abbrev TA := St → Hp → (List V → Hp → Prop) → Prop
structure Ends where
  nx : St → Hp → Prop
  rt : VK
  bk : St → Hp → Prop := fun _ _ => False
  ct : St → Hp → Prop := fun _ _ => False
abbrev TS := Ends → St → Hp → Prop
def EP (X : Cx) (pins : List (Addr × Obj)) (σ : St) (Q : VK) (u : Value) (s' : Shared) : Prop := ∃ v H', Inv X pins σ H' s' ∧ RelV v u ∧ Q v H'
def TP (X : Cx) (pins : List (Addr × Obj)) (σ : St) (Q : Bool → Hp → Prop) (b : Bool) (s' : Shared) : Prop := ∃ H', Inv X pins σ H' s' ∧ Q b H'
def AP (X : Cx) (pins : List (Addr × Obj)) (σ : St) (Q : List V → Hp → Prop) (us : List Value) (s' : Shared) : Prop := ∃ vs H', Inv X pins σ H' s' ∧ Vals vs us ∧ Q vs H'
def SP (X : Cx) (pins : List (Addr × Obj)) (D : Ends) (f : Flow) (s' : Shared) : Prop :=
  match f with
  | .next => ∃ σ' H', Inv X pins σ' H' s' ∧ D.nx σ' H'
  | .brk => ∃ σ' H', Inv X pins σ' H' s' ∧ D.bk σ' H'
  | .cont => ∃ σ' H', Inv X pins σ' H' s' ∧ D.ct σ' H'
  | .ret u => ∃ v σ' H', Inv X pins σ' H' s' ∧ RelV v u ∧ D.rt v H'
def PE (X : Cx) (e : Expr) (t : TE) : Prop :=
  ∀ (pins : List (Addr × Obj)) (s : Shared) (σ : St) (H : Hp) (Q : VK), Inv X pins σ H s → t σ H Q → wpAny (model X.prog X.w) X.A (eval e X.env) (EP X pins σ Q) X.xe s
def PT (X : Cx) (e : Expr) (t : TT) : Prop :=
  ∀ (pins : List (Addr × Obj)) (s : Shared) (σ : St) (H : Hp) (Q : Bool → Hp → Prop), Inv X pins σ H s → t σ H Q → wpAny (model X.prog X.w) X.A (isTrue e X.env (eval e X.env)) (TP X pins σ Q) X.xe s
def PW (X : Cx) (e : Expr) (t : TT) : Prop :=
  ∀ (whole : Sem Value) (pins : List (Addr × Obj)) (s : Shared) (σ : St) (H : Hp) (Q : Bool → Hp → Prop), Inv X pins σ H s → t σ H Q → wpAny (model X.prog X.w) X.A (isTrue e X.env whole) (TP X pins σ Q) X.xe s
theorem PW.pt {X : Cx} {e : Expr} {t : TT} (h : PW X e t) : PT X e t := h _
def PA (X : Cx) (es : List Expr) (t : TA) : Prop :=
  ∀ (pos : Pos) (pins : List (Addr × Obj)) (s : Shared) (σ : St) (H : Hp) (Q : List V → Hp → Prop), Inv X pins σ H s → t σ H Q → wpAny (model X.prog X.w) X.A (spliced (backTo pos (starEach es X.env))) (AP X pins σ Q) X.xe s
def PS (X : Cx) (st : Stmt) (t : TS) : Prop :=
  ∀ (pins : List (Addr × Obj)) (s : Shared) (σ : St) (H : Hp) (D : Ends), Inv X pins σ H s → t D σ H → wpAny (model X.prog X.w) X.A (exec st X.env) (SP X pins D) X.xe s
def PSs (X : Cx) (st : List Stmt) (t : TS) : Prop :=
  ∀ (pins : List (Addr × Obj)) (s : Shared) (σ : St) (H : Hp) (D : Ends), Inv X pins σ H s → t D σ H → wpAny (model X.prog X.w) X.A (execs st X.env) (SP X pins D) X.xe s
theorem thn {α : Type} {t : Sem α} {Q Q' : α → Shared → Prop} {M : Model} {A : Around} {E : Value → Shared → Prop} {s : Shared} (h : wpAny M A t Q E s) (hQ : ∀ a s, Q a s → Q' a s) : wpAny M A t Q' E s := wpAny_mono h hQ fun _ _ x => x
end L2
namespace L2
open PySem PySem.Spec PyProof.Rows
section
variable {X : Cx}
def tVar (i : Nat) : TE := fun σ H Q => ∃ v, σ[i]? = some (some v) ∧ Q v H
def tC (v : V) : TE := fun _ H Q => Q v H
theorem pe_var {i : Nat} {x : Str} {pos : Pos} (hN : X.N[i]? = some x) (hv : Vis X.env.scope x) (hd : (x == ("__debug__" : Str)) = false := by decide) (hcd : (x == ("__classdict__" : Str)) = false := by decide) : PE X (.Name x pos) (tVar i) := by
  intro pins s σ H Q I h
  obtain ⟨v, e, h⟩ := h
  obtain ⟨m, hn, hl⟩ := I.loc
  obtain ⟨u, r, l⟩ := hl i x v hN e hv
  have fin : EP X pins σ Q u s := ⟨v, H, I, r, h⟩
  rcases l with ⟨hk, hm⟩ | ⟨hk, c, hc, hcell⟩
  · exact wpAny_Name (wpAny_loadName_local I.ok.kind hk hn hm fin) hd
  · rcases hk with hk | hk
    · exact wpAny_Name (wpAny_loadName_cell I.ok.kind hk hc hcell fin) hd
    · exact wpAny_Name (wpAny_loadName_free I.ok.kind hk hc hcell fin hcd) hd
theorem pe_int {i j pos} : PE X (.Constant (.int i) j pos) (tC (.int i)) := fun _ _ _ H _ I h => wpAny_Constant_int ⟨.int i, H, I.tok _, ⟨_, rfl⟩, h⟩
theorem pe_bl {b j pos} : PE X (.Constant (.bool b) j pos) (tC (.bl b)) := fun _ _ _ H _ I h => Constant_bool ⟨.bl b, H, I, rfl, h⟩
theorem pe_str {x j pos} : PE X (.Constant (.str x) j pos) (tC (.str x)) := fun _ _ _ H _ I h => Calls.Constant_str ⟨.str x, H, I.tok _, ⟨_, rfl⟩, h⟩
def Gl (X : Cx) (x : Str) : Prop := X.env.kindOf x = some .globalImplicit
theorem ld_glob {E : Value → Shared → Prop} {pins : List (Addr × Obj)} {s : Shared} {σ : St} {H : Hp} {x : Str} {u : Value} {pos : Pos} {Q : Value → Shared → Prop} (I : Inv X pins σ H s) (hg : Gl X x) (hm : X.mg x = some u) (h : Q u s)
    (hd : (x == ("__debug__" : Str)) = false := by decide) : wpAny (model X.prog X.w) X.A (eval (.Name x pos) X.env) Q E s :=
  Calls.Name_function_global I.ok.kind hg (Calls.loadGlobal_global (by rw [I.ok.glob]; exact I.mod.glob.keeps I.bk) hm h) hd
theorem ld_blt {E : Value → Shared → Prop} {pins : List (Addr × Obj)} {s : Shared} {σ : St} {H : Hp} {x : Str} {u : Value} {pos : Pos} {Q : Value → Shared → Prop} (I : Inv X pins σ H s) (hg : Gl X x) (hm : X.mg x = none) (hv : bootBuiltins x = some u) (h : Q u s)
    (hn : x ≠ "__name__" := by decide) (hd : (x == ("__debug__" : Str)) = false := by decide) : wpAny (model X.prog X.w) X.A (eval (.Name x pos) X.env) Q E s := by
  obtain ⟨mb, h1, h2⟩ := I.mod.blt
  exact Calls.Name_function_global I.ok.kind hg (Calls.loadGlobal_builtin (by rw [I.ok.glob]; exact I.mod.glob.keeps I.bk) hm (by rw [I.ok.blt]; exact h1.keeps I.bk) ((h2 x hn).trans hv) h) hd
theorem pe_glob {x : Str} {v : V} {u : Value} {pos : Pos} (hg : Gl X x) (hm : X.mg x = some u) (r : RelV v u) (hd : (x == ("__debug__" : Str)) = false := by decide) : PE X (.Name x pos) (tC v) :=
  fun _ _ _ H _ I h => ld_glob I hg hm ⟨v, H, I, r, h⟩ hd
variable {a b : Expr} {ta tb : TE} {pos : Pos}
variable {tA tB' : TT} {rest : List Expr}
def tAnd (t u : TT) : TT := fun σ H Q => t σ H fun c H1 => if c = true then u σ H1 Q else Q false H1
def tOr (t u : TT) : TT := fun σ H Q => t σ H fun c H1 => if c = true then Q true H1 else u σ H1 Q
theorem pw_and1 (ha : PT X a tA) : PW X (.BoolOp .And [a] pos) tA := by
  intro wh pins s σ H Q I h
  refine isTrue_and (thn (ha pins s σ H Q I h) fun c s1 e => ?_)
  cases c with
  | true => exact isTrue_and_nil e
  | false => exact e
theorem pw_or1 (ha : PT X a tA) : PW X (.BoolOp .Or [a] pos) tA := by
  intro wh pins s σ H Q I h
  refine isTrue_or (thn (ha pins s σ H Q I h) fun c s1 e => ?_)
  cases c with
  | false => exact isTrue_or_nil e
  | true => exact e
theorem pw_and (ha : PT X a tA) (hb : PW X (.BoolOp .And (b :: rest) pos) tB') : PW X (.BoolOp .And (a :: b :: rest) pos) (tAnd tA tB') := by
  intro wh pins s σ H Q I h
  refine isTrue_and (thn (ha pins s σ H _ I h) ?_)
  rintro c s1 ⟨H1, I1, q1⟩
  cases c with
  | true => exact hb wh pins s1 σ H1 Q I1 q1
  | false => exact ⟨H1, I1, q1⟩
theorem pw_or (ha : PT X a tA) (hb : PW X (.BoolOp .Or (b :: rest) pos) tB') : PW X (.BoolOp .Or (a :: b :: rest) pos) (tOr tA tB') := by
  intro wh pins s σ H Q I h
  refine isTrue_or (thn (ha pins s σ H _ I h) ?_)
  rintro c s1 ⟨H1, I1, q1⟩
  cases c with
  | true => exact ⟨H1, I1, q1⟩
  | false => exact hb wh pins s1 σ H1 Q I1 q1
end
end L2
namespace L2
open PySem PySem.Spec PyProof.Rows
def SqL (K : PySem.W.Frag) (H : Hp) (a : Addr) (xs : List V) : Prop :=
  Rd H a (.lst xs) ∨
    ∃ (o : Obj) (its : Array Value) (n : Nat), K.lookup a = some o ∧ o.cls = .type "list" ∧ o.dict = none ∧ o.data = .seq its n ∧ its.size ≤ sizeLine ∧ Vals xs its.toList
def SqT (K : PySem.W.Frag) (H : Hp) (a : Addr) (xs : List V) : Prop :=
  Rd H a (.tup xs) ∨
    ∃ (o : Obj) (its : Array Value) (n : Nat), K.lookup a = some o ∧ o.cls = .type "tuple" ∧ o.data = .seq its n ∧ its.size ≤ sizeLine ∧ Vals xs its.toList
def absV : Value → Option V
  | .none => some .non
  | .bool b => some (.bl b)
  | .int i _ => some (.int i)
  | .str x _ => some (.str x)
  | .bytes b _ => some (.byt b)
  | .float b _ => some (.flt b)
  | .ref a => some (.ref a)
  | .type n => some (.ty n)
  | _ => none
theorem RelV.abs {x : V} {u : Value} (r : RelV x u) : absV u = some x := by
  cases x with
  | non => cases r; rfl
  | bl _ => cases r; rfl
  | int _ => obtain ⟨t, rfl⟩ := r; rfl
  | str _ => obtain ⟨t, rfl⟩ := r; rfl
  | byt _ => obtain ⟨t, rfl⟩ := r; rfl
  | flt _ => obtain ⟨t, rfl⟩ := r; rfl
  | ref _ => cases r; rfl
  | ty _ => cases r; rfl
theorem RelV.inj {x y : V} {u : Value} (r : RelV x u) (q : RelV y u) : x = y := Option.some.inj (r.abs.symm.trans q.abs)
theorem Vals.inj : ∀ {xs ys : List V} {us : List Value}, Vals xs us → Vals ys us → xs = ys
  | _, _, _, .nil, .nil => rfl
  | _, _, _, .cons r t, .cons r' t' => by rw [r.inj r', Vals.inj t t']
section
variable {X : Cx} {pins : List (Addr × Obj)} {σ : St} {H : Hp} {s : Shared} {a : Addr} {xs ys : List V}
theorem SqL.of {K : PySem.W.Frag} (h : H a = some (.lst xs)) : SqL K H a xs := .inl (.inl h)
theorem SqT.of {K : PySem.W.Frag} (h : H a = some (.tup xs)) : SqT K H a xs := .inl (.inl h)
theorem Inv.list (I : Inv X pins σ H s) (h : SqL X.K H a xs) : ∃ its : List Value, Vals xs its ∧ PlainL s.heap a its.toArray ∧ xs.length ≤ sizeLine := by
  rcases h with h | ⟨o, its, n, hk, hc, hd, hs, hz, r⟩
  · obtain ⟨z, its, n, r, e⟩ := h.ok I.hok
    exact ⟨its, r, ⟨_, n, e, rfl, rfl, rfl⟩, z⟩
  · refine ⟨its.toList, r, ⟨o, n, I.kIn a o hk, hc, hd, by simpa using hs⟩, ?_⟩
    have e := r.length
    simp only [Array.length_toList] at e
    omega
theorem Inv.tuple (I : Inv X pins σ H s) (h : SqT X.K H a xs) : ∃ its : List Value, Vals xs its ∧ IsTup s.heap a its.toArray ∧ xs.length ≤ sizeLine := by
  rcases h with h | ⟨o, its, n, hk, hc, hs, hz, r⟩
  · obtain ⟨⟨z, _⟩, its, r, p⟩ := h.ok I.hok
    exact ⟨its, r, p, z⟩
  · refine ⟨its.toList, r, ⟨o, I.kIn a o hk, hc, n, by simpa using hs⟩, ?_⟩
    have e := r.length
    simp only [Array.length_toList] at e
    omega
theorem Inv.list_inj (I : Inv X pins σ H s) (h : SqL X.K H a xs) (h' : SqL X.K H a ys) : xs = ys := by
  obtain ⟨its, r, ⟨o, n, e, _, _, d⟩, _⟩ := I.list h
  obtain ⟨its', r', ⟨o', n', e', _, _, d'⟩, _⟩ := I.list h'
  rw [e] at e'; cases e'
  rw [d] at d'
  injection d' with d1 _
  have : its = its' := by simpa using congrArg Array.toList d1
  subst this
  exact r.inj r'
theorem Inv.tuple_inj (I : Inv X pins σ H s) (h : SqT X.K H a xs) (h' : SqT X.K H a ys) : xs = ys := by
  obtain ⟨its, r, ⟨o, e, _, n, d⟩, _⟩ := I.tuple h
  obtain ⟨its', r', ⟨o', e', _, n', d'⟩, _⟩ := I.tuple h'
  rw [e] at e'; cases e'
  rw [d] at d'
  injection d' with d1 _
  have : its = its' := by simpa using congrArg Array.toList d1
  subst this
  exact r.inj r'
end
abbrev Cx.wish (X : Cx) (E : Value → Shared → Prop) : Cx := { X with xe := E }
abbrev Cx.nox (X : Cx) : Cx := X.wish fun _ _ => False
theorem Cx.Ok.wish {X : Cx} (ok : X.Ok) (E : Value → Shared → Prop) : (X.wish E).Ok :=
  ⟨ok.mod, ok.kind, ok.glob, ok.blt, ok.above, ok.inj, ok.has, ok.cab, ok.hd, ok.frames, ok.stk, ok.exf, ok.bs, ok.bsz, ok.noex, ok.exfs, ok.funs, ok.frf⟩
theorem Cx.Ok.unwish {X : Cx} {E : Value → Shared → Prop} (ok : (X.wish E).Ok) : X.Ok :=
  ⟨ok.mod, ok.kind, ok.glob, ok.blt, ok.above, ok.inj, ok.has, ok.cab, ok.hd, ok.frames, ok.stk, ok.exf, ok.bs, ok.bsz, ok.noex, ok.exfs, ok.funs, ok.frf⟩
section
variable {X : Cx} {pins : List (Addr × Obj)} {σ : St} {H : Hp} {s : Shared} {E : Value → Shared → Prop}
theorem Inv.wish (I : Inv X pins σ H s) (E : Value → Shared → Prop) : Inv (X.wish E) pins σ H s := ⟨I.ok.wish E, I.os, I.bare, I.base, I.loc, I.cell, I.free, I.freeC, I.pin, I.hok, I.len⟩
theorem Inv.unwish (I : Inv (X.wish E) pins σ H s) : Inv X pins σ H s := ⟨I.ok.unwish, I.os, I.bare, I.base, I.loc, I.cell, I.free, I.freeC, I.pin, I.hok, I.len⟩
theorem SP.unwish {D : Ends} {f : Flow} {s' : Shared} (h : SP (X.wish E) pins D f s') : SP X pins D f s' := by
  cases f with
  | next => obtain ⟨σ', H', I, q⟩ := h; exact ⟨σ', H', I.unwish, q⟩
  | brk => obtain ⟨σ', H', I, q⟩ := h; exact ⟨σ', H', I.unwish, q⟩
  | cont => obtain ⟨σ', H', I, q⟩ := h; exact ⟨σ', H', I.unwish, q⟩
  | ret u => obtain ⟨v, σ', H', I, r, q⟩ := h; exact ⟨v, σ', H', I.unwish, r, q⟩
theorem PSs.nox {st : List Stmt} {t : TS} (h : PSs X.nox st t) : PSs X st t := fun pins s σ H D I hw =>
  wpAny_mono (h pins s σ H D (I.wish _) hw) (fun _ _ q => q.unwish) fun _ _ z => False.elim z
end
section
variable {X : Cx} {st : Stmt} {rest : List Stmt} {t u : TS} {e : Expr} {te : TE} {pos : Pos}
def tNext : TS := fun D σ H => D.nx σ H
def tSeq (t u : TS) : TS := fun D σ H => t { D with nx := u D } σ H
theorem pss_nil : PSs X [] tNext := fun _ _ σ H _ I h => wpAny_execs_nil ⟨σ, H, I, h⟩
theorem pss_cons (h1 : PS X st t) (h2 : PSs X rest u) : PSs X (st :: rest) (tSeq t u) := by
  intro pins s σ H D I h
  refine wpAny_execs_cons (thn (h1 pins s σ H { D with nx := u D } I h) fun f s1 q => ?_)
  cases f with
  | next =>
    obtain ⟨σ', H', I', q⟩ := q
    exact h2 pins s1 σ' H' D I' q
  | ret v => exact q
  | brk => exact q
  | cont => exact q
theorem pss_one (h1 : PS X st t) : PSs X [st] t := by
  intro pins s σ H D I h
  refine wpAny_execs_cons (thn (h1 pins s σ H D I h) fun f s1 q => ?_)
  cases f with
  | next => exact wpAny_execs_nil q
  | ret v => exact q
  | brk => exact q
  | cont => exact q
theorem Inv.quiet {pins : List (Addr × Obj)} {σ : St} {H : Hp} {s : Shared} (I : Inv X pins σ H s) : interactive X.env = false := by simp [interactive, I.ok.kind]
def tDrop (te : TE) : TS := fun D σ H => te σ H fun _ H1 => D.nx σ H1
theorem ps_expr (he : PE X e te) (hs : swapsWith e none pos.line X.env = pure false := by rfl) : PS X (.Expr e pos) (tDrop te) := by
  intro pins s σ H D I h
  exact wpAny_Expr_any (thn (he pins s σ H _ I h) fun v s1 ⟨x, H1, I1, r1, q1⟩ => ⟨σ, H1, I1, q1⟩) I.quiet hs
def tRet (te : TE) : TS := fun D σ H => te σ H D.rt
theorem ps_ret (he : PE X e te) : PS X (.Return (some e) pos) (tRet te) := by
  intro pins s σ H D I h
  exact wpAny_Return_some (thn (he pins s σ H _ I h) fun v s1 ⟨x, H1, I1, r1, q1⟩ => ⟨x, σ, H1, I1, r1, q1⟩)
def tIfS (c : TT) (t u : TS) : TS := fun D σ H => c σ H fun b H1 => if b = true then t D σ H1 else u D σ H1
theorem ps_if {c : Expr} {a b : List Stmt} {tc : TT} (hc : PT X c tc) (ha : PSs X a t) (hb : PSs X b u) : PS X (.If c a b pos) (tIfS tc t u) := by
  intro pins s σ H D I h
  refine wpAny_If (thn (hc pins s σ H _ I h) ?_)
  rintro d s1 ⟨H1, I1, q1⟩
  cases d with
  | true => exact ha pins s1 σ H1 D I1 q1
  | false => exact hb pins s1 σ H1 D I1 q1
end
abbrev TG := V → St → Hp → (St → Hp → Prop) → Prop
abbrev TGs := List V → St → Hp → (St → Hp → Prop) → Prop
def PG (X : Cx) (target : Expr) (t : TG) : Prop :=
  ∀ (pins : List (Addr × Obj)) (s : Shared) (σ : St) (H : Hp) (v : V) (u : Value) (Q : St → Hp → Prop), Inv X pins σ H s → RelV v u → t v σ H Q →
    wpAny (model X.prog X.w) X.A (assign target X.env u) (fun _ s' => ∃ σ' H', Inv X pins σ' H' s' ∧ Q σ' H') X.xe s
def PGs (X : Cx) (ts : List Expr) (t : TGs) : Prop :=
  ∀ (pins : List (Addr × Obj)) (s : Shared) (σ : St) (H : Hp) (vs : List V) (us : List Value) (Q : St → Hp → Prop), Inv X pins σ H s → Vals vs us → t vs σ H Q →
    wpAny (model X.prog X.w) X.A (assignInOrder ((assignEach ts X.env).map (·.2)) us) (fun _ s' => ∃ σ' H', Inv X pins σ' H' s' ∧ Q σ' H') X.xe s
abbrev TSet := V → V → V → Hp → (Hp → Prop) → Prop
def PSet (X : Cx) (t : TSet) : Prop :=
  ∀ (pins : List (Addr × Obj)) (s : Shared) (σ : St) (H : Hp) (o i v : V) (ov iv u : Value) (Q : Hp → Prop), Inv X pins σ H s → RelV o ov → RelV i iv → RelV v u → t o i v H Q →
    wpAny (model X.prog X.w) X.A (setItem ov iv u) (fun _ s' => ∃ H', Inv X pins σ H' s' ∧ Q H') X.xe s
section
variable {X : Cx} {pos : Pos}
def gName (i : Nat) : TG := fun v σ H Q => Q (σ.set i (some v)) H
theorem pg_name {i : Nat} {x : Str} (hN : X.N.Nodup) (hi : X.N[i]? = some x) (hx : Loc X.env.scope x) (hf : X.fn x = true ∨ X.env.scope.names.lookup x = some .local := by first | exact .inl rfl | exact .inr rfl | assumption) : PG X (.Name x pos) (gName i) := by
  intro pins s σ H v u Q I r h
  exact wpAny_assign_Name (store_ok I hN hi hx r (fun s' I' => ⟨_, H, I', h⟩) hf)
def gNil : TGs := fun vs σ H Q => vs = [] ∧ Q σ H
def gCons (t : TG) (u : TGs) : TGs := fun vs σ H Q => ∃ v r, vs = v :: r ∧ t v σ H fun σ' H' => u r σ' H' Q
theorem pgs_nil : PGs X [] gNil := by
  intro pins s σ H vs us Q I r h
  obtain ⟨e, h⟩ := h
  subst e
  cases r
  exact assignInOrder_nil ⟨σ, H, I, h⟩
theorem pgs_cons {e : Expr} {es : List Expr} {t : TG} {u : TGs} (h1 : PG X e t) (h2 : PGs X es u)
    (hs : (assignEach (e :: es) X.env).map (·.2) = assign e X.env :: (assignEach es X.env).map (·.2) := by rfl) : PGs X (e :: es) (gCons t u) := by
  intro pins s σ H vs us Q I r h
  obtain ⟨v, vr, e1, h⟩ := h
  subst e1
  cases r with
  | cons r rr =>
    rw [hs]
    refine assignInOrder_cons (thn (h1 pins s σ H _ _ _ I r h) ?_)
    rintro _ s1 ⟨σ1, H1, I1, q1⟩
    exact h2 pins s1 σ1 H1 _ _ Q I1 rr q1
def gTup (K : PySem.W.Frag) (n : Nat) (t : TGs) : TG := fun v σ H Q => ∃ a xs, v = .ref a ∧ SqT K H a xs ∧ xs.length = n ∧ t xs σ H Q
theorem pg_tup {es : List Expr} {k : Nat} {t : TGs} {n : Nat} (hc : X.calm = true) (h : PGs X es t)
    (hn : (assignEach es X.env).length = n := by rfl) (hst : (assignEach es X.env).findIdx? (·.1) = none := by rfl) : PG X (.Tuple es k pos) (gTup X.K n t) := by
  intro pins s σ H v u Q I r hw
  obtain ⟨a, xs, e1, hq, hl, hw⟩ := hw
  subst e1
  cases r
  obtain ⟨its, rv, ht, hz⟩ := I.tuple hq
  refine assign_Tuple_tuple (I.ok.hd hc) ht (by simp [hn, ← hl, rv.length]) hst fun h' hx => ?_
  have I1 : Inv X pins σ H { s with heap := h' } := I.kept (t' := s.toks) fun b o e => hx b o (Nat.ne_of_lt (Heap.lt_size e)) e
  exact h pins _ σ H xs _ Q I1 (by simpa using rv) hw
def gSub (to ti : TE) (t : TSet) : TG := fun v σ H Q => to σ H fun o H1 => ti σ H1 fun i H2 => t o i v H2 fun H3 => Q σ H3
theorem pg_sub {o i : Expr} {to ti : TE} {t : TSet} (ho : PE X o to) (hi : PE X i ti) (hs : PSet X t)
    (ha : ∀ v, assign (.Subscript o i pos) X.env v = (do
      let ov ← holding [v] (eval o X.env)
      let iv ← holding [v, ov] (eval i X.env)
      standAt pos
      holding [v, ov, iv] (setItem ov iv v)
      release [v, ov, iv] []) := by intro _; rfl) : PG X (.Subscript o i pos) (gSub to ti t) := by
  intro pins s σ H v u Q I r h
  rw [ha]
  refine wpAny_bind (wpAny_holding (thn (ho pins s σ H _ I h) ?_))
  rintro ov s1 ⟨x, H1, I1, r1, q1⟩
  refine wpAny_bind (wpAny_holding (thn (hi pins s1 σ H1 _ I1 q1) ?_))
  rintro iv s2 ⟨y, H2, I2, r2, q2⟩
  refine wpAny_bind (wpAny_standAt (wpAny_bind (wpAny_holding (thn (hs pins s2 σ H2 x y v ov iv u _ I2 r1 r2 r q2) ?_))))
  rintro _ s3 ⟨H3, I3, q3⟩
  exact wpAny_release ⟨σ, H3, I3, q3⟩
def tAsg (te : TE) (g : TG) : TS := fun D σ H => te σ H fun x H1 => g x σ H1 D.nx
theorem ps_asg {tg e : Expr} {te : TE} {g : TG} (he : PE X e te) (hg : PG X tg g) (hs : swapsWithSole [tg] e pos.line X.env = pure false := by rfl) (hw : swappedStores [tg] e X.env = pure none := by rfl)
    (h1 : (assignEach [tg] X.env).map (·.2) = [assign tg X.env] := by rfl) : PS X (.Assign [tg] e pos) (tAsg te g) := by
  intro pins s σ H D I h
  refine wpAny_Assign_stores (thn (he pins s σ H _ I h) fun v s1 ⟨x, H1, I1, r1, q1⟩ => ?_) hs hw
  rw [h1]
  exact thn (hg pins s1 σ H1 x v _ I1 r1 q1) fun _ s2 q => q
theorem ps_set {i : Nat} {x : Str} {e : Expr} {te : TE} {pos' : Pos} (hN : X.N.Nodup) (hi : X.N[i]? = some x) (hx : Loc X.env.scope x) (he : PE X e te) (hs : swapsWith e (some (.Name x pos')) pos.line X.env = pure false := by rfl) (hf : X.fn x = true ∨ X.env.scope.names.lookup x = some .local := by first | exact .inl rfl | exact .inr rfl | assumption) :
    PS X (.Assign [.Name x pos'] e pos) (tAsg te (gName i)) := by
  intro pins s σ H D I h
  refine wpAny_Assign_Name (thn (he pins s σ H _ I h) fun v s1 ⟨y, H1, I1, r1, q1⟩ => ?_) hs
  exact store_ok I1 hN hi hx r1 (fun s2 I2 => ⟨_, H1, I2, q1⟩) hf
end
section
variable {X : Cx} {pos : Pos}
def tWhile (c : TT) (tb : TS) : TS := fun D σ H => ∃ W : Nat → St → Hp → Prop, (∃ m, W m σ H) ∧ ∀ m σ H, W m σ H →
  c σ H fun b H1 => if b = true then ∃ N : St → Hp → Prop, (∀ σ' H', N σ' H' → ∃ m', m' < m ∧ W m' σ' H') ∧ tb { D with nx := N, ct := N, bk := D.nx } σ H1 else D.nx σ H1
theorem ps_while {c : Expr} {body : List Stmt} {tc : TT} {tb : TS} (hp : PassesOwn (model X.prog X.w) X.A X.env X.xe) (hc : PT X c tc) (hb : PSs X body tb) : PS X (.While c body [] pos) (tWhile tc tb) := by
  intro pins s σ H D I h
  obtain ⟨W, ⟨m0, w0⟩, turn⟩ := h
  refine wpAny_While (codeAny_whileLoop (fun n s' => ∃ σ' H', Inv X pins σ' H' s' ∧ W n σ' H') ?_ m0 ⟨σ, H, I, w0⟩)
  rintro n s1 ⟨σ1, H1, I1, w1⟩
  refine wpAny_passesOwn hp (thn (hc pins s1 σ1 H1 _ I1 (turn n σ1 H1 w1)) ?_)
  rintro b s2 ⟨H2, I2, q2⟩
  cases b with
  | true =>
    obtain ⟨N, hN, q2⟩ := q2
    rw [if_pos rfl]
    refine wpAny_passesOwn hp (thn (hb pins s2 σ1 H2 _ I2 q2) fun f s3 q3 => ?_)
    cases f with
    | next =>
      obtain ⟨σ3, H3, I3, n3⟩ := q3
      obtain ⟨m', hm, w3⟩ := hN σ3 H3 n3
      exact ⟨m', hm, σ3, H3, I3, w3⟩
    | cont =>
      obtain ⟨σ3, H3, I3, n3⟩ := q3
      obtain ⟨m', hm, w3⟩ := hN σ3 H3 n3
      exact ⟨m', hm, σ3, H3, I3, w3⟩
    | brk => exact q3
    | ret v => exact q3
  | false =>
    rw [if_neg Bool.false_ne_true]
    exact wpAny_execs_nil ⟨σ1, H2, I2, q2⟩
end
structure It where
  go : Nat → Hp → Prop
  yld : Nat → Hp → V → Hp → Prop
  stop : Nat → Hp → Prop
def FpOk (X : Cx) (pins : List (Addr × Obj)) (H : Hp) (b : Addr) : Prop :=
  H b = none ∧ b ≠ X.env.locals ∧ b ∉ X.fs ∧ (b ∈ X.ex ∨ X.s₀.heap.objs.size ≤ b) ∧ (∀ x c, X.env.cells.lookup x = some c → c ≠ b) ∧ ∀ p ∈ X.pn ++ pins, p.1 ≠ b
theorem Inv.fpOk {X : Cx} {pins : List (Addr × Obj)} {σ : St} {H H' : Hp} {s : Shared} {b : Addr} (I : Inv X pins σ H s) (hb : s.heap.objs.size ≤ b) (hn : H' b = none) : FpOk X pins H' b := by
  refine ⟨hn, Nat.ne_of_gt (Nat.lt_of_lt_of_le I.lt hb), I.nofs hb, .inr (Nat.le_trans I.sz hb), fun x c e z => ?_, fun p hp z => ?_⟩
  · obtain ⟨v, q⟩ := I.cell x c e
    exact absurd (Nat.lt_of_lt_of_le q.lt (by rw [z]; exact hb)) (Nat.lt_irrefl _)
  · exact absurd (Nat.lt_of_lt_of_le (Heap.lt_size (I.pin p hp).1) (by rw [z]; exact hb)) (Nat.lt_irrefl _)
structure Turn (P : Program) (w : World) (K : PySem.W.Frag) (tg : Expr) (J : It) (fp : List Addr) (it : Addr) (tn : Nat → Heap → Prop) : Prop where
  mem : it ∈ fp
  obj : ∀ i h, tn i h → ∀ b ∈ fp, ∃ o, h.get? b = some o ∧ ∀ v, o.data ≠ .cell v
  keep : ∀ i h h', tn i h → (∀ b ∈ fp, ∀ o, h.get? b = some o → h'.get? b = some o) → tn i h'
  item : ∀ (X : Cx), X.prog = P → X.w = w → X.K = K → X.calm = true → ∀ (i : Nat) (pins : List (Addr × Obj)) (s : Shared) (σ : St) (H : Hp) (E : Value → Shared → Prop), Inv X pins σ H s → (∀ b ∈ fp, FpOk X pins H b) → tn i s.heap → J.go i H →
    wpAny (model P w) X.A (pyNext (.ref it)) (fun r s1 => ∃ u, r = some u ∧
      wpAny (model P w) X.A (letOwnedTupleGo tg (.ref it) u) (fun _ s2 => ∃ x H', Inv X pins σ H' s2 ∧ RelV x u ∧ J.yld i H x H' ∧ tn (i + 1) s2.heap ∧ ∀ b ∈ fp, H' b = none) E s1) E s
  done : ∀ (X : Cx), X.prog = P → X.w = w → X.K = K → X.calm = true → ∀ (i : Nat) (pins : List (Addr × Obj)) (s : Shared) (σ : St) (H : Hp) (E : Value → Shared → Prop), Inv X pins σ H s → (∀ b ∈ fp, FpOk X pins H b) → tn i s.heap → J.stop i H →
    wpAny (model P w) X.A (pyNext (.ref it)) (fun r s1 => r = none ∧ Inv X pins σ H s1) E s
  self : ∀ (A : Around) (i : Nat) (s : Shared) (Q : Value → Shared → Prop) (E : Value → Shared → Prop), tn i s.heap → Q (.ref it) s → wpAny (model P w) A (pyIter (.ref it)) Q E s
abbrev TI := St → Hp → (It → Hp → Prop) → Prop
def PIE (X : Cx) (pins : List (Addr × Obj)) (σ : St) (tg : Expr) (R : It → Hp → Prop) (itv : Value) (s2 : Shared) : Prop :=
  ∃ (it : Addr) (fp : List Addr) (tn : Nat → Heap → Prop) (J : It) (H' : Hp), itv = .ref it ∧ Inv X pins σ H' s2 ∧ Turn X.prog X.w X.K tg J fp it tn ∧ tn 0 s2.heap ∧ (∀ b ∈ fp, FpOk X pins H' b) ∧ R J H'
def PI (X : Cx) (tg iter : Expr) (wi : TI) : Prop :=
  ∀ (pins : List (Addr × Obj)) (s : Shared) (σ : St) (H : Hp) (R : It → Hp → Prop), Inv X pins σ H s → wi σ H R →
    wpAny (model X.prog X.w) X.A (eval iter X.env) (fun v s1 => wpAny (model X.prog X.w) X.A (pyIter v) (PIE X pins σ tg R) X.xe s1) X.xe s
theorem go_of {M : Model} {A : Around} {E : Value → Shared → Prop} {s : Shared} {tg : Expr} {it : Addr} {u : Value} {o : Obj} {n : String} {vs : Array Value} {Q : Unit → Shared → Prop} (ho : s.heap.get? it = some o) (hc : o.cls = .type n) (hd : o.data = .fields vs)
    (hn : ["enumerate", "zip", "dict_itemiterator", "dict_reverseitemiterator", "odict_iterator", "itertools.zip_longest", "itertools.pairwise"].contains n = false) (hQ : Q () s) : wpAny M A (letOwnedTupleGo tg (.ref it) u) Q E s := by
  unfold letOwnedTupleGo
  cases tg <;> first
    | exact wpAny_pure hQ
    | (cases u <;> first
        | exact wpAny_pure hQ
        | (refine wpAny_bind (wpAny_load ho ?_)
           rw [hc, hd]
           show wpAny M A (if (["enumerate", "zip", "dict_itemiterator", "dict_reverseitemiterator", "odict_iterator", "itertools.zip_longest", "itertools.pairwise"].contains n && vs[0]? == some (rawInt _)) = true then _ else _) Q E s
           rw [if_neg (by intro h; rw [hn, Bool.false_and] at h; cases h)]
           exact wpAny_pure hQ))
def Itl (K : PySem.W.Frag) (a : Addr) : It :=
  ⟨fun i H => ∃ xs x, SqL K H a xs ∧ xs[i]? = some x, fun i H x H' => H' = H ∧ ∀ xs, SqL K H a xs → xs[i]? = some x, fun i H => ∃ xs, SqL K H a xs ∧ xs.length ≤ i⟩
def Itt (K : PySem.W.Frag) (a : Addr) : It :=
  ⟨fun i H => ∃ xs x, SqT K H a xs ∧ xs[i]? = some x, fun i H x H' => H' = H ∧ ∀ xs, SqT K H a xs → xs[i]? = some x, fun i H => ∃ xs, SqT K H a xs ∧ xs.length ≤ i⟩
def Itr (lo : Int) (n : Nat) : It := ⟨fun i _ => i < n, fun i H x H' => H' = H ∧ x = .int (lo + i), fun i _ => n ≤ i⟩
theorem turn_list {P : Program} {w : World} {K : PySem.W.Frag} {tg : Expr} (a it : Addr) : Turn P w K tg (Itl K a) [it] it (fun i h => h.IsListIter it a i) where
  mem := by simp
  obj := fun i h st b hb => by
    have e : b = it := by simpa using hb
    subst e
    obtain ⟨o, e, c, d⟩ := st
    exact ⟨o, e, fun v z => by rw [d] at z; cases z⟩
  keep := fun i h h' st k => st.at fun o e => k it (by simp) o e
  item := by
    intro X hP hw hK hc i pins s σ H E I hf st hg
    subst hP hw hK
    obtain ⟨xs, x, hq, hx⟩ := hg
    obtain ⟨its, rv, p, hz⟩ := I.list hq
    obtain ⟨u, hu, ru⟩ := rv.get hx
    obtain ⟨f0, f1, f2, f3, f4, f5⟩ := hf it (by simp)
    refine wpAny_pyNext_list_item st p.isList (x := u) (by simpa using hu) fun h' st' sb => ?_
    have I1 : Inv X pins σ H { s with heap := h' } := I.turned (t' := s.toks) (fun b o hb e => (sb.2 b hb).trans e) f0 f1 f3 f4 f5
    obtain ⟨o, e, c, d⟩ := id st'
    exact ⟨u, rfl, go_of (s := { s with heap := h' }) e c d (by decide) ⟨x, H, I1, ru, ⟨rfl, fun ys hy => by rw [I.list_inj hy hq]; exact hx⟩, st', fun b hb => (hf b hb).1⟩⟩
  done := by
    intro X hP hw hK hc i pins s σ H E I hf st hg
    subst hP hw hK
    obtain ⟨xs, hq, hx⟩ := hg
    obtain ⟨its, rv, p, hz⟩ := I.list hq
    obtain ⟨f0, f1, f2, f3, f4, f5⟩ := hf it (by simp)
    have hl := rv.length
    exact wpAny_pyNext_list_end (I.ok.hd hc) st p.isList (by simp; omega) fun h' eb => ⟨rfl, I.turned (t' := s.toks) (fun b o hb e => eb b o hb e) f0 f1 f3 f4 f5⟩
  self := fun _ _ _ _ _ st h => wpAny_pyIter_listiter st h
theorem turn_tuple {P : Program} {w : World} {K : PySem.W.Frag} {tg : Expr} (a it : Addr) : Turn P w K tg (Itt K a) [it] it (fun i h => h.IsTupleIter it a i) where
  mem := by simp
  obj := fun i h st b hb => by
    have e : b = it := by simpa using hb
    subst e
    obtain ⟨o, e, c, d⟩ := st
    exact ⟨o, e, fun v z => by rw [d] at z; cases z⟩
  keep := fun i h h' st k => st.at fun o e => k it (by simp) o e
  item := by
    intro X hP hw hK hc i pins s σ H E I hf st hg
    subst hP hw hK
    obtain ⟨xs, x, hq, hx⟩ := hg
    obtain ⟨its, rv, p, hz⟩ := I.tuple hq
    obtain ⟨u, hu, ru⟩ := rv.get hx
    obtain ⟨f0, f1, f2, f3, f4, f5⟩ := hf it (by simp)
    refine wpAny_pyNext_tuple_item st (show s.heap.IsTuple a its.toArray from p) (x := u) (by simpa using hu) fun h' st' sb => ?_
    have I1 : Inv X pins σ H { s with heap := h' } := I.turned (t' := s.toks) (fun b o hb e => (sb.2 b hb).trans e) f0 f1 f3 f4 f5
    obtain ⟨o, e, c, d⟩ := id st'
    exact ⟨u, rfl, go_of (s := { s with heap := h' }) e c d (by decide) ⟨x, H, I1, ru, ⟨rfl, fun ys hy => by rw [I.tuple_inj hy hq]; exact hx⟩, st', fun b hb => (hf b hb).1⟩⟩
  done := by
    intro X hP hw hK hc i pins s σ H E I hf st hg
    subst hP hw hK
    obtain ⟨xs, hq, hx⟩ := hg
    obtain ⟨its, rv, p, hz⟩ := I.tuple hq
    obtain ⟨f0, f1, f2, f3, f4, f5⟩ := hf it (by simp)
    have hl := rv.length
    exact wpAny_pyNext_tuple_end (I.ok.hd hc) st (show s.heap.IsTuple a its.toArray from p) (by simp; omega) fun h' eb => ⟨rfl, I.turned (t' := s.toks) (fun b o hb e => eb b o hb e) f0 f1 f3 f4 f5⟩
  self := fun _ _ _ _ _ st h => wpAny_pyIter_tupleiter st h
theorem turn_range {P : Program} {w : World} {K : PySem.W.Frag} {tg : Expr} (it : Addr) (lo : Int) (n : Nat) : Turn P w K tg (Itr lo n) [it] it (fun i h => IsRangeIter h it (lo + (i : Nat) * 1) ((n : Int) - (i : Nat)) 1) where
  mem := by simp
  obj := fun i h st b hb => by
    have e : b = it := by simpa using hb
    subst e
    exact ⟨_, st, fun v z => by
      have z' : Data.fields _ = Data.cell v := z
      cases z'⟩
  keep := fun i h h' st k => k it (by simp) _ st
  item := by
    intro X hP hw hK hc i pins s σ H E I hf st hg
    subst hP hw hK
    obtain ⟨f0, f1, f2, f3, f4, f5⟩ := hf it (by simp)
    have W := Walks.range (prog := X.prog) (w := X.w) (I.ok.hd hc) it lo 1 n
    refine W.item i s _ _ hg st fun v h' tk hv st' kk => ?_
    obtain ⟨t, rfl⟩ := hv
    have I1 : Inv X pins σ H { s with heap := h', toks := tk } := I.turned (fun b o hb e => kk b o (by simpa using hb) e) f0 f1 f3 f4 f5
    refine ⟨_, rfl, go_of (s := { s with heap := h', toks := tk }) (n := "range_iterator") st' rfl rfl (by decide) ⟨.int (lo + i), H, I1, ⟨t, ?_⟩, ⟨rfl, rfl⟩, st', fun b hb => (hf b hb).1⟩⟩
    rw [Int.mul_one]
  done := by
    intro X hP hw hK hc i pins s σ H E I hf st hg
    subst hP hw hK
    obtain ⟨f0, f1, f2, f3, f4, f5⟩ := hf it (by simp)
    exact wpAny_pyNext_range_end (I.ok.hd hc) st (by have : n ≤ i := hg; omega) fun h' eb => ⟨rfl, I.turned (t' := s.toks) (fun b o hb e => eb b o hb e) f0 f1 f3 f4 f5⟩
  self := fun _ _ _ _ _ st h => wpAny_pyIter_rangeiter st h
end L2
namespace L2
open PySem PySem.Spec PyProof.Rows
section
variable {X : Cx} {tg : Expr}
theorem range_it {pins : List (Addr × Obj)} {σ : St} {H : Hp} {s : Shared} {R : It → Hp → Prop} {E : Value → Shared → Prop} {lo hi : Int} {t u v : Tok} {tk : Nat} (I : Inv X pins σ H s) (h1 : -(2 ^ 62) ≤ lo) (h2 : lo < 2 ^ 62) (h3 : -(2 ^ 62) ≤ hi) (h4 : hi < 2 ^ 62)
    (q : R (Itr lo (hi - lo).toNat) H) : wpAny (model X.prog X.w) X.A (pyIter (.ref s.heap.objs.size)) (PIE X pins σ tg R) E { s with heap := s.heap.push { cls := .type "range", data := .fields #[.int lo t, .int hi u, .int 1 v] }, toks := tk } := by
  refine wpAny_pyIter_range (IsRange.new ..) (small_one h1 h2 h3 h4) ?_
  have I1 : Inv X pins σ H { s with heap := s.heap.push { cls := .type "range", data := .fields #[.int lo t, .int hi u, .int 1 v] }, toks := tk } := I.kept fun b o e => Heap.get?_push_of_some _ e
  refine ⟨(s.heap.push { cls := .type "range", data := .fields #[.int lo t, .int hi u, .int 1 v] }).objs.size, [(s.heap.push { cls := .type "range", data := .fields #[.int lo t, .int hi u, .int 1 v] }).objs.size], _, _, H, rfl,
    I1.kept (t' := tk) fun b o e => Heap.get?_push_of_some _ e, turn_range _ lo (hi - lo).toNat, ?_, fun b hb => ?_, q⟩
  · have e1 : lo + ((0 : Nat) : Int) * 1 = lo := by simp
    have e2 : (((hi - lo).toNat : Nat) : Int) - ((0 : Nat) : Int) = Builtin.Range.rangeSize lo hi 1 := by rw [rangeSize_one]; split <;> omega
    show IsRangeIter _ _ (lo + ((0 : Nat) : Int) * 1) ((((hi - lo).toNat : Nat) : Int) - ((0 : Nat) : Int)) 1
    rw [e1, e2]
    exact Heap.get?_push_size _ rfl
  · have e : b = (s.heap.push { cls := .type "range", data := .fields #[.int lo t, .int hi u, .int 1 v] }).objs.size := by simpa using hb
    subst e
    exact I1.fpOk (Nat.le_refl _) (I1.hok.fresh (Nat.le_refl _))
def iRng1 (ta : TA) : TI := fun σ H R => ta σ H fun vs H1 => ∃ j : Int, vs = [.int j] ∧ -(2 ^ 62) ≤ j ∧ j < 2 ^ 62 ∧ R (Itr 0 j.toNat) H1
theorem pi_range1 {a : Expr} {ta : TA} {p pos : Pos} (hg : Gl X "range") (hm : X.mg "range" = none) (ha : PA X [a] ta) (hs : starEach [a] X.env = [(false, eval a X.env)] := by rfl) : PI X tg (.Call (.Name "range" p) [a] [] pos) (iRng1 ta) := by
  intro pins s σ H R I h
  refine Call_ (ld_blt I hg hm boot_range (PyProof.Rows.callWith_type1 (thn (ha pos pins s σ H _ I h) fun us s1 ⟨vs, H1, I1, r1, q1⟩ => ?_) hs rfl))
  obtain ⟨j, e, q1, q2, q⟩ := q1
  subst e
  cases r1 with
  | cons r rr =>
    cases rr
    obtain ⟨t, rfl⟩ := r
    exact call_range_1 (range_it I1 (by omega) (by omega) q1 q2 (by simpa using q))
def tFor (wi : TI) (g : TG) (tb : TS) : TS := fun D σ H => wi σ H fun J H1 => ∃ W : Nat → Nat → St → Hp → Prop, (∃ m, W 0 m σ H1) ∧ ∀ i m σ H, W i m σ H →
  (J.stop i H ∧ D.nx σ H) ∨ (J.go i H ∧ ∃ N : St → Hp → Prop, (∀ σ' H', N σ' H' → ∃ m', m' < m ∧ W (i + 1) m' σ' H') ∧ ∀ x H', J.yld i H x H' → g x σ H' fun σ2 H2 => tb { D with nx := N, ct := N, bk := D.nx } σ2 H2)
def pinsAt (fp : List Addr) (h : Heap) : List (Addr × Obj) := fp.filterMap fun b => (h.get? b).map fun o => (b, o)
theorem mem_pinsAt {fp : List Addr} {h : Heap} {b : Addr} {o : Obj} (hb : b ∈ fp) (e : h.get? b = some o) : (b, o) ∈ pinsAt fp h := List.mem_filterMap.mpr ⟨b, hb, by rw [e]; rfl⟩
theorem of_pinsAt {fp : List Addr} {h : Heap} {p : Addr × Obj} (hp : p ∈ pinsAt fp h) : p.1 ∈ fp ∧ h.get? p.1 = some p.2 := by
  obtain ⟨b, hb, e⟩ := List.mem_filterMap.mp hp
  cases q : h.get? b with
  | none => rw [q] at e; cases e
  | some o =>
    rw [q] at e
    have e' : (b, o) = p := Option.some.inj e
    subst e'
    exact ⟨hb, q⟩
theorem Inv.pinned {pins : List (Addr × Obj)} {σ : St} {H : Hp} {s : Shared} {fp : List Addr} (I : Inv X pins σ H s) (hf : ∀ b ∈ fp, FpOk X pins H b) (ho : ∀ b ∈ fp, ∃ o, s.heap.get? b = some o ∧ ∀ v, o.data ≠ .cell v) : Inv X (pins ++ pinsAt fp s.heap) σ H s :=
  I.pins_of fun p hp => (List.mem_append.mp hp).elim (fun z => I.pin p (List.mem_append_right _ z)) fun z => by
    obtain ⟨hb, e⟩ := of_pinsAt z
    obtain ⟨f0, f1, f2, _⟩ := hf p.1 hb
    obtain ⟨o, e', d⟩ := ho p.1 hb
    rw [e] at e'; cases e'
    exact ⟨e, f0, f1, f2, d⟩
theorem Inv.unpinned {pins pl : List (Addr × Obj)} {σ : St} {H : Hp} {s : Shared} (I : Inv X (pins ++ pl) σ H s) : Inv X pins σ H s := I.pins_of fun p hp => I.pin p (List.mem_append_right _ (List.mem_append_left _ hp))
theorem ps_for {iter : Expr} {body : List Stmt} {wi : TI} {g : TG} {tb : TS} {pos : Pos} (hp : PassesOwn (model X.prog X.w) X.A X.env X.xe) (hc : X.calm = true) (hi : PI X tg iter wi) (hg : PG X tg g) (hb : PSs X body tb)
    (hs : ∀ x, foldedSetIterable iter X.env x = pure x := by intro _; rfl) : PS X (.For tg iter body [] pos) (tFor wi g tb) := by
  intro pins s σ H D I h
  refine wpAny_For (thn (hi pins s σ H _ I h) fun v s1 h1 => thn h1 fun itv s2 h2 => ?_) hs
  obtain ⟨it, fp, tn, J, H2, e, I2, T, st2, f2, W, ⟨m0, w0⟩, turn⟩ := h2
  subst e
  -- what stays true of the iterator's objects through the loop
  have stat : ∀ {H' : Hp}, (∀ b ∈ fp, H' b = none) → ∀ b ∈ fp, FpOk X pins H' b := fun hn b hb => ⟨hn b hb, (f2 b hb).2⟩
  refine codeAny_forLoop_any (fun n s' => ∃ i σ' H', Inv X pins σ' H' s' ∧ tn i s'.heap ∧ (∀ b ∈ fp, H' b = none) ∧ W i n σ' H') ?_ m0 ⟨0, σ, H2, I2, st2, fun b hb => (f2 b hb).1, w0⟩
  rintro n s3 ⟨i, σ3, H3, I3, st3, fr3, w3⟩
  rcases turn i n σ3 H3 w3 with ⟨stop, qn⟩ | ⟨go, N, hN, step⟩
  · refine wpAny_passesOwn hp (thn (T.done X rfl rfl rfl hc i pins s3 σ3 H3 X.xe I3 (stat fr3) st3 stop) ?_)
    rintro r s4 ⟨hr, I4⟩
    subst hr
    exact wpAny_execs_nil ⟨σ3, H3, I4, qn⟩
  · refine wpAny_passesOwn hp (thn (T.item X rfl rfl rfl hc i pins s3 σ3 H3 X.xe I3 (stat fr3) st3 go) ?_)
    rintro r s4 ⟨u, hr, h4⟩
    subst hr
    refine wpAny_passesOwn hp (thn h4 ?_)
    rintro _ s5 ⟨x, H5, I5, r5, y5, st5, fr5⟩
    have I5' := I5.pinned (stat fr5) (T.obj _ _ st5)
    refine wpAny_passesOwn hp (thn (hg _ s5 σ3 H5 x u _ I5' r5 (step x H5 y5)) ?_)
    rintro _ s6 ⟨σ6, H6, I6, q6⟩
    refine wpAny_passesOwn hp (thn (hb _ s6 σ6 H6 _ I6 q6) fun f s7 q7 => ?_)
    have again : ∀ {σ7 : St} {H7 : Hp}, Inv X (pins ++ pinsAt fp s5.heap) σ7 H7 s7 → N σ7 H7 → ∃ m, m < n ∧ ∃ i σ' H', Inv X pins σ' H' s7 ∧ tn i s7.heap ∧ (∀ b ∈ fp, H' b = none) ∧ W i m σ' H' := fun {σ7 H7} I7 n7 => by
      obtain ⟨m', hm, w7⟩ := hN σ7 H7 n7
      refine ⟨m', hm, i + 1, σ7, H7, I7.unpinned, T.keep _ _ _ st5 fun b hb o e => (I7.pin (b, o) (List.mem_append_right _ (List.mem_append_right _ (mem_pinsAt hb e)))).1, fun b hb => ?_, w7⟩
      obtain ⟨o, e, d⟩ := T.obj _ _ st5 b hb
      exact (I7.pin (b, o) (List.mem_append_right _ (List.mem_append_right _ (mem_pinsAt hb e)))).2.1
    cases f with
    | next => obtain ⟨σ7, H7, I7, n7⟩ := q7; exact again I7 n7
    | cont => obtain ⟨σ7, H7, I7, n7⟩ := q7; exact again I7 n7
    | brk => obtain ⟨σ7, H7, I7, q7⟩ := q7; exact ⟨σ7, H7, I7.unpinned, q7⟩
    | ret v => obtain ⟨x7, σ7, H7, I7, r7, q7⟩ := q7; exact ⟨x7, σ7, H7, I7.unpinned, r7, q7⟩
end
end L2
namespace L2
open PySem PySem.Spec PyProof.Rows
abbrev R2 := V → V → Hp → VK → Prop
def OpR (X : Cx) (f : Value → Value → Sem Value) (r : R2) : Prop :=
  ∀ (pins : List (Addr × Obj)) (s : Shared) (σ : St) (H : Hp) (x y : V) (v u : Value) (Q : VK), Inv X pins σ H s → RelV x v → RelV y u → r x y H Q →
    wpAny (model X.prog X.w) X.A (f v u) (EP X pins σ Q) X.xe s
def UnR (X : Cx) (f : Value → Sem Value) (r : V → Hp → VK → Prop) : Prop :=
  ∀ (pins : List (Addr × Obj)) (s : Shared) (σ : St) (H : Hp) (x : V) (v : Value) (Q : VK), Inv X pins σ H s → RelV x v → r x H Q →
    wpAny (model X.prog X.w) X.A (f v) (EP X pins σ Q) X.xe s
def CallR (X : Cx) (f : Value) (r : List V → Hp → VK → Prop) : Prop :=
  ∀ (pins : List (Addr × Obj)) (s : Shared) (σ : St) (H : Hp) (xs : List V) (us : List Value) (Q : VK), Inv X pins σ H s → Vals xs us → r xs H Q →
    wpAny (model X.prog X.w) X.A (call f us) (EP X pins σ Q) X.xe s
def tOp (r : R2) (ta tb : TE) : TE := fun σ H Q => ta σ H fun x H1 => tb σ H1 fun y H2 => r x y H2 Q
def tUn (r : V → Hp → VK → Prop) (ta : TE) : TE := fun σ H Q => ta σ H fun x H1 => r x H1 Q
def rI (C : Int → Int → Prop) (g : Int → Int → V) : R2 := fun x y H Q => ∃ i j, x = .int i ∧ y = .int j ∧ C i j ∧ Q (g i j) H
def rI0 (g : Int → Int → V) : R2 := fun x y H Q => ∃ i j, x = .int i ∧ y = .int j ∧ Q (g i j) H
def rU (g : Int → V) : V → Hp → VK → Prop := fun x H Q => ∃ i, x = .int i ∧ Q (g i) H
section
variable {X : Cx} {a b c : Expr} {ta tb tc : TE} {pos : Pos}
theorem binT (ha : PE X a ta) (hb : PE X b tb) {pins : List (Addr × Obj)} {s : Shared} {σ : St} {H : Hp} {R : V → V → Hp → Prop} (I : Inv X pins σ H s)
    (h : ta σ H fun x H1 => tb σ H1 fun y H2 => R x y H2) {Q : Value → Shared → Prop} {f : Value → Value → Sem Value}
    (hf : ∀ v u s2 x y H2, Inv X pins σ H2 s2 → RelV x v → RelV y u → R x y H2 → wpAny (model X.prog X.w) X.A (f v u) Q X.xe s2) :
    wpAny (model X.prog X.w) X.A (eval a X.env) (fun v s₁ => wpAny (model X.prog X.w) X.A (eval b X.env) (fun u s₂ => wpAny (model X.prog X.w) X.A (f v u) Q X.xe s₂) X.xe s₁) X.xe s := by
  refine thn (ha pins s σ H _ I h) ?_
  rintro v s1 ⟨x, H1, I1, r1, q1⟩
  refine thn (hb pins s1 σ H1 _ I1 q1) ?_
  rintro u s2 ⟨y, H2, I2, r2, q2⟩
  exact hf v u s2 x y H2 I2 r1 r2 q2
theorem pe_op {op : Operator} {r : R2} (ho : OpR X (binaryOp op) r) (ha : PE X a ta) (hb : PE X b tb) : PE X (.BinOp a op b pos) (tOp r ta tb) := by
  intro pins s σ H Q I h
  exact wpAny_BinOp (binT ha hb I h fun v u s2 x y H2 I2 rx ry q => ho pins s2 σ H2 x y v u Q I2 rx ry q)
theorem pe_un {op : UnaryOp} {r : V → Hp → VK → Prop} (ho : UnR X (unaryOp op) r) (ha : PE X a ta) : PE X (.UnaryOp op a pos) (tUn r ta) := by
  intro pins s σ H Q I h
  exact UnaryOp_ (thn (ha pins s σ H _ I h) fun v s1 ⟨x, H1, I1, r1, q1⟩ => ho pins s1 σ H1 x v Q I1 r1 q1)
theorem opI {f : Value → Value → Sem Value} {C : Int → Int → Prop} {g : Int → Int → Int}
    (rule : ∀ (i j : Int) (t u : Tok) (s : Shared) (Q : Value → Shared → Prop) (E : Value → Shared → Prop), C i j → Q (.int (g i j) s.toks) { s with toks := s.toks + 1 } → wpAny (model X.prog X.w) X.A (f (.int i t) (.int j u)) Q E s) :
    OpR X f (rI C fun i j => .int (g i j)) := by
  intro pins s σ H x y v u Q I rx ry h
  obtain ⟨i, j, rfl, rfl, hc, q⟩ := h
  obtain ⟨t, rfl⟩ := rx
  obtain ⟨t', rfl⟩ := ry
  exact rule i j t t' s _ _ hc ⟨.int (g i j), H, I.tok _, ⟨_, rfl⟩, q⟩
theorem opI0 {f : Value → Value → Sem Value} {g : Int → Int → Int}
    (rule : ∀ (i j : Int) (t u : Tok) (s : Shared) (Q : Value → Shared → Prop) (E : Value → Shared → Prop), Q (.int (g i j) s.toks) { s with toks := s.toks + 1 } → wpAny (model X.prog X.w) X.A (f (.int i t) (.int j u)) Q E s) :
    OpR X f (rI0 fun i j => .int (g i j)) := by
  intro pins s σ H x y v u Q I rx ry h
  obtain ⟨i, j, rfl, rfl, q⟩ := h
  obtain ⟨t, rfl⟩ := rx
  obtain ⟨t', rfl⟩ := ry
  exact rule i j t t' s _ _ ⟨.int (g i j), H, I.tok _, ⟨_, rfl⟩, q⟩
theorem opB0 {f : Value → Value → Sem Value} {g : Int → Int → Bool}
    (rule : ∀ (i j : Int) (t u : Tok) (s : Shared) (Q : Value → Shared → Prop) (E : Value → Shared → Prop), Q (.bool (g i j)) s → wpAny (model X.prog X.w) X.A (f (.int i t) (.int j u)) Q E s) :
    OpR X f (rI0 fun i j => .bl (g i j)) := by
  intro pins s σ H x y v u Q I rx ry h
  obtain ⟨i, j, rfl, rfl, q⟩ := h
  obtain ⟨t, rfl⟩ := rx
  obtain ⟨t', rfl⟩ := ry
  exact rule i j t t' s _ _ ⟨.bl (g i j), H, I, rfl, q⟩
def CDiv (i j : Int) : Prop := 0 < j ∧ j < 1073741824
def CPow (i j : Int) : Prop := 0 ≤ j ∧ j ≤ 1000000 ∧ i.natAbs < 2 ^ 64
def CMul (i j : Int) : Prop := (-(2 ^ 64) < i ∧ i < 2 ^ 64) ∨ (-(2 ^ 64) < j ∧ j < 2 ^ 64)
theorem CMul.ok {i j : Int} (h : CMul i j) : IntMulOk i j := by
  rcases h with ⟨h1, h2⟩ | ⟨h1, h2⟩
  · exact .of_left (intBits_le_64 h1 h2)
  · exact .of_right (intBits_le_64 h1 h2)
theorem op_add : OpR X (binaryOp .Add) (rI0 fun i j => .int (i + j)) := opI0 fun _ _ _ _ _ _ _ q => add_int q
theorem op_sub : OpR X (binaryOp .Sub) (rI0 fun i j => .int (i - j)) := opI0 fun _ _ _ _ _ _ _ q => sub_int q
theorem op_mul : OpR X (binaryOp .Mult) (rI CMul fun i j => .int (i * j)) := opI fun _ _ _ _ _ _ _ hc q => mul_int q hc.ok
theorem op_fdiv : OpR X (binaryOp .FloorDiv) (rI CDiv fun i j => .int (i / j)) := opI fun i j _ _ _ _ _ hc q => by
  have h1 : (0 : Int) < j := hc.1
  have h2 : j < 1073741824 := hc.2
  exact floordiv_int (by omega) (by rw [Int.fdiv_eq_ediv_of_nonneg i (by omega)]; exact q) (.inl (PyProof.noPylong_small (by omega)))
theorem op_mod : OpR X (binaryOp .Mod) (rI (fun _ j => 0 < j) fun i j => .int (i % j)) := opI fun i j _ _ _ _ _ hc q => by
  have h1 : (0 : Int) < j := hc
  exact mod_int' (by omega) (by rw [Int.fmod_eq_emod_of_nonneg i (by omega)]; exact q)
theorem op_pow : OpR X (binaryOp .Pow) (rI CPow fun i j => .int (i ^ j.toNat)) := opI fun _ _ _ _ _ _ _ hc q => pow_int_small hc.1 hc.2.1 hc.2.2 q
theorem unI {f : Value → Sem Value} {g : Int → Int}
    (rule : ∀ (i : Int) (t : Tok) (s : Shared) (Q : Value → Shared → Prop) (E : Value → Shared → Prop), Q (.int (g i) s.toks) { s with toks := s.toks + 1 } → wpAny (model X.prog X.w) X.A (f (.int i t)) Q E s) :
    UnR X f (rU fun i => .int (g i)) := by
  intro pins s σ H x v Q I rx h
  obtain ⟨i, rfl, q⟩ := h
  obtain ⟨t, rfl⟩ := rx
  exact rule i t s _ _ ⟨.int (g i), H, I.tok _, ⟨_, rfl⟩, q⟩
theorem un_neg : UnR X (unaryOp .USub) (rU fun i => .int (-i)) := unI fun _ _ _ _ _ q => neg_int q
end
def scal : V → V → Bool
  | .non, .non => true | .non, .int _ => true | .int _, .non => true | .non, .bl _ => true | .bl _, .non => true | .non, .str _ => true | .str _, .non => true
  | .int _, .int _ => true | .bl _, .bl _ => true | .str _, .str _ => true | .byt _, .byt _ => true
  | .int _, .str _ => true | .str _, .int _ => true | .bl _, .str _ => true | .str _, .bl _ => true
  | _, _ => false
def rEq : R2 := fun x y H Q => scal x y = true ∧ Q (.bl (decide (x = y))) H
def rNe : R2 := fun x y H Q => scal x y = true ∧ Q (.bl (!decide (x = y))) H
theorem dec_int {i j : Int} : decide (V.int i = V.int j) = (i == j) := by
  rw [Bool.eq_iff_iff]
  simp
theorem dec_bl {i j : Bool} : decide (V.bl i = V.bl j) = (i == j) := by
  rw [Bool.eq_iff_iff]
  simp
theorem dec_str {i j : Str} : decide (V.str i = V.str j) = (i == j) := by
  rw [Bool.eq_iff_iff]
  simp
theorem dec_byt {i j : Array UInt8} : decide (V.byt i = V.byt j) = (i.toList == j.toList) := by
  rw [Bool.eq_iff_iff]
  cases i
  cases j
  simp
section
variable {X : Cx} {a b c : Expr} {ta tb tc : TE} {pos : Pos}
theorem fin_bl {pins : List (Addr × Obj)} {σ : St} {H : Hp} {s : Shared} {Q : VK} {k k' : Bool} (I : Inv X pins σ H s) (q : Q (.bl k) H) (e : k = k') : EP X pins σ Q (.bool k') s := by
  subst e
  exact ⟨.bl k, H, I, rfl, q⟩
theorem op_eq : OpR X (compareOp .Eq) rEq := by
  intro pins s σ H x y v u Q I rx ry h
  obtain ⟨hs, q⟩ := h
  cases x with
  | non =>
    cases rx
    cases y with
    | non => cases ry; exact PySem.EqNone.eq_none_none (fin_bl I q (by simp))
    | bl j => cases ry; exact PySem.EqNone.eq_none_bool (fin_bl I q (by simp))
    | int j => obtain ⟨t', rfl⟩ := ry; exact PySem.EqNone.eq_none_int (fin_bl I q (by simp))
    | str j => obtain ⟨t', rfl⟩ := ry; exact PySem.EqNone.eq_none_str (fin_bl I q (by simp))
    | _ => exact absurd (show false = true from hs) Bool.false_ne_true
  | bl i =>
    cases rx
    cases y with
    | non => cases ry; exact PySem.EqNone.eq_bool_none (fin_bl I q (by simp))
    | bl j => cases ry; exact eq_bool (fin_bl I q dec_bl)
    | str j => obtain ⟨t', rfl⟩ := ry; exact PySem.EqMixed.eq_bool_str (fin_bl I q (by simp))
    | _ => exact absurd (show false = true from hs) Bool.false_ne_true
  | int i =>
    obtain ⟨t, rfl⟩ := rx
    cases y with
    | non => cases ry; exact PySem.EqNone.eq_int_none (fin_bl I q (by simp))
    | int j => obtain ⟨t', rfl⟩ := ry; exact eq_int (fin_bl I q dec_int)
    | str j => obtain ⟨t', rfl⟩ := ry; exact PySem.EqMixed.eq_int_str (fin_bl I q (by simp))
    | _ => exact absurd (show false = true from hs) Bool.false_ne_true
  | str i =>
    obtain ⟨t, rfl⟩ := rx
    cases y with
    | non => cases ry; exact PySem.EqNone.eq_str_none (fin_bl I q (by simp))
    | bl j => cases ry; exact PySem.EqMixed.eq_str_bool (fin_bl I q (by simp))
    | int j => obtain ⟨t', rfl⟩ := ry; exact PySem.EqMixed.eq_str_int (fin_bl I q (by simp))
    | str j => obtain ⟨t', rfl⟩ := ry; exact eq_str (fin_bl I q dec_str)
    | _ => exact absurd (show false = true from hs) Bool.false_ne_true
  | byt i =>
    obtain ⟨t, rfl⟩ := rx
    cases y with
    | byt j => obtain ⟨t', rfl⟩ := ry; exact PySem.W.eq_bytes (fin_bl I q dec_byt)
    | _ => exact absurd (show false = true from hs) Bool.false_ne_true
  | _ => cases y <;> exact absurd (show false = true from hs) Bool.false_ne_true
theorem op_ne : OpR X (compareOp .NotEq) rNe := by
  intro pins s σ H x y v u Q I rx ry h
  obtain ⟨hs, q⟩ := h
  cases x with
  | non =>
    cases rx
    cases y with
    | non => cases ry; exact PySem.EqNone.ne_none_none (fin_bl I q (by simp))
    | bl j => cases ry; exact PySem.EqNone.ne_none_bool (fin_bl I q (by simp))
    | int j => obtain ⟨t', rfl⟩ := ry; exact PySem.EqNone.ne_none_int (fin_bl I q (by simp))
    | str j => obtain ⟨t', rfl⟩ := ry; exact PySem.EqNone.ne_none_str (fin_bl I q (by simp))
    | _ => exact absurd (show false = true from hs) Bool.false_ne_true
  | bl i =>
    cases rx
    cases y with
    | non => cases ry; exact PySem.EqNone.ne_bool_none (fin_bl I q (by simp))
    | bl j => cases ry; exact ne_bool (fin_bl I q (congrArg not dec_bl))
    | str j => obtain ⟨t', rfl⟩ := ry; exact PySem.EqMixed.ne_bool_str (fin_bl I q (by simp))
    | _ => exact absurd (show false = true from hs) Bool.false_ne_true
  | int i =>
    obtain ⟨t, rfl⟩ := rx
    cases y with
    | non => cases ry; exact PySem.EqNone.ne_int_none (fin_bl I q (by simp))
    | int j => obtain ⟨t', rfl⟩ := ry; exact ne_int (fin_bl I q (congrArg not dec_int))
    | str j => obtain ⟨t', rfl⟩ := ry; exact PySem.EqMixed.ne_int_str (fin_bl I q (by simp))
    | _ => exact absurd (show false = true from hs) Bool.false_ne_true
  | str i =>
    obtain ⟨t, rfl⟩ := rx
    cases y with
    | non => cases ry; exact PySem.EqNone.ne_str_none (fin_bl I q (by simp))
    | bl j => cases ry; exact PySem.EqMixed.ne_str_bool (fin_bl I q (by simp))
    | int j => obtain ⟨t', rfl⟩ := ry; exact PySem.EqMixed.ne_str_int (fin_bl I q (by simp))
    | str j => obtain ⟨t', rfl⟩ := ry; exact ne_str (fin_bl I q (congrArg not dec_str))
    | _ => exact absurd (show false = true from hs) Bool.false_ne_true
  | byt i =>
    obtain ⟨t, rfl⟩ := rx
    cases y with
    | byt j => obtain ⟨t', rfl⟩ := ry; exact PySem.W.ne_bytes (fin_bl I q (congrArg not dec_byt))
    | _ => exact absurd (show false = true from hs) Bool.false_ne_true
  | _ => cases y <;> exact absurd (show false = true from hs) Bool.false_ne_true
theorem op_lt : OpR X (compareOp .Lt) (rI0 fun i j => .bl (decide (i < j))) := opB0 fun _ _ _ _ _ _ _ q => lt_int q
theorem op_le : OpR X (compareOp .LtE) (rI0 fun i j => .bl (decide (i ≤ j))) := opB0 fun _ _ _ _ _ _ _ q => le_int q
theorem op_gt : OpR X (compareOp .Gt) (rI0 fun i j => .bl (decide (j < i))) := opB0 fun _ _ _ _ _ _ _ q => gt_int q
theorem op_ge : OpR X (compareOp .GtE) (rI0 fun i j => .bl (decide (j ≤ i))) := opB0 fun _ _ _ _ _ _ _ q => ge_int q
theorem op_lt_str : OpR X (compareOp .Lt) (fun x y H Q => ∃ i j, x = .str i ∧ y = .str j ∧ Q (.bl (decide (i.cps.toList < j.cps.toList))) H) := by
  intro pins s σ H x y v u Q I rx ry h
  obtain ⟨i, j, rfl, rfl, q⟩ := h
  obtain ⟨t, rfl⟩ := rx
  obtain ⟨t', rfl⟩ := ry
  exact lt_str (fin_bl I q rfl)
theorem op_in_str : OpR X (compareOp .In) (fun x y H Q => ∃ i j, x = .str i ∧ y = .str j ∧ Q (.bl (!(Builtin.Str.occurrences j i 0 j.length 1).isEmpty)) H) := by
  intro pins s σ H x y v u Q I rx ry h
  obtain ⟨i, j, rfl, rfl, q⟩ := h
  obtain ⟨t, rfl⟩ := rx
  obtain ⟨t', rfl⟩ := ry
  exact in_str (fin_bl I q rfl)
theorem nomark (b : Expr) {op : CmpOp} (h : op ≠ .In := by decide) (h2 : op ≠ .NotIn := by decide) : behindInMarks op b = false := by
  have e1 : (op == CmpOp.In) = false := by cases op <;> first | rfl | exact absurd rfl h
  have e2 : (op == CmpOp.NotIn) = false := by cases op <;> first | rfl | exact absurd rfl h2
  cases b <;> simp [behindInMarks, e1, e2]
def tTest (t : TE) : TT := fun σ H Q => t σ H fun x H' => ∃ k, x = .bl k ∧ Q k H'
theorem pt_cmpR {op : CmpOp} {r : R2} (ho : OpR X (compareOp op) r) (ha : PE X a ta) (hb : PE X b tb) (hm : behindInMarks op b = false) : PT X (.Compare a [op] [b] pos) (tTest (tOp r ta tb)) := by
  intro pins s σ H Q I h
  refine wpAny_isTrue_Compare1 (thn (ha pins s σ H _ I h) fun v s1 ⟨x, H1, I1, r1, q1⟩ => thn (hb pins s1 σ H1 _ I1 q1) fun u s2 ⟨y, H2, I2, r2, q2⟩ =>
    thn (ho pins s2 σ H2 x y v u _ I2 r1 r2 q2) fun c s3 ⟨z, H3, I3, r3, k, e, q3⟩ => ?_) hm
  subst e
  cases r3
  exact wpAny_truthy_bool ⟨H3, I3, q3⟩
theorem line63 : (sizeLine : Nat) < 2 ^ 63 := by rw [sizeLine_eq]; decide
theorem op_add_str : OpR X (binaryOp .Add) (fun x y H Q => ∃ i j, x = .str i ∧ y = .str j ∧ i.length + j.length ≤ sizeLine ∧ Q (.str (i ++ j)) H) := by
  intro pins s σ H x y v u Q I rx ry h
  obtain ⟨i, j, rfl, rfl, hz, q⟩ := h
  obtain ⟨t, rfl⟩ := rx
  obtain ⟨t', rfl⟩ := ry
  exact add_str (fun t' tk => ⟨.str (i ++ j), H, I.tok _, ⟨_, rfl⟩, q⟩) hz
theorem vals1 {x : V} {us : List Value} (r : Vals [x] us) : ∃ u, us = [u] ∧ RelV x u := by
  cases r with
  | cons r1 r2 => cases r2; exact ⟨_, rfl, r1⟩
def LenV (K : PySem.W.Frag) (x : V) (H : Hp) (n : Nat) : Prop :=
  match x with
  | .str y => y.length ≤ sizeLine ∧ n = y.length
  | .byt y => y.size ≤ sizeLine ∧ n = y.size
  | .ref p => (∃ xs, SqL K H p xs ∧ n = xs.length) ∨ ∃ xs, SqT K H p xs ∧ n = xs.length
  | _ => False
theorem call_len : CallR X (.builtin "len") (fun xs H Q => ∃ x n, xs = [x] ∧ LenV X.K x H n ∧ Q (.int n) H) := by
  intro pins s σ H xs us Q I r h
  obtain ⟨x, n, rfl, e, q⟩ := h
  obtain ⟨u, rfl, rx⟩ := vals1 r
  have hl := line63
  have hs : sizeLine = 16777216 := sizeLine_eq
  cases x with
  | str y =>
    obtain ⟨t, rfl⟩ := rx
    obtain ⟨hy, e'⟩ : y.length ≤ sizeLine ∧ n = y.length := e
    subst e'
    exact len_str (by omega) ⟨.int _, H, I.tok _, ⟨_, rfl⟩, q⟩
  | byt y =>
    obtain ⟨t, rfl⟩ := rx
    obtain ⟨hy, e'⟩ : y.size ≤ sizeLine ∧ n = y.size := e
    subst e'
    exact PySem.W.len_bytes (by omega) ⟨.int _, H, I.tok _, ⟨_, rfl⟩, q⟩
  | ref p =>
    cases rx
    have e' : (∃ xs, SqL X.K H p xs ∧ n = xs.length) ∨ ∃ xs, SqT X.K H p xs ∧ n = xs.length := e
    rcases e' with ⟨xs, hx, e'⟩ | ⟨xs, hx, e'⟩
    · subst e'
      obtain ⟨its, r', pl, hz⟩ := I.list hx
      have hlen := r'.length
      exact Calls.call_len_list pl.isList (by simp only [List.size_toArray]; omega) ⟨.int xs.length, H, I.tok _, ⟨_, by simp only [List.size_toArray]; rw [hlen]⟩, q⟩
    · subst e'
      obtain ⟨its, r', pl, hz⟩ := I.tuple hx
      have hlen := r'.length
      exact len_tuple pl (by simp only [List.size_toArray]; omega) ⟨.int xs.length, H, I.tok _, ⟨_, by simp only [List.size_toArray]; rw [hlen]⟩, q⟩
  | _ => exact (show False from e).elim
end
end L2
namespace L2
open PySem PySem.Spec PyProof.Rows
section
variable {prog : Program} {w : World} {A : Around} {E : Value → Shared → Prop} {s : Shared} {K : PySem.W.Frag} {x dx C f : Addr} {mA : Str → Option Value} {name : Str} {v : Value}
end
theorem RelO.some_of {v : V} {o : Option Value} (r : RelO (some v) o) : ∃ u, o = some u ∧ RelV v u := by
  cases o with
  | none => exact (show False from r).elim
  | some u => exact ⟨u, rfl, r⟩
section
variable {P : Program} {w : World} {H H' : Hp} {h h' : Heap} {a C dx : Addr} {fs fs' : List (Str × V)}
end
section
variable {X : Cx} {pins : List (Addr × Obj)} {σ : St} {H : Hp} {s : Shared} {a C dx : Addr} {fs : List (Str × V)} {f : Str} {v : V} {A : Around} {E : Value → Shared → Prop}
end
section
variable {X : Cx} {o e value : Expr} {f : Str} {pos pos' tpos : Pos} {ta tv : TE}
end
section
variable {X : Cx} {pins : List (Addr × Obj)} {σ : St} {H : Hp} {s : Shared} {A : Around} {E : Value → Shared → Prop} {Q : Value → Shared → Prop} {c : Value} {b : Bool}
end
end L2
namespace L2
open PySem PySem.Spec PyProof.Rows
structure Room (k : Nat) (A : Around) : Prop where
  hd : A.handled = none
  dp : A.depth + 3 * k + 5 < recursionLimit
  un : A.units + 16 * k + 200 < cLine
  gd : A.guards = some []
theorem Room.mono {j k : Nat} {A : Around} (r : Room k A) (h : j ≤ k) : Room j A := ⟨r.hd, by have := r.dp; omega, by have := r.un; omega, r.gd⟩
theorem Room.deeper {k : Nat} {A : Around} (r : Room (k + 1) A) (env : Env) : Room k (A.deeper env) :=
  ⟨r.hd, by have := r.dp; show A.depth + 1 + 3 * k + 5 < _; omega, by have := r.un; show A.units + 3 + 16 * k + 200 < _; omega, r.gd⟩
theorem Room.depth {k : Nat} {A : Around} (r : Room k A) : A.depth < recursionLimit := by have := r.dp; omega
theorem Room.units {k : Nat} {A : Around} (r : Room k A) : A.units + 64 < cLine := by have := r.un; omega
def tNil : TA := fun _ H Q => Q [] H
def tCons (ta : TE) (tr : TA) : TA := fun σ H Q => ta σ H fun x H1 => tr σ H1 fun xs H2 => Q (x :: xs) H2
section
variable {X : Cx} {e : Expr} {es : List Expr} {te : TE} {t : TA} {pos : Pos}
theorem pa_nil : PA X [] tNil := fun _ _ _ _ H Q I h => Calls.spliced_nil ⟨[], H, I, .nil, h⟩
theorem pa_cons (ha : PE X e te) (hr : PA X es t) (hs : starEach (e :: es) X.env = (false, eval e X.env) :: starEach es X.env := by rfl) : PA X (e :: es) (tCons te t) := by
  intro pos pins s σ H Q I h
  rw [hs]
  show wpAny _ _ (spliced ((false, eval e X.env) :: backTo pos (starEach es X.env))) _ _ s
  refine Calls.spliced_cons (thn (ha pins s σ H _ I h) ?_)
  rintro u s1 ⟨x, H1, I1, r1, q1⟩
  exact thn (hr pos pins s1 σ H1 _ I1 q1) fun us s2 ⟨xs, H2, I2, r2, q2⟩ => ⟨x :: xs, H2, I2, .cons r1 r2, q2⟩
def tTup (t : TA) : TE := fun σ H Q => t σ H fun xs H1 => xs.length ≤ sizeLine ∧ ∀ p, H1 p = none → Q (.ref p) (upd H1 p (.tup xs))
def tLst (t : TA) : TE := fun σ H Q => t σ H fun xs H1 => xs.length ≤ sizeLine ∧ ∀ p, H1 p = none → Q (.ref p) (upd H1 p (.lst xs))
theorem pe_tup {x1} (h : PA X es t) : PE X (.Tuple es x1 pos) (tTup t) := by
  intro pins s σ H Q I hq
  refine wpAny_Tuple_spliced (thn (h pos pins s σ H _ I hq) fun us s1 ⟨xs, H1, I1, r, z, q⟩ => ⟨by rw [← r.length]; exact z, ?_⟩)
  have hf : H1 s1.heap.objs.size = none := I1.hok.fresh (Nat.le_refl _)
  refine ⟨.ref s1.heap.objs.size, upd H1 s1.heap.objs.size (.tup xs), I1.laid (t' := s1.toks) (fun b u e => Heap.get?_push_of_some _ e) (Nat.le_refl _) ?_, rfl, q _ hf⟩
  exact ⟨⟨z, NoDct.new rfl rfl⟩, us, r, ⟨_, Heap.get?_push_size _ rfl, rfl, _, rfl⟩⟩
theorem pe_lst (h : PA X es t) : PE X (.List es pos) (tLst t) := by
  intro pins s σ H Q I hq
  refine wpAny_List_spliced (thn (h pos pins s σ H _ I hq) fun us s1 ⟨xs, H1, I1, r, z, q⟩ => ⟨by rw [← r.length]; exact z, ?_⟩)
  have hf : H1 s1.heap.objs.size = none := I1.hok.fresh (Nat.le_refl _)
  refine ⟨.ref s1.heap.objs.size, upd H1 s1.heap.objs.size (.lst xs), I1.laid (t' := s1.toks) (fun b u e => Heap.get?_push_of_some _ e) (Nat.le_refl _) ?_, rfl, q _ hf⟩
  exact ⟨z, us, 0, r, Heap.get?_push_size _ rfl⟩
end
abbrev Sp := List V → Hp → VK → XK → Prop
abbrev CXT := List Env → Hp → Shared → XK → Value → Shared → Prop
structure Env0 (P : Program) (w : World) (K : PySem.W.Frag) (mg : Str → Option Value) (base : Heap) (A : Around) (outer : List Env) (s : Shared) (H : Hp) : Prop where
  frames : A.frames = some outer
  mod : Mod K mg base
  bs : ∀ b o, base.get? b = some o → s.heap.get? b = some o ∧ H b = none
  bsz : base.objs.size ≤ s.heap.objs.size
  funs : s.heap.FunFrames base outer
  frf : ∀ b ∈ frs outer, H b = none
  hok : HOk P w H s.heap
  bare : AllBare s.gens
def CE (outer : List Env) (P : Program) (w : World) (H : Hp) (s : Shared) (Q : VK) (u : Value) (s' : Shared) : Prop :=
  ∃ v H', s'.os = s.os ∧ AllBare s'.gens ∧ Un (frs outer) [] H H' s.heap s'.heap ∧ HOk P w H' s'.heap ∧ RelV v u ∧ Q v H'
def CR (CX : CXT) (outer : List Env) (P : Program) (w : World) (H : Hp) (s : Shared) (Q : VK) (E : XK) (r : Result) (s' : Shared) : Prop :=
  match r with
  | .ok (.ret u) => CE outer P w H s Q u s'
  | .ok _ => False
  | .error e => CX outer H s E e s'
structure FnOk (P : Program) (w : World) (K : PySem.W.Frag) (mg : Str → Option Value) (base : Heap) (CX : CXT) (k : Nat) (f : Addr) (fd : FuncData) (ps : List Str) (sp : Sp) : Prop where
  len : ∀ vs H Q E, sp vs H Q E → vs.length = ps.length
  run : ∀ (A : Around) (outer : List Env) (s : Shared) (H : Hp) (args : Args) (us : List Value) (vs : List V) (Q : VK) (E : XK), Room k A → Env0 P w K mg base A outer s H → BindsTo s fd args (ps.zip us) → Vals vs us → sp vs H Q E →
    codeAny (model P w) A (.call (.ref f) args) (CR CX outer P w H s Q E) s
theorem FnOk.mono {P : Program} {w : World} {K : PySem.W.Frag} {mg : Str → Option Value} {base : Heap} {CX : CXT} {j k : Nat} {f : Addr} {fd : FuncData} {ps : List Str} {sp : Sp} (F : FnOk P w K mg base CX j f fd ps sp) (h : j ≤ k) :
    FnOk P w K mg base CX k f fd ps sp := ⟨F.len, fun A outer s H args us vs Q E hr => F.run A outer s H args us vs Q E (hr.mono h)⟩
theorem FnOk.imp {P : Program} {w : World} {K : PySem.W.Frag} {mg : Str → Option Value} {base : Heap} {CX : CXT} {k : Nat} {f : Addr} {fd : FuncData} {ps : List Str} {sp sp' : Sp} (F : FnOk P w K mg base CX k f fd ps sp)
    (h : ∀ vs H Q E, sp' vs H Q E → sp vs H Q E) : FnOk P w K mg base CX k f fd ps sp' :=
  ⟨fun vs H Q E q => F.len vs H Q E (h _ _ _ _ q), fun A outer s H args us vs Q E hr he hb hv hs => F.run A outer s H args us vs Q E hr he hb hv (h _ _ _ _ hs)⟩
section
variable {X : Cx} {pins : List (Addr × Obj)} {σ : St} {H : Hp} {s s' : Shared}
theorem Inv.env0 (I : Inv X pins σ H s) : Env0 X.prog X.w X.K X.mg X.base X.A X.stack s H :=
  ⟨I.ok.frames, I.ok.mod, I.bs, Nat.le_trans I.ok.bsz I.sz, I.stack, I.stkFree, I.hok, I.bare⟩
theorem Inv.after {Q : VK} {u : Value} (I : Inv X pins σ H s) (h : CE X.stack X.prog X.w H s Q u s') : EP X pins σ Q u s' := by
  obtain ⟨v, H', os, bare, un, hok, r, q⟩ := h
  obtain ⟨hh, g, d, t, os'⟩ := s'
  obtain rfl : os' = s.os := os
  exact ⟨v, H', I.call (h' := hh) (g' := g) (d' := d) (t' := t) (ch := []) un hok bare (fun b z => absurd z (by simp)), r, q⟩
end
def tCall (sp : Sp) (dvs : List V) (E : XK) (t : TA) : TE := fun σ H Q => t σ H fun vs H1 => sp (vs ++ dvs) H1 Q E
def Binds (K : PySem.W.Frag) (fd : FuncData) (ps : List Str) (ds : List Value) : Prop :=
  ∀ (s : Shared) (us : List Value), K.In s.heap → (us ++ ds).length = ps.length → BindsTo s fd ⟨us, []⟩ (ps.zip (us ++ ds))
theorem Binds.all {K : PySem.W.Frag} {fd : FuncData} {ps : List Str} (h : ∀ us : List Value, us.length = ps.length → bindArgs fd ⟨us, []⟩ = pure (ps.zip us)) : Binds K fd ps [] := fun s us _ hl => by
  rw [List.append_nil] at hl ⊢
  exact .of_eq (h us hl)
def Passes (CX : CXT) (X : Cx) (E : XK) : Prop := ∀ (pins : List (Addr × Obj)) (σ : St) (H : Hp) (s : Shared) (e : Value) (s' : Shared), Inv X pins σ H s → CX X.stack H s E e s' → X.xe e s'
section
variable {X : Cx} {CX : CXT} {k : Nat} {f C : Addr} {fd : FuncData} {ps : List Str} {sp : Sp} {dvs : List V} {ds : List Value} {E : XK} {x m : Str} {p pos apos : Pos} {e o : Expr} {es : List Expr} {ta : TE} {t : TA}
theorem run_fn {pins : List (Addr × Obj)} {σ : St} {H : Hp} {s : Shared} {Q : VK} {us : List Value} {vs : List V} (F : FnOk X.prog X.w X.K X.mg X.base CX k f fd ps sp) (hr : Room k X.A) (hb : Binds X.K fd ps ds) (hd : Vals dvs ds) (hx : Passes CX X E)
    (I : Inv X pins σ H s) (r : Vals vs us) (h : sp (vs ++ dvs) H Q E) : wpAny (model X.prog X.w) X.A (call (.ref f) us) (EP X pins σ Q) X.xe s := by
  have r2 : Vals (vs ++ dvs) (us ++ ds) := r.append hd
  have hl : (us ++ ds).length = ps.length := by rw [← r2.length]; exact F.len _ _ _ _ h
  refine wpAny_call (codeAny_mono (F.run X.A X.stack s H ⟨us, []⟩ (us ++ ds) (vs ++ dvs) Q E hr I.env0 (hb s us I.kIn hl) r2 h) fun r s' hq => ?_)
  cases r with
  | error e => exact hx pins σ H s e s' I hq
  | ok fl =>
    cases fl with
    | ret u => exact I.after hq
    | next => exact False.elim hq
    | brk => exact False.elim hq
    | cont => exact False.elim hq
theorem pe_call (F : FnOk X.prog X.w X.K X.mg X.base CX k f fd ps sp) (hr : Room k X.A) (hg : Gl X x) (hm : X.mg x = some (.ref f)) (hk : PySem.W.keepIn X.K (.ref f) = true) (hb : Binds X.K fd ps ds) (hd : Vals dvs ds) (hx : Passes CX X E)
    (ha : PA X (e :: es) t) (hdb : (x == ("__debug__" : Str)) = false := by decide) (he : starEach (e :: es) X.env = (false, eval e X.env) :: starEach es X.env := by rfl) (hpl : (backTo pos (starEach es X.env)).any (·.1) = false := by rfl) :
    PE X (.Call (.Name x p) (e :: es) [] pos) (tCall sp dvs E t) := by
  intro pins s σ H Q I h
  refine wpAny_Call_Name_kw (ld_glob I hg hm ?_ hdb)
  refine PySem.W.callWith_K (h₀ := X.base) I.ok.mod.kin hk (thn (ha pos pins s σ H _ I h) fun us s1 ⟨vs, H1, I1, r, q⟩ => ⟨I1.kIn, ?_⟩) he hpl
  exact run_fn F hr hb hd hx I1 r q
theorem pe_call0 (F : FnOk X.prog X.w X.K X.mg X.base CX k f fd ps sp) (hr : Room k X.A) (hg : Gl X x) (hm : X.mg x = some (.ref f)) (hk : PySem.W.keepIn X.K (.ref f) = true) (hb : Binds X.K fd ps ds) (hd : Vals dvs ds) (hx : Passes CX X E)
    (hdb : (x == ("__debug__" : Str)) = false := by decide) : PE X (.Call (.Name x p) [] [] pos) (tCall sp dvs E tNil) := by
  intro pins s σ H Q I h
  refine wpAny_Call_Name_kw (ld_glob I hg hm ?_ hdb)
  exact PySem.W.callWith_K0 I.kIn hk (run_fn (us := []) F hr hb hd hx I .nil h)
end
section
variable {X : Cx} {CX : CXT} {k : Nat} {f C : Addr} {fd : FuncData} {ps ks : List Str} {sp : Sp} {E : XK} {x m : Str} {p pos apos kpos : Pos} {e o : Expr} {es : List Expr} {kws : List Keyword} {te ta : TE} {t tk : TA} {nm : Option Str}
variable {g : List Value → List Value → List Value} {gV : List V → List V → List V}
end
structure FnScope (N P : List Str) (sc : Scope) : Prop where
  kind : sc.kind = .function
  co : sc.isCoroutine = false
  gen : sc.isGenerator = false
  nd : N.Nodup
  pre : N.take P.length = P
  par : ∀ x ∈ P, sc.names.lookup x = some .local ∨ sc.names.lookup x = some .cell
  nofree : ∀ y ∈ sc.names, y.2 ≠ .free
theorem bindL_out {kindOf : Str → Option NameKind} {x : Str} : ∀ {binds : List (Str × Value)} {m : Str → Option Value}, (∀ v, (x, v) ∉ binds) → bindL kindOf binds m x = m x
  | [], _, _ => rfl
  | (n, v) :: r, m, h => by
    unfold bindL
    rw [bindL_out fun w hw => h w (List.mem_cons_of_mem _ hw)]
    split
    · have : x ≠ n := by rintro rfl; exact h v List.mem_cons_self
      simp [this]
    · rfl
theorem bindC_out {kindOf : Str → Option NameKind} {x : Str} : ∀ {binds : List (Str × Value)} {m : Str → Option Value}, (∀ v, (x, v) ∉ binds) → bindC kindOf binds m x = m x
  | [], _, _ => rfl
  | (n, v) :: r, m, h => by
    unfold bindC
    rw [bindC_out fun w hw => h w (List.mem_cons_of_mem _ hw)]
    split
    · rfl
    · have : x ≠ n := by rintro rfl; exact h v List.mem_cons_self
      simp [this]
theorem bindL_get {kindOf : Str → Option NameKind} {x : Str} {v : Value} : ∀ {P : List Str} {vs : List Value} {i : Nat} {m : Str → Option Value}, P.Nodup → P[i]? = some x → vs[i]? = some v → kindOf x = some .local →
    bindL kindOf (P.zip vs) m x = some v
  | [], _, _, _, _, h, _, _ => by simp at h
  | _ :: _, [], _, _, _, _, h, _ => by simp at h
  | p :: P, w :: vs, 0, m, nd, h1, h2, hk => by
    simp at h1 h2; subst h1; subst h2
    show bindL kindOf ((p, w) :: P.zip vs) m p = _
    unfold bindL
    rw [bindL_out fun v hv => (List.nodup_cons.mp nd).1 (List.of_mem_zip hv).1, if_pos hk]
    simp
  | p :: P, w :: vs, i + 1, m, nd, h1, h2, hk => by
    show bindL kindOf ((p, w) :: P.zip vs) m x = _
    unfold bindL
    exact bindL_get (i := i) (List.nodup_cons.mp nd).2 (by simpa using h1) (by simpa using h2) hk
theorem bindC_get {kindOf : Str → Option NameKind} {x : Str} {v : Value} : ∀ {P : List Str} {vs : List Value} {i : Nat} {m : Str → Option Value}, P.Nodup → P[i]? = some x → vs[i]? = some v → kindOf x ≠ some .local →
    bindC kindOf (P.zip vs) m x = some v
  | [], _, _, _, _, h, _, _ => by simp at h
  | _ :: _, [], _, _, _, _, h, _ => by simp at h
  | p :: P, w :: vs, 0, m, nd, h1, h2, hk => by
    simp at h1 h2; subst h1; subst h2
    show bindC kindOf ((p, w) :: P.zip vs) m p = _
    unfold bindC
    rw [bindC_out fun v hv => (List.nodup_cons.mp nd).1 (List.of_mem_zip hv).1, if_neg hk]
    simp
  | p :: P, w :: vs, i + 1, m, nd, h1, h2, hk => by
    show bindC kindOf ((p, w) :: P.zip vs) m x = _
    unfold bindC
    exact bindC_get (i := i) (List.nodup_cons.mp nd).2 (by simpa using h1) (by simpa using h2) hk
def start (N : List Str) (vs : List V) : St := vs.map some ++ List.replicate (N.length - vs.length) none
def cxOf (CX : CXT) (P : Program) (w : World) (K : PySem.W.Frag) (mg : Str → Option Value) (base : Heap) (N : List Str) (qual : Str) (scope : Scope) (f : Addr) (cd : Value) (A : Around) (outer : List Env) (s : Shared) (H : Hp) (E : XK) : Cx where
  prog := P
  w := w
  K := K
  mg := mg
  base := base
  A := A.deeper (envOfC qual scope s.heap.objs.size f cd)
  N := N
  s₀ := s
  H₀ := H
  env := envOfC qual scope s.heap.objs.size f cd
  outer := outer
  stack := envOfC qual scope s.heap.objs.size f cd :: outer
  ex := []
  calm := true
  fn := fun _ => true
  pn := []
  xe := fun e s' => wpAny (model P w) (A.deeper (envOfC qual scope s.heap.objs.size f cd)) (leaving (envOfC qual scope s.heap.objs.size f cd) e) (fun _ s'' => CX outer H s E e s'') (fun e' s'' => CX outer H s E e' s'') s'
theorem cell_has {sc : Scope} {n : Nat} {x : Str} (h : sc.names.lookup x = some .cell) : ∃ c, (cellsFrom n sc.names []).lookup x = some c := by
  have q := PySem.W.cellsFrom_some sc.names n [] (.inl h)
  exact Option.isSome_iff_exists.mp q
theorem inv_start {CX : CXT} {P : Program} {w : World} {K : PySem.W.Frag} {mg : Str → Option Value} {base : Heap} {N ps : List Str} {qual : Str} {scope : Scope} {f : Addr} {cd : Value} {A : Around} {outer : List Env} {s s1 : Shared} {H : Hp} {E : XK} {us : List Value} {vs : List V}
    (S : FnScope N ps scope) (hd : A.handled = none) (e0 : Env0 P w K mg base A outer s H) (hl : vs.length = ps.length) (r : Vals vs us)
    (x : InCallC s s.heap.objs.size (bindL (envOfC qual scope s.heap.objs.size f cd).kindOf (ps.zip us) fun _ => none) (cellsFrom (s.heap.objs.size + 1) scope.names []) (bindC (envOfC qual scope s.heap.objs.size f cd).kindOf (ps.zip us) fun _ => none) s1) :
    Inv (cxOf CX P w K mg base N qual scope f cd A outer s H E) [] (start N vs) H s1 := by
  have hpl : ps.length ≤ N.length := by have := congrArg List.length S.pre; rw [List.length_take] at this; omega
  obtain ⟨h1, tk, rfl, hk⟩ := x.done
  have noA : ∀ b : Addr, b ∉ (cxOf CX P w K mg base N qual scope f cd A outer s H E).ex := fun b z => absurd (show b ∈ ([] : List Addr) from z) (by simp)
  refine ⟨⟨e0.mod, S.kind, rfl, rfl, Nat.le_refl _, fun y z c h1 h2 => ?_, fun y hy => ?_, fun y c _ h => ?_, fun _ => hd, Around.frames_deeper e0.frames, .inr ⟨rfl, rfl⟩, fun b z => absurd z (noA b), e0.bs, e0.bsz, fun b _ _ => noA b, fun b z => absurd z (noA b), e0.funs, e0.frf⟩,
    rfl, e0.bare, Un.kept hk, ⟨_, x.toInCall.ns, fun i y v h1 h2 h3 => ?_⟩, fun y c h => ⟨_, x.cell y c h⟩, e0.hok.fresh (Nat.le_refl _), fun y c h => ?_, fun p hp => absurd (show p ∈ ([] : List (Addr × Obj)) from hp) (by simp), e0.hok.kept hk, ?_⟩
  · exact name_of_addr x.apart (PySem.mem_of_lookup h1) (PySem.mem_of_lookup h2)
  · have hy : scope.names.lookup y = some .cell ∨ scope.names.lookup y = some .free := hy
    rcases hy with hy | hy
    · exact cell_has hy
    · exact absurd rfl (S.nofree _ (PySem.mem_of_lookup hy))
  · exact Nat.le_of_lt (x.above y c (PySem.mem_of_lookup h))
  · have hi : i < vs.length := by
      unfold start at h2
      by_cases hi : i < vs.length
      · exact hi
      · rw [List.getElem?_append_right (by simpa using hi)] at h2
        rw [List.getElem?_replicate] at h2
        split at h2 <;> cases h2
    have ha : vs[i]? = some v := by
      unfold start at h2
      rw [List.getElem?_append_left (by simpa using hi), List.getElem?_map] at h2
      cases e : vs[i]? with
      | none => rw [e] at h2; cases h2
      | some a => rw [e] at h2; cases h2; rfl
    obtain ⟨u, hu, rv⟩ := r.get ha
    have hp : ps[i]? = some y := by
      rw [← S.pre, List.getElem?_take_of_lt (by omega)]; exact h1
    have ndP : ps.Nodup := by rw [← S.pre]; exact S.nd.sublist (List.take_sublist _ _)
    refine ⟨u, rv, ?_⟩
    rcases S.par y (List.mem_of_getElem? hp) with k | k
    · exact .inl ⟨k, bindL_get ndP hp hu k⟩
    · obtain ⟨c, e⟩ := cell_has (n := s.heap.objs.size + 1) k
      refine .inr ⟨.inl k, c, e, ?_⟩
      have q := x.cell y c e
      rw [bindC_get ndP hp hu (by show scope.names.lookup y ≠ _; rw [k]; decide)] at q
      exact q
  · exact e0.hok.fresh (Nat.le_of_lt (x.above y c (PySem.mem_of_lookup h)))
  · unfold start
    show _ = N.length
    rw [List.length_append, List.length_map, List.length_replicate]
    omega
theorem fn_of {CX : CXT} {P : Program} {w : World} {K : PySem.W.Frag} {mg : Str → Option Value} {base : Heap} {k : Nat} {f : Addr} {name qual : Str} {params : Arguments} {body : List Stmt} {scope : Scope} {dV kV doc pm cdv ct oc : Value} {an od : Option Addr}
    {osl : Array (Option Value)} {N ps : List Str} {sp : Sp} (lk : K.lookup f = some ⟨oc, od, .func (PySem.W.fnOf name qual params body scope dV kV doc pm an cdv ct), osl⟩) (hcd : PySem.W.codeIn K cdv qual = true) (S : FnScope N ps scope)
    (len : ∀ vs H Q E, sp vs H Q E → vs.length = ps.length)
    (hbody : ∀ (A : Around) (outer : List Env) (s : Shared) (H : Hp) (vs : List V) (Q : VK) (E : XK), Room k (A.deeper (envOfC qual scope s.heap.objs.size f cdv)) → sp vs H Q E →
      ∃ t, PSs (cxOf CX P w K mg base N qual scope f cdv A outer s H E) body t ∧ t { nx := fun _ H' => Q .non H', rt := Q } (start N vs) H) :
    FnOk P w K mg base CX (k + 1) f (PySem.W.fnOf name qual params body scope dV kV doc pm an cdv ct) ps sp := by
  refine ⟨len, fun A outer s H args us vs Q E hr e0 hb r hsp => ?_⟩
  have hl := len _ _ _ _ hsp
  have KX : K.In s.heap := e0.mod.kin.keeps fun b o e => (e0.bs b o e).1
  have lim : s.heap.NoLimit := e0.mod.nolimit.keeps fun b o e => (e0.bs b o e).1
  have hkind : ∀ y ∈ ps.zip us, scope.names.lookup y.1 = some .local ∨ (scope.names.lookup y.1 = some .cell ∧ ((cellsFrom (s.heap.objs.size + 1) scope.names []).lookup y.1).isSome = true) := fun ⟨n, v⟩ hy => by
    rcases S.par n (List.of_mem_zip hy).1 with q | q
    · exact .inl q
    · exact .inr ⟨q, PySem.W.cellsFrom_some _ _ _ (.inl q)⟩
  refine codeAny_call_function hr.depth (KX _ _ lk) rfl S.co S.gen rfl (PySem.W.codeRec_of KX hcd) (hb _ _ _ _ ?_)
  refine wpAny_newFunctionEnv_cells S.kind hkind fun env he s1 x => ?_
  subst he
  refine ⟨lim.keeps x.toInCall.keep, codeAny_func ?_⟩
  obtain ⟨t, ht, hq⟩ := hbody A outer s H vs Q E (hr.deeper _) hsp
  have I : Inv (cxOf CX P w K mg base N qual scope f cdv A outer s H E) [] (start N vs) H s1 := inv_start S hr.hd e0 hl r x
  refine wpAny_mono (ht [] s1 (start N vs) H _ I hq) (fun fl s' hs => ?_) fun e s' hs => hs
  have fin : ∀ {σ' : St} {H' : Hp} {v : V} {u : Value}, Inv (cxOf CX P w K mg base N qual scope f cdv A outer s H E) [] σ' H' s' → RelV v u → Q v H' → CE outer P w H s Q u s' :=
    fun {σ' H' v u} J rv q => ⟨v, H', J.os, J.bare, J.base, J.hok, rv, q⟩
  cases fl with
  | ret u =>
    obtain ⟨v, σ', H', J, rv, q⟩ := hs
    exact fin J rv q
  | next =>
    obtain ⟨σ', H', J, q⟩ := hs
    exact fin (v := V.non) (u := Value.none) J rfl q
  | brk =>
    obtain ⟨_, _, _, q⟩ := hs
    exact False.elim q
  | cont =>
    obtain ⟨_, _, _, q⟩ := hs
    exact False.elim q
end L2
namespace L2
open PySem PySem.Spec PyProof.Rows
section
variable {X : Cx} {x : Str} {p pos : Pos} {e : Expr} {es : List Expr} {t : TA} {id T : String} {r : List V → Hp → VK → Prop}
def tCB (r : List V → Hp → VK → Prop) (t : TA) : TE := fun σ H Q => t σ H fun vs H1 => r vs H1 Q
theorem pe_callB (hc : CallR X (.builtin id) r) (hg : Gl X x) (hm : X.mg x = none) (hv : bootBuiltins x = some (.builtin id)) (ha : PA X (e :: es) t) (hn : x ≠ "__name__" := by decide) (hdb : (x == ("__debug__" : Str)) = false := by decide)
    (he : starEach (e :: es) X.env = (false, eval e X.env) :: starEach es X.env := by rfl) (hpl : (backTo pos (starEach es X.env)).any (·.1) = false := by rfl) : PE X (.Call (.Name x p) (e :: es) [] pos) (tCB r t) := by
  intro pins s σ H Q I h
  refine wpAny_Call_Name_kw (ld_blt I hg hm hv ?_ hn hdb)
  exact PyProof.Rows.callWith_builtin1 (thn (ha pos pins s σ H _ I h) fun us s1 ⟨vs, H1, I1, r1, q1⟩ => hc pins s1 σ H1 vs us Q I1 r1 q1) he hpl
theorem pe_callTy (hc : CallR X (.type T) r) (hg : Gl X x) (hm : X.mg x = none) (hv : bootBuiltins x = some (.type T)) (ha : PA X (e :: es) t) (hn : x ≠ "__name__" := by decide) (hdb : (x == ("__debug__" : Str)) = false := by decide)
    (he : starEach (e :: es) X.env = (false, eval e X.env) :: starEach es X.env := by rfl) (hpl : (backTo pos (starEach es X.env)).any (·.1) = false := by rfl) : PE X (.Call (.Name x p) (e :: es) [] pos) (tCB r t) := by
  intro pins s σ H Q I h
  refine wpAny_Call_Name_kw (ld_blt I hg hm hv ?_ hn hdb)
  exact PyProof.Rows.callWith_type1 (thn (ha pos pins s σ H _ I h) fun us s1 ⟨vs, H1, I1, r1, q1⟩ => hc pins s1 σ H1 vs us Q I1 r1 q1) he hpl
end
end L2
namespace HT
open PySem PyProof.Rows
section
open PySem.SeqAt
open PySem.AutoSeq1 (wpAny_loadPart')
open PySem.MeetsSeq PySem.MeetsSeq2 PySem.MeetsSeq3
end
section
variable {prog : Program} {w : World} {A : Around} {E : Value → Shared → Prop} {s : Shared}
theorem cat_tup {t b : Addr} {vs ws : List Value} {Q : Value → Shared → Prop} (ht : IsTup s.heap t vs.toArray) (hb : IsTup s.heap b ws.toArray) (hv : vs ≠ [])
    (h1 : ws = [] → Q (.ref t) s) (h2 : ws ≠ [] → Q (.ref s.heap.objs.size) { s with heap := s.heap.push { cls := .type "tuple", data := .seq (vs ++ ws).toArray } })
    (hsz : vs.length + ws.length ≤ sizeLine) : wpAny (model prog w) A (binaryOp .Add (.ref t) (.ref b)) Q E s := by
  obtain ⟨⟨cls, dd, data, sl⟩, ho, hc, n, hd⟩ := id ht
  obtain ⟨⟨cls2, dd2, data2, sl2⟩, ho2, hc2, n2, hd2⟩ := id hb
  simp only at hc hd hc2 hd2
  subst hc hd hc2 hd2
  have e : vs.toArray ++ ws.toArray = (vs ++ ws).toArray := by simp
  by_cases hw : ws = []
  · exact concat_meets ⟨_, ho, rfl⟩ ⟨_, ho2, rfl⟩ noFill_tuple_add seq_tuple_add PySem.F.slot_tuple_add PySem.F.entry_tuple_add (PySem.F.args_tuple_add_2 _ _)
      (tuple_addW1 t b vs.toArray ws.toArray n n2 dd dd2 sl sl2 (by simpa using hv) (by simp [hw])) ⟨ho, ho2, h1 hw⟩
  · refine concat_meets ⟨_, ho, rfl⟩ ⟨_, ho2, rfl⟩ noFill_tuple_add seq_tuple_add PySem.F.slot_tuple_add PySem.F.entry_tuple_add (PySem.F.args_tuple_add_2 _ _)
      (tuple_addW2 t b vs.toArray ws.toArray n n2 dd dd2 sl sl2 (by simpa using hv) (by simpa using hw) (by rw [List.size_toArray, List.size_toArray]; exact hsz)) ⟨ho, ho2, ?_⟩
    rw [e]
    exact h2 hw
def sIx (n d : Nat) : Option Int → Nat
  | none => d
  | some v => if v < 0 then (v + (n : Int)).toNat else min v.toNat n
theorem sIx_none (n d : Nat) : sIx n d none = d := rfl
theorem sIx_nat (n d k : Nat) : sIx n d (some (k : Int)) = min k n := by
  show (if (k : Int) < 0 then ((k : Int) + (n : Int)).toNat else min (k : Int).toNat n) = min k n
  rw [if_neg (by omega), Int.toNat_natCast]
theorem sIx_le (n d : Nat) (hd : d ≤ n) (o : Option Int) : sIx n d o ≤ n := by
  cases o with
  | none => exact hd
  | some v =>
    show (if v < 0 then (v + (n : Int)).toNat else min v.toNat n) ≤ n
    by_cases hv : v < 0
    · rw [if_pos hv]; omega
    · rw [if_neg hv]; exact Nat.min_le_right _ _
theorem clip_eq (v : Int) (n d : Nat) : (if v < 0 then max (v + (n : Int)) 0 else min v (n : Int)) = ((sIx n d (some v) : Nat) : Int) := by
  show (if v < 0 then max (v + (n : Int)) 0 else min v (n : Int)) = (((if v < 0 then (v + (n : Int)).toNat else min v.toNat n) : Nat) : Int)
  by_cases hv : v < 0
  · simp only [if_pos hv]; omega
  · simp only [if_neg hv]; omega
theorem adjust_gen (lo hi : Option Int) (n : Nat) : Builtin.Slice.sliceAdjust lo hi 1 (n : Int) = (((sIx n 0 lo : Nat) : Int), ((sIx n n hi : Nat) : Int)) := by
  have h1 : ¬ ((1 : Int) < 0) := by omega
  unfold Builtin.Slice.sliceAdjust
  simp only [h1, if_false]
  refine Prod.ext ?_ ?_
  · cases lo with
    | none => rfl
    | some v => exact clip_eq v n 0
  · cases hi with
    | none => rfl
    | some v => exact clip_eq v n n
theorem places_gen (i j : Nat) : Builtin.Slice.slicePlaces (i : Int) (j : Int) 1 = j - i := by
  unfold Builtin.Slice.slicePlaces
  have h1 : (1 : Int) > 0 := by omega
  simp only [h1, if_true, Int.ediv_one]
  split <;> omega
theorem slicePart_ {v : Value} {o : Option Int} {Q : Option Int → Shared → Prop} (p : IsPart v o) (h : Q o s) : wpAny (model prog w) A (Builtin.Slice.slicePartIndex v) Q E s := by
  cases p with
  | none => exact slicePart_none h
  | int i t => exact slicePart_int h
theorem sliceApplied_gen {sl : Addr} {vl vu : Value} {lo hi : Option Int} {n : Nat} {Q : Int × Int × Nat → Shared → Prop} (hs : s.heap.IsSliceOf sl vl vu .none) (pl : IsPart vl lo) (pu : IsPart vu hi)
    (h : Q (((sIx n 0 lo : Nat) : Int), 1, sIx n n hi - sIx n 0 lo) s) : wpAny (model prog w) A (Builtin.Slice.sliceApplied (.ref sl) (pure (n : Int))) Q E s := by
  obtain ⟨os, hos, hcs, hds⟩ := id hs
  unfold Builtin.Slice.sliceApplied Builtin.Slice.sliceFields
  refine wpAny_bind (wpAny_bind (wpAny_field hos hds (x := vl) rfl (wpAny_bind (wpAny_field hos hds (x := vu) rfl (wpAny_bind (wpAny_field hos hds (x := .none) rfl (wpAny_pure ?_)))))))
  refine wpAny_bind (slicePart_none ?_)
  show wpAny _ _ (if ((1 : Int) == 0) = true then _ else _) _ _ s
  rw [if_neg (by decide)]
  refine wpAny_bind (slicePart_ pl (wpAny_bind (slicePart_ pu (wpAny_bind (wpAny_pure ?_)))))
  show wpAny _ _ (match Builtin.Slice.sliceAdjust lo hi 1 (n : Int) with | (lo, hi) => pure (lo, (1 : Int), Builtin.Slice.slicePlaces lo hi 1)) _ _ s
  rw [adjust_gen lo hi n]
  show wpAny _ _ (pure (((sIx n 0 lo : Nat) : Int), (1 : Int), Builtin.Slice.slicePlaces ((sIx n 0 lo : Nat) : Int) ((sIx n n hi : Nat) : Int) 1)) _ _ s
  rw [places_gen]
  exact wpAny_pure h
theorem pick_gen (xs : Array Value) (i k : Nat) : ((List.range k).filterMap fun (m : Nat) => xs[((i : Int) + (m : Int) * 1).toNat]?).toArray = ((xs.toList.drop i).take k).toArray := by
  have e : (fun (m : Nat) => xs[((i : Int) + (m : Int) * 1).toNat]?) = fun m => xs[i + m]? := by
    funext m
    have : ((i : Int) + (m : Int) * 1).toNat = i + m := by omega
    rw [this]
  rw [e]
  have := pick_run xs i k
  rw [List.filterMap_map] at this
  have e2 : ((fun x => xs[x]?) ∘ fun x => i + x) = fun m => xs[i + m]? := rfl
  rw [e2] at this
  rw [this]
theorem getItem_tuple_cut {t sl : Addr} {items : Array Value} {vl vu : Value} {lo hi : Option Int} {Q : Value → Shared → Prop} (ht : IsTup s.heap t items) (hs : s.heap.IsSliceOf sl vl vu .none) (pl : IsPart vl lo) (pu : IsPart vu hi)
    (hw : ¬ (sIx items.size 0 lo = 0 ∧ sIx items.size items.size hi = items.size))
    (h : Q (.ref s.heap.objs.size) { s with heap := s.heap.push { cls := .type "tuple", data := .seq ((items.toList.drop (sIx items.size 0 lo)).take (sIx items.size items.size hi - sIx items.size 0 lo)).toArray } })
    (hsz : items.size ≤ sizeLine) : wpAny (model prog w) A (getItem (.ref t) (.ref sl)) Q E s := by
  have htake : sizeOk (.seq ((items.toList.drop (sIx items.size 0 lo)).take (sIx items.size items.size hi - sIx items.size 0 lo)).toArray) := by
    show ((items.toList.drop (sIx items.size 0 lo)).take (sIx items.size items.size hi - sIx items.size 0 lo)).toArray.size ≤ sizeLine
    rw [List.size_toArray, List.length_take, List.length_drop, Array.length_toList]
    omega
  have hj : sIx items.size items.size hi ≤ items.size := sIx_le _ _ (Nat.le_refl _) hi
  obtain ⟨os, hos, hcs, hds⟩ := id hs
  have hTs : s.TypeIs (.ref sl) "slice" := ⟨os, hos, hcs⟩
  unfold getItem
  try with_reducible refine wpAny_holding ?_
  first | refine wpAny_bind (wpAny_pure ?_) | skip
  refine wpAny_bind (wpAny_sequenceKey ht.typeIs (by decide) ?_)
  refine wpAny_bind (wpAny_callSpecial?_slot (name := Str.ofString "__getitem__") ht.typeIs PyProof.Rows.slot_tuple_getitem
    (wpAny_call_entry PyProof.Rows.slot_tuple_getitem ht.typeIs entry_tuple_getitem ?_ (args_tuple_getitem _ _)))
  show wpAny _ _ (Builtin.Tuple.tupleItemsOf (.ref t) >>= _) _ _ s
  refine wpAny_bind (tupleItemsOf_ ht ?_)
  refine wpAny_bind (wpAny_typeOf hTs ?_)
  rw [if_pos (by decide)]
  refine wpAny_bind (sliceApplied_gen hs pl pu ?_)
  have hno : ¬ ((((sIx items.size 0 lo : Nat) : Int) == 0 && (1 : Int) == 1 && (sIx items.size items.size hi - sIx items.size 0 lo) == items.size) = true) := by
    intro q
    rw [Bool.and_eq_true, Bool.and_eq_true] at q
    have q1 : ((sIx items.size 0 lo : Nat) : Int) = 0 := eq_of_beq q.1.1
    have q2 : sIx items.size items.size hi - sIx items.size 0 lo = items.size := eq_of_beq q.2
    exact hw ⟨by omega, by omega⟩
  show wpAny _ _ (if (((sIx items.size 0 lo : Nat) : Int) == 0 && (1 : Int) == 1 && (sIx items.size items.size hi - sIx items.size 0 lo) == items.size) = true then _ else _) _ _ s
  rw [if_neg hno, pick_gen]
  first
    | exact wpAny_bind (m := Builtin.Tuple.tupleExact _) (wpAny_newObj_type (wpAny_pure ⟨_, rfl, wpAny_pure h⟩) htake)
    | exact wpAny_bind (m := Builtin.Tuple.tupleExact _) (wpAny_newObj_type (wpAny_bind (wpAny_pure (wpAny_pure ⟨_, rfl, wpAny_pure h⟩))) htake)
    | exact wpAny_bind (wpAny_bind (m := Builtin.Tuple.tupleExact _) (wpAny_newObj_type (wpAny_pure (wpAny_pure ⟨_, rfl, wpAny_pure h⟩)) htake))
    | exact wpAny_bind (wpAny_bind (m := Builtin.Tuple.tupleExact _) (wpAny_newObj_type (wpAny_pure ⟨_, rfl, wpAny_pure h⟩) htake))
end
end HT
namespace L2
open PySem PySem.Spec PyProof.Rows
abbrev TO := St → Hp → (Option Int → Hp → Prop) → Prop
def PO (X : Cx) (e : Option Expr) (t : TO) : Prop :=
  ∀ (pins : List (Addr × Obj)) (s : Shared) (σ : St) (H : Hp) (Q : Option Int → Hp → Prop), Inv X pins σ H s → t σ H Q →
    wpAny (model X.prog X.w) X.A (evalPart e X.env) (fun u s' => ∃ o H', Inv X pins σ H' s' ∧ IsPart u o ∧ Q o H') X.xe s
def tNoPart : TO := fun _ H Q => Q none H
def tPart (t : TE) : TO := fun σ H Q => t σ H fun x H1 => ∃ i, x = .int i ∧ Q (some i) H1
section
variable {X : Cx} {e : Expr} {te : TE} {lo hi : Option Expr} {tl th : TO} {pos p2 : Pos}
theorem po_none : PO X none tNoPart := by
  intro pins s σ H Q I h
  rw [evalPart_none]
  exact wpAny_pure ⟨none, H, I, .none, h⟩
theorem po_some (h : PE X e te) : PO X (some e) (tPart te) := by
  intro pins s σ H Q I hw
  rw [evalPart_some]
  refine thn (h pins s σ H _ I hw) ?_
  rintro u s1 ⟨x, H1, I1, r1, q1⟩
  obtain ⟨i, rfl, q⟩ := q1
  obtain ⟨t, rfl⟩ := r1
  exact ⟨some i, H1, I1, .int i t, q⟩
def SlR (X : Cx) (r : V → Option Int → Option Int → Hp → VK → Prop) : Prop :=
  ∀ (pins : List (Addr × Obj)) (s : Shared) (σ : St) (H : Hp) (x : V) (v vl vu : Value) (lo hi : Option Int) (sl : Addr) (Q : VK), Inv X pins σ H s → RelV x v → s.heap.IsSliceOf sl vl vu .none → IsPart vl lo → IsPart vu hi → r x lo hi H Q →
    ∃ T id, typeLookup (.type T) "__getitem__" = pure (some (.builtin id)) ∧ s.TypeIs v T ∧ wpAny (model X.prog X.w) X.A (getItem v (.ref sl)) (EP X pins σ Q) X.xe s
theorem SlR.or {r r' : V → Option Int → Option Int → Hp → VK → Prop} (h : SlR X r) (h' : SlR X r') : SlR X (fun x lo hi H Q => r x lo hi H Q ∨ r' x lo hi H Q) := by
  intro pins s σ H x v vl vu lo hi sl Q I rx hs pl pu q
  rcases q with q | q
  · exact h pins s σ H x v vl vu lo hi sl Q I rx hs pl pu q
  · exact h' pins s σ H x v vl vu lo hi sl Q I rx hs pl pu q
def tSl (r : V → Option Int → Option Int → Hp → VK → Prop) (te : TE) (tl th : TO) : TE := fun σ H Q => te σ H fun x H1 => tl σ H1 fun l H2 => th σ H2 fun u H3 => r x l u H3 Q
theorem pe_slice {r : V → Option Int → Option Int → Hp → VK → Prop} (hr : SlR X r) (he : PE X e te) (hl : PO X lo tl) (hu : PO X hi th) : PE X (.Subscript e (.Slice lo hi none p2) pos) (tSl r te tl th) := by
  intro pins s σ H Q I h
  refine Subscript_ (thn (he pins s σ H _ I h) ?_)
  rintro v s1 ⟨x, H1, I1, r1, q1⟩
  refine wpAny_Slice (thn (hl pins s1 σ H1 _ I1 q1) fun vl s2 ⟨l, H2, I2, pl, q2⟩ => thn (hu pins s2 σ H2 _ I2 q2) fun vu s3 ⟨u, H3, I3, pu, q3⟩ => ?_)
  rw [evalPart_none]
  refine wpAny_pure ?_
  have I4 : Inv X pins σ H3 { s3 with heap := s3.heap.push { cls := .type "slice", data := .fields #[vl, vu, .none] } } := I3.kept (t' := s3.toks) fun b ob q => Heap.get?_push_of_some _ q
  obtain ⟨T, id, hT, ht, hg⟩ := hr pins { s3 with heap := s3.heap.push { cls := .type "slice", data := .fields #[vl, vu, .none] } } σ H3 x v vl vu l u s3.heap.objs.size Q I4 r1 (Heap.IsSliceOf.new ..) pl pu q3
  show wpAny (model X.prog X.w) X.A (subscriptTail e (.Slice lo hi none p2) v (.ref s3.heap.objs.size)) (EP X pins σ Q) X.xe { s3 with heap := s3.heap.push { cls := .type "slice", data := .fields #[vl, vu, .none] } }
  exact tail_any (ops := [.ref s3.heap.objs.size, v]) ht hT hg (by with_unfolding_all rfl)
def cutV (xs : List V) (lo hi : Option Int) : List V := (xs.drop (HT.sIx xs.length 0 lo)).take (HT.sIx xs.length xs.length hi - HT.sIx xs.length 0 lo)
theorem cutV_length (xs : List V) (lo hi : Option Int) : (cutV xs lo hi).length ≤ xs.length := by
  unfold cutV
  rw [List.length_take, List.length_drop]
  omega
def rSlT (K : PySem.W.Frag) : V → Option Int → Option Int → Hp → VK → Prop := fun x lo hi H Q => ∃ a xs, x = .ref a ∧ SqT K H a xs ∧
  ¬ (HT.sIx xs.length 0 lo = 0 ∧ HT.sIx xs.length xs.length hi = xs.length) ∧ ∀ p, H p = none → Q (.ref p) (upd H p (.tup (cutV xs lo hi)))
theorem sl_tup : SlR X (rSlT X.K) := by
  intro pins s σ H x v vl vu lo hi sl Q I rx hs pl pu h
  obtain ⟨a, xs, rfl, hx, hw, q⟩ := h
  cases rx
  obtain ⟨its, r, ht, hz⟩ := I.tuple hx
  have hlen : its.toArray.size = xs.length := by rw [List.size_toArray]; exact r.length.symm
  refine ⟨"tuple", _, PyProof.Rows.slot_tuple_getitem.lookup, ht.typeIs, ?_⟩
  refine HT.getItem_tuple_cut ht hs pl pu (by rw [hlen]; exact hw) ?_ (by rw [hlen]; exact hz)
  rw [hlen]
  refine ⟨.ref s.heap.objs.size, _, I.laid (t' := s.toks) (o := .tup (cutV xs lo hi)) (fun b ob q => Heap.get?_push_of_some _ q) (Nat.le_refl _) ?_, rfl, q _ (I.hok.fresh (Nat.le_refl _))⟩
  exact ⟨⟨Nat.le_trans (cutV_length xs lo hi) hz, NoDct.new rfl rfl⟩, _, (r.drop (HT.sIx xs.length 0 lo)).take (HT.sIx xs.length xs.length hi - HT.sIx xs.length 0 lo), IsTup.new _ _⟩
def rCatT (K : PySem.W.Frag) : R2 := fun x y H Q => ∃ a b xs ys, x = .ref a ∧ y = .ref b ∧ SqT K H a xs ∧ SqT K H b ys ∧ xs ≠ [] ∧ xs.length + ys.length ≤ sizeLine ∧
  (ys = [] → Q (.ref a) H) ∧ (ys ≠ [] → ∀ p, H p = none → Q (.ref p) (upd H p (.tup (xs ++ ys))))
theorem Vals.nil_iff {xs : List V} {us : List Value} (r : Vals xs us) : us = [] ↔ xs = [] := by
  cases r with
  | nil => simp
  | cons _ _ => simp
theorem op_catT : OpR X (binaryOp .Add) (rCatT X.K) := by
  intro pins s σ H x y v u Q I rx ry h
  obtain ⟨a, b, xs, ys, rfl, rfl, ha, hb, hx, hz, q1, q2⟩ := h
  cases rx
  cases ry
  obtain ⟨its, r1, p1, _⟩ := I.tuple ha
  obtain ⟨its2, r2, p2, _⟩ := I.tuple hb
  refine HT.cat_tup p1 p2 (fun z => hx (r1.nil_iff.mp z)) (fun z => ⟨.ref a, H, I, rfl, q1 (r2.nil_iff.mp z)⟩) (fun z => ?_) (by rw [← r1.length, ← r2.length]; exact hz)
  refine ⟨.ref s.heap.objs.size, _, I.laid (t' := s.toks) (o := .tup (xs ++ ys)) (fun b ob q => Heap.get?_push_of_some _ q) (Nat.le_refl _) ?_, rfl, q2 (fun w => z (r2.nil_iff.mpr w)) _ (I.hok.fresh (Nat.le_refl _))⟩
  exact ⟨⟨by rw [List.length_append]; exact hz, NoDct.new rfl rfl⟩, _, r1.append r2, IsTup.new _ _⟩
end
end L2
namespace L2
open PySem PySem.Spec PyProof.Rows
def ixN (n : Nat) (i : Int) : Option Nat := if 0 ≤ i then (if i < n then some i.toNat else none) else if -(n : Int) ≤ i then some (i + n).toNat else none
def atI {α : Type} (xs : List α) (i : Int) : Option α := (ixN xs.length i).bind fun j => xs[j]?
theorem ixN_seq {n : Nat} {i : Int} {j : Nat} (h : ixN n i = some j) : seqIndex? i n = some j ∧ j < n ∧ -(n : Int) ≤ i ∧ i < n := by
  unfold ixN at h
  by_cases h0 : 0 ≤ i
  · rw [if_pos h0] at h
    by_cases h1 : i < n
    · rw [if_pos h1] at h
      have e : i.toNat = j := Option.some.inj h
      exact ⟨by rw [seqIndex_of h0 h1, e], by omega, by omega, h1⟩
    · rw [if_neg h1] at h; cases h
  · rw [if_neg h0] at h
    by_cases h1 : -(n : Int) ≤ i
    · rw [if_pos h1] at h
      have e : (i + n).toNat = j := Option.some.inj h
      exact ⟨by rw [seqIndex_neg (by omega) h1, e], by omega, h1, by omega⟩
    · rw [if_neg h1] at h; cases h
theorem atI_get {α : Type} {xs : List α} {i : Int} {v : α} (h : atI xs i = some v) : ∃ j, seqIndex? i xs.length = some j ∧ xs[j]? = some v ∧ j < xs.length ∧ -(xs.length : Int) ≤ i ∧ i < xs.length := by
  unfold atI at h
  cases e : ixN xs.length i with
  | none => rw [e] at h; cases h
  | some j =>
    rw [e] at h
    obtain ⟨h1, h2, h3, h4⟩ := ixN_seq e
    exact ⟨j, h1, h, h2, h3, h4⟩
theorem atI_nat {α : Type} {xs : List α} {j : Nat} {v : α} (h : xs[j]? = some v) : atI xs (j : Int) = some v := by
  have hj : j < xs.length := (List.getElem?_eq_some_iff.mp h).1
  have e : ixN xs.length (j : Int) = some j := by
    unfold ixN
    rw [if_pos (by omega), if_pos (by omega)]; simp
  unfold atI; rw [e]; exact h
def PlainIx (b : Expr) : Prop := ∀ o i, subscripted b false o i = operate [o, i] (getItem o i)
def IxR (X : Cx) (r : R2) : Prop :=
  ∀ (value slice : Expr) (pins : List (Addr × Obj)) (s : Shared) (σ : St) (H : Hp) (x y : V) (v u : Value) (Q : VK), Inv X pins σ H s → RelV x v → RelV y u → r x y H Q →
    subscripted slice false v u = operate [v, u] (getItem v u) → wpAny (model X.prog X.w) X.A (subscriptTail value slice v u) (EP X pins σ Q) X.xe s
def MtR (X : Cx) (id : String) (r : V → List V → Hp → VK → Prop) : Prop :=
  ∀ (pins : List (Addr × Obj)) (s : Shared) (σ : St) (H : Hp) (x : V) (xs : List V) (v : Value) (us : List Value) (Q : VK), Inv X pins σ H s → RelV x v → Vals xs us → r x xs H Q →
    wpAny (model X.prog X.w) X.A (call (.builtin id) (v :: us)) (EP X pins σ Q) X.xe s
section
variable {X : Cx} {a b : Expr} {ta tb : TE} {pos : Pos}
theorem pe_ix {r : R2} (hr : IxR X r) (ha : PE X a ta) (hb : PE X b tb) (hs : PlainIx b) : PE X (.Subscript a b pos) (tOp r ta tb) := by
  intro pins s σ H Q I h
  exact Subscript_ (binT ha hb I h fun v u s2 x y H2 I2 rx ry q => hr a b pins s2 σ H2 x y v u Q I2 rx ry q (hs _ _))
def rIxL (K : PySem.W.Frag) : R2 := fun x y H Q => ∃ p xs i v, x = .ref p ∧ y = .int i ∧ SqL K H p xs ∧ atI xs i = some v ∧ Q v H
def rIxT (K : PySem.W.Frag) : R2 := fun x y H Q => ∃ p xs i v, x = .ref p ∧ y = .int i ∧ SqT K H p xs ∧ atI xs i = some v ∧ Q v H
def rIxS : R2 := fun x y H Q => ∃ z i c, x = .str z ∧ y = .int i ∧ z.length ≤ sizeLine ∧ atI z.cps.toList i = some c ∧ Q (.str ⟨#[c]⟩) H
theorem ix_list : IxR X (rIxL X.K) := by
  intro value slice pins s σ H x y v u Q I rx ry h hs
  obtain ⟨p, xs, i, z, rfl, rfl, hq, he, q⟩ := h
  cases rx
  obtain ⟨t, rfl⟩ := ry
  obtain ⟨its, r, pl, hz⟩ := I.list hq
  obtain ⟨j, h1, h2, h3, h4, h5⟩ := atI_get he
  obtain ⟨w, ew, rw'⟩ := r.get h2
  have hl := r.length
  have hn := line63
  have fin : EP X pins σ Q w s := ⟨z, H, I, rw', q⟩
  by_cases h0 : 0 ≤ i
  · have hj : i.toNat = j := by
      rw [seqIndex_of h0 h5] at h1
      exact Option.some.inj h1
    exact item_listR pl.isList h0 (by omega) (by rw [hj]; simpa using ew) fin hs
  · have hj : (i + (its.toArray.size : Int)).toNat = j := by
      rw [seqIndex_neg (by omega) h4] at h1
      rw [List.size_toArray, ← hl]
      exact Option.some.inj h1
    exact subscriptTail_builtinR (x := w) pl.isList.typeIs slot_list_getitem.lookup
      (wpAny_getItem_list_neg (Q := fun r s' => r = w ∧ EP X pins σ Q r s') pl.isList (by omega) (by rw [List.size_toArray] <;> omega) (by omega) (by rw [hj]; simpa using ew) ⟨rfl, fin⟩) hs
theorem ix_tup : IxR X (rIxT X.K) := by
  intro value slice pins s σ H x y v u Q I rx ry h hs
  obtain ⟨p, xs, i, z, rfl, rfl, hq, he, q⟩ := h
  cases rx
  obtain ⟨t, rfl⟩ := ry
  obtain ⟨its, r, pl, hz⟩ := I.tuple hq
  obtain ⟨j, h1, h2, h3, h4, h5⟩ := atI_get he
  obtain ⟨w, ew, rw'⟩ := r.get h2
  have hl := r.length
  have hn := line63
  have fin : EP X pins σ Q w s := ⟨z, H, I, rw', q⟩
  exact subscriptTail_builtinR (x := w) pl.typeIs slot_tuple_getitem.lookup
    (getItem_tuple (j := j) (Q := fun r s' => r = w ∧ EP X pins σ Q r s') pl (by omega) (by omega) (by rw [List.size_toArray, ← hl]; exact h1) (by simpa using ew) ⟨rfl, fin⟩) hs
theorem ix_str : IxR X rIxS := by
  intro value slice pins s σ H x y v u Q I rx ry h hs
  obtain ⟨z, i, c, rfl, rfl, hz, he, q⟩ := h
  obtain ⟨t, rfl⟩ := rx
  obtain ⟨t', rfl⟩ := ry
  obtain ⟨j, h1, h2, h3, h4, h5⟩ := atI_get he
  have hl : z.cps.toList.length = z.length := by simp [Str.length]
  rw [hl] at h1 h4 h5
  have hn := line63
  exact tail_any (typeIs_str s z t) slot_str_getitem.lookup (getItem_str (c := c) (by
    have e1 : decide (i < -(2 ^ 63 : Int)) = false := decide_eq_false (by omega)
    have e2 : decide (i ≥ 2 ^ 63) = false := decide_eq_false (by omega)
    rw [e1, e2, Bool.or_false]) (by rw [h1]; simpa using h2) ⟨.str ⟨#[c]⟩, H, I.tok _, ⟨_, rfl⟩, q⟩) hs
theorem mapSeq_set (its : List Value) (n j : Nat) (u : Value) : Obj.mapSeq (·.setIfInBounds j u) { cls := .type "list", data := .seq its.toArray n } = { cls := .type "list", data := .seq (its.set j u).toArray n } := by
  simp [Obj.mapSeq]
theorem Inv.lst {pins : List (Addr × Obj)} {σ : St} {H : Hp} {s : Shared} {p : Addr} {xs : List V} (I : Inv X pins σ H s) (h : H p = some (.lst xs)) :
    ∃ (its : List Value) (n : Nat), Vals xs its ∧ s.heap.get? p = some { cls := .type "list", data := .seq its.toArray n } ∧ xs.length ≤ sizeLine := by
  obtain ⟨z, its, n, r, e⟩ := I.hok p _ h
  exact ⟨its, n, r, e, z⟩
theorem Inv.lstUpd {pins : List (Addr × Obj)} {σ : St} {H : Hp} {s : Shared} {p : Addr} {xs ys : List V} {its its' : List Value} {n n' : Nat} {f : Obj → Obj} (I : Inv X pins σ H s) (h : H p = some (.lst xs))
    (ho : s.heap.get? p = some { cls := .type "list", data := .seq its.toArray n }) (hf : f { cls := .type "list", data := .seq its.toArray n } = { cls := .type "list", data := .seq its'.toArray n' }) (r : Vals ys its') (hz : ys.length ≤ sizeLine) (t : Nat) :
    Inv X pins σ (upd H p (.lst ys)) { s with heap := s.heap.update p f, toks := t } := by
  have e : (s.heap.update p f).get? p = some { cls := .type "list", data := .seq its'.toArray n' } := by
    rw [Heap.get?_update_self f ho (by rw [hf] <;> rfl), hf]
  refine I.write (x := p) (e := p) (by rw [h]; trivial) (.inl rfl) (fun b u hb q => (Heap.get?_update_other _ _ (Ne.symm hb)).trans q) ⟨_, e⟩ ?_
  exact ⟨hz, its', n', r, e⟩
def rSetL : V → V → V → Hp → (Hp → Prop) → Prop := fun o i v H Q => ∃ p xs k j, o = .ref p ∧ i = .int k ∧ H p = some (.lst xs) ∧ ixN xs.length k = some j ∧ Q (upd H p (.lst (xs.set j v)))
theorem set_list : PSet X rSetL := by
  intro pins s σ H o i v ov iv u Q I ro ri rv h
  obtain ⟨p, xs, k, j, rfl, rfl, hp, hj, q⟩ := h
  cases ro
  obtain ⟨t, rfl⟩ := ri
  obtain ⟨its, n, r, ho, hz⟩ := I.lst hp
  obtain ⟨h1, h2, h3, h4⟩ := ixN_seq hj
  have hl := r.length
  have hn := line63
  have I' : Inv X pins σ (upd H p (.lst (xs.set j v))) { s with heap := s.heap.update p (Obj.mapSeq (·.setIfInBounds j u)) } :=
    I.lstUpd hp ho (mapSeq_set its n j u) (r.set rv j) (by rw [List.length_set]; exact hz) s.toks
  by_cases h0 : 0 ≤ k
  · have hk : k.toNat = j := by
      rw [seqIndex_of h0 h4] at h1
      exact Option.some.inj h1
    exact PySem.W.ki_setAt ho h0 (by omega) (by rw [List.size_toArray, ← hl]; exact h4) (by rw [hk]; exact ⟨_, I', q⟩)
  · have hk : (k + (its.toArray.size : Int)).toNat = j := by
      rw [seqIndex_neg (by omega) h3] at h1
      rw [List.size_toArray, ← hl]
      exact Option.some.inj h1
    exact PySem.W.ki_setBack ho (by omega) (by rw [List.size_toArray, ← hl]; exact h3) (by omega) (by rw [hk]; exact ⟨_, I', q⟩)
theorem slice_bounds (lo hi : Option Int) (n : Nat) : (sliceBounds lo hi none n).1 = ((HT.sIx n 0 lo : Nat) : Int) ∧ (sliceBounds lo hi none n).2.1 = ((HT.sIx n n hi : Nat) : Int) ∧ (sliceBounds lo hi none n).2.2 = 1 := by
  refine ⟨?_, ?_, rfl⟩
  · cases lo with
    | none => simp [sliceBounds, HT.sIx]
    | some i =>
      simp only [sliceBounds, HT.sIx, Option.getD_none, show (1 : Int) > 0 by decide, if_true]
      by_cases h : i < 0
      · simp only [h, if_true] <;> omega
      · simp only [h, if_false] <;> omega
  · cases hi with
    | none => simp [sliceBounds, HT.sIx]
    | some i =>
      simp only [sliceBounds, HT.sIx, Option.getD_none, show (1 : Int) > 0 by decide, if_true]
      by_cases h : i < 0
      · simp only [h, if_true] <;> omega
      · simp only [h, if_false] <;> omega
theorem slicePick_cut (its : List Value) (lo hi : Option Int) : slicePick its.toArray lo hi none = ((its.drop (HT.sIx its.length 0 lo)).take (HT.sIx its.length its.length hi - HT.sIx its.length 0 lo)).toArray := by
  obtain ⟨h1, h2, h3⟩ := slice_bounds lo hi its.toArray.size
  unfold slicePick
  rw [h1, h2, h3]
  simp only [sliceRange_one, pick_run, List.size_toArray] <;> rfl
def rSlL (K : PySem.W.Frag) : V → Option Int → Option Int → Hp → VK → Prop := fun x lo hi H Q => ∃ a xs, x = .ref a ∧ SqL K H a xs ∧ ∀ p, H p = none → Q (.ref p) (upd H p (.lst (cutV xs lo hi)))
theorem sl_list : SlR X (rSlL X.K) := by
  intro pins s σ H x v vl vu lo hi sl Q I rx hs pl pu h
  obtain ⟨a, xs, rfl, hx, q⟩ := h
  cases rx
  obtain ⟨its, r, ht, hz⟩ := I.list hx
  have hlen := r.length
  refine ⟨"list", _, slot_list_getitem.lookup, ht.isList.typeIs, ?_⟩
  refine wpAny_getItem_list_slice ht.isList hs pl pu .none (by simp) ?_ (by rw [List.size_toArray] <;> omega)
  rw [slicePick_cut, ← hlen]
  refine ⟨.ref s.heap.objs.size, _, I.laid (t' := s.toks) (o := .lst (cutV xs lo hi)) (fun b ob q => Heap.get?_push_of_some _ q) (Nat.le_refl _) ?_, rfl, q _ (I.hok.fresh (Nat.le_refl _))⟩
  exact ⟨Nat.le_trans (cutV_length xs lo hi) hz, _, 0, (r.drop (HT.sIx xs.length 0 lo)).take (HT.sIx xs.length xs.length hi - HT.sIx xs.length 0 lo), Heap.get?_push_size _ rfl⟩
def flatV : V → Bool
  | .non => true
  | .bl _ => true
  | .int _ => true
  | .str _ => true
  | _ => false
def eqV : V → V → Bool
  | .non, .non => true
  | .bl a, .bl b => a == b
  | .bl a, .int b => (if a then 1 else 0) == b
  | .int a, .bl b => a == (if b then 1 else 0)
  | .int a, .int b => a == b
  | .str a, .str b => a == b
  | _, _ => false
theorem eqAt_V {A : Around} {s : Shared} {y x : V} {u v : Value} (ry : RelV y u) (rx : RelV x v) (fy : flatV y = true) (fx : flatV x = true) : SeqAt.EqAt A s u v (eqV y x) := by
  cases y with
  | non =>
    cases ry
    cases x with
    | non => cases rx; exact SeqAt.EqAt.same _
    | bl b => cases rx; exact SeqAt.EqAt.none_bool b
    | int b => obtain ⟨t, rfl⟩ := rx; exact SeqAt.EqAt.none_int b t
    | str b => obtain ⟨t, rfl⟩ := rx; exact SeqAt.EqAt.none_str b t
    | _ => exact absurd (show false = true from fx) Bool.false_ne_true
  | bl a =>
    cases ry
    cases x with
    | non => cases rx; exact SeqAt.EqAt.bool_none a
    | bl b => cases rx; exact SeqAt.EqAt.bool_bool a b
    | int b => obtain ⟨t, rfl⟩ := rx; exact SeqAt.EqAt.bool_int a b t
    | str b => obtain ⟨t, rfl⟩ := rx; exact SeqAt.EqAt.bool_str a b t
    | _ => exact absurd (show false = true from fx) Bool.false_ne_true
  | int a =>
    obtain ⟨t', rfl⟩ := ry
    cases x with
    | non => cases rx; exact SeqAt.EqAt.int_none a t'
    | bl b => cases rx; exact SeqAt.EqAt.int_bool a t' b
    | int b => obtain ⟨t, rfl⟩ := rx; exact SeqAt.EqAt.int_int a t' b t
    | str b => obtain ⟨t, rfl⟩ := rx; exact SeqAt.EqAt.int_str a t' b t
    | _ => exact absurd (show false = true from fx) Bool.false_ne_true
  | str a =>
    obtain ⟨t', rfl⟩ := ry
    cases x with
    | non => cases rx; exact SeqAt.EqAt.str_none a t'
    | bl b => cases rx; exact SeqAt.EqAt.str_bool a t' b
    | int b => obtain ⟨t, rfl⟩ := rx; exact SeqAt.EqAt.str_int a t' b t
    | str b => obtain ⟨t, rfl⟩ := rx; exact SeqAt.EqAt.str_str a t' b t
    | _ => exact absurd (show false = true from fx) Bool.false_ne_true
  | _ => exact absurd (show false = true from fy) Bool.false_ne_true
def eqU (x : V) (u : Value) : Bool := match u with
  | .none => eqV .non x
  | .bool b => eqV (.bl b) x
  | .int i _ => eqV (.int i) x
  | .str z _ => eqV (.str z) x
  | _ => false
theorem eqU_of {x y : V} {u : Value} (r : RelV y u) (f : flatV y = true) : eqU x u = eqV y x := by
  cases y with
  | non => cases r; rfl
  | bl b => cases r; rfl
  | int i => obtain ⟨t, rfl⟩ := r; rfl
  | str z => obtain ⟨t, rfl⟩ := r; rfl
  | _ => exact absurd (show false = true from f) Bool.false_ne_true
theorem any_eqU {x : V} : ∀ {xs : List V} {us : List Value}, Vals xs us → xs.all flatV = true → us.any (eqU x) = xs.any fun y => eqV y x
  | _, _, .nil, _ => rfl
  | y :: xs, u :: us, .cons r t, f => by
    rw [List.all_cons, Bool.and_eq_true] at f
    rw [List.any_cons, List.any_cons, eqU_of r f.1, any_eqU t f.2]
theorem mem_eqAt {A : Around} {s : Shared} {x : V} {v : Value} (rx : RelV x v) (fx : flatV x = true) : ∀ {xs : List V} {us : List Value}, Vals xs us → xs.all flatV = true → ∀ u ∈ us, SeqAt.EqAt A s u v (eqU x u)
  | _, _, .nil, _ => fun u hu => by cases hu
  | y :: xs, u :: us, .cons r t, f => fun u' hu => by
    rw [List.all_cons, Bool.and_eq_true] at f
    rcases List.mem_cons.mp hu with rfl | hu
    · rw [eqU_of r f.1]; exact eqAt_V r rx f.1 fx
    · exact mem_eqAt rx fx t f.2 u' hu
def inV (x : V) (xs : List V) : Bool := xs.any fun y => eqV y x
def rIn (K : PySem.W.Frag) (neg : Bool) : R2 := fun x y H Q => ∃ p xs, y = .ref p ∧ (SqL K H p xs ∨ SqT K H p xs) ∧ flatV x = true ∧ xs.all flatV = true ∧ Q (.bl (if neg then !inV x xs else inV x xs)) H
theorem op_in_seq : OpR X (compareOp .In) (rIn X.K false) := by
  intro pins s σ H x y v u Q I rx ry h
  obtain ⟨p, xs, rfl, hq, fx, fs, q⟩ := h
  cases ry
  rcases hq with hq | hq
  · obtain ⟨its, r, pl, hz⟩ := I.list hq
    refine SeqAt.in_listAt (eqU x) pl.isList (fun w hw => mem_eqAt rx fx r fs w (by simpa using hw)) ⟨.bl _, H, I, rfl, ?_⟩
    rw [show its.toArray.any (eqU x) = its.any (eqU x) by simp, any_eqU r fs]
    exact q
  · obtain ⟨its, r, pl, hz⟩ := I.tuple hq
    refine SeqAt.in_tupleAt (eqU x) pl (fun w hw => mem_eqAt rx fx r fs w (by simpa using hw)) ⟨.bl _, H, I, rfl, ?_⟩
    rw [show its.toArray.any (eqU x) = its.any (eqU x) by simp, any_eqU r fs]
    exact q
theorem call_list_of : CallR X (.type "list") (fun xs H Q => ∃ p ys, xs = [.ref p] ∧ (SqL X.K H p ys ∨ SqT X.K H p ys) ∧ ∀ l, H l = none → Q (.ref l) (upd H l (.lst ys))) := by
  intro pins s σ H xs us Q I r h
  obtain ⟨p, ys, rfl, hq, q⟩ := h
  obtain ⟨u, rfl, rx⟩ := vals1 r
  cases rx
  have fin : ∀ (its : List Value), Vals ys its → ys.length ≤ sizeLine → ∀ (h' : Heap) (c' : Nat), (∀ b o', s.heap.get? b = some o' → h'.get? b = some o') →
      h'.get? s.heap.objs.size = some { cls := .type "list", dict := none, data := .seq its.toArray c', slots := #[] } → EP X pins σ Q (.ref s.heap.objs.size) { s with heap := h' } := fun its r' hz h' c' kp e =>
    ⟨.ref s.heap.objs.size, _, I.laid (t' := s.toks) kp (Nat.le_refl _) (show ObjOk X.prog X.w _ h' _ (.lst ys) from ⟨hz, its, c', r', e⟩), rfl, q _ (I.hok.fresh (Nat.le_refl _))⟩
  rcases hq with hq | hq
  · obtain ⟨its, r', pl, hz⟩ := I.list hq
    have hlen := r'.length
    obtain ⟨o, ho, hc, n, hd⟩ := pl.isList
    exact call_list_seq p (.inl rfl) ho hc hd (fun h' c' kp e => fin its r' hz h' c' kp e) (by simp only [List.size_toArray] <;> omega)
  · obtain ⟨its, r', pl, hz⟩ := I.tuple hq
    have hlen := r'.length
    obtain ⟨o, ho, hc, n, hd⟩ := pl
    exact call_list_seq p (.inr rfl) ho hc hd (fun h' c' kp e => fin its r' hz h' c' kp e) (by simp only [List.size_toArray] <;> omega)
theorem call_tuple_of : CallR X (.type "tuple") (fun xs H Q => ∃ p ys, xs = [.ref p] ∧ ((SqL X.K H p ys ∧ ∀ l, H l = none → Q (.ref l) (upd H l (.tup ys))) ∨ (SqT X.K H p ys ∧ Q (.ref p) H))) := by
  intro pins s σ H xs us Q I r h
  obtain ⟨p, ys, rfl, h⟩ := h
  obtain ⟨u, rfl, rx⟩ := vals1 r
  cases rx
  rcases h with ⟨hq, q⟩ | ⟨hq, q⟩
  · obtain ⟨its, r', pl, hz⟩ := I.list hq
    have hlen := r'.length
    refine call_tuple_list pl.isList (fun h' kp => ?_) (by simp only [List.size_toArray] <;> omega)
    have I1 : Inv X pins σ H { s with heap := h' } := I.kept (t' := s.toks) kp
    have I2 : Inv X pins σ (upd H h'.objs.size (.tup ys)) { s with heap := h'.push { cls := .type "tuple", data := .seq its.toArray } } :=
      I1.laid (t' := s.toks) (fun b o e => Heap.get?_push_of_some _ e) (Nat.le_refl _) (show ObjOk X.prog X.w _ _ _ (.tup ys) from ⟨⟨hz, NoDct.new rfl rfl⟩, its, r', IsTup.new _ _⟩)
    exact ⟨.ref h'.objs.size, _, I2, rfl, q _ (I1.hok.fresh (Nat.le_refl _))⟩
  · obtain ⟨its, r', pl, hz⟩ := I.tuple hq
    exact call_tuple_same pl ⟨.ref p, H, I, rfl, q⟩
def tyV (K : PySem.W.Frag) (T : String) (x : V) (H : Hp) : Prop := match x with
  | .str _ => T = "str"
  | .int _ => T = "int"
  | .ref p => (T = "list" ∧ ∃ xs, SqL K H p xs) ∨ (T = "tuple" ∧ ∃ o, K.lookup p = some o ∧ o.cls = .type "tuple" ∧ o.dict = none) ∨
      (T = "dict" ∧ ((∃ kvs, H p = some (.dK kvs)) ∨ ∃ kvs, H p = some (.dT kvs))) ∨ (T = "set" ∧ ∃ S n, H p = some (.set S n))
  | _ => False
theorem tyV_is {pins : List (Addr × Obj)} {σ : St} {H : Hp} {s : Shared} {T : String} {x : V} {v : Value} (I : Inv X pins σ H s) (r : RelV x v) (ty : tyV X.K T x H) :
    s.TypeIs v T ∧ ∀ a, v = .ref a → ∃ ob, s.heap.get? a = some ob ∧ ob.dict = none := by
  cases x with
  | str z =>
    obtain ⟨t, rfl⟩ := r
    cases (show T = "str" from ty)
    exact ⟨typeIs_str s z t, fun _ e => nomatch e⟩
  | int i =>
    obtain ⟨t, rfl⟩ := r
    cases (show T = "int" from ty)
    exact ⟨typeIs_int s i t, fun _ e => nomatch e⟩
  | ref p =>
    cases r
    rcases ty with ⟨rfl, xs, hq⟩ | ⟨rfl, o, hk, hc, hd⟩ | ⟨rfl, hk⟩ | ⟨rfl, S, n, hk⟩
    · obtain ⟨its, _, pl, _⟩ := I.list hq
      refine ⟨pl.isList.typeIs, fun a e => ?_⟩
      cases e
      obtain ⟨o, n, e, c, hd, _⟩ := pl
      exact ⟨o, e, hd⟩
    · refine ⟨⟨o, I.kIn p o hk, hc⟩, fun a e => ?_⟩
      cases e
      exact ⟨o, I.kIn _ o hk, hd⟩
    · have z : ∃ o, s.heap.get? p = some o ∧ o.ExactDict := by
        rcases hk with ⟨kvs, hk⟩ | ⟨kvs, hk⟩
        · obtain ⟨_, _, _, _, o, _, _, e, ex, _⟩ := I.hok p _ hk
          exact ⟨o, e, ex⟩
        · obtain ⟨_, _, _, _, o, _, _, e, ex, _⟩ := I.hok p _ hk
          exact ⟨o, e, ex⟩
      obtain ⟨o, e, ex⟩ := z
      refine ⟨⟨o, e, ex.1⟩, fun a e2 => ?_⟩
      cases e2
      exact ⟨o, e, ex.2.1⟩
    · obtain ⟨o, _, _, _, e, ex, _⟩ := I.hok p _ hk
      refine ⟨⟨o, e, ex.1⟩, fun a e2 => ?_⟩
      cases e2
      exact ⟨o, e, ex.2.1⟩
  | _ => exact False.elim ty
def tBM (K : PySem.W.Frag) (T : String) (r : V → List V → Hp → VK → Prop) (to : TE) (t : TA) : TE := fun σ H Q => to σ H fun x H1 => tyV K T x H1 ∧ t σ H1 fun xs H2 => r x xs H2 Q
variable {o e : Expr} {es : List Expr} {to : TE} {t : TA} {name : Str} {apos cpos : Pos} {T id : String} {r : V → List V → Hp → VK → Prop}
theorem pe_bm (pa : PlainAttrs T) (slot : Slot T name id) (hty : typeOf (.builtin id) = pure (.type "method_descriptor")) (hm : MtR X id r) (ho : PE X o to) (ha : PA X (e :: es) t)
    (hbase : attributeBase o name X.env (eval o X.env) = eval o X.env := by rfl)
    (hfew : ((backTo cpos (starEach (e :: es) X.env)).all (fun x => !x.1) && (backToKw cpos (keywordEach [] X.env)).all (fun x => x.1.isSome)
      && decide ((e :: es).length + ([] : List Keyword).length + (if ([] : List Keyword).isEmpty then 0 else 1) < 30)) = true := by rfl)
    (hline : (apos.endLine == cpos.line) = true := by rfl) (hs : starEach (e :: es) X.env = (false, eval e X.env) :: starEach es X.env := by rfl) (hplain : (backTo cpos (starEach es X.env)).any (·.1) = false := by rfl) :
    PE X (.Call (.Attribute o name apos) (e :: es) [] cpos) (tBM X.K T r to t) := by
  intro pins s σ H Q I h
  refine wpAny_Call_method_late hbase hfew hline rfl (thn (ho pins s σ H _ I h) ?_)
  rintro v s1 ⟨x, H1, I1, r1, ty, q1⟩
  obtain ⟨h1, h2⟩ := tyV_is I1 r1 ty
  refine ⟨T, id, pa, slot, hty, h1, h2, ?_⟩
  have hA := ha cpos pins s1 σ H1 _ I1 q1
  rw [hs] at hA ⊢
  refine Calls.callWith_builtin (by show (false || (backTo cpos (starEach es X.env)).any (·.1)) = false; rw [hplain] <;> rfl) (Calls.evalArgs_plain ?_)
  exact thn hA fun us s2 ⟨vs, H2, I2, r2, q2⟩ => hm pins s2 σ H2 x vs v us Q I2 r1 r2 q2
/- xs.append(e), list.index on a module's tuple .. are MtR facts of 06m -/
end
end L2
namespace L2
open PySem PySem.Spec PyProof.Rows
def MtM (X : Cx) (id : String) (r : V → List V → Hp → VK → Prop) : Prop :=
  ∀ (pins : List (Addr × Obj)) (s : Shared) (σ : St) (H : Hp) (x : V) (xs : List V) (v : Value) (us : List Value) (Q : VK), Inv X pins σ H s → RelV x v → Vals xs us → r x xs H Q →
    wpAny (model X.prog X.w) X.A (call (.builtin id) (v :: us)) (EP X pins σ Q) X.xe s
theorem Vals.one : ∀ {x : V} {us : List Value}, Vals [x] us → ∃ u, us = [u] ∧ RelV x u
  | _, _, .cons r .nil => ⟨_, rfl, r⟩
theorem Vals.two : ∀ {x y : V} {us : List Value}, Vals [x, y] us → ∃ u v, us = [u, v] ∧ RelV x u ∧ RelV y v
  | _, _, _, .cons r (.cons q .nil) => ⟨_, _, rfl, r, q⟩
theorem Vals.eraseIdx : ∀ {xs : List V} {us : List Value} (i : Nat), Vals xs us → Vals (xs.eraseIdx i) (us.eraseIdx i)
  | _, _, _, .nil => .nil
  | _, _, 0, .cons _ t => t
  | _, _, i + 1, .cons r t => .cons r (Vals.eraseIdx i t)
theorem len_erase {α : Type} : ∀ (l : List α) (i : Nat), (l.eraseIdx i).length ≤ l.length
  | [], _ => Nat.le_refl _
  | _ :: _, 0 => Nat.le_succ _
  | _ :: r, i + 1 => Nat.succ_le_succ (len_erase r i)
section
variable {X : Cx} {pins : List (Addr × Obj)} {σ : St} {H : Hp} {s : Shared} {l b : Addr} {xs ys zs : List V}
theorem Inv.lset {its its' : List Value} {n : Nat} {f : Array Value → Array Value} {t' : Nat} (I : Inv X pins σ H s) (hH : H l = some (.lst xs))
    (e : s.heap.get? l = some { cls := .type "list", data := .seq its.toArray n }) (hf : f its.toArray = its'.toArray) (hv : Vals ys its') (hz : ys.length ≤ sizeLine) :
    Inv X pins σ (upd H l (.lst ys)) { s with heap := s.heap.update l (Obj.mapSeq f), toks := t' } := by
  have q := PySem.IsL.update e f
  rw [hf] at q
  refine I.write (x := l) (e := l) (by rw [hH]; exact trivial) (.inl rfl) (fun b' u hb hu => (Heap.get?_update_other s.heap (Obj.mapSeq f) (Ne.symm hb)).trans hu) ⟨_, q⟩ ?_
  exact ⟨hz, its', _, hv, q⟩
theorem Inv.lnew {its : List Value} {t' : Nat} (I : Inv X pins σ H s) (hv : Vals ys its) (hz : ys.length ≤ sizeLine) :
    Inv X pins σ (upd H s.heap.objs.size (.lst ys)) { s with heap := s.heap.push { cls := .type "list", data := .seq its.toArray }, toks := t' } :=
  I.laid (fun _ _ q => Heap.get?_push_of_some _ q) (Nat.le_refl _) ⟨hz, its, 0, hv, Heap.get?_push_size _ rfl⟩
theorem Inv.fresh (I : Inv X pins σ H s) : H s.heap.objs.size = none := I.hok.fresh (Nat.le_refl _)
theorem Inv.lstM (I : Inv X pins σ H s) (hH : H l = some (.lst xs)) : xs.length ≤ sizeLine ∧ ∃ (its : List Value) (n : Nat), Vals xs its ∧ xs.length = its.length ∧ s.heap.get? l = some { cls := .type "list", data := .seq its.toArray n } := by
  obtain ⟨z, its, n, r, e⟩ := I.hok l _ hH
  exact ⟨z, its, n, r, r.length, e⟩
theorem notLongL {n : Nat} (h : n ≤ sizeLine) : Builtin.List.listTooLong n = false := by
  unfold Builtin.List.listTooLong
  exact decide_eq_false (by omega)
end
section
variable {X : Cx}
def rAppend : V → List V → Hp → VK → Prop := fun x vs H Q => ∃ l xs y, x = .ref l ∧ vs = [y] ∧ H l = some (.lst xs) ∧ xs.length < sizeLine ∧ Q .non (upd H l (.lst (xs ++ [y])))
theorem mt_append : MtM X "list.append" rAppend := by
  intro pins s σ H x vs v us Q I rx rv h
  obtain ⟨l, xs, y, rfl, rfl, hH, hz, q⟩ := h
  cases rx
  obtain ⟨u, rfl, ru⟩ := rv.one
  obtain ⟨z, its, n, r, hl, e⟩ := I.lstM hH
  refine call_meets F.slot_list_append ⟨_, e, rfl⟩ F.entry_list_append (F.args_list_append_2 _ _) (PySem.list_append l its.toArray n u (by rw [List.size_toArray]; omega)) ⟨e, ?_⟩
  refine ⟨.non, _, I.lset (its' := its ++ [u]) hH e (by simp) (r.append (.cons ru .nil)) ?_, rfl, q⟩
  rw [List.length_append, List.length_singleton]
  omega
def rExtend : V → List V → Hp → VK → Prop := fun x vs H Q => ∃ l b xs zs, x = .ref l ∧ vs = [.ref b] ∧ H l = some (.lst xs) ∧ H b = some (.lst zs) ∧ xs.length + zs.length ≤ sizeLine ∧ Q .non (upd H l (.lst (xs ++ zs)))
theorem mt_extend : MtM X "list.extend" rExtend := by
  intro pins s σ H x vs v us Q I rx rv h
  obtain ⟨l, b, xs, zs, rfl, rfl, hH, hB, hz, q⟩ := h
  cases rx
  obtain ⟨u, rfl, ru⟩ := rv.one
  cases ru
  obtain ⟨z, its, n, r, hl, e⟩ := I.lstM hH
  obtain ⟨z2, its2, n2, r2, hl2, e2⟩ := I.lstM hB
  have hsz : its.toArray.size + its2.toArray.size ≤ sizeLine := by rw [List.size_toArray, List.size_toArray]; omega
  have hlong : ¬ (!its.toArray.isEmpty && Builtin.List.listTooLong (its.toArray.size + its2.toArray.size)) = true := by
    rw [notLongL hsz, Bool.and_false]
    exact Bool.false_ne_true
  refine call_meets F.slot_list_extend ⟨_, e, rfl⟩ F.entry_list_extend (F.args_list_extend_2 _ _)
    (AutoSeq1.list_extend_list_list_0 l its.toArray n b its2.toArray n2 hlong (by rw [List.size_toArray]; omega) (by omega)) ⟨e, e2, ?_⟩
  refine ⟨.non, _, I.lset (its' := its ++ its2) hH e (by simp) (r.append r2) ?_, rfl, q⟩
  rw [List.length_append]
  omega
def rPopAt : V → List V → Hp → VK → Prop := fun x vs H Q => ∃ l xs i k y, x = .ref l ∧ vs = [.int i] ∧ H l = some (.lst xs) ∧ -(2 ^ 63) ≤ i ∧ i < 2 ^ 63 ∧ seqIndex? i xs.length = some k ∧ xs[k]? = some y ∧ Q y (upd H l (.lst (xs.eraseIdx k)))
theorem mt_popAt : MtM X "list.pop" rPopAt := by
  intro pins s σ H x vs v us Q I rx rv h
  obtain ⟨l, xs, i, k, y, rfl, rfl, hH, h1, h2, hk, hy, q⟩ := h
  cases rx
  obtain ⟨u, rfl, ru⟩ := rv.one
  obtain ⟨t, rfl⟩ := ru
  obtain ⟨z, its, n, r, hl, e⟩ := I.lstM hH
  obtain ⟨w, hw, rw'⟩ := r.get hy
  refine call_meets F.slot_list_pop ⟨_, e, rfl⟩ F.entry_list_pop (F.args_list_pop_2 _ _)
    (MeetsSeq.list_pop_at l its.toArray n i t k w (fitsIndex_both h1 h2) (by rw [List.size_toArray, ← hl]; exact hk) (by rw [← Array.getElem?_toList]; exact hw) (by rw [List.size_toArray]; omega)) ⟨e, ?_⟩
  refine ⟨y, _, I.lset (its' := its.eraseIdx k) hH e ?_ (r.eraseIdx k) ?_, rw', q⟩
  · show its.toArray.eraseIdxIfInBounds k = (its.eraseIdx k).toArray
    rw [List.eraseIdxIfInBounds_toArray]
  · have := len_erase xs k
    omega
def rCat : R2 := fun x y H Q => ∃ l b xs zs, x = .ref l ∧ y = .ref b ∧ H l = some (.lst xs) ∧ H b = some (.lst zs) ∧ xs.length + zs.length ≤ sizeLine ∧ ∀ p, H p = none → Q (.ref p) (upd H p (.lst (xs ++ zs)))
theorem op_cat : OpR X (binaryOp .Add) rCat := by
  intro pins s σ H x y v u Q I rx ry h
  obtain ⟨l, b, xs, zs, rfl, rfl, hH, hB, hz, q⟩ := h
  cases rx
  cases ry
  obtain ⟨z, its, n, r, hl, e⟩ := I.lstM hH
  obtain ⟨z2, its2, n2, r2, hl2, e2⟩ := I.lstM hB
  refine PySem.P.add_list e e2 ?_ (by rw [List.size_toArray, List.size_toArray]; omega)
  have ea : its.toArray ++ its2.toArray = (its ++ its2).toArray := by simp
  rw [ea]
  exact ⟨.ref _, _, I.lnew (t' := s.toks) (r.append r2) (by rw [List.length_append]; omega), rfl, q _ I.fresh⟩
end
section
variable {prog : Program} {w : World} {A : Around} {E : Value → Shared → Prop} {s : Shared}
end
section
variable {X : Cx}
end
end L2
namespace L2
open PySem PySem.Spec PyProof.Rows
section
variable {κ : Type} [DecidableEq κ]
def valV (kvs : List (κ × V)) (k : κ) : Option V := (kvs.find? fun kv => decide (kv.1 = k)).map (·.2)
def putK (kvs : List (κ × V)) (k : κ) (v : V) : List (κ × V) :=
  if (kvs.any fun kv => decide (kv.1 = k)) = true then kvs.map (fun kv => if kv.1 = k then (kv.1, v) else kv) else kvs ++ [(k, v)]
theorem valV_pos {p : κ × V} {r : List (κ × V)} {k : κ} (e : p.1 = k) : valV (p :: r) k = some p.2 := by simp [valV, List.find?_cons, e]
theorem valV_neg {p : κ × V} {r : List (κ × V)} {k : κ} (e : ¬ p.1 = k) : valV (p :: r) k = valV r k := by simp [valV, List.find?_cons, e]
theorem valV_any (k : κ) : ∀ kvs : List (κ × V), (kvs.any fun kv => decide (kv.1 = k)) = (valV kvs k).isSome
  | [] => rfl
  | p :: r => by
    rw [List.any_cons]
    by_cases e : p.1 = k
    · simp only [valV_pos e, decide_eq_true e, Bool.true_or, Option.isSome_some]
    · rw [valV_neg e, decide_eq_false e, Bool.false_or]; exact valV_any k r
theorem valV_map (k j : κ) (y : V) : ∀ kvs : List (κ × V), valV (kvs.map fun kv => if kv.1 = k then (kv.1, y) else kv) j = (valV kvs j).map fun x => if j = k then y else x
  | [] => rfl
  | p :: r => by
    have ih := valV_map k j y r
    rw [List.map_cons]
    by_cases h : p.1 = k
    · rw [if_pos h]
      by_cases e : p.1 = j
      · rw [valV_pos (p := (p.1, y)) e, valV_pos e, Option.map_some, if_pos (e.symm.trans h)]
      · rw [valV_neg (p := (p.1, y)) e, valV_neg e, ih]
    · rw [if_neg h]
      by_cases e : p.1 = j
      · rw [valV_pos (p := p) e, valV_pos e, Option.map_some, if_neg (fun z => h (e.trans z))]
      · rw [valV_neg (p := p) e, valV_neg e, ih]
theorem valV_snoc (k j : κ) (y : V) : ∀ kvs : List (κ × V), valV kvs k = none → valV (kvs ++ [(k, y)]) j = if j = k then some y else valV kvs j
  | [], _ => by
    by_cases e : k = j
    · rw [if_pos e.symm]; exact valV_pos (p := (k, y)) e
    · rw [if_neg (fun z => e z.symm)]; exact valV_neg (p := (k, y)) e
  | p :: r, hn => by
    rw [List.cons_append]
    have hk : ¬ p.1 = k := fun z => by rw [valV_pos z] at hn; cases hn
    rw [valV_neg hk] at hn
    have ih := valV_snoc k j y r hn
    by_cases e : p.1 = j
    · rw [valV_pos e, valV_pos e, if_neg (fun z => hk (e.trans z))]
    · rw [valV_neg e, valV_neg e, ih]
theorem valV_put (kvs : List (κ × V)) (k j : κ) (y : V) : valV (putK kvs k y) j = if j = k then some y else valV kvs j := by
  unfold putK
  by_cases a : (kvs.any fun kv => decide (kv.1 = k)) = true
  · rw [if_pos a, valV_map]
    rw [valV_any] at a
    by_cases e : j = k
    · obtain ⟨x, hx⟩ := Option.isSome_iff_exists.mp a
      rw [if_pos e, e, hx, Option.map_some, if_pos rfl]
    · rw [if_neg e]
      cases valV kvs j with
      | none => rfl
      | some x => rw [Option.map_some, if_neg e]
  · rw [if_neg a]
    refine valV_snoc k j y kvs ?_
    rw [valV_any] at a
    cases q : valV kvs k with
    | none => rfl
    | some x => rw [q] at a; exact (a rfl).elim
theorem length_putK (kvs : List (κ × V)) (k : κ) (v : V) : (putK kvs k v).length ≤ kvs.length + 1 := by
  unfold putK
  split
  · rw [List.length_map]; omega
  · rw [List.length_append, List.length_cons, List.length_nil]; omega
theorem putK_new {kvs : List (κ × V)} {k : κ} (v : V) (h : valV kvs k = none) : putK kvs k v = kvs ++ [(k, v)] := by
  unfold putK
  rw [valV_any, h]
  exact if_neg (by decide)
theorem RelO.isSome_eq {o : Option V} {u : Option Value} (r : RelO o u) : o.isSome = u.isSome := by
  cases o with
  | none => cases u with
    | none => rfl
    | some _ => exact (show False from r).elim
  | some _ => cases u with
    | none => exact (show False from r).elim
    | some _ => rfl
theorem KV.val {kvs : List (κ × V)} {vs : List (κ × Value)} (r : KV kvs vs) (k : κ) : RelO (valV kvs k) (valueAt vs k) := by
  unfold KV at r
  induction r with
  | nil => exact True.intro
  | @cons p q ps qs h t ih =>
    obtain ⟨h1, h2⟩ := h
    by_cases e : p.1 = k
    · have e' : q.1 = k := h1.symm.trans e
      have b : valueAt (q :: qs) k = some q.2 := by simp [valueAt, List.find?_cons, e']
      rw [valV_pos e, b]; exact h2
    · have e' : ¬ q.1 = k := fun z => e (h1.trans z)
      have b : valueAt (q :: qs) k = valueAt qs k := by simp [valueAt, List.find?_cons, e']
      rw [valV_neg e, b]; exact ih
theorem KV.any {kvs : List (κ × V)} {vs : List (κ × Value)} (r : KV kvs vs) (k : κ) : (kvs.any fun kv => decide (kv.1 = k)) = vs.any fun kv => decide (kv.1 = k) := by
  unfold KV at r
  induction r with
  | nil => rfl
  | cons h t ih => rw [List.any_cons, List.any_cons, ih, h.1]
theorem KV.repl {kvs : List (κ × V)} {vs : List (κ × Value)} (r : KV kvs vs) (k : κ) {y : V} {u : Value} (ry : RelV y u) :
    KV (kvs.map fun kv => if kv.1 = k then (kv.1, y) else kv) (vs.map fun kv => if kv.1 = k then (kv.1, u) else kv) := by
  unfold KV at r ⊢
  induction r with
  | nil => exact .nil
  | @cons p q ps qs h t ih =>
    rw [List.map_cons, List.map_cons]
    refine .cons ?_ ih
    obtain ⟨h1, h2⟩ := h
    by_cases e : p.1 = k
    · rw [if_pos e, if_pos (h1.symm.trans e)]; exact ⟨h1, ry⟩
    · rw [if_neg e, if_neg (fun z => e (h1.trans z))]; exact ⟨h1, h2⟩
theorem KV.put {kvs : List (κ × V)} {vs : List (κ × Value)} (r : KV kvs vs) (k : κ) {y : V} {u : Value} (ry : RelV y u) : KV (putK kvs k y) (stored vs k u) := by
  unfold putK stored
  rw [r.any k]
  by_cases e : (vs.any fun kv => decide (kv.1 = k)) = true
  · rw [if_pos e, if_pos e]; exact r.repl k ry
  · rw [if_neg e, if_neg e]; exact Paired.snoc r ⟨rfl, ry⟩
theorem KV.length {kvs : List (κ × V)} {vs : List (κ × Value)} (r : KV kvs vs) : kvs.length = vs.length := Paired.length r
end
theorem kV_is {P : Program} {w : World} {k : Key} {u : Value} (r : RelV (kV k) u) : (mixKind P w).is k u = true := by
  cases k with
  | inl i => obtain ⟨t, e⟩ := (show ∃ t, u = Value.int i t from r); subst e; exact mixKind_int P w i t
  | inr x => obtain ⟨t, e⟩ := (show ∃ t, u = Value.str x t from r); subst e; exact mixKind_str P w x t
theorem items_are {P : Program} {w : World} : ∀ {ks : List Key} {us : List Value}, Vals (ks.map kV) us → ItemsAre (mixKind P w) ks us
  | [], _, r => by rw [List.map_nil] at r; cases r; exact .nil
  | k :: ks, _, r => by
    rw [List.map_cons] at r
    cases r with
    | cons h t => exact .cons (kV_is h) (items_are t)
abbrev KT (H : Hp) : List (List Key × V) → List (List Key × Addr × Value) → Prop := Paired fun p q => p.1 = q.1 ∧ RdT H q.2.1 (p.1.map kV) ∧ RelV p.2 q.2.2
theorem KT.val {H : Hp} {kvs : List (List Key × V)} {xs : List (List Key × Addr × Value)} (r : KT H kvs xs) (k : List Key) : RelO (valV kvs k) ((atKey xs k).map (·.2)) := by
  induction r with
  | nil => exact True.intro
  | @cons p q ps qs h t ih =>
    obtain ⟨h1, _, h2⟩ := h
    by_cases e : p.1 = k
    · have e' : q.1 = k := h1.symm.trans e
      have b : atKey (q :: qs) k = some q.2 := by simp [atKey, List.find?_cons, e']
      rw [valV_pos e, b]; exact h2
    · have e' : ¬ q.1 = k := fun z => e (h1.trans z)
      have b : atKey (q :: qs) k = atKey qs k := by simp [atKey, List.find?_cons, e']
      rw [valV_neg e, b]; exact ih
theorem KT.repl {H : Hp} {kvs : List (List Key × V)} {xs : List (List Key × Addr × Value)} (r : KT H kvs xs) (k : List Key) {y : V} {u : Value} (ry : RelV y u) :
    KT H (kvs.map fun kv => if kv.1 = k then (kv.1, y) else kv) (xs.map (putAt k u)) := by
  induction r with
  | nil => exact .nil
  | @cons p q ps qs h t ih =>
    rw [List.map_cons, List.map_cons]
    refine .cons ?_ ih
    obtain ⟨h1, h2, h3⟩ := h
    unfold putAt
    by_cases e : p.1 = k
    · rw [if_pos e, if_pos (h1.symm.trans e)]; exact ⟨h1, h2, ry⟩
    · rw [if_neg e, if_neg (fun z => e (h1.trans z))]; exact ⟨h1, h2, h3⟩
theorem KT.put {H : Hp} {kvs : List (List Key × V)} {xs : List (List Key × Addr × Value)} (r : KT H kvs xs) (k : List Key) {b : Addr} {y : V} {u : Value} (hb : RdT H b (k.map kV)) (ry : RelV y u) :
    KT H (putK kvs k y) (storedH xs k b u) := by
  have e : (kvs.any fun kv => decide (kv.1 = k)) = (atKey xs k).isSome := by
    rw [valV_any, (r.val k).isSome_eq, Option.isSome_map]
  unfold putK storedH
  rw [e]
  by_cases q : (atKey xs k).isSome = true
  · rw [if_pos q, if_pos q]; exact r.repl k ry
  · rw [if_neg q, if_neg q]; exact Paired.snoc r ⟨rfl, hb, ry⟩
theorem KT.keeps {H H' : Hp} {kvs : List (List Key × V)} {xs : List (List Key × Addr × Value)} (r : KT H kvs xs) (ht : ∀ b ys, RdT H b ys → RdT H' b ys) : KT H' kvs xs :=
  Paired.mapP r fun _ _ z => ⟨z.1, ht _ _ z.2.1, z.2.2⟩
section
variable {P : Program} {w : World} {H : Hp} {h : Heap} {a : Addr}
theorem rd_of {u : HO} (ok : HOk P w H h) (e : Rd H a u) : ObjOk P w H h a u := e.ok ok
theorem dk_rd {kvs : List (Key × V)} (ok : HOk P w H h) (e : Rd H a (.dK kvs)) : kvs.length ≤ sizeLine ∧ (a == sysModules) = false ∧ ∃ vs, KV kvs vs ∧ h.DictOf (mixKind P w) a vs :=
  show ObjOk P w H h a (.dK kvs) from rd_of ok e
theorem dk_of {kvs : List (Key × V)} (ok : HOk P w H h) (e : H a = some (.dK kvs)) : kvs.length ≤ sizeLine ∧ (a == sysModules) = false ∧ ∃ vs, KV kvs vs ∧ h.DictOf (mixKind P w) a vs := dk_rd ok (.inl e)
theorem key_of {ks : List Key} (ok : HOk P w H h) (e : RdT H a (ks.map kV)) : (tupleKind (mixKind P w)).is h ks a := by
  have qq : ObjOk P w H h a (.tup (ks.map kV)) := by
    rcases e with e | ⟨_, e⟩
    · exact ok a _ e
    · exact (ok a _ e).2
  obtain ⟨_, its, r, o, h1, h2, n, h3⟩ := qq
  exact ⟨o, its.toArray, n, h1, h2, h3, by simpa using items_are r⟩
theorem dt_rd {kvs : List (List Key × V)} (ok : HOk P w H h) (e : Rd H a (.dT kvs)) : kvs.length ≤ sizeLine ∧ (a == sysModules) = false ∧
    ∃ xs, KT H kvs xs ∧ h.DictOfH (tupleKind (mixKind P w)) a xs := by
  obtain ⟨z, y, xs, r, o, es, ep, h1, h2, h3, h4, h5⟩ := (show ObjOk P w H h a (.dT kvs) from rd_of ok e)
  refine ⟨z, y, xs, r, o, es, ep, h1, h2, h3, h4, fun x hx => ?_, h5⟩
  have all : ∀ {l : List (List Key × V)} {m : List (List Key × Addr × Value)}, KT H l m → ∀ x ∈ m, (tupleKind (mixKind P w)).is h x.1 x.2.1 := by
    intro l m q
    induction q with
    | nil => intro x hx; exact nomatch hx
    | @cons p q ps qs hq t ih =>
      intro x hx
      rcases List.mem_cons.mp hx with e | hx
      · subst e
        exact key_of ok (by rw [← hq.1]; exact hq.2.1)
      · exact ih x hx
  exact all r x hx
theorem dt_of {kvs : List (List Key × V)} (ok : HOk P w H h) (e : H a = some (.dT kvs)) : kvs.length ≤ sizeLine ∧ (a == sysModules) = false ∧
    ∃ xs, KT H kvs xs ∧ h.DictOfH (tupleKind (mixKind P w)) a xs := dt_rd ok (.inl e)
end
def DGet (H : Hp) (a : Addr) (y : V) (r : Option V) : Prop :=
  (∃ kvs k, Rd H a (.dK kvs) ∧ y = kV k ∧ r = valV kvs k) ∨ ∃ kvs k b, Rd H a (.dT kvs) ∧ y = .ref b ∧ RdT H b (k.map kV) ∧ r = valV kvs k
def DPut (H : Hp) (a : Addr) (y v : V) (H' : Hp) : Prop :=
  (∃ kvs k, H a = some (.dK kvs) ∧ y = kV k ∧ kvs.length < sizeLine ∧ H' = upd H a (.dK (putK kvs k v))) ∨
  ∃ kvs k b, H a = some (.dT kvs) ∧ y = .ref b ∧ RdT H b (k.map kV) ∧ kvs.length < sizeLine ∧ H' = upd H a (.dT (putK kvs k v))
theorem DGet.k {H : Hp} {a : Addr} {kvs : List (Key × V)} {k : Key} (e : H a = some (.dK kvs)) : DGet H a (kV k) (valV kvs k) := .inl ⟨kvs, k, .inl e, rfl, rfl⟩
section
variable {X : Cx} {pins : List (Addr × Obj)} {σ : St} {H : Hp} {s : Shared} {a : Addr} {y v : V} {u r : Value} {o : Option V} {A : Around} {E : Value → Shared → Prop}
theorem Inv.big (I : Inv X pins σ H s) : sysModules < s.heap.objs.size := by
  have h : mainGlobals < s.heap.objs.size := (I.mod.glob.keeps I.bk).lt
  exact Nat.lt_trans (by decide) h
theorem d_getItem {Q : Value → Shared → Prop} (hu : A.units + 1 < cLine) (I : Inv X pins σ H s) (g : DGet H a y (some v)) (ry : RelV y u) (h : ∀ w' s', Inv X pins σ H s' → RelV v w' → Q w' s') :
    wpAny (model X.prog X.w) A (getItem (.ref a) u) Q E s := by
  rcases g with ⟨kvs, k, e, ey, l⟩ | ⟨kvs, k, b, e, ey, eb, l⟩
  · subst ey
    obtain ⟨z, hd, vs, rel, dd⟩ := dk_rd I.hok e
    obtain ⟨w', hw, rw'⟩ := RelO.some_of (v := v) (o := valueAt vs k) (by rw [l]; exact rel.val k)
    exact wpAny_getItem_of (kV_is ry) dd.mapOf hw (h w' _ (I.tok _) rw')
  · subst ey
    cases (show u = Value.ref b from ry)
    obtain ⟨z, hd, xs, rel, dd⟩ := dt_rd I.hok e
    obtain ⟨w', hw, rw'⟩ := RelO.some_of (v := v) (o := (atKey xs k).map (·.2)) (by rw [l]; exact rel.val k)
    obtain ⟨p, hp, hp2⟩ := Option.map_eq_some_iff.mp hw
    refine wpAny_getItem_heap (tupleKind_room_in1 hu) (key_of I.hok eb) dd hp ?_
    rw [hp2]
    exact h w' _ (I.tok _) rw'
theorem d_write {h' : Heap} {t' : Nat} {ob : HO} (I : Inv X pins σ H s) (mu : Mut (H a)) (hs : Heap.SameBut a s.heap h') (he : ∃ q, h'.get? a = some q) (new : ObjOk X.prog X.w (upd H a ob) h' a ob) :
    Inv X pins σ (upd H a ob) { s with heap := h', toks := t' } :=
  I.write (x := a) (e := a) mu (.inl rfl) (fun b q hb z => (hs.2 b hb).trans z) he new
theorem dk_new {P : Program} {w : World} {H' : Hp} {h' : Heap} {kvs : List (Key × V)} {vs : List (Key × Value)} (z : kvs.length ≤ sizeLine) (hd : (a == sysModules) = false) (rel : KV kvs vs) (dd : h'.DictOf (mixKind P w) a vs) :
    ObjOk P w H' h' a (.dK kvs) := ⟨z, hd, vs, rel, dd⟩
theorem d_setItem {H' : Hp} {Q : Unit → Shared → Prop} (hu : A.units + 1 < cLine) (I : Inv X pins σ H s) (g : DPut H a y v H') (ry : RelV y u) (rv : RelV v r) (h : ∀ s', Inv X pins σ H' s' → Q () s') :
    wpAny (model X.prog X.w) A (setItem (.ref a) u r) Q E s := by
  rcases g with ⟨kvs, k, e, ey, l, eH⟩ | ⟨kvs, k, b, e, ey, eb, l, eH⟩
  · subst ey eH
    obtain ⟨z, hd, vs, rel, dd⟩ := dk_of I.hok e
    have hz : vs.length ≤ sizeLine := by rw [← rel.length]; exact z
    have hl : (putK kvs k v).length ≤ sizeLine := by have := length_putK kvs k v; omega
    refine wpAny_setItem_pairs (hsz := hz) (kV_is ry) dd fun h' dd' hs => h _ ?_
    have he : ∃ q, h'.get? a = some q := let ⟨q, _, _, hq, _⟩ := dd'; ⟨q, hq⟩
    exact d_write I (by rw [e]; exact True.intro) hs he (dk_new hl hd (rel.put k rv) dd')
  · subst ey eH
    cases (show u = Value.ref b from ry)
    obtain ⟨z, hd, xs, rel, dd⟩ := dt_of I.hok e
    have hz : xs.length ≤ sizeLine := by rw [← Paired.length rel]; exact z
    have hl : (putK kvs k v).length ≤ sizeLine := by have := length_putK kvs k v; omega
    refine wpAny_setItem_heap (hsz := hz) (tupleKind_room_in1 hu) (key_of I.hok eb) dd fun h' dd' hs => h _ ?_
    obtain ⟨q, es, ep, hq, h2, h3, h4, _, h5⟩ := dd'
    refine d_write I (by rw [e]; exact True.intro) hs ⟨q, hq⟩ ⟨hl, hd, _, (rel.put k eb rv).keeps fun c ys ec => ?_, q, es, ep, hq, h2, h3, h4, h5⟩
    refine ec.upd fun u hu z => ?_
    subst z
    rcases ec with ec | ⟨_, ec⟩ <;> (rw [e] at ec; cases ec)
end
section
variable {X : Cx} {pins : List (Addr × Obj)} {σ : St} {H : Hp} {s : Shared} {a : Addr} {kvs : List (Key × V)} {k : Key} {u : Value} {A : Around} {E : Value → Shared → Prop}
theorem d_len {Q : Value → Shared → Prop} (I : Inv X pins σ H s) (e : Rd H a (.dK kvs)) (h : ∀ t s', Inv X pins σ H s' → Q (.int kvs.length t) s') : wpAny (model X.prog X.w) A (call (.builtin "len") [.ref a]) Q E s := by
  obtain ⟨z, hd, vs, rel, dd⟩ := dk_rd I.hok e
  refine call_len_dict hd dd (by rw [← rel.length]; rw [sizeLine_eq] at z; omega) ?_
  rw [← rel.length]
  exact h _ _ (I.tok _)
end
def NoSl (i : Expr) : Prop := ∀ ov iv, subscripted i false ov iv = operate [ov, iv] (getItem ov iv)
theorem subD_of {prog : Program} {w : World} {A : Around} {E : Value → Shared → Prop} {s : Shared} {env : Env} {value slice : Expr} {pos : Pos} {T id : String} {Q : Value → Shared → Prop}
    (hl : typeLookup (.type T) "__getitem__" = pure (some (.builtin id))) (hs : NoSl slice)
    (h : wpAny (model prog w) A (eval value env) (fun o s₁ => wpAny (model prog w) A (eval slice env) (fun i s₂ => s₂.TypeIs o T ∧ wpAny (model prog w) A (getItem o i) Q E s₂) E s₁) E s) :
    wpAny (model prog w) A (eval (.Subscript value slice pos) env) Q E s := by
  refine Subscript_ (wpAny_mono h (fun o s₁ h₁ => wpAny_mono h₁ (fun i s₂ h₂ => ?_) fun _ _ x => x) fun _ _ x => x)
  obtain ⟨hT, h₂⟩ := h₂
  unfold subscriptTail
  refine wpAny_bind ?_
  rw [getitemInPython_of_ne hT.not_modules]
  refine wpAny_bind (wpAny_specialOf hT hl ?_)
  have fin : wpAny (model prog w) A (subscripted slice false o i) (fun r s₃ => wpAny (model prog w) A (letTemporaryGo value o r >>= fun _ => pure r) Q E s₃) E s₂ := by
    rw [hs o i]
    exact wpAny_operating (wpAny_mono h₂ (fun r s₃ h₃ => wpAny_bind (wpAny_letTemporaryGo (wpAny_pure h₃))) fun _ _ x => x)
  first
    | exact wpAny_pure (wpAny_bind fin)
    | exact wpAny_bind (wpAny_pure (wpAny_bind fin))
    | exact wpAny_bind fin
theorem dict_typeIs {X : Cx} {pins : List (Addr × Obj)} {σ : St} {H : Hp} {s : Shared} {a : Addr} {y : V} {o : Option V} (I : Inv X pins σ H s) (g : DGet H a y o) : s.TypeIs (.ref a) "dict" := by
  rcases g with ⟨kvs, k, e, _, _⟩ | ⟨kvs, k, b, e, _, _, _⟩
  · obtain ⟨_, _, vs, _, dd⟩ := dk_rd I.hok e
    exact dd.typeIs
  · obtain ⟨_, _, xs, _, dd⟩ := dt_rd I.hok e
    exact dd.typeIs
def tDGet (td ty : TE) : TE := fun σ H Q => td σ H fun x H1 => ty σ H1 fun y H2 => ∃ a v, x = .ref a ∧ DGet H2 a y (some v) ∧ Q v H2
def sDPut (td ty tv : TE) : TS := fun D σ H => tv σ H fun v H1 => td σ H1 fun x H2 => ty σ H2 fun y H3 => ∃ a H4, x = .ref a ∧ DPut H3 a y v H4 ∧ D.nx σ H4
section
variable {X : Cx} {o i e value : Expr} {pos pos' tpos : Pos} {td ty tv : TE}
theorem pe_dget (hu : X.A.units + 1 < cLine) (ho : PE X o td) (hi : PE X i ty) (hs : NoSl i) : PE X (.Subscript o i pos) (tDGet td ty) := by
  intro pins s σ H Q I h
  refine subD_of PySem.F.slot_dict_getitem.lookup hs (thn (ho pins s σ H _ I h) fun u s1 ⟨x, H1, I1, rx, q1⟩ => thn (hi pins s1 σ H1 _ I1 q1) fun iv s2 ⟨y, H2, I2, ry, a, v, ex, g, q2⟩ => ?_)
  subst ex
  obtain rfl : u = Value.ref a := rx
  exact ⟨dict_typeIs I2 g, d_getItem hu I2 g ry fun w' s3 I3 rw' => ⟨v, H2, I3, rw', q2⟩⟩
theorem ps_dput (hu : X.A.units + 1 < cLine) (ho : PE X o td) (hi : PE X i ty) (hv : PE X value tv) (hs : swapsWith value (some (.Subscript o i pos')) pos.line X.env = pure false) :
    PS X (.Assign [.Subscript o i pos'] value pos) (sDPut td ty tv) := by
  intro pins s σ H D I h
  refine wpAny_Assign_Subscript (thn (hv pins s σ H _ I h) fun r s1 ⟨v, H1, I1, rv, q1⟩ => thn (ho pins s1 σ H1 _ I1 q1) fun u s2 ⟨x, H2, I2, rx, q2⟩ => thn (hi pins s2 σ H2 _ I2 q2) fun iv s3 ⟨y, H3, I3, ry, a, H4, ex, g, q3⟩ => ?_) hs
  subst ex
  obtain rfl : u = Value.ref a := rx
  exact d_setItem hu I3 g ry rv fun s4 I4 => ⟨σ, H4, I4, q3⟩
end
theorem dk_empty {P : Program} {w : World} {H : Hp} (h : Heap) (hb : sysModules < h.objs.size) : ObjOk P w H (h.push { cls := .type "dict", data := .dict #[] }) h.objs.size (.dK []) :=
  ⟨Nat.zero_le _, beq_eq_false_iff_ne.mpr (Ne.symm (Nat.ne_of_lt hb)), [], .nil, Heap.DictOf.new h⟩
def tDNewK : TE := fun _ H Q => ∀ p, H p = none → Q (.ref p) (upd H p (.dK []))
section
variable {X : Cx} {pos : Pos}
theorem pe_dnewK : PE X (.Dict [] [] pos) tDNewK := fun pins s σ H Q I h =>
  wpAny_Dict_empty ⟨.ref s.heap.objs.size, _, I.laid (a := s.heap.objs.size) (o := .dK []) (t' := s.toks) (fun _ _ q => Heap.get?_push_of_some _ q) (Nat.le_refl _) (dk_empty s.heap I.big), rfl, h _ (I.hok.fresh (Nat.le_refl _))⟩
end
section
variable {X : Cx} {pins : List (Addr × Obj)} {σ : St} {H : Hp} {s : Shared} {a : Addr} {y d : V} {u r : Value} {o : Option V} {A : Around} {E : Value → Shared → Prop}
end
section
variable {X : Cx} {o e f : Expr} {apos cpos : Pos} {td ty tx : TE}
end
section
variable {X : Cx} {pins : List (Addr × Obj)} {σ : St} {H : Hp} {s : Shared} {a : Addr} {kvs : List (Key × V)} {A : Around} {E : Value → Shared → Prop}
end
section
variable {X : Cx} {pins : List (Addr × Obj)} {σ : St} {H : Hp} {s : Shared} {a : Addr} {y : V} {u : Value} {A : Around} {E : Value → Shared → Prop}
end
end L2
namespace Att
open PySem PySem.W PySem.Calls PyProof.Rows
theorem ints_of_wellAll {P : Params} {h : Heap} : ∀ (ns : List Int) (vs : List Value), WellAll P h vs (ns.map WData.int) → IntsAre vs ns := by
  intro ns
  induction ns with
  | nil =>
    intro vs w
    rw [List.map_nil] at w
    cases w
    exact .nil
  | cons n ns ih =>
    intro vs w
    rw [List.map_cons] at w
    cases w with
    | cons a b =>
      cases a
      exact .cons _ _ (ih _ b)
theorem script_of {l : OpenLaw} {n : Nat} (hn : l.most = some n) {P : Params} {h : Heap} {args : List WData} {vals : List Value}
    (hpre : l.row.toRowW.claim.pre args = true) (hwl : WellAll P h vals args) :
    ∃ a vs ns, vals = [Value.ref a] ∧ args = [WData.list (ns.map WData.int)] ∧ h.get? a = some { cls := .type "list", data := .seq vs.toArray } ∧ IntsAre vs ns ∧ ns.length ≤ n := by
  have hsh : WShape.hasAll [] args [.list .int] = true := (pre_splitW hpre).1
  have hc : l.pre.holds [] { args := args } = true := (pre_splitW hpre).2
  obtain ⟨d, r, rfl, h1, h2⟩ := hasAllW_cons hsh
  obtain rfl := hasAllW_nil h2
  obtain ⟨xs, rfl, h3⟩ := hasW_list h1
  obtain ⟨ns, rfl⟩ := items_int h3
  have hlen : ns.length ≤ n := by
    unfold OpenLaw.pre at hc
    have h4 : (WTm.not (.lt (.lit (.int (n : Int))) (.len (.arg 0)))).holds [] { args := [.list (ns.map .int)] } = true := by
      have h4 := (holds_andW hc).1
      rw [hn] at h4
      exact h4
    have h5 := condW_of h4 (w_not (w_lt w_lit (w_len_list (w_arg rfl))))
    rw [List.length_map] at h5
    refine Nat.le_of_not_lt fun q => ?_
    have q' : (n : Int) < ((ns.length : Nat) : Int) := by omega
    first
      | (rw [decide_eq_true q'] at h5; exact absurd h5 (by decide))
      | (simp at h5; omega)
  cases hwl with
  | cons w1 w2 =>
    cases w2
    cases w1 with
    | list ho hall => exact ⟨_, _, ns, rfl, rfl, ho, ints_of_wellAll ns _ hall, hlen⟩
theorem post_true (l : OpenLaw) (args : List WData) : l.row.toRowW.claim.post args (.bool true) args = true :=
  postW_of (r := l.row.toRowW) (X := (true == true))
    (show WShape.has [] (.bool true) .bool = true by first | rfl | decide | simp [WShape.has, WShape.arms, WShape.armsAll])
    (show (WTm.eq .res (.lit (.bool true))).value [] { args := args, res := some (.bool true), after := args } = some (.bool (true == true)) from w_eq_bool (w_res rfl) w_lit) rfl
theorem attach_call {l : OpenLaw} {n : Nat} {q : Program} {loose : List Str} {XP : (Str → Option Value) → Heap → Prop} {YP : World → Heap → Prop} {d : DefRec}
    (hn : l.most = some n) (hdf : d.params.defaults = [])
    (call : ∀ (w : World) (s₀ s₁ : Shared) (mg mb : Str → Option Value) (fa : Addr) (o : Obj) (pm cd doc : Value) (a : Addr) (vs : List Value) (ns : List Int),
      Ground q loose [] XP w s₀ mg mb s₁.heap → YP w s₁.heap →
      s₁.heap.get? fa = some o → o.data = .func (docDef d.name d.params d.body d.scope pm cd doc) → s₁.heap.CodeRec cd d.name → mg d.name = some (.ref fa) →
      s₁.heap.get? a = some { cls := .type "list", data := .seq vs.toArray } → IntsAre vs ns → ns.length ≤ n → s₁.gens = #[] →
      codeAny (model l.prog w) callerA (.call (.ref fa) ⟨[.ref a], []⟩) (fun r s' => r = .ok (.ret (.bool true)) ∧ OldK s₁.heap s'.heap ∧ s'.os = s₁.os ∧ AllBare s'.gens) s₁) :
    WalkO q loose XP YP l.row.toRowW d [] (fun f vs => PySem.call f vs) := by
  intro w s₀ s₁ mg mb G Y fa o pm cd doc dV kV ho hd hcd hD hmg hg args vals as hpre hlay hrd hwl hlo
  obtain rfl : dV = .none := Dflts.none hD hdf
  obtain rfl : kV = .none := Dflts.noKw hD
  obtain ⟨a, vs, ns, rfl, rfl, hobj, hints, hlen⟩ := script_of hn hpre hwl
  refine enter_call (codeAny_mono (call w s₀ s₁ mg mb fa o pm cd doc a vs ns G Y ho (fd_plain hd) hcd hmg hobj hints hlen hg) fun r s' hq => ?_)
  obtain ⟨rfl, h2, h3, h4⟩ := hq
  exact ⟨.inl ⟨.bool true, .bool true, [], rfl, fun _ => rfl, .bool true, post_true l _, fun _ => ⟨List.Pairwise.nil, fun _ hm => (nomatch hm)⟩⟩, h2, h3, h4⟩
section
variable {prog : Program} {w : World} {A : Around} {E : Value → Shared → Prop} {s : Shared} {K : Frag}
end
end Att
namespace L2
open PySem PySem.Spec PyProof.Rows
theorem vals_ints : ∀ {vs : List Value} {ns : List Int}, IntsAre vs ns → Vals (ns.map V.int) vs
  | _, _, .nil => .nil
  | _, _, .cons n t h => .cons ⟨t, rfl⟩ (vals_ints h)
def Only (H : Hp) : Prop := ∀ b, H b = none ∨ ∃ o xs, H b = some (.frz o (.lst xs))
theorem law_call {P : Program} {w : World} {K : PySem.W.Frag} {mg mb : Str → Option Value} {CX : CXT} {k : Nat} {fa a : Addr} {fd : FuncData} {x : Str} {sp : Sp} {s₁ : Shared} {vs : List Value} {ns : List Int}
    (KX : K.In s₁.heap) (hns : s₁.heap.Ns mainGlobals mg) (hb : s₁.heap.Ns builtinsNs mb) (hbb : ∀ x : Str, x ≠ "__name__" → mb x = bootBuiltins x) (hlim : s₁.heap.NoLimit) (hg : s₁.gens = #[])
    (ha : s₁.heap.get? a = some { cls := .type "list", data := .seq vs.toArray }) (hi : IntsAre vs ns) (hl : ns.length ≤ sizeLine) (hr : Room k callerA)
    (F : ∀ base : Heap, K.In base → base.Ns mainGlobals mg → FnOk P w K mg base CX k fa fd [x] sp) (hbind : ∀ (s : Shared) (u : Value), BindsTo s fd ⟨[u], []⟩ [(x, u)])
    (hsp : ∀ H : Hp, Only H → SqL K H a (ns.map V.int) → sp [.ref a] H (fun v _ => v = .bl true) fun _ _ _ => False)
    (hCX : ∀ H e s', CX [] H s₁ (fun _ _ _ => False) e s' → False) :
    codeAny (model P w) callerA (.call (.ref fa) ⟨[.ref a], []⟩) (fun r s' => r = .ok (.ret (.bool true)) ∧ OldK s₁.heap s'.heap ∧ s'.os = s₁.os ∧ AllBare s'.gens) s₁ := by
  have rv := vals_ints hi
  have lenV := hi.length
  -- from an abstract heap in which nothing but the script may be tracked
  have core : ∀ H : Hp, Only H → SqL K H a (ns.map V.int) → HOk P w H s₁.heap → (∀ b, H b ≠ none → b = a) → (H a ≠ none → K.lookup a = none) →
      codeAny (model P w) callerA (.call (.ref fa) ⟨[.ref a], []⟩) (fun r s' => r = .ok (.ret (.bool true)) ∧ OldK s₁.heap s'.heap ∧ s'.os = s₁.os ∧ AllBare s'.gens) s₁ := by
    intro H hO hS hok hA hK
    have base_of : ∀ {b : Addr} {o : Obj}, s₁.heap.get? b = some o → H b = none → (hidT s₁.heap H).get? b = some o := fun e n => hidT_get e n
    have noA : ∀ {b : Addr} {o : Obj} {es : Array DictEntry} {ep : Nat}, s₁.heap.get? b = some o → o.data = .dict es ep → H b = none := fun {b o es ep} e d => by
      cases q : H b with
      | none => rfl
      | some u =>
        have e' : b = a := hA b (by rw [q]; simp)
        subst e'
        rw [ha] at e; cases e
        have d' : Data.seq vs.toArray _ = Data.dict es ep := d
        cases d'
    have nsK : ∀ {b : Addr} {m : Str → Option Value}, s₁.heap.Ns b m → (hidT s₁.heap H).Ns b m := fun {b m} ⟨o, es, ep, e, d, r⟩ => ⟨o, es, ep, base_of e (noA e d), d, r⟩
    have hKb : K.In (hidT s₁.heap H) := fun b o e => base_of (KX b o e) (by
      cases q : H b with
      | none => rfl
      | some u =>
        have e' : b = a := hA b (by rw [q]; simp)
        subst e'
        rw [hK (by rw [q]; simp)] at e; cases e)
    have hM : Mod K mg (hidT s₁.heap H) := ⟨hKb, nsK hns, ⟨mb, nsK hb, hbb⟩, let ⟨mc, h1, h2⟩ := hlim; ⟨mc, nsK h1, h2⟩⟩
    have e0 : Env0 P w K mg (hidT s₁.heap H) callerA [] s₁ H := ⟨rfl, hM, fun b o e => of_hidT e, Nat.le_of_eq (hidT_size _ _), trivial, fun b hb => absurd (show b ∈ ([] : List Addr) from hb) (by simp), hok, .of_eq hg⟩
    refine codeAny_mono ((F _ hKb (nsK hns)).run callerA [] s₁ H ⟨[.ref a], []⟩ [.ref a] [.ref a] _ _ hr e0 (hbind s₁ (.ref a)) (.cons rfl .nil) (hsp H hO hS)) fun r s' h => ?_
    cases r with
    | error e => exact (hCX H e s' h).elim
    | ok fl =>
      cases fl with
      | next => exact False.elim h
      | brk => exact False.elim h
      | cont => exact False.elim h
      | ret u =>
        obtain ⟨v, H', os, bare, un, hok', r', q⟩ := h
        have q' : v = .bl true := q
        subst q'
        obtain rfl : u = Value.bool true := r'
        refine ⟨rfl, OldK.of_keep fun b o e => ?_, os, bare⟩
        cases q : H b with
        | none => exact un.keep b o e q (by intro z; exact absurd (show b ∈ ([] : List Addr) from z) (by simp)) (by simp)
        | some u =>
          rcases hO b with z | ⟨ob, xs, z⟩
          · rw [q] at z; cases z
          · have z2 := un.frzs b ob _ z
            obtain ⟨e1, _⟩ := hok b _ z
            obtain ⟨e2, _⟩ := hok' b _ z2
            rw [e] at e1; cases e1
            exact e2
  cases hk : K.lookup a with
  | some o =>
    -- the script is one of the module's own objects
    have e := KX a o hk
    rw [ha] at e
    cases e
    refine core (fun _ => none) (fun _ => .inl rfl) (.inr ⟨_, vs.toArray, _, hk, rfl, rfl, rfl, by rw [List.size_toArray, lenV]; exact hl, by simpa using rv⟩) (fun b u z => by have z' : (none : Option HO) = some u := z; cases z') (fun b z => absurd rfl z) fun z => absurd rfl z
  | none =>
    refine core (fun b => if b = a then some (.frz { cls := .type "list", data := .seq vs.toArray } (.lst (ns.map V.int))) else none) (fun b => ?_) (.inl (.inr ⟨{ cls := .type "list", data := .seq vs.toArray }, if_pos rfl⟩)) (fun b u z => ?_) (fun b z => ?_) fun _ => hk
    · by_cases hb : b = a
      · exact .inr ⟨_, _, if_pos hb⟩
      · exact .inl (if_neg hb)
    · by_cases hb : b = a
      · have z' := (if_pos hb).symm.trans z
        cases z'
        subst hb
        exact ⟨ha, by rw [List.length_map]; exact hl, vs, _, rv, ha⟩
      · have z' := (if_neg hb).symm.trans z
        cases z'
    · by_cases hb : b = a
      · exact hb
      · exact absurd (if_neg hb) z
end L2
namespace L2
open PySem PySem.Spec PyProof.Rows
theorem walk_of {l : PySem.W.OpenLaw} {n k : Nat} {q : Program} {loose : List Str} {XP : (Str → Option Value) → Heap → Prop} {YP : World → Heap → Prop} {d : DefRec} {K : Params → PySem.W.Frag} {CX : World → CXT} {sp : World → Sp} {x : Str}
    (hn : l.most = some n) (hn2 : n ≤ sizeLine) (hdf : d.params.defaults = []) (hr : Room k callerA)
    (hY : ∀ (w : World) (h : Heap), YP w h → (K w.params).In h)
    (F : ∀ (w : World) (mg : Str → Option Value) (fa : Addr) (h : Heap), (K w.params).In h → h.Ns mainGlobals mg → mg d.name = some (.ref fa) →
      ∃ fd : FuncData, (∀ (s : Shared) (u : Value), BindsTo s fd ⟨[u], []⟩ [(x, u)]) ∧
        ∀ base : Heap, (K w.params).In base → base.Ns mainGlobals mg → FnOk l.prog w (K w.params) mg base (CX w) k fa fd [x] (sp w))
    (hsp : ∀ (w : World) (H : Hp) (a : Addr) (ns : List Int), ns.length ≤ n → Only H → SqL (K w.params) H a (ns.map V.int) → sp w [.ref a] H (fun v _ => v = .bl true) fun _ _ _ => False)
    (hCX : ∀ (w : World) (H : Hp) (s : Shared) (e : Value) (s' : Shared), CX w [] H s (fun _ _ _ => False) e s' → False) :
    PySem.W.WalkO q loose XP YP l.row.toRowW d [] (fun f vs => PySem.call f vs) := by
  refine Att.attach_call hn hdf fun w s₀ s₁ mg mb fa o pm cd doc a vs ns G Y ho hd hcd hmg hobj hints hlen hg => ?_
  have KX := hY w _ Y
  obtain ⟨fd, hb, hF⟩ := F w mg fa _ KX G.T.g hmg
  exact law_call KX G.T.g G.T.b G.T.builtins G.T.nolimit hg hobj hints (Nat.le_trans hlen hn2) hr hF hb (fun H hO hS => hsp w H a ns hlen hO hS) fun H e s' => hCX w H s₁ e s'
end L2
namespace L2
open PySem PySem.Spec PyProof.Rows
def defArgs (s : Stmt) : Arguments := match s with
  | .FunctionDef _ a _ _ _ _ _ _ _ _ => a
  | _ => { posonlyargs := [], args := [], vararg := none, kwonlyargs := [], kw_defaults := [], kwarg := none, defaults := [] }
def defBody (s : Stmt) : List Stmt := match s with
  | .FunctionDef _ _ b _ _ _ _ _ _ _ => b
  | _ => []
def defScope (s : Stmt) : Scope := match s with
  | .FunctionDef _ _ _ _ _ _ sc _ _ _ => sc
  | _ => { kind := .function, names := [], isGenerator := false, isCoroutine := false }
abbrev CX0 : CXT := fun _ _ _ _ _ _ => False
abbrev E0 : XK := fun _ _ _ => False
theorem pass0 {X : Cx} : Passes CX0 X E0 := fun _ _ _ _ _ _ _ h => h.elim
structure Fun (K : PySem.W.Frag) (x qual : Str) (st : Stmt) (f : Addr) (fd : FuncData) : Prop where
  ex : ∃ (oc : Value) (od : Option Addr) (kV doc pm : Value) (an : Option Addr) (cdv ct : Value) (osl : Array (Option Value)),
    fd = PySem.W.fnOf x qual (defArgs st) (defBody st) (defScope st) .none kV doc pm an cdv ct ∧ K.lookup f = some ⟨oc, od, .func fd, osl⟩ ∧ PySem.W.codeIn K cdv qual = true
  kp : PySem.W.keepIn K (.ref f) = true
section
variable {P : Program} {w : World} {K : PySem.W.Frag} {mg : Str → Option Value} {base : Heap}
theorem Fun.ok {x qual : Str} {st : Stmt} {f : Addr} {fd : FuncData} {N ps : List Str} {k : Nat} {sp : Sp} (F : Fun K x qual st f fd) (S : FnScope N ps (defScope st)) (len : ∀ vs H Q E, sp vs H Q E → vs.length = ps.length)
    (hbody : ∀ (cdv : Value) (A : Around) (outer : List Env) (s : Shared) (H : Hp) (vs : List V) (Q : VK) (E : XK), Room k (A.deeper (envOfC qual (defScope st) s.heap.objs.size f cdv)) → sp vs H Q E →
      ∃ t, PSs (cxOf CX0 P w K mg base N qual (defScope st) f cdv A outer s H E).nox (defBody st) t ∧ t { nx := fun _ H' => Q .non H', rt := Q } (start N vs) H) : FnOk P w K mg base CX0 (k + 1) f fd ps sp := by
  obtain ⟨oc, od, kV, doc, pm, an, cdv, ct, osl, rfl, lk, hcd⟩ := F.ex
  refine fn_of lk hcd S len fun A outer s H vs Q E hr hsp => ?_
  obtain ⟨t, h, q⟩ := hbody cdv A outer s H vs Q E hr hsp
  exact ⟨t, h.nox, q⟩
theorem Fun.binds {x qual : Str} {st : Stmt} {f : Addr} {fd : FuncData} {ps : List Str} (F : Fun K x qual st f fd)
    (h : ∀ (kV doc pm : Value) (an : Option Addr) (cdv ct : Value) (us : List Value), us.length = ps.length → bindArgs (PySem.W.fnOf x qual (defArgs st) (defBody st) (defScope st) .none kV doc pm an cdv ct) ⟨us, []⟩ = pure (ps.zip us)) : Binds K fd ps [] := by
  obtain ⟨oc, od, kV, doc, pm, an, cdv, ct, osl, rfl, lk, hcd⟩ := F.ex
  exact .all (h kV doc pm an cdv ct)
theorem fun_mk {x qual : Str} {st : Stmt} {f : Addr} {oc : Value} {od an : Option Addr} {osl : Array (Option Value)} {kV doc pm cdv ct : Value} (l : K.lookup f = some ⟨oc, od, .func (PySem.W.fnOf x qual (defArgs st) (defBody st) (defScope st) .none kV doc pm an cdv ct), osl⟩)
    (c : PySem.W.codeIn K cdv qual = true) (k : PySem.W.keepIn K (.ref f) = true) : Fun K x qual st f (PySem.W.fnOf x qual (defArgs st) (defBody st) (defScope st) .none kV doc pm an cdv ct) := ⟨⟨oc, od, kV, doc, pm, an, cdv, ct, osl, rfl, l, c⟩, k⟩
end
theorem hu_of {A : Around} {k : Nat} (hr : Room k A) : A.units + 1 < cLine := Nat.lt_of_le_of_lt (Nat.add_le_add_left (by decide : 1 ≤ 64) _) hr.units
theorem small1000 {n : Nat} (h : n ≤ 1000) : n < sizeLine := Nat.lt_of_le_of_lt h (by decide)
section
variable {X : Cx}
end
theorem iteF {A B : Prop} (h : B) : if false = true then A else B := by
  rw [if_neg Bool.false_ne_true]
  exact h
theorem iteT {A B : Prop} (h : A) : if true = true then A else B := by
  rw [if_pos rfl]
  exact h
theorem ite2 {c A B : Prop} [Decidable c] (h1 : c → A) (h2 : ¬ c → B) : if c then A else B := by
  by_cases h : c
  · rw [if_pos h]
    exact h1 h
  · rw [if_neg h]
    exact h2 h
def Same (H H' : Hp) : Prop := ∀ b o, H b = some o → H' b = some o
theorem Same.refl (H : Hp) : Same H H := fun _ _ h => h
theorem Same.trans {H H1 H2 : Hp} (a : Same H H1) (b : Same H1 H2) : Same H H2 := fun c o h => b c o (a c o h)
theorem Same.free {H H' : Hp} (e : Same H H') {l : Addr} (h : H' l = Option.none) : H l = Option.none := by
  cases q : H l with
  | none => rfl
  | some o =>
    rw [e l o q] at h
    cases h
section
variable {κ : Type} [DecidableEq κ]
end
end L2
set_option maxRecDepth 100000
namespace L2
open PySem PySem.Spec PyProof.Rows
theorem closure_go {env : Env} : ∀ (names : List (Str × NameKind)) (acc : List (Str × Addr)),
    (∀ y ∈ names, y.2 = .free → ∃ c, env.cells.lookup y.1 = some c) → (∀ x c, acc.lookup x = some c → env.cells.lookup x = some c) →
    ∃ cl, (forIn names acc fun (x : Str × NameKind) cs => (if (x.2 == NameKind.free) = true then (do let c ← cellOf env x.1; pure (ForInStep.yield ((x.1, c) :: cs))) else pure (ForInStep.yield cs) : Sem (ForInStep (List (Str × Addr))))) = pure cl ∧
      (∀ x c, cl.lookup x = some c → env.cells.lookup x = some c) ∧ (∀ y ∈ names, y.2 = .free → ∃ c, cl.lookup y.1 = some c) ∧ (∀ x c, acc.lookup x = some c → ∃ c, cl.lookup x = some c)
  | [], acc, _, ha => ⟨acc, rfl, ha, (fun _ h => nomatch h), fun x c h => ⟨c, h⟩⟩
  | (n, k) :: r, acc, h, ha => by
    rw [List.forIn_cons]
    by_cases hk : k = .free
    · obtain ⟨c, hc⟩ := h (n, k) List.mem_cons_self hk
      have hc' : cellOf env n = pure c := by unfold cellOf; rw [show env.cells.lookup n = some c from hc]
      have ha2 : ∀ x d, ((n, c) :: acc).lookup x = some d → env.cells.lookup x = some d := fun x d hx => by
        rw [List.lookup_cons] at hx
        cases e : x == n with
        | true => rw [e] at hx; cases hx; rw [eq_of_beq e]; exact hc
        | false => rw [e] at hx; exact ha x d hx
      obtain ⟨cl, e, h1, h2, h3⟩ := closure_go r ((n, c) :: acc) (fun y hy => h y (List.mem_cons_of_mem _ hy)) ha2
      refine ⟨cl, ?_, h1, fun y hy hf => ?_, fun x d hx => ?_⟩
      · have hk' : (k == NameKind.free) = true := by rw [hk]; rfl
        simp only [hk', if_true, hc', pure_bind]
        exact e
      · rcases List.mem_cons.mp hy with z | hy
        · rw [z]; exact h3 n c (by simp [List.lookup_cons])
        · exact h2 y hy hf
      · cases e2 : x == n with
        | true => exact h3 x c (by simp [List.lookup_cons, e2])
        | false => exact h3 x d (by simp [List.lookup_cons, e2, hx])
    · have hk' : (k == NameKind.free) = false := by simpa using hk
      obtain ⟨cl, e, h1, h2, h3⟩ := closure_go r acc (fun y hy => h y (List.mem_cons_of_mem _ hy)) ha
      refine ⟨cl, ?_, h1, fun y hy hf => ?_, h3⟩
      · simp only [hk', Bool.false_eq_true, if_false, pure_bind]
        exact e
      · rcases List.mem_cons.mp hy with z | hy
        · rw [z] at hf; exact absurd hf hk
        · exact h2 y hy hf
theorem closure_ok {sc : Scope} {env : Env} (h : ∀ y ∈ sc.names, y.2 = .free → ∃ c, env.cells.lookup y.1 = some c) :
    ∃ cl, closureFor sc env = pure cl ∧ (∀ x c, cl.lookup x = some c → env.cells.lookup x = some c) ∧ (∀ y ∈ sc.names, y.2 = .free → ∃ c, cl.lookup y.1 = some c) := by
  obtain ⟨cl, e, h1, h2, _⟩ := closure_go (env := env) sc.names [] h (fun _ _ h => nomatch h)
  refine ⟨cl, ?_, h1, h2⟩
  unfold closureFor
  have e' : (forIn sc.names ([] : List (Str × Addr)) fun (x : Str × NameKind) cs => (if (x.2 == NameKind.free) = true then (do let c ← cellOf env x.1; pure (ForInStep.yield ((x.1, c) :: cs))) else pure (ForInStep.yield cs) : Sem (ForInStep (List (Str × Addr))))) >>= (fun cs => (pure cs : Sem _)) = pure cl := by rw [e]; rfl
  exact e'
theorem lookup_relabel_free {env : Env} : ∀ {names : List (Str × NameKind)} {x : Str}, names.lookup x = some .free →
    (names.map fun (n, k) => if (k == NameKind.free && env.scope.kind == .function && env.kindOf n == some .cell) then (n, NameKind.cell) else (n, k)).lookup x = some .cell ∨
    (names.map fun (n, k) => if (k == NameKind.free && env.scope.kind == .function && env.kindOf n == some .cell) then (n, NameKind.cell) else (n, k)).lookup x = some .free
  | [], _, h => by simp at h
  | (n, k) :: r, x, h => by
    have ih := @lookup_relabel_free env r x
    show List.lookup x ((if (k == NameKind.free && env.scope.kind == .function && env.kindOf n == some .cell) = true then (n, NameKind.cell) else (n, k)) :: _) = _ ∨ List.lookup x ((if (k == NameKind.free && env.scope.kind == .function && env.kindOf n == some .cell) = true then (n, NameKind.cell) else (n, k)) :: _) = _
    cases hx : x == n with
    | true =>
      simp only [List.lookup_cons, hx] at h
      cases h
      by_cases hc : (NameKind.free == NameKind.free && env.scope.kind == .function && env.kindOf n == some .cell) = true
      · rw [if_pos hc]; simp [List.lookup_cons, hx]
      · rw [if_neg hc]; simp [List.lookup_cons, hx]
    | false =>
      simp only [List.lookup_cons, hx] at h
      by_cases hc : (k == NameKind.free && env.scope.kind == .function && env.kindOf n == some .cell) = true
      · rw [if_pos hc]; simp only [List.lookup_cons, hx]; exact ih h
      · rw [if_neg hc]; simp only [List.lookup_cons, hx]; exact ih h
theorem mem_relabel {env : Env} {names : List (Str × NameKind)} {x : Str} {k : NameKind}
    (h : (names.map fun (n, k) => if (k == NameKind.free && env.scope.kind == .function && env.kindOf n == some .cell) then (n, NameKind.cell) else (n, k)).lookup x = some k) (hk : k = .cell ∨ k = .free) (hc : ∀ y ∈ names, y.2 ≠ .cell) : (x, NameKind.free) ∈ names := by
  have hm := PySem.mem_of_lookup h
  obtain ⟨⟨n, k'⟩, h1, h2⟩ := List.mem_map.mp hm
  dsimp only at h2
  split at h2
  · next hh =>
    cases h2
    have : k' = .free := by
      simp only [Bool.and_eq_true, beq_iff_eq] at hh
      exact hh.1.1
    rw [← this]; exact h1
  · cases h2
    rcases hk with z | z
    · exact absurd z (hc _ h1)
    · rw [← z]; exact h1
abbrev cxComp (X : Cx) (N' : List Str) (sc : Scope) (cl : List (Str × Addr)) (C : Addr) (s3 : Shared) (H0 : Hp) (fp : List Addr) (pn : List (Addr × Obj)) : Cx where
  prog := X.prog
  w := X.w
  K := X.K
  mg := X.mg
  base := X.base
  A := X.A
  N := N'
  s₀ := s3
  H₀ := H0
  env := compEnvC sc cl C X.env
  outer := X.stack
  stack := X.stack
  ex := fp
  fn := fun _ => false
  calm := X.calm
  pn := pn
  xe := fun _ _ => False
structure CScope (osc : Scope) (oN : List Str) (sc : Scope) (own : List Str) (idx : List Nat) (N' : List Str) : Prop where
  kind : sc.kind = .function
  cell : ∀ y ∈ sc.names, y.2 ≠ .cell
  names : ∀ y ∈ sc.names, y.2 = .local → sc.names.lookup y.1 = some .local
  free : ∀ y ∈ sc.names, y.2 = .free → (osc.names.lookup y.1 = some .cell ∨ osc.names.lookup y.1 = some .free)
  seen : ∀ j ∈ idx, sc.names.lookup (oN.getD j "") = some .free ∧ j < oN.length
  nn : N' = own ++ idx.map (fun j => oN.getD j "")
def stIn (own : List Str) (idx : List Nat) (σ : St) : St := List.replicate own.length none ++ idx.map fun j => (σ[j]?).join
section
variable {X : Cx} {pins : List (Addr × Obj)} {σ : St} {H2 : Hp} {s2 : Shared}
theorem inv_comp {sc : Scope} {own : List Str} {idx : List Nat} {N' : List Str} {cl : List (Str × Addr)} {fp : List Addr} {h4 : Heap} {ob : Obj} {ho : HO} {t4 : Nat} (S : CScope X.env.scope X.N sc own idx N') (I : Inv X pins σ H2 s2) (hf : ∀ b ∈ fp, FpOk X pins H2 b) (hfo : ∀ b ∈ fp, ∃ o, s2.heap.get? b = some o)
    (c1 : ∀ x c, cl.lookup x = some c → X.env.cells.lookup x = some c) (c2 : ∀ y ∈ sc.names, y.2 = .free → ∃ c, cl.lookup y.1 = some c) (hob : ob.isFreed = false)
    (hD : ∀ (H : Hp) (h : Heap), h.get? s2.heap.objs.size = some ob → ObjOk X.prog X.w H h s2.heap.objs.size ho)
    (ns : h4.Ns (s2.heap.push ob).objs.size (fun x => ([] : List (Str × Value)).reverse.lookup x)) (sb : ∀ b o, (s2.heap.push ob).get? b = some o → h4.get? b = some o) :
    Inv (cxComp X N' sc cl (s2.heap.push ob).objs.size { s2 with heap := s2.heap.push ob } (upd H2 s2.heap.objs.size ho) fp (X.pn ++ pins)) [] (stIn own idx σ) (upd H2 s2.heap.objs.size ho) { s2 with heap := h4, toks := t4 } := by
  have hsz : (s2.heap.push ob).objs.size = s2.heap.objs.size + 1 := Heap.size_push _ _
  have fr2 : H2 s2.heap.objs.size = none := I.hok.fresh (Nat.le_refl _)
  have up : ∀ b o, s2.heap.get? b = some o → (s2.heap.push ob).get? b = some o := fun b o e => Heap.get?_push_of_some _ e
  have up4 : ∀ b o, s2.heap.get? b = some o → h4.get? b = some o := fun b o e => sb b o (up b o e)
  have ltD : ∀ b o, s2.heap.get? b = some o → b ≠ s2.heap.objs.size := fun b o e => Nat.ne_of_lt (Heap.lt_size e)
  have nh : ∀ b o, s2.heap.get? b = some o → H2 b = none → upd H2 s2.heap.objs.size ho b = none := fun b o e n => by rw [upd_ne (ltD b o e)]; exact n
  have stkO : ∀ b ∈ frs X.stack, ∃ o, s2.heap.get? b = some o := fun b hb => by
    obtain ⟨_, o, ho, _⟩ := I.stack.mem hb
    exact ⟨o, ho⟩
  have cellO : ∀ x c, cl.lookup x = some c → ∃ o, s2.heap.get? c = some o := fun x c e => by
    obtain ⟨v, o, ho, _⟩ := I.cell x c (c1 x c e)
    exact ⟨o, ho⟩
  have eD : (s2.heap.push ob).get? s2.heap.objs.size = some ob := Heap.get?_push_size s2.heap hob
  have hok3 : HOk X.prog X.w (upd H2 s2.heap.objs.size ho) h4 := I.hok.laid up4 (Nat.le_refl _) (hD _ _ (sb _ _ eD))
  refine ⟨⟨I.ok.mod, S.kind, I.ok.glob, I.ok.blt, Nat.le_refl _, fun x y c h1 h2 => I.ok.inj x y c (c1 x c h1) (c1 y c h2), fun x hx => ?_, (fun x c hx _ => nomatch hx), I.ok.hd, I.ok.frames, .inl rfl, fun b hb => ⟨?_, fun x c e => ?_⟩, fun b o e => ⟨?_, ?_⟩, ?_, fun b o e hb => ?_, fun b hb => ?_, ?_, fun b hb => ?_⟩,
    rfl, I.bare, Un.kept sb, ⟨_, ns, fun i x v h1 h2 h3 => ?_⟩, fun x c e => ?_, ?_, fun x c e => ?_, fun p hp => ?_, hok3, ?_⟩
  · rcases hx with hx | hx
    · exact c2 (x, .free) (mem_relabel hx (.inl rfl) S.cell) rfl
    · exact c2 (x, .free) (mem_relabel hx (.inr rfl) S.cell) rfl
  · obtain ⟨o, e⟩ := hfo b hb
    have := Heap.lt_size e
    show b ≠ (s2.heap.push ob).objs.size
    rw [hsz]; exact Nat.ne_of_lt (Nat.lt_succ_of_lt this)
  · exact (hf b hb).2.2.2.2.1 x c (c1 x c e)
  · exact up b o (I.bk b o e)
  · exact nh b o (I.bk b o e) (I.bs b o e).2
  · show X.base.objs.size ≤ (s2.heap.push ob).objs.size
    have := Nat.le_trans I.ok.bsz I.sz
    rw [hsz]; omega
  · obtain ⟨f0, f1, f2, f3, f4, f5⟩ := hf b hb
    rcases f3 with z | z
    · exact I.ok.noex b o e z
    · exact absurd (Heap.lt_size e) (Nat.not_lt.mpr (Nat.le_trans I.ok.bsz z))
  · obtain ⟨f0, f1, f2, f3, f4, f5⟩ := hf b hb
    intro z
    rcases List.mem_cons.mp (I.stkSub b z) with z | z
    · exact f1 z
    · exact f2 z
  · exact Heap.FunFrames.of_keeps (fun b o e _ => ⟨o, up b o e, rfl⟩) I.stack
  · obtain ⟨o, e⟩ := stkO b hb
    exact nh b o e (I.stkFree b hb)
  · unfold stIn at h2
    by_cases hi : i < own.length
    · rw [List.getElem?_append_left (by simpa using hi), List.getElem?_replicate, if_pos hi] at h2
      cases h2
    · rw [List.getElem?_append_right (by simpa using hi), List.length_replicate, List.getElem?_map] at h2
      have h1' : N'[i]? = some x := h1
      rw [S.nn, List.getElem?_append_right (by simpa using hi), List.getElem?_map] at h1'
      cases ej : idx[i - own.length]? with
      | none => rw [ej] at h1'; cases h1'
      | some j =>
        rw [ej] at h1' h2
        obtain ⟨hs1, hs2⟩ := S.seen j (List.mem_of_getElem? ej)
        have hx : X.N[j]? = some x := by
          have : X.N.getD j "" = x := Option.some.inj h1'
          rw [← this, List.getD_eq_getElem?_getD, List.getElem?_eq_getElem hs2]; rfl
        have hv : σ[j]? = some (some v) := by
          have h2' : (σ[j]?).join = some v := Option.some.inj h2
          cases q : σ[j]? with
          | none => rw [q] at h2'; cases h2'
          | some w => rw [q] at h2'; exact congrArg some h2'
        have hsx : sc.names.lookup x = some .free := by
          have : X.N.getD j "" = x := Option.some.inj h1'
          rw [← this]; exact hs1
        have hmem : (x, NameKind.free) ∈ sc.names := PySem.mem_of_lookup hsx
        obtain ⟨m, hn, hl⟩ := I.loc
        have hvis : Vis X.env.scope x := by
          rcases S.free _ hmem rfl with z | z
          · exact .inr (.inl z)
          · exact .inr (.inr z)
        obtain ⟨u, r, lk⟩ := hl j x v hx hv hvis
        refine ⟨u, r, ?_⟩
        rcases lk with ⟨k, _⟩ | ⟨k, c, e, z⟩
        · rcases S.free _ hmem rfl with q | q
          · have q' : X.env.kindOf x = some .cell := q
            rw [q'] at k; cases k
          · have q' : X.env.kindOf x = some .free := q
            rw [q'] at k; cases k
        · obtain ⟨c', hc'⟩ := c2 (x, .free) hmem rfl
          have e' := c1 x c' hc'
          rw [e] at e'
          cases e'
          refine .inr ⟨?_, c, hc', ?_⟩
          · rcases lookup_relabel_free (env := X.env) hsx with q | q
            · exact .inl q
            · exact .inr q
          · obtain ⟨o, ho', hd⟩ := z
            exact ⟨o, up4 c o ho', hd⟩
  · obtain ⟨v, o, ho', hd⟩ := I.cell x c (c1 x c e)
    exact ⟨v, o, up4 c o ho', hd⟩
  · show upd H2 s2.heap.objs.size ho (s2.heap.push ob).objs.size = none
    rw [upd_ne (by rw [hsz]; exact Nat.ne_of_gt (Nat.lt_succ_self _))]
    exact I.hok.fresh (by rw [hsz]; omega)
  · obtain ⟨o, e1⟩ := cellO x c e
    exact nh c o e1 (I.freeC x c (c1 x c e))
  · have hp' : p ∈ X.pn ++ pins := by simpa using hp
    obtain ⟨e, n, ne, nf, d⟩ := I.pin p hp'
    refine ⟨up4 _ _ e, nh _ _ e n, ?_, fun z => ?_, d⟩
    · have := Heap.lt_size e
      show p.1 ≠ (s2.heap.push ob).objs.size
      rw [hsz]; exact Nat.ne_of_lt (Nat.lt_succ_of_lt this)
    · rcases List.mem_cons.mp (I.stkSub p.1 z) with z | z
      · exact ne z
      · exact nf z
  · show (stIn own idx σ).length = N'.length
    rw [S.nn]; unfold stIn
    simp
theorem comp_back {sc : Scope} {N' : List Str} {cl : List (Str × Addr)} {fp : List Addr} {ob : Obj} {ho : HO} {τ : St} {H' : Hp} {s' : Shared} (I : Inv X pins σ H2 s2) (hf : ∀ b ∈ fp, FpOk X pins H2 b) (hob : ob.isFreed = false)
    (J : Inv (cxComp X N' sc cl (s2.heap.push ob).objs.size { s2 with heap := s2.heap.push ob } (upd H2 s2.heap.objs.size ho) fp (X.pn ++ pins)) [] τ H' s') :
    Inv X pins σ H' s' ∧ H' (s2.heap.push ob).objs.size = none ∧ (s2.heap.push ob).objs.size ≠ X.env.locals ∧ X.s₀.heap.objs.size ≤ (s2.heap.push ob).objs.size ∧
      (∀ x c, X.env.cells.lookup x = some c → c ≠ (s2.heap.push ob).objs.size) ∧ (∀ p ∈ X.pn ++ pins, p.1 ≠ (s2.heap.push ob).objs.size) ∧ ∃ m, s'.heap.Ns (s2.heap.push ob).objs.size m := by
  have hsz : (s2.heap.push ob).objs.size = s2.heap.objs.size + 1 := Heap.size_push _ _
  have u1 : Un (frs X.stack) fp H2 (upd H2 s2.heap.objs.size ho) s2.heap (s2.heap.push ob) := Un.laid (fun b o e => Heap.get?_push_of_some _ e) (Nat.le_refl _) (I.hok.fresh (Nat.le_refl _))
  have u2 : Un (frs X.stack) fp (upd H2 s2.heap.objs.size ho) H' (s2.heap.push ob) s'.heap := J.base
  have hos : s'.os = s2.os := J.os
  refine ⟨I.call' hos (u1.trans u2) J.hok J.bare fun b hb => ?_, J.free, ?_, ?_, fun x c e z => ?_, fun p hp z => ?_, let ⟨m, hn, _⟩ := J.loc; ⟨m, hn⟩⟩
  · obtain ⟨f0, f1, f2, f3, f4, f5⟩ := hf b hb
    exact ⟨f3, f1, f4, f5⟩
  · rw [hsz]; exact Nat.ne_of_gt (Nat.lt_succ_of_lt I.lt)
  · have := I.sz; rw [hsz]; omega
  · obtain ⟨v, q⟩ := I.cell x c e
    have := q.lt
    rw [z, hsz] at this; exact absurd this (Nat.not_lt.mpr (Nat.le_succ _))
  · have := Heap.lt_size (I.pin p hp).1
    rw [z, hsz] at this; exact absurd this (Nat.not_lt.mpr (Nat.le_succ _))
end
section
variable {prog : Program} {w : World} {A : Around} {R : Result → Shared → Prop} {s : Shared}
abbrev NoE : Value → Shared → Prop := fun _ _ => False
theorem compLoopG {elt target iter : Expr} {ifs : List Expr} {scope : Scope} {pos : Pos} {it acc : Value} {env : Env} (I : Nat → Shared → Prop)
    (turn : ∀ n s, I n s → wpAny (model prog w) A (pyNext it) (fun r s₁ => match r with
      | none => R (.ok .next) s₁
      | some v => wpAny (model prog w) A (letOwnedTupleGo target it v) (fun _ s₁' => wpAny (model prog w) A (assign target env v) (fun _ s₂ =>
          wpAny (model prog w) A (forIn ifs true fun c r => if r = true then do let ok ← isTrue c env (eval c env); pure (ForInStep.yield ok) else pure (ForInStep.yield r)) (fun ok s₃ =>
            if ok = true then wpAny (model prog w) A (eval elt env) (fun x s₄ =>
              wpAny (model prog w) A (call (.builtin "list.append") [acc, x]) (fun _ s₅ => ∃ m, m < n ∧ I m s₅) NoE s₄) NoE s₃
            else ∃ m, m < n ∧ I m s₃) NoE s₂) NoE s₁') NoE s₁) NoE s)
    (n : Nat) (h : I n s) :
    codeAny (model prog w) A (.compLoop (.ListComp elt [⟨target, iter, ifs, 0⟩] scope pos) 0 it acc env) R s := by
  refine codeAny_loop rfl I (fun n s hI => ?_) n h
  show wpAny _ A ((compTurn (.ListComp elt [⟨target, iter, ifs, 0⟩] scope pos) 0 it acc env).onRaise (fun x => do noteFrame x env; theTreesLotGoes x)) _ _ s
  refine wpAny_noted ?_
  rw [compTurn_list]
  refine wpAny_bind (wpAny_standAt (wpAny_bind (wpAny_mono (turn n s hI) (fun r s₁ h₁ => ?_) fun _ _ h' => h'.elim)))
  cases r with
  | none => exact wpAny_pure h₁
  | some v =>
    refine wpAny_bind (wpAny_mono h₁ (fun _ s₁' h₁' => ?_) fun _ _ h' => h'.elim)
    refine wpAny_bind (wpAny_mono h₁' (fun _ s₂ h₂ => wpAny_bind (wpAny_mono h₂ (fun ok s₃ h₃ => ?_) fun _ _ h' => h'.elim)) fun _ _ h' => h'.elim)
    cases ok with
    | false => exact wpAny_pure ⟨rfl, h₃⟩
    | true =>
      exact wpAny_bind (wpAny_bind (wpAny_mono h₃ (fun x s₄ h₄ => wpAny_bind (wpAny_mono h₄ (fun _ s₅ h₅ => wpAny_pure (wpAny_pure ⟨rfl, h₅⟩)) fun _ _ h' => h'.elim)) fun _ _ h' => h'.elim))
end
abbrev TC := St → Hp → (Bool → Hp → Prop) → Prop
def PC' (X : Cx) (ifs : List Expr) (t : TC) : Prop :=
  ∀ (pins : List (Addr × Obj)) (s : Shared) (σ : St) (H : Hp) (Q : Bool → Hp → Prop), Inv X pins σ H s → t σ H Q →
    wpAny (model X.prog X.w) X.A (forIn ifs true fun c r => if r = true then do let ok ← isTrue c X.env (eval c X.env); pure (ForInStep.yield ok) else pure (ForInStep.yield r)) (TP X pins σ Q) X.xe s
def tcNil : TC := fun _ H Q => Q true H
theorem pc_nil' {X : Cx} : PC' X [] tcNil := fun pins s σ H Q I h => wpAny_pure ⟨H, I, h⟩
theorem pc_one' {X : Cx} {c : Expr} {t : TT} (h : PT X c t) : PC' X [c] t := fun pins s σ H Q I hq => wpAny_tests_one (h pins s σ H Q I hq)
def tLC (own : List Str) (idx : List Nat) (wi : TI) (g : TG) (tc : TC) (te : TE) : TE := fun σ H Q => wi σ H fun J H1 => ∀ D, H1 D = none → ∃ W : Nat → Nat → St → Hp → Prop, (∃ m, W 0 m (stIn own idx σ) (upd H1 D (.lst []))) ∧ ∀ i m τ H, W i m τ H →
  (J.stop i H ∧ Q (.ref D) H) ∨ (J.go i H ∧ ∃ N : St → Hp → Prop, (∀ τ' H', N τ' H' → ∃ m', m' < m ∧ W (i + 1) m' τ' H') ∧ ∀ x H', J.yld i H x H' → g x τ H' fun τ2 H2 => tc τ2 H2 fun b H3 =>
    if b = true then te τ2 H3 fun y H4 => ∃ xs, H4 D = some (.lst xs) ∧ xs.length < sizeLine ∧ N τ2 (upd H4 D (.lst (xs ++ [y]))) else N τ2 H3)
section
variable {X : Cx} {tg iter elt : Expr} {ifs : List Expr} {sc : Scope} {pos : Pos} {own : List Str} {idx : List Nat} {N' : List Str} {wi : TI} {g : TG} {tc : TC} {te : TE}
abbrev lob : Obj := { cls := .type "list", dict := none, data := .seq ([] : List Value).toArray }
theorem comp_block (S : CScope X.env.scope X.N sc own idx N') {cl : List (Str × Addr)} (c1 : ∀ x c, cl.lookup x = some c → X.env.cells.lookup x = some c) (c2 : ∀ y ∈ sc.names, y.2 = .free → ∃ c, cl.lookup y.1 = some c) (hc : X.calm = true)
    (hg : ∀ cl C s3 H0 fp pn, PG (cxComp X N' sc cl C s3 H0 fp pn) tg g) (ht : ∀ cl C s3 H0 fp pn, PC' (cxComp X N' sc cl C s3 H0 fp pn) ifs tc) (he : ∀ cl C s3 H0 fp pn, PE (cxComp X N' sc cl C s3 H0 fp pn) elt te)
    {pins : List (Addr × Obj)} {σ : St} {Q : VK} {itv : Value} {s2 : Shared} {RR : Value → Addr → Result → Shared → Prop} {E : Value → Shared → Prop}
    (hI : PIE X pins σ tg (fun J H1 => ∀ D, H1 D = none → ∃ W : Nat → Nat → St → Hp → Prop, (∃ m, W 0 m (stIn own idx σ) (upd H1 D (.lst []))) ∧ ∀ i m τ H, W i m τ H →
      (J.stop i H ∧ Q (.ref D) H) ∨ (J.go i H ∧ ∃ N : St → Hp → Prop, (∀ τ' H', N τ' H' → ∃ m', m' < m ∧ W (i + 1) m' τ' H') ∧ ∀ x H', J.yld i H x H' → g x τ H' fun τ2 H2 => tc τ2 H2 fun b H3 =>
        if b = true then te τ2 H3 fun y H4 => ∃ xs, H4 D = some (.lst xs) ∧ xs.length < sizeLine ∧ N τ2 (upd H4 D (.lst (xs ++ [y]))) else N τ2 H3)) itv s2)
    (hRR : ∀ D C H' s', Inv X pins σ H' s' → Q (.ref D) H' → (H' C = none ∧ C ≠ X.env.locals ∧ X.s₀.heap.objs.size ≤ C ∧ (∀ x c, X.env.cells.lookup x = some c → c ≠ C) ∧ (∀ p ∈ X.pn ++ pins, p.1 ≠ C) ∧ ∃ m, s'.heap.Ns C m) → RR (.ref D) C (.ok .next) s') :
    wpAny (model X.prog X.w) X.A (newList []) (fun acc s₃ => wpAny (model X.prog X.w) X.A (newFunctionEnv sc X.env.globals cl [] X.env.qual none .none (some X.env)) (fun cenv s₄ =>
      codeAny (model X.prog X.w) X.A (.compStart (.ListComp elt [⟨tg, iter, ifs, 0⟩] sc pos) 0 itv acc { cenv with scope := relabel sc X.env }) (RR acc cenv.locals) s₄) E s₃) E s2 := by
  obtain ⟨it, fp, tn, J, H2, rfl, I, T, st2, f2, body⟩ := hI
  refine wpAny_newObj_type (wpAny_newFunctionEnv S.cell (by intro y hy; simp at hy) (fun h4 ns sb => ?_) S.kind)
  dsimp only at ns sb ⊢
  have hob : lob.isFreed = false := rfl
  have fr : H2 s2.heap.objs.size = none := I.hok.fresh (Nat.le_refl _)
  obtain ⟨W, ⟨m0, w0⟩, turn⟩ := body _ fr
  have hfo : ∀ b ∈ fp, ∃ o, s2.heap.get? b = some o := fun b hb => let ⟨o, e, _⟩ := T.obj _ _ st2 b hb; ⟨o, e⟩
  have sb' : ∀ b o, (s2.heap.push lob).get? b = some o → h4.get? b = some o := fun b o e => (sb.2 b (Nat.ne_of_lt (Heap.lt_size e))).trans (Heap.get?_push_of_some _ e)
  have hDo : ∀ (H : Hp) (h : Heap), h.get? s2.heap.objs.size = some lob → ObjOk X.prog X.w H h s2.heap.objs.size (.lst []) := fun H h e => ⟨Nat.zero_le _, [], _, .nil, e⟩
  have I4 : Inv (cxComp X N' sc cl (s2.heap.push lob).objs.size { s2 with heap := s2.heap.push lob } (upd H2 s2.heap.objs.size (.lst [])) fp (X.pn ++ pins)) [] (stIn own idx σ) (upd H2 s2.heap.objs.size (.lst [])) { s2 with heap := h4, toks := s2.toks + ([] : List (Str × Value)).length } :=
    inv_comp S I f2 hfo c1 c2 hob hDo ns sb'
  -- the block's own context
  generalize hY : cxComp X N' sc cl (s2.heap.push lob).objs.size { s2 with heap := s2.heap.push lob } (upd H2 s2.heap.objs.size (.lst [])) fp (X.pn ++ pins) = Y at I4
  have hgY : PG Y tg g := by rw [← hY]; exact hg _ _ _ _ _ _
  have htY : PC' Y ifs tc := by rw [← hY]; exact ht _ _ _ _ _ _
  have heY : PE Y elt te := by rw [← hY]; exact he _ _ _ _ _ _
  have pY : Y.prog = X.prog := by rw [← hY]
  have wY : Y.w = X.w := by rw [← hY]
  have KY : Y.K = X.K := by rw [← hY]
  have AY : Y.A = X.A := by rw [← hY]
  have cY : Y.calm = true := by rw [← hY]; exact hc
  have xY : Y.xe = fun _ _ => False := by rw [← hY]
  have eY : Y.env = compEnvC sc cl (s2.heap.push lob).objs.size X.env := by rw [← hY]
  have exY : Y.ex = fp := by rw [← hY]
  have fsY : Y.fs = frs X.stack := by rw [← hY]
  have pnY : Y.pn = X.pn ++ pins := by rw [← hY]
  have stat : ∀ {H' : Hp}, (∀ b ∈ fp, H' b = none) → ∀ b ∈ fp, FpOk Y [] H' b := fun hn b hb => by
    obtain ⟨f0, f1, f3, f4, f5, f6⟩ := f2 b hb
    refine ⟨hn b hb, ?_, ?_, .inl (by rw [exY]; exact hb), fun x c e => ?_, fun p hp => ?_⟩
    · obtain ⟨o, e⟩ := hfo b hb
      have := Heap.lt_size e
      rw [eY]
      show b ≠ (s2.heap.push lob).objs.size
      rw [Heap.size_push]; exact Nat.ne_of_lt (Nat.lt_succ_of_lt this)
    · rw [fsY]
      intro z
      rcases List.mem_cons.mp (I.stkSub b z) with z | z
      · exact f1 z
      · exact f3 z
    · rw [eY] at e
      exact f5 x c (c1 x c e)
    · rw [pnY, List.append_nil] at hp
      exact f6 p hp
  have st4 : tn 0 h4 := T.keep _ _ _ st2 fun b hb o e => sb' b o (Heap.get?_push_of_some _ e)
  have fr4 : ∀ b ∈ fp, upd H2 s2.heap.objs.size (.lst []) b = none := fun b hb => by
    obtain ⟨o, e⟩ := hfo b hb
    rw [upd_ne (Nat.ne_of_lt (Heap.lt_size e))]
    exact (f2 b hb).1
  have loop : codeAny (model X.prog X.w) X.A (.compLoop (.ListComp elt [⟨tg, iter, ifs, 0⟩] sc pos) 0 (.ref it) (.ref s2.heap.objs.size) (compEnvC sc cl (s2.heap.push lob).objs.size X.env))
      (RR (.ref s2.heap.objs.size) (s2.heap.push lob).objs.size) { s2 with heap := h4, toks := s2.toks + ([] : List (Str × Value)).length } := by
    refine compLoopG (fun n s' => ∃ i τ H', Inv Y [] τ H' s' ∧ tn i s'.heap ∧ (∀ b ∈ fp, H' b = none) ∧ W i n τ H') ?_ m0 ⟨0, _, _, I4, st4, fr4, w0⟩
    rintro n s3 ⟨i, τ3, H3, I3, st3, fr3, w3⟩
    rcases turn i n τ3 H3 w3 with ⟨stop, qn⟩ | ⟨go, N, hN, step⟩
    · have h := T.done Y pY wY KY cY i [] s3 τ3 H3 NoE I3 (stat fr3) st3 stop
      rw [AY] at h
      refine thn h ?_
      rintro r s4 ⟨hr, I4'⟩
      subst hr
      have J4 := I4'
      rw [← hY] at J4
      obtain ⟨b1, b2⟩ := comp_back I f2 hob J4
      exact hRR _ _ _ _ b1 qn b2
    · have h := T.item Y pY wY KY cY i [] s3 τ3 H3 NoE I3 (stat fr3) st3 go
      rw [AY] at h
      refine thn h ?_
      rintro r s4 ⟨u, hr, h4'⟩
      subst hr
      refine thn h4' ?_
      rintro _ s5 ⟨x, H5, I5, r5, y5, st5, fr5⟩
      have I5' := I5.pinned (stat fr5) (T.obj _ _ st5)
      have g5 := hgY _ s5 τ3 H5 x u _ I5' r5 (step x H5 y5)
      rw [pY, wY, AY, xY, eY] at g5
      refine thn g5 ?_
      rintro _ s6 ⟨τ6, H6, I6, q6⟩
      have t6 := htY _ s6 τ6 H6 _ I6 q6
      rw [pY, wY, AY, xY, eY] at t6
      refine thn t6 ?_
      rintro ok s7 ⟨H7, I7, q7⟩
      have again : ∀ {τ8 : St} {H8 : Hp} {s8 : Shared}, Inv Y ([] ++ pinsAt fp s5.heap) τ8 H8 s8 → N τ8 H8 → ∃ m, m < n ∧ ∃ i τ' H', Inv Y [] τ' H' s8 ∧ tn i s8.heap ∧ (∀ b ∈ fp, H' b = none) ∧ W i m τ' H' := fun {τ8 H8 s8} I8 n8 => by
        obtain ⟨m', hm, w8⟩ := hN τ8 H8 n8
        refine ⟨m', hm, i + 1, τ8, H8, I8.unpinned, T.keep _ _ _ st5 fun b hb o e => (I8.pin (b, o) (List.mem_append_right _ (List.mem_append_right _ (mem_pinsAt hb e)))).1, fun b hb => ?_, w8⟩
        obtain ⟨o, e, d⟩ := T.obj _ _ st5 b hb
        exact (I8.pin (b, o) (List.mem_append_right _ (List.mem_append_right _ (mem_pinsAt hb e)))).2.1
      cases ok with
      | false =>
        rw [if_neg (by decide)] at q7 ⊢
        exact again I7 q7
      | true =>
        rw [if_pos rfl] at q7 ⊢
        have e7 := heY _ s7 τ6 H7 _ I7 q7
        rw [pY, wY, AY, xY, eY] at e7
        refine thn e7 ?_
        rintro yv s8 ⟨y, H8, I8, r8, xs, hD8, hz, n8⟩
        have a8 := mt_append (X := Y) _ s8 τ6 H8 (.ref s2.heap.objs.size) [y] (.ref s2.heap.objs.size) [yv] (fun v H' => N τ6 H') I8 rfl (.cons r8 .nil) ⟨_, xs, y, rfl, rfl, hD8, hz, n8⟩
        rw [pY, wY, AY, xY] at a8
        refine thn a8 ?_
        rintro _ s9 ⟨_, H9, I9, _, n9⟩
        exact again I9 n9
  exact codeAny_compStart_list loop (T.self _ 0 _ _ _ st4 loop)
theorem CScope.closure (S : CScope X.env.scope X.N sc own idx N') (ok : X.Ok) : ∃ cl, closureFor sc X.env = pure cl ∧ (∀ x c, cl.lookup x = some c → X.env.cells.lookup x = some c) ∧ (∀ y ∈ sc.names, y.2 = .free → ∃ c, cl.lookup y.1 = some c) :=
  closure_ok fun y hy hf => ok.has _ (S.free y hy hf)
theorem pe_lc (S : CScope X.env.scope X.N sc own idx N') (hc : X.calm = true) (hi : PI X tg iter wi)
    (hg : ∀ cl C s3 H0 fp pn, PG (cxComp X N' sc cl C s3 H0 fp pn) tg g) (ht : ∀ cl C s3 H0 fp pn, PC' (cxComp X N' sc cl C s3 H0 fp pn) ifs tc) (he : ∀ cl C s3 H0 fp pn, PE (cxComp X N' sc cl C s3 H0 fp pn) elt te)
    (hs : ∀ x, foldedSetIterable iter X.env x = pure x := by intro _; rfl) : PE X (.ListComp elt [⟨tg, iter, ifs, 0⟩] sc pos) (tLC own idx wi g tc te) := by
  intro pins s σ H Q I h
  obtain ⟨cl, hcl, c1, c2⟩ := S.closure I.ok
  rw [eval_ListComp]
  refine wpAny_comprehension_free (use := none) rfl hs hcl S.kind S.names (thn (hi pins s σ H _ I h) fun v s1 h1 => thn h1 fun itv s2 h2 => ?_)
  refine comp_block (Q := Q) (pins := pins) (σ := σ) (RR := fun acc C => compPost (model X.prog X.w) X.A X.xe none (EP X pins σ Q) acc C) S c1 c2 hc hg ht he h2 ?_
  intro D C H' s' I' q ⟨a1, a2, a3, a4, a5, m, a6⟩
  exact ⟨m, a6, fun h' sb => ⟨.ref D, H', I'.turned (t' := s'.toks) (fun b o hb e => (sb.2 b hb).trans e) a1 (Ne.symm (Ne.symm a2)) (.inr a3) a4 a5, rfl, q⟩⟩
theorem ps_lc {i : Nat} {y : Str} {py spos : Pos} (S : CScope X.env.scope X.N sc own idx N') (hc : X.calm = true) (hi : PI X tg iter wi)
    (hg : ∀ cl C s3 H0 fp pn, PG (cxComp X N' sc cl C s3 H0 fp pn) tg g) (ht : ∀ cl C s3 H0 fp pn, PC' (cxComp X N' sc cl C s3 H0 fp pn) ifs tc) (he : ∀ cl C s3 H0 fp pn, PE (cxComp X N' sc cl C s3 H0 fp pn) elt te)
    (hN : X.N.Nodup) (hiy : X.N[i]? = some y) (hy : X.env.scope.names.lookup y = some .local)
    (hsw : swapsWith (.ListComp elt [⟨tg, iter, ifs, 0⟩] sc pos) (some (.Name y py)) spos.line X.env = pure true := by rfl)
    (hs : ∀ x, foldedSetIterable iter X.env x = pure x := by intro _; rfl) : PS X (.Assign [.Name y py] (.ListComp elt [⟨tg, iter, ifs, 0⟩] sc pos) spos) (tAsg (tLC own idx wi g tc te) (gName i)) := by
  intro pins s σ H D I h
  obtain ⟨cl, hcl, c1, c2⟩ := S.closure I.ok
  rw [exec_Assign_Name_used _ _ _ _ hsw]
  refine wpAny_bind (wpAny_standAt (wpAny_bind ?_))
  show wpAny _ X.A (do let _ ← comprehension (.ListComp elt [⟨tg, iter, ifs, 0⟩] sc pos) sc X.env _ (newList []) false (eval iter X.env) (some (assign (.Name y py) X.env))) _ _ s
  refine wpAny_bind (wpAny_mono (wpAny_comprehension_free (use := some (assign (.Name y py) X.env)) (Q := fun _ s' => SP X pins D .next s') rfl hs hcl S.kind S.names
    (thn (hi pins s σ H _ I h) fun v s1 h1 => thn h1 fun itv s2 h2 => ?_)) (fun _ s' hq => wpAny_pure (wpAny_pure hq)) fun _ _ e => e)
  refine comp_block (Q := fun x H1 => gName i x σ H1 D.nx) (pins := pins) (σ := σ) (RR := fun acc C => compPost (model X.prog X.w) X.A X.xe (some (assign (.Name y py) X.env)) (fun _ s' => SP X pins D .next s') acc C) S c1 c2 hc hg ht he h2 ?_
  intro D' C H' s' I' q ⟨a1, a2, a3, a4, a5, m, a6⟩
  show wpAny _ X.A (assign (.Name y py) X.env (.ref D')) _ _ _
  refine wpAny_assign_Name (store_ok2 (v := .ref D') I' hN hiy (.inl hy) rfl (fun s'' I'' ⟨a, sb, ha⟩ => ?_) (.inr hy))
  have nCa : C ≠ a := by
    rcases ha with z | z
    · rw [z]; exact a2
    · exact Ne.symm (a4 _ _ z)
  refine ⟨m, a6.sameBut sb nCa, fun h' sb' => ⟨_, H', I''.turned (t' := s''.toks) (fun b o hb e => (sb'.2 b hb).trans e) a1 a2 (.inr a3) a4 a5, q⟩⟩
end
def tV (i : Nat) : TE := fun σ H Q => match σ[i]? with | some (some v) => Q v H | _ => False
section
variable {X : Cx}
theorem pvv (i : Nat) {x : Str} {pos : Pos} (hN : X.N[i]? = some x := by rfl) (hv : Vis X.env.scope x := by first | exact Or.inl rfl | exact Or.inr (Or.inl rfl) | exact Or.inr (Or.inr rfl)) (hd : (x == ("__debug__" : Str)) = false := by decide) (hcd : (x == ("__classdict__" : Str)) = false := by decide) : PE X (.Name x pos) (tV i) := by
  intro pins s σ H Q I h
  refine pe_var hN hv hd hcd pins s σ H Q I ?_
  unfold tV at h
  split at h
  · next v e => exact ⟨v, e, h⟩
  · exact h.elim
def rAddD : R2 := fun x y H Q => match x, y with
  | .int i, .int j => Q (.int (i + j)) H
  | .str i, .str j => i.length + j.length ≤ sizeLine ∧ Q (.str (i ++ j)) H
  | .ref l, .ref b => (∃ xs zs, H l = some (.lst xs) ∧ H b = some (.lst zs) ∧ xs.length + zs.length ≤ sizeLine ∧ ∀ p, H p = none → Q (.ref p) (upd H p (.lst (xs ++ zs))))
  | _, _ => False
theorem op_addD : OpR X (binaryOp .Add) rAddD := by
  intro pins s σ H x y v u Q I rx ry h
  cases x <;> cases y <;> first
    | exact (show False from h).elim
    | exact op_add pins s σ H _ _ v u Q I rx ry ⟨_, _, rfl, rfl, h⟩
    | exact op_add_str pins s σ H _ _ v u Q I rx ry ⟨_, _, rfl, rfl, h.1, h.2⟩
    | (obtain ⟨xs, zs, h1, h2, h3, h4⟩ := h; exact op_cat pins s σ H _ _ v u Q I rx ry ⟨_, _, xs, zs, rfl, rfl, h1, h2, h3, h4⟩)
def rSubD : R2 := fun x y H Q => match x, y with | .int i, .int j => Q (.int (i - j)) H | _, _ => False
theorem op_subD : OpR X (binaryOp .Sub) rSubD := by
  intro pins s σ H x y v u Q I rx ry h
  cases x <;> cases y <;> first
    | exact (show False from h).elim
    | exact op_sub pins s σ H _ _ v u Q I rx ry ⟨_, _, rfl, rfl, h⟩
def rMulD : R2 := fun x y H Q => match x, y with | .int i, .int j => CMul i j ∧ Q (.int (i * j)) H | _, _ => False
theorem op_mulD : OpR X (binaryOp .Mult) rMulD := by
  intro pins s σ H x y v u Q I rx ry h
  cases x <;> cases y <;> first
    | exact (show False from h).elim
    | exact op_mul pins s σ H _ _ v u Q I rx ry ⟨_, _, rfl, rfl, h.1, h.2⟩
def rModD : R2 := fun x y H Q => match x, y with | .int i, .int j => 0 < j ∧ Q (.int (i % j)) H | _, _ => False
theorem op_modD : OpR X (binaryOp .Mod) rModD := by
  intro pins s σ H x y v u Q I rx ry h
  cases x <;> cases y <;> first
    | exact (show False from h).elim
    | exact op_mod pins s σ H _ _ v u Q I rx ry ⟨_, _, rfl, rfl, h.1, h.2⟩
def rDivD : R2 := fun x y H Q => match x, y with | .int i, .int j => (0 < j ∧ j < 1073741824) ∧ Q (.int (i / j)) H | _, _ => False
theorem op_divD : OpR X (binaryOp .FloorDiv) rDivD := by
  intro pins s σ H x y v u Q I rx ry h
  cases x <;> cases y <;> first
    | exact (show False from h).elim
    | exact op_fdiv pins s σ H _ _ v u Q I rx ry ⟨_, _, rfl, rfl, h.1, h.2⟩
def rPowD : R2 := fun x y H Q => match x, y with | .int i, .int j => CPow i j ∧ Q (.int (i ^ j.toNat)) H | _, _ => False
theorem op_powD : OpR X (binaryOp .Pow) rPowD := by
  intro pins s σ H x y v u Q I rx ry h
  cases x <;> cases y <;> first
    | exact (show False from h).elim
    | exact op_pow pins s σ H _ _ v u Q I rx ry ⟨_, _, rfl, rfl, h.1, h.2⟩
def rIC (p : Int → Int → Bool) : R2 := fun x y H Q => match x, y with | .int i, .int j => Q (.bl (p i j)) H | _, _ => False
theorem op_gtD : OpR X (compareOp .Gt) (rIC fun i j => decide (j < i)) := by
  intro pins s σ H x y v u Q I rx ry h
  cases x <;> cases y <;> first
    | exact (show False from h).elim
    | exact op_gt pins s σ H _ _ v u Q I rx ry ⟨_, _, rfl, rfl, h⟩
theorem op_geD : OpR X (compareOp .GtE) (rIC fun i j => decide (j ≤ i)) := by
  intro pins s σ H x y v u Q I rx ry h
  cases x <;> cases y <;> first
    | exact (show False from h).elim
    | exact op_ge pins s σ H _ _ v u Q I rx ry ⟨_, _, rfl, rfl, h⟩
theorem op_leI : OpR X (compareOp .LtE) (rIC fun i j => decide (i ≤ j)) := by
  intro pins s σ H x y v u Q I rx ry h
  cases x <;> cases y <;> first
    | exact (show False from h).elim
    | exact op_le pins s σ H _ _ v u Q I rx ry ⟨_, _, rfl, rfl, h⟩
def rLtD : R2 := fun x y H Q => match x, y with
  | .int i, .int j => Q (.bl (decide (i < j))) H
  | .str i, .str j => Q (.bl (decide (i.cps.toList < j.cps.toList))) H
  | _, _ => False
theorem op_ltD : OpR X (compareOp .Lt) rLtD := by
  intro pins s σ H x y v u Q I rx ry h
  cases x <;> cases y <;> first
    | exact (show False from h).elim
    | exact op_lt pins s σ H _ _ v u Q I rx ry ⟨_, _, rfl, rfl, h⟩
    | exact op_lt_str pins s σ H _ _ v u Q I rx ry ⟨_, _, rfl, rfl, h⟩
def rEqD (n : Bool) : R2 := fun x y H Q => match x, y with
  | .ref a, .ref b => a ≠ b ∧ ∃ xs, H a = some (.lst xs) ∧ H b = some (.lst []) ∧ Q (.bl (n ^^ xs.isEmpty)) H
  | x, y => scal x y = true ∧ Q (.bl (n ^^ decide (x = y))) H
theorem eq_empty {pins : List (Addr × Obj)} {σ : St} {H : Hp} {s : Shared} {Q : Value → Shared → Prop} {E : Value → Shared → Prop} {A : Around} {a b : Addr} {xs : List V} (hu : A.units < cLine) (I : Inv X pins σ H s) (ha : H a = some (.lst xs)) (hb : H b = some (.lst [])) (hab : a ≠ b)
    (q : ∀ tk, Q (.bool xs.isEmpty) { s with toks := tk }) (q0 : Q (.bool xs.isEmpty) s) : wpAny (model X.prog X.w) A (compareOp .Eq (.ref a) (.ref b)) Q E s := by
  obtain ⟨_, its, n, r1, e1⟩ := (show ObjOk X.prog X.w H s.heap a (.lst xs) from I.hok a _ ha)
  obtain ⟨_, its2, n2, r2, e2⟩ := (show ObjOk X.prog X.w H s.heap b (.lst []) from I.hok b _ hb)
  cases r2
  have l1 : s.heap.IsList a its.toArray := ⟨_, e1, rfl, _, rfl⟩
  have l2 : s.heap.IsList b (#[] : Array Value) := ⟨_, e2, rfl, _, rfl⟩
  cases r1 with
  | nil =>
    exact SeqAt.eq_listAt (e := fun _ => true) l1 l2 rfl hu (fun i hi => absurd hi (by simp)) (by simpa using q0)
  | cons z t =>
    exact SeqAt.eq_list_lengthsAt l1 l2 (by simp) hu (by simpa using q0)
theorem op_eqD (hu : X.A.units < cLine) : OpR X (compareOp .Eq) (rEqD false) := by
  intro pins s σ H x y v u Q I rx ry h
  have hs : (∀ a b, x = .ref a → y = .ref b → False) → scal x y = true ∧ Q (.bl (false ^^ decide (x = y))) H := fun hn => by
    cases x <;> cases y <;> first
      | exact (hn _ _ rfl rfl).elim
      | exact h
  by_cases hr : ∃ a b, x = .ref a ∧ y = .ref b
  · obtain ⟨a, b, rfl, rfl⟩ := hr
    obtain ⟨hab, xs, h1, h2, q⟩ := h
    cases rx; cases ry
    exact eq_empty hu I h1 h2 hab (fun tk => ⟨.bl xs.isEmpty, H, I.tok tk, rfl, by simpa using q⟩) ⟨.bl xs.isEmpty, H, I, rfl, by simpa using q⟩
  · obtain ⟨h1, h2⟩ := hs fun a b e1 e2 => hr ⟨a, b, e1, e2⟩
    exact op_eq pins s σ H x y v u Q I rx ry ⟨h1, by simpa using h2⟩
theorem ne_empty {pins : List (Addr × Obj)} {σ : St} {H : Hp} {s : Shared} {Q : Value → Shared → Prop} {E : Value → Shared → Prop} {A : Around} {a b : Addr} {xs : List V} (hu : A.units < cLine) (I : Inv X pins σ H s) (ha : H a = some (.lst xs)) (hb : H b = some (.lst []))
    (q0 : Q (.bool (!xs.isEmpty)) s) : wpAny (model X.prog X.w) A (compareOp .NotEq (.ref a) (.ref b)) Q E s := by
  obtain ⟨_, its, n, r1, e1⟩ := (show ObjOk X.prog X.w H s.heap a (.lst xs) from I.hok a _ ha)
  obtain ⟨_, its2, n2, r2, e2⟩ := (show ObjOk X.prog X.w H s.heap b (.lst []) from I.hok b _ hb)
  cases r2
  have l1 : s.heap.IsList a its.toArray := ⟨_, e1, rfl, _, rfl⟩
  have l2 : s.heap.IsList b (#[] : Array Value) := ⟨_, e2, rfl, _, rfl⟩
  cases r1 with
  | nil =>
    exact SeqAt.RcNeAt.lists (e := fun _ => true) l1 l2 rfl hu (fun i hi => absurd hi (by simp)) _ _ _ _ (by simpa using q0)
  | cons z t =>
    exact SeqAt.RcNeAt.lists_lengths l1 l2 (by simp) hu _ _ _ _ (by simpa using q0)
theorem op_neD (hu : X.A.units < cLine) : OpR X (compareOp .NotEq) (rEqD true) := by
  intro pins s σ H x y v u Q I rx ry h
  have hs : (∀ a b, x = .ref a → y = .ref b → False) → scal x y = true ∧ Q (.bl (true ^^ decide (x = y))) H := fun hn => by
    cases x <;> cases y <;> first
      | exact (hn _ _ rfl rfl).elim
      | exact h
  by_cases hr : ∃ a b, x = .ref a ∧ y = .ref b
  · obtain ⟨a, b, rfl, rfl⟩ := hr
    obtain ⟨hab, xs, h1, h2, q⟩ := h
    cases rx; cases ry
    exact ne_empty hu I h1 h2 ⟨.bl (!xs.isEmpty), H, I, rfl, by simpa using q⟩
  · obtain ⟨h1, h2⟩ := hs fun a b e1 e2 => hr ⟨a, b, e1, e2⟩
    exact op_ne pins s σ H x y v u Q I rx ry ⟨h1, by simpa using h2⟩
def rIxD (K : PySem.W.Frag) : R2 := fun x y H Q => match x, y with
  | .ref p, .int i => ∃ xs v, (SqL K H p xs ∨ SqT K H p xs) ∧ atI xs i = some v ∧ Q v H
  | .str z, .int i => z.length ≤ sizeLine ∧ ∃ c, atI z.cps.toList i = some c ∧ Q (.str ⟨#[c]⟩) H
  | _, _ => False
theorem ix_D : IxR X (rIxD X.K) := by
  intro e1 e2 pins s σ H x y v u Q I rx ry h hs
  cases x <;> cases y <;> first
    | exact (show False from h).elim
    | (obtain ⟨xs, w, h1 | h1, h2, h3⟩ := h
       · exact ix_list e1 e2 pins s σ H _ _ v u Q I rx ry ⟨_, xs, _, w, rfl, rfl, h1, h2, h3⟩ hs
       · exact ix_tup e1 e2 pins s σ H _ _ v u Q I rx ry ⟨_, xs, _, w, rfl, rfl, h1, h2, h3⟩ hs)
    | (obtain ⟨h1, c, h2, h3⟩ := h; exact ix_str e1 e2 pins s σ H _ _ v u Q I rx ry ⟨_, _, c, rfl, rfl, h1, h2, h3⟩ hs)
def rInD (K : PySem.W.Frag) (n : Bool) : R2 := fun x y H Q => match y with
  | .str j => ∃ i, x = .str i ∧ Q (.bl (n ^^ (!(Builtin.Str.occurrences j i 0 j.length 1).isEmpty))) H
  | .ref p => ∃ xs, (SqL K H p xs ∨ SqT K H p xs) ∧ flatV x = true ∧ xs.all flatV = true ∧ Q (.bl (n ^^ inV x xs)) H
  | _ => False
theorem op_inD : OpR X (compareOp .In) (rInD X.K false) := by
  intro pins s σ H x y v u Q I rx ry h
  cases y <;> first
    | exact (show False from h).elim
    | (obtain ⟨i, rfl, h2⟩ := h; exact op_in_str pins s σ H _ _ v u Q I rx ry ⟨i, _, rfl, rfl, by simpa using h2⟩)
    | (obtain ⟨xs, h1, h2, h3, h4⟩ := h; exact op_in_seq pins s σ H _ _ v u Q I rx ry ⟨_, xs, rfl, h1, h2, h3, by simpa using h4⟩)
def rLenD (K : PySem.W.Frag) : List V → Hp → VK → Prop := fun xs H Q => match xs with
  | [.str y] => y.length ≤ sizeLine ∧ Q (.int y.length) H
  | [.ref p] => (∃ ys, (SqL K H p ys ∨ SqT K H p ys) ∧ Q (.int ys.length) H) ∨ (∃ kvs, Rd H p (.dK kvs) ∧ Q (.int kvs.length) H)
  | _ => False
theorem call_lenA : CallR X (.builtin "len") (rLenD X.K) := by
  intro pins s σ H xs us Q I r h
  unfold rLenD at h
  split at h
  · exact call_len pins s σ H _ us Q I r ⟨_, _, rfl, ⟨h.1, rfl⟩, h.2⟩
  · rcases h with ⟨ys, h1 | h1, q⟩ | ⟨kvs, h1, q⟩
    · exact call_len pins s σ H _ us Q I r ⟨_, _, rfl, .inl ⟨ys, h1, rfl⟩, q⟩
    · exact call_len pins s σ H _ us Q I r ⟨_, _, rfl, .inr ⟨ys, h1, rfl⟩, q⟩
    · obtain ⟨u, rfl, ru⟩ := vals1 r
      cases ru
      exact d_len I h1 fun t s' I' => ⟨.int kvs.length, H, I', ⟨t, rfl⟩, q⟩
  · exact h.elim
def rSlS : V → Option Int → Option Int → Hp → VK → Prop := fun x lo hi H Q => ∃ z, x = .str z ∧ z.length ≤ sizeLine ∧ Q (.str (Txt.slice z lo hi)) H
theorem sl_str : SlR X rSlS := by
  intro pins s σ H x v vl vu lo hi sl Q I rx hs pl pu h
  obtain ⟨z, rfl, hz, q⟩ := h
  obtain ⟨t, rfl⟩ := (show ∃ t, v = Value.str z t from rx)
  refine ⟨"str", _, F.slot_str_getitem.lookup, typeIs_str _ _ _, ?_⟩
  have hpart : ∀ {w : Value} {o : Option Int}, IsPart w o → ∃ l : Option (Int × Tok), w = partValue l ∧ l.map (·.1) = o := fun {w o} p => by
    cases p with
    | none => exact ⟨none, rfl, rfl⟩
    | int k t => exact ⟨some (k, t), rfl, rfl⟩
  obtain ⟨l, e1, e2⟩ := hpart pl
  obtain ⟨u, e3, e4⟩ := hpart pu
  subst e1 e3
  obtain ⟨o, ho, hc, hd⟩ := hs
  refine wpAny_getItem_str_slice (l := l) (u := u) (st := none) ⟨o, ho, hc, hd⟩ rfl ?_
  refine post_val_or_str ⟨Nat.le_trans (Txt.slice_le z _ _) hz, fun t' k => ?_⟩
  show EP X pins σ Q (.str (Txt.slice z (l.map (·.1)) (u.map (·.1))) t') _
  rw [e2, e4]
  exact ⟨.str (Txt.slice z lo hi), H, I.tok k, ⟨t', rfl⟩, q⟩
def Its (z : Str) : It := ⟨fun i _ => i < z.cps.size, fun i H x H' => H' = H ∧ ∃ c, z.cps[i]? = some c ∧ x = .str ⟨#[c]⟩, fun i _ => z.cps.size = i⟩
theorem turn_walks {P : Program} {w : World} {K : PySem.W.Frag} {tg : Expr} {it : Addr} {z : Str} {St : Nat → Heap → Prop} (W : ∀ A' : Around, A'.handled = none → Walks P w A' it [it] [it] z.cps.size (SignAt z) St)
    (hself : ∀ (A : Around) (i : Nat) (s : Shared) (Q : Value → Shared → Prop) (E : Value → Shared → Prop), St i s.heap → Q (.ref it) s → wpAny (model P w) A (pyIter (.ref it)) Q E s)
    (hg : ∀ i h, St i h → ∃ o n vs, h.get? it = some o ∧ o.cls = .type n ∧ o.data = .fields vs ∧ ["enumerate", "zip", "dict_itemiterator", "dict_reverseitemiterator", "odict_iterator", "itertools.zip_longest", "itertools.pairwise"].contains n = false) : Turn P w K tg (Its z) [it] it St where
  mem := by simp
  obj := fun i h st b hb => by
    have e : b = it := by simpa using hb
    subst e
    obtain ⟨o, n, vs, e, c, d, _⟩ := hg i h st
    exact ⟨o, e, fun v z => by rw [d] at z; cases z⟩
  keep := fun i h h' st k => (W {} rfl).frame _ _ _ st k
  item := by
    intro X hP hw hK hc i pins s σ H E I hf st hgo
    subst hP hw hK
    obtain ⟨f0, f1, f2, f3, f4, f5⟩ := hf it (by simp)
    refine (W X.A (I.ok.hd hc)).item i s _ _ hgo st fun v h' tk hv st' kk => ?_
    obtain ⟨c, t, hc1, rfl⟩ := hv
    have I1 : Inv X pins σ H { s with heap := h', toks := tk } := I.turned (fun b o hb e => kk b o (by simpa using hb) e) f0 f1 f3 f4 f5
    obtain ⟨o, n, vs, e, c', d, nn⟩ := hg _ _ st'
    exact ⟨_, rfl, go_of (s := { s with heap := h', toks := tk }) e c' d nn ⟨.str ⟨#[c]⟩, H, I1, ⟨t, rfl⟩, ⟨rfl, c, hc1, rfl⟩, st', fun b hb => (hf b hb).1⟩⟩
  done := by
    intro X hP hw hK hc i pins s σ H E I hf st hgo
    subst hP hw hK
    obtain ⟨f0, f1, f2, f3, f4, f5⟩ := hf it (by simp)
    have e : z.cps.size = i := hgo
    subst e
    exact (W X.A (I.ok.hd hc)).done s _ _ st fun h' tk kk => ⟨rfl, I.turned (fun b o hb e => kk b o (by simpa using hb) e) f0 f1 f3 f4 f5⟩
  self := hself
end
def FnK (P : Program) (w : World) (K : PySem.W.Frag) (mg : Str → Option Value) (base : Heap) (k : Nat) (x : Str) (ps : List Str) (sp : Sp) : Prop :=
  ∃ (f : Addr) (fd : FuncData), FnOk P w K mg base CX0 k f fd ps sp ∧ mg x = some (.ref f) ∧ PySem.W.keepIn K (.ref f) = true ∧ Binds K fd ps [] ∧ ∃ (oc : Value) (od : Option Addr) (osl : Array (Option Value)), K.lookup f = some ⟨oc, od, .func fd, osl⟩
section
variable {X : Cx} {k : Nat} {ps : List Str} {sp : Sp} {x : Str} {p pos : Pos} {e : Expr} {es : List Expr} {t : TA}
theorem pe_fn (F : FnK X.prog X.w X.K X.mg X.base k x ps sp) (hr : Room k X.A) (ha : PA X (e :: es) t) (hg : Gl X x := by rfl) (hdb : (x == ("__debug__" : Str)) = false := by decide)
    (he : starEach (e :: es) X.env = (false, eval e X.env) :: starEach es X.env := by rfl) (hpl : (backTo pos (starEach es X.env)).any (·.1) = false := by rfl) :
    PE X (.Call (.Name x p) (e :: es) [] pos) (tCall sp [] E0 t) := by
  obtain ⟨f, fd, G, mgf, kp, b, _⟩ := F
  exact pe_call G hr hg mgf kp b .nil pass0 ha hdb he hpl
theorem FnK.mono {P : Program} {w : World} {K : PySem.W.Frag} {mg : Str → Option Value} {base : Heap} {j : Nat} (F : FnK P w K mg base j x ps sp) (h : j ≤ k) : FnK P w K mg base k x ps sp := by
  obtain ⟨f, fd, G, r⟩ := F
  exact ⟨f, fd, G.mono h, r⟩
end
def iD (K : PySem.W.Frag) (tl : TE) : TI := fun σ H R => tl σ H fun x H1 => match x with
  | .ref a => ((∃ xs, SqL K H1 a xs) ∧ R (Itl K a) H1) ∨ ((∃ xs, SqT K H1 a xs) ∧ R (Itt K a) H1)
  | .str z => R (Its z) H1
  | _ => False
theorem pi_D {X : Cx} {tg l : Expr} {tl : TE} (hl : PE X l tl) : PI X tg l (iD X.K tl) := by
  intro pins s σ H R I h
  refine thn (hl pins s σ H _ I h) ?_
  rintro v s1 ⟨x, H1, I1, r1, q1⟩
  cases x with
  | ref a =>
    cases r1
    rcases q1 with ⟨⟨xs, hq⟩, q⟩ | ⟨⟨xs, hq⟩, q⟩
    · obtain ⟨its, rv, p, hz⟩ := I1.list hq
      refine wpAny_pyIter_list p.isList ?_
      refine ⟨s1.heap.objs.size, [s1.heap.objs.size], _, _, H1, rfl, I1.kept (t' := s1.toks) fun b o e => Heap.get?_push_of_some _ e, turn_list a _, ⟨_, Heap.get?_push_size _ rfl, rfl, rfl⟩, fun b hb => ?_, q⟩
      have e : b = s1.heap.objs.size := by simpa using hb
      subst e
      exact I1.fpOk (Nat.le_refl _) (I1.hok.fresh (Nat.le_refl _))
    · obtain ⟨its, rv, p, hz⟩ := I1.tuple hq
      refine wpAny_pyIter_tuple (show s1.heap.IsTuple a its.toArray from p) ?_
      refine ⟨s1.heap.objs.size, [s1.heap.objs.size], _, _, H1, rfl, I1.kept (t' := s1.toks) fun b o e => Heap.get?_push_of_some _ e, turn_tuple a _, ⟨_, Heap.get?_push_size _ rfl, rfl, rfl⟩, fun b hb => ?_, q⟩
      have e : b = s1.heap.objs.size := by simpa using hb
      subst e
      exact I1.fpOk (Nat.le_refl _) (I1.hok.fresh (Nat.le_refl _))
  | str z =>
    obtain ⟨t, rfl⟩ := (show ∃ t, v = Value.str z t from r1)
    have q : R (Its z) H1 := q1
    have fin : ∀ (o : Obj) (n : String) (W : ∀ A' : Around, A'.handled = none → Walks X.prog X.w A' s1.heap.objs.size [s1.heap.objs.size] [s1.heap.objs.size] z.cps.size (SignAt z) (fun i h => h.IsStrIter s1.heap.objs.size n z t i)),
        (∀ (A : Around) (i : Nat) (s : Shared) (Q : Value → Shared → Prop) (E : Value → Shared → Prop), s.heap.IsStrIter s1.heap.objs.size n z t i → Q (.ref s1.heap.objs.size) s → wpAny (model X.prog X.w) A (pyIter (.ref s1.heap.objs.size)) Q E s) →
        ["enumerate", "zip", "dict_itemiterator", "dict_reverseitemiterator", "odict_iterator", "itertools.zip_longest", "itertools.pairwise"].contains n = false →
        (s1.heap.push o).IsStrIter s1.heap.objs.size n z t 0 → PIE X pins σ tg R (.ref s1.heap.objs.size) { s1 with heap := s1.heap.push o } := by
      intro o n W hself hn st
      refine ⟨s1.heap.objs.size, [s1.heap.objs.size], _, _, H1, rfl, I1.kept (t' := s1.toks) fun b o e => Heap.get?_push_of_some _ e, turn_walks W hself (fun i h st => ?_), st, fun b hb => ?_, q⟩
      · obtain ⟨o, e, c, d⟩ := st
        exact ⟨o, n, _, e, c, d, hn⟩
      · have e : b = s1.heap.objs.size := by simpa using hb
        subst e
        exact I1.fpOk (Nat.le_refl _) (I1.hok.fresh (Nat.le_refl _))
    cases ha : z.cps.all (· < 128)
    · exact wpAny_pyIter_wide ha (fin _ _ (fun A' hA => Walks.strWide hA _ z t) (fun A i s Q E st h => wpAny_pyIter_striter_wide st h) (by decide) ⟨_, Heap.get?_push_size _ rfl, rfl, rfl⟩)
    · exact wpAny_pyIter_ascii ha (fin _ _ (fun A' hA => Walks.strAscii hA _ z t) (fun A i s Q E st h => wpAny_pyIter_striter_ascii st h) (by decide) ⟨_, Heap.get?_push_size _ rfl, rfl, rfl⟩)
  | _ => exact (show False from q1).elim
def ItN (J : It) (ok : Hp → Prop) (n : Nat) (item : Nat → V) : Prop :=
  ∀ H, ok H → (∀ i, i < n → J.go i H ∧ ∀ x H', J.yld i H x H' → H' = H ∧ x = item i) ∧ J.stop n H
theorem itn_list {K : PySem.W.Frag} {a : Addr} (xs : List V) : ItN (Itl K a) (fun H => SqL K H a xs) xs.length (fun i => xs.getD i .non) := fun H ok =>
  ⟨fun i hi => ⟨⟨xs, xs[i], ok, by simp [hi]⟩, fun x H' ⟨e, y⟩ => ⟨e, by
    have := y xs ok
    show x = xs.getD i V.non
    rw [List.getD_eq_getElem?_getD, this]; rfl⟩⟩, ⟨xs, ok, Nat.le_refl _⟩⟩
theorem itn_tup {K : PySem.W.Frag} {a : Addr} (xs : List V) : ItN (Itt K a) (fun H => SqT K H a xs) xs.length (fun i => xs.getD i .non) := fun H ok =>
  ⟨fun i hi => ⟨⟨xs, xs[i], ok, by simp [hi]⟩, fun x H' ⟨e, y⟩ => ⟨e, by
    have := y xs ok
    show x = xs.getD i V.non
    rw [List.getD_eq_getElem?_getD, this]; rfl⟩⟩, ⟨xs, ok, Nat.le_refl _⟩⟩
theorem itn_range (lo : Int) (n : Nat) : ItN (Itr lo n) (fun _ => True) n (fun i => .int (lo + i)) := fun H _ =>
  ⟨fun i hi => ⟨hi, fun x H' ⟨e, y⟩ => ⟨e, y⟩⟩, Nat.le_refl _⟩
theorem lc_by {J : It} {ok : Hp → Prop} {n : Nat} {item : Nat → V} {g : TG} {tc : TC} {te : TE} {τ0 : St} {H0 : Hp} {D : Addr} {Q : Hp → Prop} (hJ : ItN J ok n item) (Pv : Nat → St → Hp → Prop) (h0 : Pv 0 τ0 H0)
    (hok : ∀ i τ H, i ≤ n → Pv i τ H → ok H)
    (hs : ∀ i τ H, i < n → Pv i τ H → g (item i) τ H fun τ2 H2 => tc τ2 H2 fun b H3 => if b = true then te τ2 H3 fun y H4 => ∃ xs, H4 D = some (.lst xs) ∧ xs.length < sizeLine ∧ Pv (i + 1) τ2 (upd H4 D (.lst (xs ++ [y]))) else Pv (i + 1) τ2 H3)
    (hd : ∀ τ H, Pv n τ H → Q H) : ∃ W : Nat → Nat → St → Hp → Prop, (∃ m, W 0 m τ0 H0) ∧ ∀ i m τ H, W i m τ H →
      (J.stop i H ∧ Q H) ∨ (J.go i H ∧ ∃ N : St → Hp → Prop, (∀ τ' H', N τ' H' → ∃ m', m' < m ∧ W (i + 1) m' τ' H') ∧ ∀ x H', J.yld i H x H' → g x τ H' fun τ2 H2 => tc τ2 H2 fun b H3 =>
        if b = true then te τ2 H3 fun y H4 => ∃ xs, H4 D = some (.lst xs) ∧ xs.length < sizeLine ∧ N τ2 (upd H4 D (.lst (xs ++ [y]))) else N τ2 H3) := by
  refine ⟨fun i m τ H => m = n - i ∧ i ≤ n ∧ Pv i τ H, ⟨n, by simp, Nat.zero_le _, h0⟩, ?_⟩
  rintro i m τ H ⟨rfl, hi, p⟩
  obtain ⟨k1, k2⟩ := hJ H (hok i τ H hi p)
  by_cases hlt : i < n
  · refine .inr ⟨(k1 i hlt).1, Pv (i + 1), fun σ' H' p' => ⟨n - (i + 1), by omega, rfl, hlt, p'⟩, fun x H' y => ?_⟩
    obtain ⟨e, e2⟩ := (k1 i hlt).2 x H' y
    subst e e2
    exact hs i τ _ hlt p
  · have e : i = n := by omega
    subst e
    exact .inl ⟨k2, hd τ H p⟩
theorem for_by {J : It} {ok : Hp → Prop} {n : Nat} {item : Nat → V} {g : TG} {tb : TS} {D : Ends} {σ : St} {H : Hp} (hJ : ItN J ok n item) (Pv : Nat → St → Hp → Prop) (h0 : Pv 0 σ H) (hok : ∀ i τ H, i ≤ n → Pv i τ H → ok H)
    (hs : ∀ i σ H, i < n → Pv i σ H → g (item i) σ H fun σ2 H2 => tb { D with nx := Pv (i + 1), ct := Pv (i + 1), bk := D.nx } σ2 H2) (hd : ∀ σ H, Pv n σ H → D.nx σ H) :
    ∃ W : Nat → Nat → St → Hp → Prop, (∃ m, W 0 m σ H) ∧ ∀ i m σ H, W i m σ H →
      (J.stop i H ∧ D.nx σ H) ∨ (J.go i H ∧ ∃ N : St → Hp → Prop, (∀ σ' H', N σ' H' → ∃ m', m' < m ∧ W (i + 1) m' σ' H') ∧ ∀ x H', J.yld i H x H' → g x σ H' fun σ2 H2 => tb { D with nx := N, ct := N, bk := D.nx } σ2 H2) := by
  refine ⟨fun i m σ H => m = n - i ∧ i ≤ n ∧ Pv i σ H, ⟨n, by simp, Nat.zero_le _, h0⟩, ?_⟩
  rintro i m σ H ⟨rfl, hi, p⟩
  obtain ⟨k1, k2⟩ := hJ H (hok i σ H hi p)
  by_cases hlt : i < n
  · refine .inr ⟨(k1 i hlt).1, Pv (i + 1), fun σ' H' p' => ⟨n - (i + 1), by omega, rfl, hlt, p'⟩, fun x H' y => ?_⟩
    obtain ⟨e, e2⟩ := (k1 i hlt).2 x H' y
    subst e e2
    exact hs i σ _ hlt p
  · have e : i = n := by omega
    subst e
    exact .inl ⟨k2, hd σ H p⟩
def FnT (K : PySem.W.Frag) (mg : Str → Option Value) (x : Str) (st : Stmt) (ps : List Str) : Prop := ∃ (f : Addr) (fd : FuncData), Fun K x x st f fd ∧ mg x = some (.ref f) ∧ Binds K fd ps []
theorem FnT.ok {P : Program} {w : World} {K : PySem.W.Frag} {mg : Str → Option Value} {base : Heap} {x : Str} {st : Stmt} {N ps : List Str} {k : Nat} {sp : Sp} (F : FnT K mg x st ps) (S : FnScope N ps (defScope st)) (len : ∀ vs H Q E, sp vs H Q E → vs.length = ps.length)
    (hbody : ∀ (f : Addr) (cdv : Value) (A : Around) (outer : List Env) (s : Shared) (H : Hp) (vs : List V) (Q : VK) (E : XK), Room k (A.deeper (envOfC x (defScope st) s.heap.objs.size f cdv)) → sp vs H Q E →
      ∃ t, PSs (cxOf CX0 P w K mg base N x (defScope st) f cdv A outer s H E).nox (defBody st) t ∧ t { nx := fun _ H' => Q .non H', rt := Q } (start N vs) H) : FnK P w K mg base (k + 1) x ps sp := by
  obtain ⟨f, fd, Fu, m, b⟩ := F
  exact ⟨f, fd, Fu.ok S len (hbody f), m, Fu.kp, b, let ⟨oc, od, _, _, _, _, _, _, osl, _, lk, _⟩ := Fu.ex; ⟨oc, od, osl, lk⟩⟩
section
variable {X : Cx} {x : Str} {pos : Pos}
theorem sl_D : SlR X (fun x lo hi H Q => rSlS x lo hi H Q ∨ (rSlL X.K x lo hi H Q ∨ rSlT X.K x lo hi H Q)) := sl_str.or (sl_list.or sl_tup)
end
section
variable {X : Cx} (K : PySem.W.Frag)
theorem ix_K (h : X.K = K := by rfl) : IxR X (rIxD K) := by rw [← h]; exact ix_D
theorem op_inK (h : X.K = K := by rfl) : OpR X (compareOp .In) (rInD K false) := by rw [← h]; exact op_inD
theorem call_lenK (h : X.K = K := by rfl) : CallR X (.builtin "len") (rLenD K) := by rw [← h]; exact call_lenA
theorem sl_K (h : X.K = K := by rfl) : SlR X (fun x lo hi H Q => rSlS x lo hi H Q ∨ (rSlL K x lo hi H Q ∨ rSlT K x lo hi H Q)) := by rw [← h]; exact sl_D
theorem pi_K {tg l : Expr} {tl : TE} (hl : PE X l tl) (h : X.K = K := by rfl) : PI X tg l (iD K tl) := by rw [← h]; exact pi_D hl
theorem pg_tupK {es : List Expr} {k : Nat} {t : TGs} {n : Nat} {pos : Pos} (hc : X.calm = true) (hh : PGs X es t) (h : X.K = K := by rfl)
    (hn : (assignEach es X.env).length = n := by rfl) (hst : (assignEach es X.env).findIdx? (·.1) = none := by rfl) : PG X (.Tuple es k pos) (gTup K n t) := by
  subst h; exact pg_tup hc hh hn hst
theorem pe_bmK {T : String} {name : Str} {id : String} {r : V → List V → Hp → VK → Prop} {o e : Expr} {es : List Expr} {to : TE} {t : TA} {apos cpos : Pos} (pa : PlainAttrs T) (slot : Slot T name id) (hty : typeOf (.builtin id) = pure (.type "method_descriptor")) (hm : MtM X id r) (ho : PE X o to) (ha : PA X (e :: es) t) (h : X.K = K := by rfl)
    (hbase : attributeBase o name X.env (eval o X.env) = eval o X.env := by rfl)
    (hfew : ((backTo cpos (starEach (e :: es) X.env)).all (fun x => !x.1) && (backToKw cpos (keywordEach [] X.env)).all (fun x => x.1.isSome)
      && decide ((e :: es).length + ([] : List Keyword).length + (if ([] : List Keyword).isEmpty then 0 else 1) < 30)) = true := by rfl)
    (hline : (apos.endLine == cpos.line) = true := by rfl) (hs : starEach (e :: es) X.env = (false, eval e X.env) :: starEach es X.env := by rfl) (hplain : (backTo cpos (starEach es X.env)).any (·.1) = false := by rfl) :
    PE X (.Call (.Attribute o name apos) (e :: es) [] cpos) (tBM K T r to t) := by
  subst h; exact pe_bm pa slot hty hm ho ha hbase hfew hline hs hplain
end
structure SE (X : Cx) (e : Expr) (t : TE) : Prop where
  h : PE X e t
structure ST (X : Cx) (e : Expr) (t : TT) : Prop where
  h : PT X e t
structure SW (X : Cx) (e : Expr) (t : TT) : Prop where
  h : PW X e t
structure SA (X : Cx) (es : List Expr) (t : TA) : Prop where
  h : PA X es t
structure SS (X : Cx) (s : Stmt) (t : TS) : Prop where
  h : PS X s t
structure SB (X : Cx) (s : List Stmt) (t : TS) : Prop where
  h : PSs X s t
structure SG (X : Cx) (e : Expr) (t : TG) : Prop where
  h : PG X e t
structure SGs (X : Cx) (e : List Expr) (t : TGs) : Prop where
  h : PGs X e t
structure SI (X : Cx) (tg e : Expr) (t : TI) : Prop where
  h : PI X tg e t
structure SC (X : Cx) (e : List Expr) (t : TC) : Prop where
  h : PC' X e t
structure SO (X : Cx) (e : Option Expr) (t : TO) : Prop where
  h : PO X e t
section
variable {X : Cx} {es : List Expr} {te : TE} {t : TA} {c : Const} {j : Nat} {pos0 : Pos} {n : Str} {xs0 : List Expr} {f0 a0 b0 c0 : Expr} {kw0 : List Keyword} {o0 : Operator} {ks0 : List (Option Expr)} {gs0 : List Comprehension} {sc0 : Scope} {u0 : UnaryOp} {bo0 : BoolOp} {ops0 : List CmpOp}theorem sa_nil : SA X [] tNil := ⟨pa_nil⟩
theorem sa_Constant (ha : SE X (.Constant c j pos0) te) (hr : SA X es t) : SA X (.Constant c j pos0 :: es) (tCons te t) := ⟨pa_cons ha.h hr.h⟩
theorem sa_Name (ha : SE X (.Name n pos0) te) (hr : SA X es t) : SA X (.Name n pos0 :: es) (tCons te t) := ⟨pa_cons ha.h hr.h⟩
theorem sa_List (ha : SE X (.List xs0 pos0) te) (hr : SA X es t) : SA X (.List xs0 pos0 :: es) (tCons te t) := ⟨pa_cons ha.h hr.h⟩
theorem sa_Tuple (ha : SE X (.Tuple xs0 j pos0) te) (hr : SA X es t) : SA X (.Tuple xs0 j pos0 :: es) (tCons te t) := ⟨pa_cons ha.h hr.h⟩
theorem sa_Call (ha : SE X (.Call f0 xs0 kw0 pos0) te) (hr : SA X es t) : SA X (.Call f0 xs0 kw0 pos0 :: es) (tCons te t) := ⟨pa_cons ha.h hr.h⟩
theorem sa_BinOp (ha : SE X (.BinOp a0 o0 b0 pos0) te) (hr : SA X es t) : SA X (.BinOp a0 o0 b0 pos0 :: es) (tCons te t) := ⟨pa_cons ha.h hr.h⟩
theorem sa_Subscript (ha : SE X (.Subscript a0 b0 pos0) te) (hr : SA X es t) : SA X (.Subscript a0 b0 pos0 :: es) (tCons te t) := ⟨pa_cons ha.h hr.h⟩
theorem sa_Dict (ha : SE X (.Dict ks0 xs0 pos0) te) (hr : SA X es t) : SA X (.Dict ks0 xs0 pos0 :: es) (tCons te t) := ⟨pa_cons ha.h hr.h⟩
theorem sa_ListComp (ha : SE X (.ListComp a0 gs0 sc0 pos0) te) (hr : SA X es t) : SA X (.ListComp a0 gs0 sc0 pos0 :: es) (tCons te t) := ⟨pa_cons ha.h hr.h⟩
end
section
variable {X : Cx} {a b c e o i value lo hi tg iter elt : Expr} {ta tb tc te td ty tv : TE} {t : TA} {pos p p2 pos' pos0 : Pos} {x : Str} {es : List Expr}
theorem zv (i : Nat) {x : Str} {pos : Pos} (hN : X.N[i]? = some x := by rfl) (hv : Vis X.env.scope x := by first | exact Or.inl rfl | exact Or.inr (Or.inl rfl) | exact Or.inr (Or.inr rfl)) (hd : (x == ("__debug__" : Str)) = false := by decide) (hcd : (x == ("__classdict__" : Str)) = false := by decide) : SE X (.Name x pos) (tV i) := ⟨pvv i hN hv hd hcd⟩
theorem z_bl {b : Bool} {j} : SE X (.Constant (.bool b) j pos) (tC (.bl b)) := ⟨pe_bl⟩
theorem z_int {i : Int} {j} : SE X (.Constant (.int i) j pos) (tC (.int i)) := ⟨pe_int⟩
theorem z_str {x : Str} {j} : SE X (.Constant (.str x) j pos) (tC (.str x)) := ⟨pe_str⟩
theorem z_op {op : Operator} {r : R2} (ho : OpR X (binaryOp op) r) (ha : SE X a ta) (hb : SE X b tb) : SE X (.BinOp a op b pos) (tOp r ta tb) := ⟨pe_op ho ha.h hb.h⟩
theorem z_un {op : UnaryOp} {r : V → Hp → VK → Prop} (ho : UnR X (unaryOp op) r) (ha : SE X a ta) : SE X (.UnaryOp op a pos) (tUn r ta) := ⟨pe_un ho ha.h⟩
theorem y_cmpR {op : CmpOp} {r : R2} (ho : OpR X (compareOp op) r) (ha : SE X a ta) (hb : SE X b tb) (hm : behindInMarks op b = false) : ST X (.Compare a [op] [b] pos) (tTest (tOp r ta tb)) := ⟨pt_cmpR ho ha.h hb.h hm⟩
theorem w_and1 {tA : TT} (ha : ST X a tA) : SW X (.BoolOp .And [a] pos) tA := ⟨pw_and1 ha.h⟩
theorem w_or1 {tA : TT} (ha : ST X a tA) : SW X (.BoolOp .Or [a] pos) tA := ⟨pw_or1 ha.h⟩
theorem w_and {tA tB' : TT} {rest : List Expr} (ha : ST X a tA) (hb : SW X (.BoolOp .And (b :: rest) pos) tB') : SW X (.BoolOp .And (a :: b :: rest) pos) (tAnd tA tB') := ⟨pw_and ha.h hb.h⟩
theorem w_or {tA tB' : TT} {rest : List Expr} (ha : ST X a tA) (hb : SW X (.BoolOp .Or (b :: rest) pos) tB') : SW X (.BoolOp .Or (a :: b :: rest) pos) (tOr tA tB') := ⟨pw_or ha.h hb.h⟩
theorem SW.pt {tA : TT} (h : SW X e tA) : ST X e tA := ⟨h.h.pt⟩
theorem z_lst (h : SA X es t) : SE X (.List es pos) (tLst t) := ⟨pe_lst h.h⟩
theorem z_tup {x1} (h : SA X es t) : SE X (.Tuple es x1 pos) (tTup t) := ⟨pe_tup h.h⟩
theorem z_dnew : SE X (.Dict [] [] pos) tDNewK := ⟨pe_dnewK⟩
theorem zo_none : SO X none tNoPart := ⟨po_none⟩
theorem zo_some (h : SE X e te) : SO X (some e) (tPart te) := ⟨po_some h.h⟩
theorem z_slice {r : V → Option Int → Option Int → Hp → VK → Prop} {l u : Option Expr} {tl th : TO} (hr : SlR X r) (he : SE X e te) (hl : SO X l tl) (hu : SO X u th) : SE X (.Subscript e (.Slice l u none p2) pos) (tSl r te tl th) := ⟨pe_slice hr he.h hl.h hu.h⟩
theorem z_dget (hu : X.A.units + 1 < cLine) (ho : SE X o td) (hi : SE X i ty) (hs : NoSl i) : SE X (.Subscript o i pos) (tDGet td ty) := ⟨pe_dget hu ho.h hi.h hs⟩
theorem z_ix {r : R2} (hr : IxR X r) (ha : SE X a ta) (hb : SE X b tb) (hs : PlainIx b) : SE X (.Subscript a b pos) (tOp r ta tb) := ⟨pe_ix hr ha.h hb.h hs⟩
theorem z_fn {k : Nat} {ps : List Str} {sp : Sp} (F : FnK X.prog X.w X.K X.mg X.base k x ps sp) (hr : Room k X.A) (ha : SA X (e :: es) t) (hg : Gl X x := by rfl) (hdb : (x == ("__debug__" : Str)) = false := by decide)
    (he : starEach (e :: es) X.env = (false, eval e X.env) :: starEach es X.env := by rfl) (hpl : (backTo pos (starEach es X.env)).any (·.1) = false := by rfl) :
    SE X (.Call (.Name x p) (e :: es) [] pos) (tCall sp [] E0 t) := ⟨pe_fn F hr ha.h hg hdb he hpl⟩
theorem z_callB {id : String} {r : List V → Hp → VK → Prop} (hc : CallR X (.builtin id) r) (hg : Gl X x) (hm : X.mg x = none) (hv : bootBuiltins x = some (.builtin id)) (ha : SA X (e :: es) t) (hn : x ≠ "__name__" := by decide) (hdb : (x == ("__debug__" : Str)) = false := by decide)
    (he : starEach (e :: es) X.env = (false, eval e X.env) :: starEach es X.env := by rfl) (hpl : (backTo pos (starEach es X.env)).any (·.1) = false := by rfl) : SE X (.Call (.Name x p) (e :: es) [] pos) (tCB r t) := ⟨pe_callB hc hg hm hv ha.h hn hdb he hpl⟩
theorem z_bm (K : PySem.W.Frag) {T : String} {name : Str} {id : String} {r : V → List V → Hp → VK → Prop} {to : TE} {apos cpos : Pos} (pa : PlainAttrs T) (slot : Slot T name id) (hty : typeOf (.builtin id) = pure (.type "method_descriptor")) (hm : MtM X id r) (ho : SE X o to) (ha : SA X (e :: es) t) (h : X.K = K := by rfl)
    (hbase : attributeBase o name X.env (eval o X.env) = eval o X.env := by rfl)
    (hfew : ((backTo cpos (starEach (e :: es) X.env)).all (fun x => !x.1) && (backToKw cpos (keywordEach [] X.env)).all (fun x => x.1.isSome)
      && decide ((e :: es).length + ([] : List Keyword).length + (if ([] : List Keyword).isEmpty then 0 else 1) < 30)) = true := by rfl)
    (hline : (apos.endLine == cpos.line) = true := by rfl) (hs : starEach (e :: es) X.env = (false, eval e X.env) :: starEach es X.env := by rfl) (hplain : (backTo cpos (starEach es X.env)).any (·.1) = false := by rfl) :
    SE X (.Call (.Attribute o name apos) (e :: es) [] cpos) (tBM K T r to t) := ⟨pe_bmK K pa slot hty hm ho.h ha.h h hbase hfew hline hs hplain⟩
theorem sb_nil : SB X [] tNext := ⟨pss_nil⟩
theorem sb_one {st : Stmt} {u : TS} (h1 : SS X st u) : SB X [st] u := ⟨pss_one h1.h⟩
theorem sb_cons {st : Stmt} {rest : List Stmt} {u v : TS} (h1 : SS X st u) (h2 : SB X rest v) : SB X (st :: rest) (tSeq u v) := ⟨pss_cons h1.h h2.h⟩
theorem s_ret (he : SE X e te) : SS X (.Return (some e) pos) (tRet te) := ⟨ps_ret he.h⟩
theorem s_expr (he : SE X e te) (hs : swapsWith e none pos.line X.env = pure false := by rfl) : SS X (.Expr e pos) (tDrop te) := ⟨ps_expr he.h hs⟩
theorem s_if {a b : List Stmt} {tA : TT} {u v : TS} (hc : ST X c tA) (ha : SB X a u) (hb : SB X b v) : SS X (.If c a b pos) (tIfS tA u v) := ⟨ps_if hc.h ha.h hb.h⟩
theorem s_for {body : List Stmt} {wi : TI} {g : TG} {u : TS} (hp : PassesOwn (model X.prog X.w) X.A X.env X.xe) (hc : X.calm = true) (hi : SI X tg iter wi) (hg : SG X tg g) (hb : SB X body u) (hs : ∀ x, foldedSetIterable iter X.env x = pure x := by intro _; rfl) : SS X (.For tg iter body [] pos) (tFor wi g u) := ⟨ps_for hp hc hi.h hg.h hb.h hs⟩
theorem s_while {body : List Stmt} {tA : TT} {u : TS} (hp : PassesOwn (model X.prog X.w) X.A X.env X.xe) (hc : ST X c tA) (hb : SB X body u) : SS X (.While c body [] pos) (tWhile tA u) := ⟨ps_while hp hc.h hb.h⟩
theorem s_set {i : Nat} (hN : X.N.Nodup) (hi : X.N[i]? = some x) (hx : Loc X.env.scope x) (he : SE X e te) (hs : swapsWith e (some (.Name x pos')) pos.line X.env = pure false := by rfl) (hf : X.fn x = true ∨ X.env.scope.names.lookup x = some .local := by first | exact .inl rfl | exact .inr rfl | assumption) :
    SS X (.Assign [.Name x pos'] e pos) (tAsg te (gName i)) := ⟨ps_set hN hi hx he.h hs hf⟩
theorem s_dput (hu : X.A.units + 1 < cLine) (ho : SE X o td) (hi : SE X i ty) (hv : SE X value tv) (hs : swapsWith value (some (.Subscript o i pos')) pos.line X.env = pure false) : SS X (.Assign [.Subscript o i pos'] value pos) (sDPut td ty tv) := ⟨ps_dput hu ho.h hi.h hv.h hs⟩
theorem s_asg {g : TG} (he : SE X e te) (hg : SG X tg g) (hs : swapsWithSole [tg] e pos.line X.env = pure false := by rfl) (hw : swappedStores [tg] e X.env = pure none := by rfl)
    (h1 : (assignEach [tg] X.env).map (·.2) = [assign tg X.env] := by rfl) : SS X (.Assign [tg] e pos) (tAsg te g) := ⟨ps_asg he.h hg.h hs hw h1⟩
theorem g_name {i : Nat} (hN : X.N.Nodup) (hi : X.N[i]? = some x) (hx : Loc X.env.scope x) (hf : X.fn x = true ∨ X.env.scope.names.lookup x = some .local := by first | exact .inl rfl | exact .inr rfl | assumption) : SG X (.Name x pos) (gName i) := ⟨pg_name hN hi hx hf⟩
theorem gs_nil : SGs X [] gNil := ⟨pgs_nil⟩
theorem gs_cons {g : TG} {u : TGs} (h1 : SG X e g) (h2 : SGs X es u) (hs : (assignEach (e :: es) X.env).map (·.2) = assign e X.env :: (assignEach es X.env).map (·.2) := by rfl) : SGs X (e :: es) (gCons g u) := ⟨pgs_cons h1.h h2.h hs⟩
theorem g_tup (K : PySem.W.Frag) {k : Nat} {u : TGs} {n : Nat} (hc : X.calm = true) (hh : SGs X es u) (h : X.K = K := by rfl)
    (hn : (assignEach es X.env).length = n := by rfl) (hst : (assignEach es X.env).findIdx? (·.1) = none := by rfl) : SG X (.Tuple es k pos) (gTup K n u) := ⟨pg_tupK K hc hh.h h hn hst⟩
theorem g_sub {u : TSet} (ho : SE X o td) (hi : SE X i ty) (hs : PSet X u)
    (ha : ∀ v, assign (.Subscript o i pos) X.env v = (do
      let ov ← holding [v] (eval o X.env)
      let iv ← holding [v, ov] (eval i X.env)
      standAt pos
      holding [v, ov, iv] (setItem ov iv v)
      release [v, ov, iv] []) := by intro _; rfl) : SG X (.Subscript o i pos) (gSub td ty u) := ⟨pg_sub ho.h hi.h hs ha⟩
theorem i_range1 (hg : Gl X "range") (hm : X.mg "range" = none) (ha : SA X [a] t) (hs : starEach [a] X.env = [(false, eval a X.env)] := by rfl) : SI X tg (.Call (.Name "range" p) [a] [] pos) (iRng1 t) := ⟨pi_range1 hg hm ha.h hs⟩
theorem i_K (K : PySem.W.Frag) (hl : SE X e te) (h : X.K = K := by rfl) : SI X tg e (iD K te) := ⟨pi_K K hl.h h⟩
theorem c_nil : SC X [] tcNil := ⟨pc_nil'⟩
theorem c_one {tA : TT} (h : ST X c tA) : SC X [c] tA := ⟨pc_one' h.h⟩
theorem z_lc {ifs : List Expr} {sc : Scope} {own : List Str} {idx : List Nat} {N' : List Str} {wi : TI} {g : TG} {tt : TC} (S : CScope X.env.scope X.N sc own idx N') (hc : X.calm = true) (hi : SI X tg iter wi)
    (hg : ∀ cl C s3 H0 fp pn, SG (cxComp X N' sc cl C s3 H0 fp pn) tg g) (ht : ∀ cl C s3 H0 fp pn, SC (cxComp X N' sc cl C s3 H0 fp pn) ifs tt) (he : ∀ cl C s3 H0 fp pn, SE (cxComp X N' sc cl C s3 H0 fp pn) elt te)
    (hs : ∀ x, foldedSetIterable iter X.env x = pure x := by intro _; rfl) : SE X (.ListComp elt [⟨tg, iter, ifs, 0⟩] sc pos) (tLC own idx wi g tt te) :=
  ⟨pe_lc S hc hi.h (fun q r s t u v => (hg q r s t u v).h) (fun q r s t u v => (ht q r s t u v).h) (fun q r s t u v => (he q r s t u v).h) hs⟩
theorem s_lc {ifs : List Expr} {sc : Scope} {own : List Str} {idx : List Nat} {N' : List Str} {wi : TI} {g : TG} {tt : TC} {i : Nat} {y : Str} {py spos : Pos} (S : CScope X.env.scope X.N sc own idx N') (hc : X.calm = true) (hi : SI X tg iter wi)
    (hg : ∀ cl C s3 H0 fp pn, SG (cxComp X N' sc cl C s3 H0 fp pn) tg g) (ht : ∀ cl C s3 H0 fp pn, SC (cxComp X N' sc cl C s3 H0 fp pn) ifs tt) (he : ∀ cl C s3 H0 fp pn, SE (cxComp X N' sc cl C s3 H0 fp pn) elt te)
    (hN : X.N.Nodup) (hiy : X.N[i]? = some y) (hy : X.env.scope.names.lookup y = some .local)
    (hsw : swapsWith (.ListComp elt [⟨tg, iter, ifs, 0⟩] sc pos) (some (.Name y py)) spos.line X.env = pure true := by rfl)
    (hs : ∀ x, foldedSetIterable iter X.env x = pure x := by intro _; rfl) : SS X (.Assign [.Name y py] (.ListComp elt [⟨tg, iter, ifs, 0⟩] sc pos) spos) (tAsg (tLC own idx wi g tt te) (gName i)) :=
  ⟨ps_lc S hc hi.h (fun q r s t u v => (hg q r s t u v).h) (fun q r s t u v => (ht q r s t u v).h) (fun q r s t u v => (he q r s t u v).h) hN hiy hy hsw hs⟩
end
theorem FnT.okS {P : Program} {w : World} {K : PySem.W.Frag} {mg : Str → Option Value} {base : Heap} {x : Str} {st : Stmt} {N ps : List Str} {k : Nat} {sp : Sp} (F : FnT K mg x st ps) (S : FnScope N ps (defScope st)) (len : ∀ vs H Q E, sp vs H Q E → vs.length = ps.length)
    (hbody : ∀ (f : Addr) (cdv : Value) (A : Around) (outer : List Env) (s : Shared) (H : Hp) (vs : List V) (Q : VK) (E : XK), Room k (A.deeper (envOfC x (defScope st) s.heap.objs.size f cdv)) → sp vs H Q E →
      ∃ t, SB (cxOf CX0 P w K mg base N x (defScope st) f cdv A outer s H E).nox (defBody st) t ∧ t { nx := fun _ H' => Q .non H', rt := Q } (start N vs) H) : FnK P w K mg base (k + 1) x ps sp :=
  F.ok S len fun f cdv A outer s H vs Q E hr h => let ⟨t, h1, h2⟩ := hbody f cdv A outer s H vs Q E hr h; ⟨t, h1.h, h2⟩
section
variable {prog : Program} {w : World} {A : Around} {R : Result → Shared → Prop} {s : Shared}
end
section
variable {X : Cx} {tg iter kx vx : Expr} {ifs : List Expr} {sc : Scope} {pos : Pos} {own : List Str} {idx : List Nat} {N' : List Str} {wi : TI} {g : TG} {tc : TC} {tk tw : TE}
end
theorem Same.upd {H : Hp} {a : Addr} (h : H a = none) (o : HO) : Same H (upd H a o) := fun b u q => by rw [upd_ne (ne_of_none q h)]; exact q
theorem iteB {c : Bool} {A B : Prop} (h1 : c = true → A) (h2 : c = false → B) : if c = true then A else B := by
  cases c with
  | true => exact iteT (h1 rfl)
  | false => exact iteF (h2 rfl)
theorem tSeq_by {t u : TS} {D : Ends} {σ : St} {H : Hp} (mid : St → Hp → Prop) (h1 : ∀ nx : St → Hp → Prop, (∀ σ' H', mid σ' H' → nx σ' H') → t { D with nx := nx } σ H) (h2 : ∀ σ' H', mid σ' H' → u D σ' H') : tSeq t u D σ H := h1 (u D) h2
theorem atI_zero {α : Type} (x : α) (xs : List α) : atI (x :: xs) 0 = some x := atI_nat (j := 0) rfl
theorem atI_some {α : Type} (xs : List α) (i : Int) (h0 : 0 ≤ i) (h1 : i < xs.length) : ∃ c, xs[i.toNat]? = some c ∧ atI xs i = some c := by
  have hl : i.toNat < xs.length := by omega
  refine ⟨xs[i.toNat], by simp [hl], ?_⟩
  have := atI_nat (xs := xs) (j := i.toNat) (v := xs[i.toNat]) (by simp [hl])
  rw [← this]
  congr 1
  omega
theorem mapStr_getD (ns : List Str) (i : Nat) (h : i < ns.length) : (ns.map V.str).getD i .non = .str (ns.getD i "") := by
  simp [List.getD_eq_getElem?_getD, h]
abbrev penD (w : Addr) (m t : Int) : List (Key × V) := [(.inr "mixed", .int m), (.inr "turn", .int t), (.inr "wide", .ref w)]
structure PenAt (H : Hp) (p w : Addr) (t : Nat) : Prop where
  ex : ∃ (m c : Int) (ws : List Int), H p = some (.dK (penD w m c)) ∧ H w = some (.lst (ws.map V.int)) ∧ (0 ≤ m ∧ m < 2147483629) ∧ 0 ≤ c ∧ c ≤ (t : Int)
def Sm (p w : Addr) (H H' : Hp) : Prop := ∀ b o, H b = some o → b ≠ p → b ≠ w → H' b = some o
theorem Sm.refl {p w : Addr} {H : Hp} : Sm p w H H := fun _ _ h _ _ => h
theorem Sm.trans {p w : Addr} {H H1 H2 : Hp} (a : Sm p w H H1) (b : Sm p w H1 H2) : Sm p w H H2 := fun c o h h1 h2 => b c o (a c o h h1 h2) h1 h2
theorem Same.sm {p w : Addr} {H H1 : Hp} (a : Same H H1) : Sm p w H H1 := fun c o h _ _ => a c o h
theorem PenAt.same {H H' : Hp} {p w : Addr} {t : Nat} (h : PenAt H p w t) (s : Same H H') : PenAt H' p w t := by
  obtain ⟨m, c, ws, h1, h2, r⟩ := h.ex
  exact ⟨m, c, ws, s _ _ h1, s _ _ h2, r⟩
theorem Sm.free {p w : Addr} {H H' : Hp} (s : Sm p w H H') {l : Addr} (h : H' l = none) (hp : l ≠ p) (hw : l ≠ w) : H l = none := by
  cases q : H l with
  | none => rfl
  | some o => rw [s l o q hp hw] at h; cases h
theorem PenAt.upd {H : Hp} {p w D : Addr} {t : Nat} {o : HO} (h : PenAt H p w t) (h1 : D ≠ p) (h2 : D ≠ w) : PenAt (upd H D o) p w t := by
  obtain ⟨m, c, ws, e1, e2, r⟩ := h.ex
  exact ⟨m, c, ws, by rw [upd_ne h1.symm]; exact e1, by rw [upd_ne h2.symm]; exact e2, r⟩
theorem Sm.upd {p w D : Addr} {H H' : Hp} {o : HO} (s : Sm p w H H') (h : H D = none) : Sm p w H (upd H' D o) := fun b u hb h1 h2 => by rw [upd_ne (ne_of_none hb h)]; exact s b u hb h1 h2
def spLaw (K : PySem.W.Frag) : Sp := fun vs H Q _ => ∃ (a : Addr) (ns : List Int), vs = [.ref a] ∧ SqL K H a (ns.map V.int) ∧ ns.length ≤ 63 ∧ ∀ H', Q (.bl true) H'
def GoodV (p w : Addr) (H : Hp) : V → Prop
  | .non => True
  | .bl _ => True
  | .int _ => True
  | .str z => z.length ≤ 100000
  | .ref a => a ≠ p ∧ a ≠ w ∧ ((∃ xs, H a = some (.lst xs)) ∨ (∃ xs, H a = some (.tup xs)) ∨ ∃ kvs, H a = some (.dK kvs))
  | _ => False
theorem GoodV.sm {p w : Addr} {H H' : Hp} {x : V} (h : GoodV p w H x) (s : Sm p w H H') : GoodV p w H' x := by
  cases x with
  | ref a =>
    obtain ⟨h1, h2, h3⟩ := h
    refine ⟨h1, h2, ?_⟩
    rcases h3 with ⟨xs, e⟩ | ⟨xs, e⟩ | ⟨xs, e⟩
    · exact .inl ⟨xs, s _ _ e h1 h2⟩
    · exact .inr (.inl ⟨xs, s _ _ e h1 h2⟩)
    · exact .inr (.inr ⟨xs, s _ _ e h1 h2⟩)
  | _ => exact h
structure GLs (p w : Addr) (t : Nat) (H : Hp) (xs : List V) : Prop where
  pen : PenAt H p w t
  all : ∀ x ∈ xs, GoodV p w H x
section
variable {p w : Addr} {t u : Nat} {H H' : Hp} {xs ys : List V}
theorem GLs.sm (g : GLs p w t H xs) (hp : PenAt H' p w u) (s : Sm p w H H') : GLs p w u H' xs := ⟨hp, fun x hx => (g.all x hx).sm s⟩
theorem GLs.upd {q : Addr} {o : HO} (g : GLs p w t H xs) (h : H q = none) : GLs p w t (upd H q o) xs := g.sm (g.pen.same (Same.upd h o)) (Same.upd h o).sm
end
section
variable {X : Cx} {x : Str} {p pos : Pos} {e : Expr} {es : List Expr} {t : TA}
theorem z_callTy {T : String} {r : List V → Hp → VK → Prop} (hc : CallR X (.type T) r) (hg : Gl X x) (hm : X.mg x = none) (hv : bootBuiltins x = some (.type T)) (ha : SA X (e :: es) t) (hn : x ≠ "__name__" := by decide) (hdb : (x == ("__debug__" : Str)) = false := by decide)
    (he : starEach (e :: es) X.env = (false, eval e X.env) :: starEach es X.env := by rfl) (hpl : (backTo pos (starEach es X.env)).any (·.1) = false := by rfl) : SE X (.Call (.Name x p) (e :: es) [] pos) (tCB r t) := ⟨pe_callTy hc hg hm hv ha.h hn hdb he hpl⟩
def rTupOf (K : PySem.W.Frag) : List V → Hp → VK → Prop := fun xs H Q => ∃ p ys, xs = [.ref p] ∧ ((SqL K H p ys ∧ ∀ l, H l = none → Q (.ref l) (upd H l (.tup ys))) ∨ (SqT K H p ys ∧ Q (.ref p) H))
def rLstOf (K : PySem.W.Frag) : List V → Hp → VK → Prop := fun xs H Q => ∃ p ys, xs = [.ref p] ∧ (SqL K H p ys ∨ SqT K H p ys) ∧ ∀ l, H l = none → Q (.ref l) (upd H l (.lst ys))
theorem call_tupK (K : PySem.W.Frag) (h : X.K = K := by rfl) : CallR X (.type "tuple") (rTupOf K) := by subst h; exact call_tuple_of
theorem call_lstK (K : PySem.W.Frag) (h : X.K = K := by rfl) : CallR X (.type "list") (rLstOf K) := by subst h; exact call_list_of
theorem vals_strs : ∀ {xs : List Str} {us : List Value}, StrsAre us xs → Vals (xs.map V.str) us
  | _, _, .nil => .nil
  | _, _, .cons x k r => .cons ⟨k, rfl⟩ (vals_strs r)
end
mutual
inductive Den (H : Hp) : V → PyData → Prop
  | non : Den H .non .none
  | bl (b : Bool) : Den H (.bl b) (.bool b)
  | int (i : Int) : Den H (.int i) (.int i)
  | str (z : Str) : Den H (.str z) (.str z)
  | tup {a : Addr} {xs : List V} {ds : List PyData} : H a = some (.tup xs) → DenL H xs ds → Den H (.ref a) (.tuple ds)
  | lst {a : Addr} {xs : List V} {ds : List PyData} : H a = some (.lst xs) → DenL H xs ds → Den H (.ref a) (.list ds)
inductive DenL (H : Hp) : List V → List PyData → Prop
  | nil : DenL H [] []
  | cons {x : V} {d : PyData} {xs : List V} {ds : List PyData} : Den H x d → DenL H xs ds → DenL H (x :: xs) (d :: ds)
end
mutual
theorem Den.same {H H' : Hp} (s : Same H H') : ∀ {x : V} {d : PyData}, Den H x d → Den H' x d
  | _, _, .non => .non
  | _, _, .bl b => .bl b
  | _, _, .int i => .int i
  | _, _, .str z => .str z
  | _, _, .tup e r => .tup (s _ _ e) (DenL.same s r)
  | _, _, .lst e r => .lst (s _ _ e) (DenL.same s r)
theorem DenL.same {H H' : Hp} (s : Same H H') : ∀ {xs : List V} {ds : List PyData}, DenL H xs ds → DenL H' xs ds
  | _, _, .nil => .nil
  | _, _, .cons a r => .cons (Den.same s a) (DenL.same s r)
end
mutual
theorem reads_of {P : Program} {w : World} {H : Hp} {h : Heap} (ok : HOk P w H h) : ∀ {x : V} {d : PyData} {u : Value}, Den H x d → RelV x u → ∃ as, Reads h u d as
  | _, _, _, .non, r => by cases (show _ = Value.none from r); exact ⟨[], .none⟩
  | _, _, _, .bl b, r => by cases (show _ = Value.bool b from r); exact ⟨[], .bool b⟩
  | _, _, _, .int i, r => by obtain ⟨t, rfl⟩ := (show ∃ t, _ = Value.int i t from r); exact ⟨[], .int i t⟩
  | _, _, _, .str z, r => by obtain ⟨t, rfl⟩ := (show ∃ t, _ = Value.str z t from r); exact ⟨[], .str z t⟩
  | _, _, _, .tup (a := a) (xs := xs) e l, r => by
    cases (show _ = Value.ref a from r)
    obtain ⟨_, its, rv, o, ho, hc, n, hd⟩ := (show ObjOk P w H h a (.tup xs) from ok a _ e)
    obtain ⟨as, ra⟩ := readsAll_of ok l rv
    exact ⟨as, .tuple ho hc hd (by simpa using ra)⟩
  | _, _, _, .lst (a := a) (xs := xs) e l, r => by
    cases (show _ = Value.ref a from r)
    obtain ⟨_, its, n, rv, ho⟩ := (show ObjOk P w H h a (.lst xs) from ok a _ e)
    obtain ⟨as, ra⟩ := readsAll_of ok l rv
    exact ⟨a :: as, .list ho rfl rfl (by simpa using ra)⟩
theorem readsAll_of {P : Program} {w : World} {H : Hp} {h : Heap} (ok : HOk P w H h) : ∀ {xs : List V} {ds : List PyData} {us : List Value}, DenL H xs ds → Vals xs us → ∃ as, ReadsAll h us ds as
  | _, _, _, .nil, .nil => ⟨[], .nil⟩
  | _, _, _, .cons a l, .cons r rs => by
    obtain ⟨as, ra⟩ := reads_of ok a r
    obtain ⟨bs, rb⟩ := readsAll_of ok l rs
    exact ⟨as ++ bs, .cons ra rb⟩
end
end L2
set_option maxRecDepth 100000
namespace L2
open PySem PySem.Spec PyProof.Rows
section
variable {X : Cx}
end
abbrev ABC : Str := "abcdefghijklmnopqrstuvwxyz"
abbrev NON : List Str := ["all", "none", "way", "box", "pick"]
def inAbc (c : Nat) : Bool := !(Builtin.Str.occurrences ABC ⟨#[c]⟩ 0 ABC.length 1).isEmpty
def isName (z : Str) : Bool := decide (1 ≤ z.length) && decide (z.length ≤ 8) && !(NON.any fun y => y == z) && z.cps.toList.all inAbc
theorem Same.put {H0 H' : Hp} {p : Addr} {o : HO} (s : Same H0 H') (h : H0 p = none) : Same H0 (L2.upd H' p o) := fun b u q => by rw [upd_ne (ne_of_none q h)]; exact s b u q
theorem tSeq_set {te : TE} {i : Nat} {u : TS} {D : Ends} {σ : St} {H : Hp} (h : te σ H fun x H1 => u D (σ.set i (some x)) H1) : tSeq (tAsg te (gName i)) u D σ H := h
theorem tSeq_setC {v : V} {i : Nat} {u : TS} {D : Ends} {σ : St} {H : Hp} (h : u D (σ.set i (some v)) H) : tSeq (tAsg (tC v) (gName i)) u D σ H := h
theorem tNext_seq {t u : TS} {D : Ends} {σ : St} {H : Hp} {rt : VK} {bk ct : St → Hp → Prop} (h : tSeq t u D σ H) : tNext { nx := tSeq t u D, rt := rt, bk := bk, ct := ct } σ H := h
section
variable {X : Cx} {pins : List (Addr × Obj)} {σ : St} {H : Hp} {s : Shared} {h' : Heap}
theorem Inv.turnedT {t' : Nat} {ch : List Addr} {T : Addr} {o : HO} (I : Inv X pins σ H s) (hf : ∀ b ∈ ch, FpOk X pins H b) (k : ∀ b o, b ∉ ch → s.heap.get? b = some o → h'.get? b = some o)
    (hT : s.heap.objs.size ≤ T) (new : ObjOk X.prog X.w (upd H T o) h' T o) : Inv X pins σ (upd H T o) { s with heap := h', toks := t' } := by
  have hfr : H T = none := I.hok.fresh hT
  have nT : ∀ b ob, s.heap.get? b = some ob → b ≠ T := fun b ob e => Nat.ne_of_lt (Nat.lt_of_lt_of_le (Heap.lt_size e) hT)
  have nch : ∀ b u, H b = some u → b ∉ ch := fun b u e hb => by rw [(hf b hb).1] at e; cases e
  refine I.step (g' := s.gens) (d' := s.drawn) (ch := ch) (fun b hb => ?_) (fun b o _ _ hc e _ => k b o hc e) (fun b o _ _ hc e _ => ⟨o.slots, k b o hc e⟩) (fun b o hc e n => by rw [upd_ne (nT b o e)]; exact n)
    (fun b o hc e => ⟨o, k b o hc e⟩) (fun b xs e => by rw [upd_ne (ne_of_none e hfr)]; exact e) (fun b o u e => by rw [upd_ne (ne_of_none e hfr)]; exact e) (fun b ps e => ⟨#[], by rw [upd_ne (ne_of_none e hfr), e]; simp⟩) (fun m hm => ?_) (fun b u e => ?_) I.bare
  · obtain ⟨f0, f1, f2, f3, f4, f5⟩ := hf b hb
    exact ⟨f3, f1, f4, f5⟩
  · obtain ⟨o, es, ep, ho, r⟩ := hm
    exact ⟨o, es, ep, k _ o (fun z => (hf _ z).2.1 rfl) ho, r⟩
  · by_cases hb : b = T
    · subst hb
      rw [upd_same] at e; cases e
      exact new
    · rw [upd_ne hb] at e
      refine (I.hok b u e).stay (fun c v hc q => k c v ?_ q) (fun c q => by rw [upd_ne (ne_of_none q hfr)]; exact q) fun c xs q => q.upd fun u' hu => ne_of_none hu hfr
      rcases hc with z | z
      · rw [z]; exact nch b u e
      · exact nch c _ z
theorem Inv.turnedL {t' : Nat} {ch : List Addr} (I : Inv X pins σ H s) (hf : ∀ b ∈ ch, FpOk X pins H b) (k : ∀ b o, b ∉ ch → s.heap.get? b = some o → h'.get? b = some o) : Inv X pins σ H { s with heap := h', toks := t' } := by
  have nch : ∀ b u, H b = some u → b ∉ ch := fun b u e hb => by rw [(hf b hb).1] at e; cases e
  refine I.step (g' := s.gens) (d' := s.drawn) (ch := ch) (fun b hb => ?_) (fun b o _ _ hc e _ => k b o hc e) (fun b o _ _ hc e _ => ⟨o.slots, k b o hc e⟩) (fun b o hc e n => n)
    (fun b o hc e => ⟨o, k b o hc e⟩) (fun b xs e => e) (fun b o u e => e) (fun b ps e => ⟨#[], by rw [e]; simp⟩) (fun m hm => ?_) (fun b u e => ?_) I.bare
  · obtain ⟨f0, f1, f2, f3, f4, f5⟩ := hf b hb
    exact ⟨f3, f1, f4, f5⟩
  · obtain ⟨o, es, ep, ho, r⟩ := hm
    exact ⟨o, es, ep, k _ o (fun z => (hf _ z).2.1 rfl) ho, r⟩
  · refine (I.hok b u e).stay (fun c v hc q => k c v ?_ q) (fun c q => q) fun c xs q => q
    rcases hc with z | z
    · rw [z]; exact nch b u e
    · exact nch c _ z
end
abbrev pairY (v1 v2 : V) : Hp → V → Hp → Prop := fun H x H' => ∃ T, x = .ref T ∧ H T = none ∧ H' = upd H T (.tup [v1, v2])
theorem tup2_ok {P : Program} {w : World} {H : Hp} {h : Heap} {T : Addr} {v1 v2 : V} {u1 u2 : Value} (r1 : RelV v1 u1) (r2 : RelV v2 u2) (e : h.get? T = some { cls := .type "tuple", data := .seq #[u1, u2] }) : ObjOk P w H h T (.tup [v1, v2]) :=
  ⟨⟨show 2 ≤ sizeLine by decide, fun o q => by rw [e] at q; cases q; rfl⟩, [u1, u2], .cons r1 (.cons r2 .nil), _, e, rfl, _, rfl⟩
theorem zipApart_mk {n l m : Nat} (h1 : l < n) (h2 : m < n) : ZipApart (n + 4) (n + 2) (n + 3) n (n + 1) l m := by
  constructor <;> (show (_ : Nat) ≠ _) <;> omega
section
variable {X : Cx} {elts : List Expr} {k : Nat} {tpos p pos : Pos} {a b : Expr} {ta : TA}
end
def ItP (J : It) (ok : Hp → Prop) (n : Nat) (f1 f2 : Nat → V) : Prop :=
  ∀ H, ok H → (∀ i, i < n → J.go i H ∧ ∀ x H', J.yld i H x H' → pairY (f1 i) (f2 i) H x H') ∧ J.stop n H
abbrev g2 (K : PySem.W.Frag) (a b : Nat) : TG := gTup K 2 (gCons (gName a) (gCons (gName b) gNil))
theorem g2_at {K : PySem.W.Frag} {a b : Nat} {T : Addr} {v1 v2 : V} {σ : St} {H : Hp} {Q : St → Hp → Prop} (h : H T = some (.tup [v1, v2])) (q : Q ((σ.set a (some v1)).set b (some v2)) H) : g2 K a b (.ref T) σ H Q :=
  ⟨T, _, rfl, SqT.of h, rfl, _, _, rfl, _, _, rfl, rfl, q⟩
theorem for_pair {K : PySem.W.Frag} {J : It} {ok : Hp → Prop} {n : Nat} {f1 f2 : Nat → V} {a b : Nat} {tb : TS} {D : Ends} {σ : St} {H : Hp} (hJ : ItP J ok n f1 f2) (Pv : Nat → St → Hp → Prop) (h0 : Pv 0 σ H) (hok : ∀ i τ H, i ≤ n → Pv i τ H → ok H)
    (hs : ∀ i σ H T, i < n → Pv i σ H → H T = none → tb { D with nx := Pv (i + 1), ct := Pv (i + 1), bk := D.nx } ((σ.set a (some (f1 i))).set b (some (f2 i))) (upd H T (.tup [f1 i, f2 i]))) (hd : ∀ σ H, Pv n σ H → D.nx σ H) :
    ∃ W : Nat → Nat → St → Hp → Prop, (∃ m, W 0 m σ H) ∧ ∀ i m σ H, W i m σ H →
      (J.stop i H ∧ D.nx σ H) ∨ (J.go i H ∧ ∃ N : St → Hp → Prop, (∀ σ' H', N σ' H' → ∃ m', m' < m ∧ W (i + 1) m' σ' H') ∧ ∀ x H', J.yld i H x H' → g2 K a b x σ H' fun σ2 H2 => tb { D with nx := N, ct := N, bk := D.nx } σ2 H2) := by
  refine ⟨fun i m σ H => m = n - i ∧ i ≤ n ∧ Pv i σ H, ⟨n, by simp, Nat.zero_le _, h0⟩, ?_⟩
  rintro i m σ H ⟨rfl, hi, p⟩
  obtain ⟨k1, k2⟩ := hJ H (hok i σ H hi p)
  by_cases hlt : i < n
  · refine .inr ⟨(k1 i hlt).1, Pv (i + 1), fun σ' H' p' => ⟨n - (i + 1), by omega, rfl, hlt, p'⟩, fun x H' y => ?_⟩
    obtain ⟨T, rfl, hT, rfl⟩ := (k1 i hlt).2 x H' y
    exact g2_at upd_same (hs i σ _ T hlt p hT)
  · have e : i = n := by omega
    subst e
    exact .inl ⟨k2, hd σ H p⟩
end L2
set_option maxRecDepth 100000
namespace PySem
theorem ask_keys_tuple {prog : Program} {w : World} {A : Around} {E : Value → Shared → Prop} {s : Shared} {a : Addr} {o : Obj} {xs : Array Value} {k : Nat} {Q : Option Value → Shared → Prop}
    (hx : s.heap.get? a = some o) (hc : o.cls = .type "tuple") (hdat : o.data = .seq xs k) (hd : o.dict = none) (hA : A.handled = none)
    (h : ∀ h' tk, (∀ b ob, s.heap.get? b = some ob → h'.get? b = some ob) → Q none { s with heap := h', toks := tk }) :
    wpAny (model prog w) A (getAttr? (.ref a) "keys") Q E s := by
  obtain ⟨c, dct, dat, sl⟩ := o
  simp only at hc hdat hd
  subst hc hdat hd
  obtain ⟨hp, g, d, tk, os⟩ := s
  have hT : ∀ tk', (⟨hp, g, d, tk', os⟩ : Shared).TypeIs (.ref a) "tuple" := fun _ => ⟨_, hx, rfl⟩
  have hmiss : typeLookup (.type "tuple") "keys" = pure none := am_miss_of_fast (by kernel_rfl)
  have f1 := sub_AttributeError
  have f3 := F.slot_tuple_getattribute.lookup
  have f4 := F.slot_tuple_getattribute.bind (.ref a)
  have f5 := am_tuple_getattr_none
  unfold getAttr? getAttrBy? getAttrBy
  repeat (any_goals (first | assumption | exact hT _ | ((with_reducible show wpAny _ _ (call (Value.builtin "tuple.__getattribute__") _ _) _ _ _); refine call_meets F.slot_tuple_getattribute (hT _) am_entry_tuple_getattribute (F.args_tuple_getattribute_2 _ _) (meets_getattribute_miss_tuple a xs k sl _ _ hmiss (by decide) (by decide)) ⟨hx, hA, fun h' tk' e hx' => ?_⟩) | wp_step))
  obtain ⟨t', u', he⟩ := hx'.there
  show wpAny _ _ (getattributeRaised _ _ _ _ _ _ _) _ _ _
  unfold getattributeRaised
  repeat (any_goals (first | assumption | wp_step))
  exact h _ _ hx'.keeps
end PySem
namespace PySem.F
theorem entry_dict_update_loop : entryFor table "dict.update.loop" = some Builtin.«dict.update.loop» := entryFor_of_tree (by kernel_rfl)
theorem plain_dict_update_loop : plainId "dict.update.loop" = true := by decide +kernel
end PySem.F
namespace L2
open PySem PySem.Spec PyProof.Rows
def PairsAt (H : Hp) (ys : List V) (rs : List (Key × V)) : Prop := ys.length = rs.length ∧ ∀ i (h : i < rs.length), ∃ b, ys[i]? = some (.ref b) ∧ H b = some (.tup [kV rs[i].1, rs[i].2])
def dictOf (rs : List (Key × V)) : List (Key × V) := rs.foldl (fun kvs r => putK kvs r.1 r.2) []
theorem foldPut_len (rs : List (Key × V)) : ∀ kvs : List (Key × V), (rs.foldl (fun kvs r => putK kvs r.1 r.2) kvs).length ≤ kvs.length + rs.length := by
  induction rs with
  | nil => intro kvs; exact Nat.le_refl _
  | cons r rs ih =>
    intro kvs
    have h1 := ih (putK kvs r.1 r.2)
    have h2 := length_putK kvs r.1 r.2
    rw [List.foldl_cons, List.length_cons]
    omega
theorem dictOf_len (rs : List (Key × V)) : (dictOf rs).length ≤ rs.length := by have := foldPut_len rs []; simpa [dictOf] using this
theorem dictOf_take (rs : List (Key × V)) (i : Nat) (h : i < rs.length) : dictOf (rs.take (i + 1)) = putK (dictOf (rs.take i)) rs[i].1 rs[i].2 := by
  unfold dictOf
  rw [List.take_add_one, List.getElem?_eq_getElem h, Option.toList_some, List.foldl_append]; rfl
section
variable {X : Cx}
theorem pairs_loop {pins : List (Addr × Obj)} {σ : St} {A : Around} {R : Result → Shared → Prop} {d it a : Addr} {ys : List V} {rs : List (Key × V)} (hA : A.handled = none) {H : Hp} (hH : H d = none) (hlen : rs.length ≤ sizeLine) (hp : PairsAt H ys rs) (ha : H a = some (.tup ys)) (hit : it ≠ d)
    (hR : ∀ s, Inv X pins σ (upd H d (.dK (dictOf rs))) s → R (.ok (.ret .none)) s) :
    ∀ (k i : Nat) (s : Shared), rs.length - i = k → i ≤ rs.length → Inv X pins σ (upd H d (.dK (dictOf (rs.take i)))) s → s.heap.IsTupleIter it a i → FpOk X pins (upd H d (.dK (dictOf (rs.take i)))) it →
      codeAny (model X.prog X.w) A (.builtin "dict.update.loop" ⟨[.ref d, .ref it, rawInt i, .none], []⟩) R s := by
  have had : a ≠ d := ne_of_none ha hH
  intro k
  induction k with
  | zero =>
    intro i s hk hi I st f
    have hin : i = rs.length := by omega
    subst hin
    refine codeAny_builtin F.entry_dict_update_loop ?_
    rw [Around.under_plainId F.plain_dict_update_loop _]
    show wpAny _ A.in1 (pyNext (.ref it) >>= _) _ _ s
    obtain ⟨its, rv, p, hz⟩ := I.tuple (SqT.of (by rw [upd_ne had]; exact ha))
    have hl := rv.length
    have hl2 := hp.1
    obtain ⟨f0, f1, f2, f3, f4, f5⟩ := f
    refine wpAny_bind (wpAny_pyNext_tuple_end (by simp [hA]) st (show s.heap.IsTuple a its.toArray from p) (by simp; omega) fun h' eb => ?_)
    have I1 := I.turned (t' := s.toks) (h' := h') (fun b o hb e => eb b o hb e) f0 f1 f3 f4 f5
    rw [List.take_length] at I1
    show wpAny _ _ (Builtin.Dict.addKeywords d [] >>= fun _ => ret .none) _ _ _
    exact wpAny_bind (wpAny_pure (wpAny_pure (hR _ I1)))
  | succ k ih =>
    intro i s hk hi I st f
    have hlt : i < rs.length := by omega
    refine codeAny_builtin F.entry_dict_update_loop ?_
    rw [Around.under_plainId F.plain_dict_update_loop _]
    show wpAny _ A.in1 (pyNext (.ref it) >>= _) _ _ s
    obtain ⟨its, rv, p, hz⟩ := I.tuple (SqT.of (by rw [upd_ne had]; exact ha))
    obtain ⟨b, hb1, hb2⟩ := hp.2 i hlt
    obtain ⟨u, hu, ru⟩ := rv.get hb1
    cases ru
    obtain ⟨f0, f1, f2, f3, f4, f5⟩ := id f
    refine wpAny_bind (wpAny_pyNext_tuple_item st (show s.heap.IsTuple a its.toArray from p) (x := .ref b) (by simpa using hu) fun h' st' sb => ?_)
    have I1 : Inv X pins σ (upd H d (.dK (dictOf (rs.take i)))) { s with heap := h' } := I.turned (t' := s.toks) (fun b o hb e => (sb.2 b hb).trans e) f0 f1 f3 f4 f5
    have hbd : b ≠ d := ne_of_none hb2 hH
    obtain ⟨its2, rv2, ⟨ob, ho, hc, n, hd2⟩, hz2⟩ := I1.tuple (SqT.of (a := b) (by rw [upd_ne hbd]; exact hb2))
    obtain ⟨u1, u2, rfl, r1, r2⟩ := rv2.two
    show wpAny _ A.in1 (holding [Value.ref b] _ >>= _) _ _ _
    refine wpAny_bind (wpAny_holding (wpAny_bind (wpAny_tryCatch ?_)))
    unfold Builtin.Dict.pairItems
    refine wpAny_bind (wpAny_typeOf (T := "tuple") ⟨ob, ho, hc⟩ ?_)
    rw [if_pos (by decide)]
    refine wpAny_bind (wpAny_seqItems ho hd2 (wpAny_pure ?_))
    show wpAny _ A.in1 (holding [u1, u2] (dictSet d u1 u2)) _ _ _
    refine wpAny_holding ?_
    obtain ⟨z, hd, vs, rel, dd⟩ := dk_of I1.hok (upd_same : upd H d (.dK (dictOf (rs.take i))) d = _)
    have hl0 := dictOf_len (rs.take i)
    rw [List.length_take] at hl0
    have hl1 : (dictOf (rs.take i)).length < sizeLine := by omega
    have hzz : vs.length ≤ sizeLine := by rw [← rel.length]; exact z
    have hlen' : (putK (dictOf (rs.take i)) rs[i].1 rs[i].2).length ≤ sizeLine := by have := length_putK (dictOf (rs.take i)) rs[i].1 rs[i].2; omega
    refine wpAny_dictSet_pairs (hsz := hzz) (kV_is r1) dd fun h2 dd' hs => ?_
    have he9 : ∃ q, h2.get? d = some q := let ⟨q, _, _, hq, _⟩ := dd'; ⟨q, hq⟩
    have I10 := d_write (t' := s.toks + 1) (ob := .dK (putK (dictOf (rs.take i)) rs[i].1 rs[i].2)) I1 (by rw [upd_same]; exact True.intro) hs he9 (dk_new hlen' hd (rel.put _ r2) dd')
    rw [upd_upd, ← dictOf_take rs i hlt] at I10
    refine wpAny_pure ⟨plainId_quiet F.plain_dict_update_loop _, ?_⟩
    exact ih (i + 1) _ (by omega) hlt I10 (st'.at fun o q => (hs.2 it hit).trans q) ⟨by rw [upd_ne hit] at f0 ⊢; exact f0, f1, f2, f3, f4, f5⟩
end
end L2
set_option maxRecDepth 100000
namespace L2
open PySem PySem.Spec PyProof.Rows
section
variable {X : Cx}
def rDictOf : List V → Hp → VK → Prop := fun xs H Q => ∃ a ys rs, xs = [.ref a] ∧ H a = some (.tup ys) ∧ PairsAt H ys rs ∧ rs.length ≤ sizeLine ∧ ∀ d, H d = none → Q (.ref d) (upd H d (.dK (dictOf rs)))
theorem call_dict_of (hc : X.calm = true) : CallR X (.type "dict") rDictOf := by
  intro pins s σ H xs us Q I r h
  obtain ⟨a, ys, rs, rfl, ha, hp, hl, q⟩ := h
  obtain ⟨u, rfl, ru⟩ := r.one
  cases ru
  refine callType_codes (Q₁ := fun obj s₁ => obj = .ref s.heap.objs.size ∧ s₁ = { s with heap := s.heap.push { cls := .type "dict", data := .dict #[] } }) F.kt_called_dict (F.kt_typeCall_dict_1 _) F.entry_dict_init (kt_code_dict_new _ ⟨rfl, rfl⟩) ?_
  rintro obj s₁ ⟨rfl, rfl⟩
  have fr : H s.heap.objs.size = none := I.hok.fresh (Nat.le_refl _)
  have hnew : (s.heap.push { cls := .type "dict", data := .dict #[] }).DictOf (mixKind X.prog X.w) s.heap.objs.size [] := Heap.DictOf.new s.heap
  have I1 : Inv X pins σ (upd H s.heap.objs.size (.dK [])) { s with heap := s.heap.push { cls := .type "dict", data := .dict #[] } } := I.laid (t' := s.toks) (fun b u e => Heap.get?_push_of_some _ e) (Nat.le_refl _)
    ⟨Nat.zero_le _, beq_eq_false_iff_ne.mpr (Ne.symm (Nat.ne_of_lt I.big)), [], .nil, hnew⟩
  have had : a ≠ s.heap.objs.size := ne_of_none ha fr
  obtain ⟨⟨z, nd⟩, its, rv, o, ho, hcl, n, hd⟩ := (show ObjOk X.prog X.w _ _ a (.tup ys) from I1.hok a _ (by rw [upd_ne had]; exact ha))
  refine ⟨hnew.typeIs, F.args_dict_init_2 _ _, ?_⟩
  unfold Builtin.«dict.__init__»
  refine wpAny_bind ?_
  unfold Builtin.Dict.selfAndRest
  refine wpAny_bind (wpAny_notOrdered_dict hnew.typeIs ?_)
  show wpAny _ _ (pure (s.heap.objs.size, [Value.ref a])) _ _ _
  refine wpAny_pure ?_
  show wpAny _ _ (Builtin.Dict.updateFrom "dict.__init__" s.heap.objs.size (.ref a) [] .none) _ _ _
  unfold Builtin.Dict.updateFrom
  refine wpAny_bind (wpAny_typeOf (T := "tuple") ⟨o, ho, hcl⟩ ?_)
  rw [if_pos (by decide)]
  have hh : X.A.handled = none := I.ok.hd hc
  refine wpAny_bind (ask_keys_tuple ho hcl hd (nd _ ho) (by simp [hh]) fun h' tk hk => ?_)
  rw [if_pos (by rfl)]
  refine wpAny_bind (wpAny_rule ?_)
  have I2 : Inv X pins σ (upd H s.heap.objs.size (.dK [])) { s with heap := h', toks := tk } := I1.kept (t' := tk) hk
  obtain ⟨its2, rv2, p2, hz2⟩ := I2.tuple (SqT.of (a := a) (xs := ys) (by rw [upd_ne had]; exact ha))
  refine wpAny_bind (wpAny_pyIter_tuple (show Heap.IsTuple h' a its2.toArray from p2) ?_)
  have hsz : s.heap.objs.size < h'.objs.size := by
    obtain ⟨_, _, _, e, _⟩ := hnew
    exact Heap.lt_size (hk _ _ e)
  refine wpAny_pure ⟨plainId_quiet F.plain_dict_update_loop _, ?_⟩
  refine pairs_loop (X := X) (pins := pins) (σ := σ) (by simp [hh]) fr hl hp ha (Nat.ne_of_gt hsz) (fun s' I' => ⟨rfl, .ref s.heap.objs.size, _, I', rfl, q _ fr⟩) rs.length 0 _ rfl (Nat.zero_le _) (I2.kept (t' := tk) fun b o e => Heap.get?_push_of_some _ e) ⟨_, Heap.get?_push_size _ rfl, rfl, rfl⟩ (I2.fpOk (Nat.le_refl _) (I2.hok.fresh (Nat.le_refl _)))
end
def Tk (H H' : Hp) : Prop := ∀ b xs, H b = some (.tup xs) → H' b = some (.tup xs)
theorem Tk.refl {H : Hp} : Tk H H := fun _ _ h => h
theorem Tk.trans {H H1 H2 : Hp} (a : Tk H H1) (b : Tk H1 H2) : Tk H H2 := fun c xs h => b c xs (a c xs h)
theorem Same.ts {H H' : Hp} (s : Same H H') : Tk H H' := fun b xs h => s b _ h
theorem Tk.upd {H H' : Hp} {a : Addr} {o : HO} (s : Tk H H') (h : H' a = none) : Tk H (L2.upd H' a o) := fun b xs e => by rw [upd_ne (ne_of_none (s b xs e) h)]; exact s b xs e
theorem Tk.set {H H' : Hp} {a : Addr} {o o' : HO} (s : Tk H H') (h : H' a = some o) (hn : ∀ xs, o ≠ .tup xs) : Tk H (L2.upd H' a o') := fun b xs e => by
  rw [upd_ne (fun z => by rw [z] at e; have := s a xs e; rw [h] at this; cases this; exact hn _ rfl)]; exact s b xs e
inductive TDen (H : Hp) : V → PyData → Prop
  | str (z : Str) : TDen H (.str z) (.str z)
  | tup {a : Addr} {xs : List V} {ds : List PyData} : H a = some (.tup xs) → xs.length = ds.length → (∀ i (h : i < xs.length) (h' : i < ds.length), TDen H xs[i] ds[i]) → TDen H (.ref a) (.tuple ds)
theorem TDen.ts {H H' : Hp} (s : Tk H H') {v : V} {d : PyData} (h : TDen H v d) : TDen H' v d := by
  induction h with
  | str z => exact .str z
  | tup e hl _ ih => exact .tup (s _ _ e) hl ih
theorem showableAll_of : ∀ {ds : List PyData}, (∀ d ∈ ds, d.showable = true) → PyData.showableAll ds = true
  | [], _ => by simp [PyData.showableAll]
  | d :: ds, h => by simp [PyData.showableAll, h d List.mem_cons_self, showableAll_of fun x hx => h x (List.mem_cons_of_mem _ hx)]
theorem hasDictAll_of : ∀ {ds : List PyData}, (∀ d ∈ ds, d.hasDict = false) → PyData.hasDictAll ds = false
  | [], _ => by simp [PyData.hasDictAll]
  | d :: ds, h => by simp [PyData.hasDictAll, h d List.mem_cons_self, hasDictAll_of fun x hx => h x (List.mem_cons_of_mem _ hx)]
theorem depthAll_le {k : Nat} : ∀ {ds : List PyData}, (∀ d ∈ ds, d.depth ≤ k) → PyData.depthAll ds ≤ k
  | [], _ => by simp [PyData.depthAll]
  | d :: ds, h => by
    have h1 := h d List.mem_cons_self
    have h2 := depthAll_le (ds := ds) fun x hx => h x (List.mem_cons_of_mem _ hx)
    simp [PyData.depthAll]; omega
theorem sum_le {n : Nat} : ∀ {ts : List Str}, (∀ t ∈ ts, t.length ≤ n) → (ts.map (·.length)).sum ≤ ts.length * n
  | [], _ => by simp
  | t :: ts, h => by
    have h1 := h t List.mem_cons_self
    have h2 := sum_le (ts := ts) fun x hx => h x (List.mem_cons_of_mem _ hx)
    rw [List.map_cons, List.sum_cons, List.length_cons, Nat.add_mul]; omega
def TB (H : Hp) (v : V) (k n : Nat) : Prop := ∃ d, TDen H v d ∧ d.depth ≤ k ∧ d.shown.length ≤ n ∧ d.showable = true ∧ d.hasDict = false
def Wd (z : Str) : Prop := z.length ≤ 20 ∧ ∀ c ∈ z.cps.toList, c < 128
theorem TB.mono {H : Hp} {v : V} {k n k' n' : Nat} (h : TB H v k n) (hk : k ≤ k') (hn : n ≤ n') : TB H v k' n' := by
  obtain ⟨d, h1, h2, h3, h4, h5⟩ := h
  exact ⟨d, h1, by omega, by omega, h4, h5⟩
theorem TB.ts {H H' : Hp} (s : Tk H H') {v : V} {k n : Nat} (h : TB H v k n) : TB H' v k n := by
  obtain ⟨d, h1, h2⟩ := h
  exact ⟨d, h1.ts s, h2⟩
theorem TB.str {H : Hp} {z : Str} (h : Wd z) : TB H (.str z) 0 202 := by
  refine ⟨.str z, .str z, by simp [PyData.depth], ?_, by simp [PyData.showable], by simp [PyData.hasDict]⟩
  show (PyData.str z).shown.length ≤ 202
  simp only [PyData.shown]
  have := StrLaws.reprText_len z (fun c hc => Nat.lt_of_lt_of_le (h.2 c hc) (by decide))
  have := h.1
  omega
theorem TB.tup {H : Hp} {a : Addr} {xs : List V} {k n : Nat} (e : H a = some (.tup xs)) (h : ∀ x ∈ xs, TB H x k n) : TB H (.ref a) (k + 1) (xs.length * (n + 2) + 3) := by
  have hc : ∀ i : Fin xs.length, ∃ d, TDen H xs[i.val] d ∧ d.depth ≤ k ∧ d.shown.length ≤ n ∧ d.showable = true ∧ d.hasDict = false := fun i => h _ (List.getElem_mem i.isLt)
  obtain ⟨f, hf⟩ := Classical.axiomOfChoice hc
  have hm : ∀ d ∈ List.ofFn f, d.depth ≤ k ∧ d.shown.length ≤ n ∧ d.showable = true ∧ d.hasDict = false := fun d hd => by
    obtain ⟨i, rfl⟩ := List.mem_ofFn.mp hd
    exact (hf i).2
  refine ⟨.tuple (List.ofFn f), .tup e (by simp) fun i h1 h2 => ?_, ?_, ?_, ?_, ?_⟩
  · have := (hf ⟨i, h1⟩).1
    simpa using this
  · simp only [PyData.depth]
    have := depthAll_le (fun d hd => (hm d hd).1)
    omega
  · simp only [PyData.shown]
    have h1 := tupleText_len_le (PyData.shownAll (List.ofFn f))
    have e2 : PyData.shownAll (List.ofFn f) = (List.ofFn f).map PyData.shown := shownAll_eq_map _
    have h2 : ((PyData.shownAll (List.ofFn f)).map (·.length)).sum ≤ (PyData.shownAll (List.ofFn f)).length * n := sum_le fun t ht => by
      rw [e2] at ht
      obtain ⟨d, hd, rfl⟩ := List.mem_map.mp ht
      exact (hm d hd).2.1
    have h3 : (PyData.shownAll (List.ofFn f)).length = xs.length := by rw [e2]; simp
    rw [h3] at h1 h2
    rw [Nat.mul_add]; omega
  · simp only [PyData.showable]
    exact showableAll_of fun d hd => (hm d hd).2.2.1
  · simp only [PyData.hasDict]
    exact hasDictAll_of fun d hd => (hm d hd).2.2.2
theorem valV_dictOf (rs : List (Key × V)) : (rs.map (·.1)).Nodup → ∀ i (h : i < rs.length), valV (dictOf rs) rs[i].1 = some rs[i].2 := by
  have gen : ∀ (rs : List (Key × V)) (kvs : List (Key × V)), (rs.map (·.1)).Nodup → ∀ k, valV (rs.foldl (fun kvs r => putK kvs r.1 r.2) kvs) k = ((rs.find? fun r => decide (r.1 = k)).map (·.2)).or (valV kvs k) := by
    intro rs
    induction rs with
    | nil => intro kvs _ k; simp
    | cons r rs ih =>
      intro kvs hn k
      rw [List.map_cons, List.nodup_cons] at hn
      rw [List.foldl_cons, ih _ hn.2, valV_put]
      by_cases e : r.1 = k
      · have : rs.find? (fun r => decide (r.1 = k)) = none := by
          rw [List.find?_eq_none]
          intro x hx z
          have z' := of_decide_eq_true z
          exact hn.1 (List.mem_map.mpr ⟨x, hx, by rw [z', e]⟩)
        rw [this, List.find?_cons, if_pos e.symm]
        simp [e]
      · rw [if_neg (fun z => e z.symm), List.find?_cons]
        simp [e]
  intro hn i h
  unfold dictOf
  rw [gen rs [] hn]
  have : rs.find? (fun r => decide (r.1 = rs[i].1)) = some rs[i] := by
    rw [List.find?_eq_some_iff_getElem]
    refine ⟨by simp, i, h, rfl, fun j hj => ?_⟩
    have hne : (rs.map (·.1))[j]'(by simp; omega) ≠ (rs.map (·.1))[i]'(by simpa using h) := fun z => by
      exact (List.pairwise_iff_getElem.mp hn j i (by simp; omega) (by simpa using h) hj) z
    simpa using hne
  rw [this]; rfl
abbrev rowsK (rs : List (Str × V)) : List (Key × V) := rs.map fun r => (Sum.inr r.1, r.2)
def AsV (H : Hp) (v : V) (o : Option Str) : Prop := ∃ b, v = .ref b ∧ ((∃ s ys, H b = some (.tup (.str s :: ys)) ∧ s ≠ "as" ∧ o = none) ∨ ∃ x, H b = some (.tup [.str "as", .str x]) ∧ o = some x)
theorem AsV.ts {H H' : Hp} (s : Tk H H') {v : V} {o : Option Str} (h : AsV H v o) : AsV H' v o := by
  obtain ⟨b, e, h⟩ := h
  refine ⟨b, e, ?_⟩
  rcases h with ⟨z, ys, h1, h2⟩ | ⟨x, h1, h2⟩
  · exact .inl ⟨z, ys, s _ _ h1, h2⟩
  · exact .inr ⟨x, s _ _ h1, h2⟩
structure GoodT (H : Hp) (a : Addr) (xs : List V) (rs : List (Str × V)) (nx : Str → Option Str) (ρ : Str → Nat) : Prop where
  at_ : H a = some (.tup xs)
  ps : PairsAt H xs (rowsK rs)
  nd : (rs.map (·.1)).Nodup
  len : rs.length ≤ 300
  pos : 0 < rs.length
  as : ∀ r ∈ rs, AsV H r.2 (nx r.1)
  inn : ∀ r ∈ rs, ∀ y, nx r.1 = some y → y ∈ rs.map (·.1) ∧ ρ y < ρ r.1
  rk : ∀ r ∈ rs, ρ r.1 ≤ rs.length
  tb : ∀ r ∈ rs, Wd r.1 ∧ TB H r.2 3 8273
theorem PairsAt.ts {H H' : Hp} {ys : List V} {rs : List (Key × V)} (p : PairsAt H ys rs) (s : Tk H H') : PairsAt H' ys rs := ⟨p.1, fun i h => let ⟨b, e1, e2⟩ := p.2 i h; ⟨b, e1, s _ _ e2⟩⟩
section
variable {H H' : Hp} {a : Addr} {xs : List V} {rs : List (Str × V)} {nx : Str → Option Str} {ρ : Str → Nat}
theorem GoodT.ts (g : GoodT H a xs rs nx ρ) (s : Tk H H') : GoodT H' a xs rs nx ρ :=
  ⟨s _ _ g.at_, g.ps.ts s, g.nd, g.len, g.pos, fun r hr => (g.as r hr).ts s, g.inn, g.rk, fun r hr => ⟨(g.tb r hr).1, (g.tb r hr).2.ts s⟩⟩
theorem rowsK_nd (h : (rs.map (·.1)).Nodup) : ((rowsK rs).map (·.1)).Nodup := by
  have e : (rowsK rs).map (·.1) = (rs.map (·.1)).map (Sum.inr : Str → Key) := by simp [rowsK, List.map_map, Function.comp_def]
  rw [e]
  exact List.Pairwise.map _ (fun a b hab z => hab (Sum.inr.inj z)) h
theorem GoodT.get (g : GoodT H a xs rs nx ρ) {x : Str} (hx : x ∈ rs.map (·.1)) : ∃ v, (x, v) ∈ rs ∧ valV (dictOf (rowsK rs)) (.inr x) = some v := by
  obtain ⟨r, hr, rfl⟩ := List.mem_map.mp hx
  obtain ⟨i, hi, rfl⟩ := List.getElem_of_mem hr
  refine ⟨rs[i].2, hr, ?_⟩
  have := valV_dictOf (rowsK rs) (rowsK_nd g.nd) i (by simpa using hi)
  simpa using this
def stp (nx : Str → Option Str) (x : Str) : Str := (nx x).getD x
def stps (nx : Str → Option Str) : Nat → Str → Str
  | 0, x => x
  | n + 1, x => stps nx n (stp nx x)
theorem stps_stay (n : Nat) {x : Str} (h : nx x = none) : stps nx n x = x := by
  induction n with
  | zero => rfl
  | succ n ih => rw [stps]; rw [show stp nx x = x by simp [stp, h]]; exact ih
theorem GoodT.run (g : GoodT H a xs rs nx ρ) : ∀ (n : Nat) (x : Str), x ∈ rs.map (·.1) → ρ x ≤ n → stps nx n x ∈ rs.map (·.1) ∧ nx (stps nx n x) = none ∧ stps nx (n + 1) x = stps nx n x := by
  intro n
  induction n with
  | zero =>
    intro x hx hr
    obtain ⟨r, hr', rfl⟩ := List.mem_map.mp hx
    cases e : nx r.1 with
    | none => exact ⟨hx, e, stps_stay 1 e⟩
    | some y => have := (g.inn r hr' y e).2; omega
  | succ n ih =>
    intro x hx hr
    obtain ⟨r, hr', rfl⟩ := List.mem_map.mp hx
    cases e : nx r.1 with
    | none =>
      rw [stps_stay _ e, stps_stay _ e]
      exact ⟨hx, e, rfl⟩
    | some y =>
      have e2 : stp nx r.1 = y := by simp [stp, e]
      obtain ⟨h1, h2⟩ := g.inn r hr' y e
      have := ih y h1 (by omega)
      rw [stps, stps, e2]
      exact this
def rowEnd (nx : Str → Option Str) (n : Nat) (x : Str) : Str := stps nx n x
theorem GoodT.endIn (g : GoodT H a xs rs nx ρ) {x : Str} (hx : x ∈ rs.map (·.1)) : rowEnd nx rs.length x ∈ rs.map (·.1) ∧ nx (rowEnd nx rs.length x) = none := by
  obtain ⟨r, hr, rfl⟩ := List.mem_map.mp hx
  obtain ⟨h1, h2, _⟩ := g.run rs.length r.1 hx (g.rk r hr)
  exact ⟨h1, h2⟩
theorem GoodT.endStep (g : GoodT H a xs rs nx ρ) {x y : Str} (hx : x ∈ rs.map (·.1)) (e : nx x = some y) : rowEnd nx rs.length y = rowEnd nx rs.length x := by
  obtain ⟨r, hr, rfl⟩ := List.mem_map.mp hx
  obtain ⟨h1, h2, h3⟩ := g.run rs.length r.1 hx (g.rk r hr)
  have e2 : stp nx r.1 = y := by simp [stp, e]
  rw [stps, e2] at h3
  exact h3
end
theorem cut_to (xs : List V) (k : Nat) : cutV xs none (some (k : Int)) = xs.take k := by
  unfold cutV
  rw [HT.sIx_nat, HT.sIx_none]
  simp
theorem nodup_get {α : Type} {l : List α} (h : l.Nodup) {i j : Nat} {x : α} (hi : l[i]? = some x) (hj : l[j]? = some x) : i = j := by
  obtain ⟨a, e1⟩ := List.getElem?_eq_some_iff.mp hi
  obtain ⟨b, e2⟩ := List.getElem?_eq_some_iff.mp hj
  rcases Nat.lt_trichotomy i j with z | z | z
  · exact ((List.pairwise_iff_getElem.mp h i j a b z) (e1.trans e2.symm)).elim
  · exact z
  · exact ((List.pairwise_iff_getElem.mp h j i b a z) (e2.trans e1.symm)).elim
theorem idxOf_get {α : Type} [BEq α] [LawfulBEq α] {l : List α} (h : l.Nodup) {i : Nat} {x : α} (hi : l[i]? = some x) : l.idxOf x = i := by
  have hm : x ∈ l := List.mem_of_getElem? hi
  have h1 : l.idxOf x < l.length := List.idxOf_lt_length_of_mem hm
  have h2 : l[l.idxOf x]? = some x := by rw [List.getElem?_eq_getElem h1, List.getElem_idxOf]
  exact nodup_get h h2 hi
open Classical in
theorem wd_ascii {z : Str} (h1 : z.length ≤ 20) (h2 : ∀ c ∈ z.cps.toList, c < 128) : Wd z := ⟨h1, h2⟩
end L2
set_option maxRecDepth 100000
namespace L2
open PySem PySem.Spec PyProof.Rows
section
variable {α β : Type} {R : α → β → Prop}
theorem prd_append : ∀ {xs xs' : List α} {ys ys' : List β}, Paired R xs ys → Paired R xs' ys' → Paired R (xs ++ xs') (ys ++ ys')
  | _, _, _, _, .nil, h => h
  | _, _, _, _, .cons a r, h => .cons a (prd_append r h)
theorem prd_mk : ∀ {xs : List α} {ys : List β}, xs.length = ys.length → (∀ i (h : i < xs.length) (h' : i < ys.length), R xs[i] ys[i]) → Paired R xs ys
  | [], [], _, _ => .nil
  | x :: xs, y :: ys, hl, h => .cons (h 0 (by simp) (by simp)) (prd_mk (by simpa using hl) fun i a b => h (i + 1) (by simpa using a) (by simpa using b))
theorem prd_get : ∀ {xs : List α} {ys : List β}, Paired R xs ys → xs.length = ys.length ∧ ∀ i (h : i < xs.length) (h' : i < ys.length), R xs[i] ys[i]
  | _, _, .nil => ⟨rfl, fun i h => absurd h (by simp)⟩
  | _, _, .cons a r => by
    obtain ⟨h1, h2⟩ := prd_get r
    refine ⟨by simp [h1], fun i h h' => ?_⟩
    cases i with
    | zero => exact a
    | succ i => exact h2 i (by simpa using h) (by simpa using h')
end
def PR (H : Hp) (x : V) (r : Key × V) : Prop := ∃ b, x = .ref b ∧ H b = some (.tup [kV r.1, r.2])
theorem pairs_iff {H : Hp} {xs : List V} {rs : List (Key × V)} : PairsAt H xs rs ↔ Paired (PR H) xs rs := by
  constructor
  · rintro ⟨hl, h⟩
    refine prd_mk hl fun i h1 h2 => ?_
    obtain ⟨b, e1, e2⟩ := h i h2
    rw [List.getElem?_eq_getElem h1] at e1
    exact ⟨b, Option.some.inj e1, e2⟩
  · intro h
    obtain ⟨hl, h'⟩ := prd_get h
    refine ⟨hl, fun i h2 => ?_⟩
    obtain ⟨b, e1, e2⟩ := h' i (by omega) h2
    exact ⟨b, by rw [List.getElem?_eq_getElem (by omega), e1], e2⟩
section
variable {H : Hp} {xs : List V} {rs : List (Str × V)}
theorem rowsK_append (a b : List (Str × V)) : rowsK (a ++ b) = rowsK a ++ rowsK b := by simp [rowsK]
theorem pairs_nil : PairsAt H [] (rowsK []) := pairs_iff.mpr .nil
theorem pairs_snoc (h : PairsAt H xs (rowsK rs)) {b : Addr} {n : Str} {v : V} (e : H b = some (.tup [.str n, v])) : PairsAt H (xs ++ [.ref b]) (rowsK (rs ++ [(n, v)])) := by
  rw [rowsK_append]
  exact pairs_iff.mpr (prd_append (pairs_iff.mp h) (.cons ⟨b, rfl, e⟩ .nil))
end
section
variable {X : Cx} {pins : List (Addr × Obj)} {σ : St} {H : Hp} {s : Shared}
end
section
variable {X : Cx} {e1 e2 : Expr} {p pos : Pos} {k : Nat} {g1 g2 : TG}
end
def KD (w : World) (K : PySem.W.Frag) (a : Addr) (kvs : List (Key × V)) : Prop := ∀ P : Program, ∃ (o : Obj) (es : Array DictEntry) (ep : Nat) (vs : List (Key × Value)), K.lookup a = some o ∧ (a == sysModules) = false ∧ o.ExactDict ∧ o.data = .dict es ep ∧ KeysOf (mixKind P w) es ∧ Pairs (mixKind P w) es.toList vs ∧ (vs.map (·.1)).Nodup ∧ KV kvs vs
section
variable {X : Cx} {pins : List (Addr × Obj)} {σ : St} {H : Hp} {s : Shared} {a : Addr} {kvs : List (Key × V)}
theorem KD.of (h : KD X.w X.K a kvs) (I : Inv X pins σ H s) : (a == sysModules) = false ∧ ∃ vs, KV kvs vs ∧ s.heap.DictOf (mixKind X.prog X.w) a vs := by
  obtain ⟨o, es, ep, vs, h1, h2, h3, h4, h5, h6, h7, h8⟩ := h X.prog
  exact ⟨h2, vs, h8, o, es, ep, I.kIn a o h1, h3, h4, h5, h6, h7⟩
variable {x : Str} {e : Expr} {pos p : Pos} {te : TE}
def tKGet (kvs : List (Key × V)) (te : TE) : TE := fun σ H Q => te σ H fun y H1 => ∃ k v, y = kV k ∧ valV kvs k = some v ∧ Q v H1
theorem z_kget {w : World} {K : PySem.W.Frag} (hx : ∃ a, X.mg x = some (.ref a) ∧ KD w K a kvs) (he : SE X e te) (hs : NoSl e) (hw : X.w = w := by rfl) (hK : X.K = K := by rfl) (hg : Gl X x := by rfl) (hd : (x == ("__debug__" : Str)) = false := by decide) : SE X (.Subscript (.Name x p) e pos) (tKGet kvs te) := by
  subst hw hK
  obtain ⟨a, hm, kd⟩ := hx
  constructor
  intro pins s σ H Q I h
  refine subD_of PySem.F.slot_dict_getitem.lookup hs (thn (pe_glob (v := .ref a) hg hm rfl hd pins s σ H (fun v H' => v = .ref a ∧ H' = H) I ⟨rfl, rfl⟩) fun u s2 ⟨z, H2, I2, rz, ez, eH⟩ => ?_)
  subst ez eH
  cases rz
  refine thn (he.h pins s2 σ _ _ I2 h) ?_
  rintro iv s3 ⟨y, H3, I3, ry, k, v, ey, ev, q⟩
  subst ey
  obtain ⟨h1, vs, rel, dd⟩ := kd.of I3
  obtain ⟨w', hw, rw'⟩ := RelO.some_of (v := v) (o := valueAt vs k) (by rw [← ev]; exact rel.val k)
  exact ⟨dd.typeIs, wpAny_getItem_of (kV_is ry) dd.mapOf hw ⟨v, _, I3.tok _, rw', q⟩⟩
end
theorem KV.len {kvs : List (Key × V)} {vs : List (Key × Value)} (r : KV kvs vs) : kvs.length = vs.length := Paired.length r
section
variable {X : Cx}
end
section
variable {X : Cx} {tg a b c : Expr} {ta : TA} {p pos : Pos}
end
inductive Dt where
  | str (z : Str)
  | tup (ds : List Dt)
  | oth
inductive DD (H : Hp) : V → Dt → Prop
  | str {z : Str} (h : z.length ≤ 100000) : DD H (.str z) (.str z)
  | tup {a : Addr} {xs : List V} {ds : List Dt} : H a = some (.tup xs) → xs.length = ds.length → xs.length ≤ 1000 → (∀ i (h : i < xs.length) (h' : i < ds.length), DD H xs[i] ds[i]) → DD H (.ref a) (.tup ds)
  | non : DD H .non .oth
  | bl (b : Bool) : DD H (.bl b) .oth
  | int (i : Int) : DD H (.int i) .oth
  | lst {a : Addr} {xs : List V} : H a = some (.lst xs) → DD H (.ref a) .oth
  | dct {a : Addr} {kvs : List (Key × V)} : H a = some (.dK kvs) → DD H (.ref a) .oth
theorem DD.same {H H' : Hp} (s : Same H H') {v : V} {d : Dt} (h : DD H v d) : DD H' v d := by
  induction h with
  | str h => exact .str h
  | tup e hl hn _ ih => exact .tup (s _ _ e) hl hn ih
  | non => exact .non
  | bl b => exact .bl b
  | int i => exact .int i
  | lst e => exact .lst (s _ _ e)
  | dct e => exact .dct (s _ _ e)
def nameD : Dt → Bool | .str z => isName z | _ => false
def pairD : Dt → Bool | .tup [a, b] => nameD a && nameD b | _ => false
def fstS : Dt → Str | .tup (.str z :: _) => z | _ => ""
def strLt (a b : Str) : Bool := decide (a.cps.toList < b.cps.toList)
def rising : List Str → Bool
  | a :: b :: r => strLt a b && rising (b :: r)
  | _ => true
def pairsD : Dt → Bool | .tup ps => ps.all pairD && rising (ps.map fstS) | _ => false
def worded (s : Str) : Bool := s == "box" || s == "pick"
def behindN (s : Str) : Option Nat := if s == "all" then some 0 else if s == "none" then some 0 else if s == "way" then some 2 else if s == "as" then some 1 else none
def headD : Dt → Bool
  | .tup (.str s :: rest) => if worded s then (match rest with | [p] => pairsD p | _ => false) else match behindN s with | some n => decide (rest.length = n) && rest.all nameD | none => false
  | _ => false
theorem FnK.imp {P : Program} {w : World} {K : PySem.W.Frag} {mg : Str → Option Value} {base : Heap} {k : Nat} {x : Str} {ps : List Str} {sp sp' : Sp} (F : FnK P w K mg base k x ps sp) (h : ∀ vs H Q E, sp' vs H Q E → sp vs H Q E) : FnK P w K mg base k x ps sp' := by
  obtain ⟨f, fd, G, r⟩ := F
  exact ⟨f, fd, G.imp h, r⟩
theorem dictOf_nodup (rs : List (Key × V)) : (rs.map (·.1)).Nodup → dictOf rs = rs := by
  have gen : ∀ (rs kvs : List (Key × V)), (rs.map (·.1)).Nodup → (∀ r ∈ rs, valV kvs r.1 = none) → rs.foldl (fun kvs r => putK kvs r.1 r.2) kvs = kvs ++ rs := by
    intro rs
    induction rs with
    | nil => intro kvs _ _; simp
    | cons r rs ih =>
      intro kvs hn hk
      rw [List.map_cons, List.nodup_cons] at hn
      rw [List.foldl_cons, putK_new _ (hk r List.mem_cons_self), ih _ hn.2 fun x hx => ?_]
      · simp
      · rw [valV_snoc _ _ _ _ (hk r List.mem_cons_self), if_neg (fun e => hn.1 (List.mem_map.mpr ⟨x, hx, e⟩))]
        exact hk x (List.mem_cons_of_mem _ hx)
  intro hn
  have := gen rs [] hn (fun _ _ => rfl)
  simpa [dictOf] using this
theorem nameD_str {H : Hp} {v : V} {d : Dt} (h : DD H v d) (hn : nameD d = true) : ∃ z, v = .str z ∧ d = .str z ∧ isName z = true := by
  cases h with
  | str _ => exact ⟨_, rfl, rfl, hn⟩
  | tup _ _ _ _ => exact Bool.noConfusion hn
  | non => exact Bool.noConfusion hn
  | bl _ => exact Bool.noConfusion hn
  | int _ => exact Bool.noConfusion hn
  | lst _ => exact Bool.noConfusion hn
  | dct _ => exact Bool.noConfusion hn
def sndD : Dt → Dt | .tup (_ :: h :: _) => h | _ => .oth
def asD : Dt → Option Str | .tup [.str s, .str x] => if s == "as" then some x else none | _ => none
def rowsD (ds : List Dt) : List (Str × Dt) := ds.map fun d => (fstS d, sndD d)
def nxD (rs : List (Str × Dt)) (n : Str) : Option Str := (rs.find? fun r => decide (r.1 = n)).bind fun r => asD r.2
theorem headD_eq (z : Str) (ds : List Dt) : headD (.tup (.str z :: ds)) = if worded z then (match ds with | [p] => pairsD p | _ => false) else match behindN z with | some n => decide (ds.length = n) && ds.all nameD | none => false := rfl
theorem headD_at {H : Hp} {v : V} {d : Dt} (h : DD H v d) (hh : headD d = true) : ∃ a z xs ds, v = .ref a ∧ d = .tup (.str z :: ds) ∧ H a = some (.tup (.str z :: xs)) ∧ xs.length = ds.length ∧ xs.length < 1000 ∧ (∀ i (h : i < xs.length) (h' : i < ds.length), DD H xs[i] ds[i]) ∧
    ((worded z = true ∧ ∃ p, ds = [p] ∧ pairsD p = true) ∨ (worded z = false ∧ ∃ n, behindN z = some n ∧ ds.length = n ∧ ds.all nameD = true)) := by
  cases h with
  | @tup a xs ds e hl hn hds =>
    match ds, hl, hh, hds with
    | .str z :: ds, hl, hh, hds =>
      match xs, hl, e, hn, hds with
      | x0 :: xs, hl, e, hn, hds =>
        have h0 := hds 0 (by simp) (by simp)
        simp only [List.getElem_cons_zero] at h0
        cases h0
        refine ⟨a, z, xs, ds, rfl, rfl, e, by simpa using hl, by simp at hn; omega, fun i h h' => hds (i + 1) (by simpa using h) (by simpa using h'), ?_⟩
        rw [headD_eq] at hh
        cases hw : worded z with
        | true =>
          rw [hw] at hh
          simp only [if_true] at hh
          match ds, hh with
          | [p], hh => exact .inl ⟨rfl, p, rfl, hh⟩
        | false =>
          rw [hw] at hh
          simp only [Bool.false_eq_true, if_false] at hh
          cases hb : behindN z with
          | none => rw [hb] at hh; exact Bool.noConfusion hh
          | some n =>
            rw [hb] at hh
            simp only [Bool.and_eq_true, decide_eq_true_eq] at hh
            exact .inr ⟨rfl, n, rfl, hh.1, hh.2⟩
    | .tup _ :: _, _, hh, _ => exact Bool.noConfusion hh
    | .oth :: _, _, hh, _ => exact Bool.noConfusion hh
    | [], _, hh, _ => exact Bool.noConfusion hh
  | str _ => exact Bool.noConfusion hh
  | non => exact Bool.noConfusion hh
  | bl _ => exact Bool.noConfusion hh
  | int _ => exact Bool.noConfusion hh
  | lst _ => exact Bool.noConfusion hh
  | dct _ => exact Bool.noConfusion hh
theorem worded_as : worded "as" = false := by decide
theorem asD_as {H : Hp} {v : V} {d : Dt} (h : DD H v d) (hh : headD d = true) : AsV H v (asD d) := by
  obtain ⟨a, z, xs, ds, rfl, rfl, e, hl, hn, hds, hc⟩ := headD_at h hh
  refine ⟨a, rfl, ?_⟩
  by_cases hz : z = "as"
  · subst hz
    rcases hc with ⟨hw, _⟩ | ⟨_, n, hb, hdl, hda⟩
    · rw [worded_as] at hw; cases hw
    · have hn1 : n = 1 := by
        have : behindN "as" = some 1 := by decide
        rw [this] at hb; cases hb; rfl
      subst hn1
      match ds, hdl, hl, hda, hds with
      | [d1], _, hl, hda, hds =>
        match xs, hl, e, hds with
        | [x1], _, e, hds =>
          simp only [List.all_cons, List.all_nil, Bool.and_true] at hda
          obtain ⟨y, q1, q2, _⟩ := nameD_str (hds 0 (by simp) (by simp)) hda
          simp only [List.getElem_cons_zero] at q1
          subst q1 q2
          exact .inr ⟨y, e, by simp [asD]⟩
  · refine .inl ⟨z, xs, e, hz, ?_⟩
    have hz' : (z == Str.ofString "as") = false := by simpa using hz
    unfold asD
    split
    · next s x heq =>
      injection heq with heq
      injection heq with h1 _
      injection h1 with h1
      rw [← h1, if_neg (by rw [hz']; exact Bool.false_ne_true)]
    · rfl
theorem tNext_seq2 {t : TS} {D : Ends} {σ : St} {H : Hp} {rt : VK} {bk ct : St → Hp → Prop} (h : t D σ H) : tNext { nx := t D, rt := rt, bk := bk, ct := ct } σ H := h
structure RowsDt (H : Hp) (xs : List V) (ds : List Dt) (rs : List (Str × V)) (hs : List Dt) : Prop where
  l1 : rs.length = ds.length
  l2 : hs.length = ds.length
  ps : PairsAt H xs (rowsK rs)
  dd : ∀ i (h : i < ds.length) (h1 : i < rs.length) (h2 : i < hs.length), ds[i] = .tup [.str rs[i].1, hs[i]] ∧ DD H rs[i].2 hs[i] ∧ headD hs[i] = true ∧ isName rs[i].1 = true
section
variable {H : Hp} {xs : List V} {ds : List Dt} {rs : List (Str × V)} {hs : List Dt}
theorem RowsDt.rows (R : RowsDt H xs ds rs hs) {i : Nat} (h : i < ds.length) (h1 : i < rs.length) (h2 : i < hs.length) : (rowsD ds)[i]? = some (rs[i].1, hs[i]) := by
  unfold rowsD
  rw [List.getElem?_map, List.getElem?_eq_getElem h, (R.dd i h h1 h2).1]; rfl
theorem valV_rowsK_none (n : Str) (h : n ∉ rs.map (·.1)) : valV (rowsK rs) (.inr n) = none := by
  unfold valV
  rw [List.find?_eq_none.mpr]
  · rfl
  · intro p hp e
    obtain ⟨r, hr, rfl⟩ := List.mem_map.mp hp
    exact h (List.mem_map.mpr ⟨r, hr, Sum.inr.inj (of_decide_eq_true e)⟩)
theorem valV_rowsK_at (nd : (rs.map (·.1)).Nodup) {i : Nat} (h : i < rs.length) : valV (rowsK rs) (.inr rs[i].1) = some rs[i].2 := by
  have := valV_dictOf (rowsK rs) (rowsK_nd nd) i (by simpa using h)
  rw [dictOf_nodup _ (rowsK_nd nd)] at this
  simpa using this
theorem RowsDt.nx (R : RowsDt H xs ds rs hs) (nd : (rs.map (·.1)).Nodup) {i : Nat} (h1 : i < rs.length) (h2 : i < hs.length) : nxD (rowsD ds) rs[i].1 = asD hs[i] := by
  have h : i < ds.length := by have := R.l1; omega
  unfold nxD
  have : (rowsD ds).find? (fun r => decide (r.1 = rs[i].1)) = some (rs[i].1, hs[i]) := by
    rw [List.find?_eq_some_iff_getElem]
    have hl : (rowsD ds).length = ds.length := by unfold rowsD; simp
    refine ⟨by simp, i, by omega, ?_, fun j hj => ?_⟩
    · have := R.rows h h1 h2
      rw [List.getElem?_eq_getElem (by omega)] at this
      exact Option.some.inj this
    · have hj1 : j < rs.length := by omega
      have := R.rows (i := j) (by omega) hj1 (by omega)
      rw [List.getElem?_eq_getElem (by omega)] at this
      rw [Option.some.inj this]
      have hne : (rs.map (·.1))[j]'(by simp; omega) ≠ (rs.map (·.1))[i]'(by simpa using h1) := fun z => (List.pairwise_iff_getElem.mp nd j i (by simp; omega) (by simpa using h1) hj) z
      simpa using hne
  rw [this]; rfl
theorem RowsDt.has (R : RowsDt H xs ds rs hs) (nd : (rs.map (·.1)).Nodup) (n : Str) (v : V) (hv : valV (rowsK rs) (.inr n) = some v) : AsV H v (nxD (rowsD ds) n) := by
  by_cases h : n ∈ rs.map (·.1)
  · obtain ⟨r, hr, rfl⟩ := List.mem_map.mp h
    obtain ⟨i, hi, rfl⟩ := List.getElem_of_mem hr
    rw [valV_rowsK_at nd hi] at hv
    cases hv
    have h2 : i < hs.length := by have := R.l1; have := R.l2; omega
    rw [R.nx nd hi h2]
    obtain ⟨_, q1, q2, _⟩ := R.dd i (by have := R.l1; omega) hi h2
    exact asD_as q1 q2
  · rw [valV_rowsK_none n h] at hv; cases hv
end
inductive TX (H : Hp) : V → Dt → Prop
  | str {z : Str} (h : z.length ≤ 100000) : TX H (.str z) (.str z)
  | tup {a : Addr} {xs : List V} {ds : List Dt} : H a = some (.tup xs) → xs.length = ds.length → xs.length ≤ 1000 → (∀ i (h : i < xs.length) (h' : i < ds.length), TX H xs[i] ds[i]) → TX H (.ref a) (.tup ds)
theorem TX.dd {H : Hp} {v : V} {d : Dt} (h : TX H v d) : DD H v d := by
  induction h with
  | str h => exact .str h
  | tup e hl hn _ ih => exact .tup e hl hn ih
theorem tt_tup1 {H : Hp} {a : Addr} {x : V} {d : Dt} (e : H a = some (.tup [x])) (h : TX H x d) : TX H (.ref a) (.tup [d]) := .tup e rfl (by simp) fun i h1 h2 => by
  match i, h1 with
  | 0, _ => exact h
theorem tt_tup2 {H : Hp} {a : Addr} {x y : V} {d d' : Dt} (e : H a = some (.tup [x, y])) (h : TX H x d) (h' : TX H y d') : TX H (.ref a) (.tup [d, d']) := .tup e rfl (by simp) fun i h1 h2 => by
  match i, h1 with
  | 0, _ => exact h
  | 1, _ => exact h'
theorem tt_tup3 {H : Hp} {a : Addr} {x y z : V} {d d' d'' : Dt} (e : H a = some (.tup [x, y, z])) (h : TX H x d) (h' : TX H y d') (h'' : TX H z d'') : TX H (.ref a) (.tup [d, d', d'']) := .tup e rfl (by simp) fun i h1 h2 => by
  match i, h1 with
  | 0, _ => exact h
  | 1, _ => exact h'
  | 2, _ => exact h''
theorem isName_len {z : Str} (h : isName z = true) : z.length ≤ 8 := by
  unfold isName at h
  simp only [Bool.and_eq_true, decide_eq_true_eq] at h
  exact h.1.1.2
theorem tt_name {H : Hp} {z : Str} (h : isName z = true) : TX H (.str z) (.str z) := .str (by have := isName_len h; omega)
theorem tt_lit {H : Hp} {z : Str} (h : z.length ≤ 100) : TX H (.str z) (.str z) := .str (by omega)
section
variable {H : Hp} {ns : List Str} {b : Addr} {P : Option Str → Prop}
structure PrsOk (H : Hp) (ns : List Str) (xs : List V) (ps : List (Str × Str)) : Prop where
  len : xs.length = ps.length
  at_ : ∀ i (h : i < xs.length) (h' : i < ps.length), ∃ c, xs[i] = .ref c ∧ H c = some (.tup [.str ps[i].1, .str ps[i].2])
  nm : ∀ p ∈ ps, isName p.1 = true ∧ isName p.2 = true ∧ p.2 ∈ ns
  ris : rising (ps.map (·.1)) = true
end
theorem rising_of_pw : ∀ {ws : List Str}, ws.Pairwise (fun a b => strLt a b = true) → rising ws = true
  | [], _ => rfl
  | [_], _ => rfl
  | a :: b :: r, h => by
    rw [List.pairwise_cons] at h
    rw [rising, h.1 b List.mem_cons_self, rising_of_pw h.2]; rfl
def strV : V → Str
  | .str z => z
  | _ => ""
theorem prs_of {H : Hp} {ns : List Str} {xs : List V} {rs : List (Str × V)} (q2 : PairsAt H xs (rowsK rs)) (hn : ∀ r ∈ rs, isName r.1 = true) (q4 : ∀ r ∈ rs, ∃ y, r.2 = .str y ∧ y ∈ ns ∧ isName y = true) (hr : rising (rs.map (·.1)) = true) : PrsOk H ns xs (rs.map fun q => (q.1, strV q.2)) := by
  have hl : xs.length = rs.length := by have := q2.1; simpa using this
  refine ⟨by simp; omega, fun i h1 h2 => ?_, fun q hq => ?_, ?_⟩
  · have h3 : i < rs.length := by omega
    obtain ⟨c', e1, e2⟩ := q2.2 i (by simpa using h3)
    rw [List.getElem?_eq_getElem h1] at e1
    refine ⟨c', Option.some.inj e1, ?_⟩
    obtain ⟨y, ey, _⟩ := q4 _ (List.getElem_mem h3)
    simp only [List.getElem_map]
    rw [ey]
    have : H c' = some (.tup [.str rs[i].1, rs[i].2]) := by simpa [rowsK, kV] using e2
    rw [ey] at this
    exact this
  · obtain ⟨q', hq', rfl⟩ := List.mem_map.mp hq
    obtain ⟨y, ey, my, ny⟩ := q4 q' hq'
    refine ⟨hn q' hq', ?_, ?_⟩
    · show isName (strV q'.2) = true
      rw [ey]; exact ny
    · show strV q'.2 ∈ ns
      rw [ey]; exact my
  · rw [List.map_map]; exact hr
section
variable {X : Cx}
end
section
variable {X : Cx} {pins : List (Addr × Obj)} {σ : St} {H : Hp} {s : Shared}
end
section
variable {X : Cx} {e1 e2 : Expr} {p pos : Pos} {k : Nat} {g1 g2 : TG}
end
section
variable {prog : Program} {w : World} {A : Around} {R : Result → Shared → Prop} {s : Shared}
end
section
variable {X : Cx} {t1 i1 t2 i2 elt : Expr} {sc : Scope} {pos : Pos} {own : List Str} {idx : List Nat} {N' : List Str} {wi wi2 : TI} {g g2 : TG} {te : TE}
end
section
variable {prog : Program} {w : World} {A : Around} {E : Value → Shared → Prop} {s : Shared}
end
section
variable {X : Cx} {e st : Expr} {te ts : TE} {p2 pos : Pos}
end
inductive Hd where
  | one (s : Str)
  | as (y : Str)
  | way (x y : Str)
  | prs (s : Str) (ps : List (Str × Str))
def Hd.nx : Hd → Option Str
  | .as y => some y
  | _ => none
def Hd.ok (ns : List Str) : Hd → Prop
  | .one s => s = "all" ∨ s = "none"
  | .as y => isName y = true ∧ y ∈ ns
  | .way x y => isName x = true ∧ isName y = true ∧ x ∈ ns ∧ y ∈ ns
  | .prs s ps => (s = "box" ∨ s = "pick") ∧ (∀ p ∈ ps, isName p.1 = true ∧ isName p.2 = true ∧ p.2 ∈ ns) ∧ rising (ps.map (·.1)) = true ∧ ps.length ≤ 10
structure PrsV (H : Hp) (xs : List V) (ps : List (Str × Str)) : Prop where
  len : xs.length = ps.length
  at_ : ∀ i (h : i < xs.length) (h' : i < ps.length), ∃ c, xs[i] = .ref c ∧ H c = some (.tup [.str ps[i].1, .str ps[i].2])
theorem PrsV.tk {H H' : Hp} {xs : List V} {ps : List (Str × Str)} (h : PrsV H xs ps) (s : Tk H H') : PrsV H' xs ps := ⟨h.len, fun i a b => let ⟨c, h1, h2⟩ := h.at_ i a b; ⟨c, h1, s _ _ h2⟩⟩
inductive HV (H : Hp) : V → Hd → Prop
  | one {b : Addr} {s : Str} : H b = some (.tup [.str s]) → HV H (.ref b) (.one s)
  | as {b : Addr} {y : Str} : H b = some (.tup [.str "as", .str y]) → HV H (.ref b) (.as y)
  | way {b : Addr} {x y : Str} : H b = some (.tup [.str "way", .str x, .str y]) → HV H (.ref b) (.way x y)
  | prs {b c : Addr} {s : Str} {xs : List V} {ps : List (Str × Str)} : H b = some (.tup [.str s, .ref c]) → H c = some (.tup xs) → PrsV H xs ps → HV H (.ref b) (.prs s ps)
theorem HV.tk {H H' : Hp} (s : Tk H H') {v : V} {h : Hd} (q : HV H v h) : HV H' v h := by
  cases q with
  | one e => exact .one (s _ _ e)
  | as e => exact .as (s _ _ e)
  | way e => exact .way (s _ _ e)
  | prs e e' p => exact .prs (s _ _ e) (s _ _ e') (p.tk s)
section
variable {H : Hp} {ns : List Str} {b : Addr} {v : V} {P : Option Str → Prop}
end
def Hd.dt : Hd → Dt
  | .one s => .tup [.str s]
  | .as y => .tup [.str "as", .str y]
  | .way x y => .tup [.str "way", .str x, .str y]
  | .prs s ps => .tup [.str s, .tup (ps.map fun p => .tup [.str p.1, .str p.2])]
theorem HV.tx {H : Hp} {ns : List Str} {v : V} {h : Hd} (q : HV H v h) (ok : h.ok ns) : TX H v h.dt := by
  cases q with
  | one e => exact tt_tup1 e (tt_lit (by rcases ok with rfl | rfl <;> decide))
  | as e => exact tt_tup2 e (tt_lit (by decide)) (tt_name ok.1)
  | way e => exact tt_tup3 e (tt_lit (by decide)) (tt_name ok.1) (tt_name ok.2.1)
  | @prs b c s xs ps e e' p =>
    have h10 := ok.2.2.2
    have hl := p.len
    refine tt_tup2 e (tt_lit (by rcases ok.1 with rfl | rfl <;> decide)) (.tup e' (by simp [p.len]) (by omega) fun i h1 h2 => ?_)
    have h3 : i < ps.length := by simpa using h2
    obtain ⟨c', q1, q2⟩ := p.at_ i h1 h3
    obtain ⟨m1, m2, _⟩ := ok.2.1 _ (List.getElem_mem h3)
    rw [q1]
    simp only [List.getElem_map]
    exact tt_tup2 q2 (tt_name m1) (tt_name m2)
abbrev Rw2 := Str × Hd
structure RV (H : Hp) (xs : List V) (rows : List Rw2) : Prop where
  len : xs.length = rows.length
  at_ : ∀ i (h : i < xs.length) (h' : i < rows.length), ∃ b v, xs[i] = .ref b ∧ H b = some (.tup [.str rows[i].1, v]) ∧ HV H v rows[i].2
theorem RV.tk {H H' : Hp} {xs : List V} {rows : List Rw2} (h : RV H xs rows) (s : Tk H H') : RV H' xs rows := ⟨h.len, fun i a b => let ⟨c, v, h1, h2, h3⟩ := h.at_ i a b; ⟨c, v, h1, s _ _ h2, h3.tk s⟩⟩
theorem RV.snoc {H : Hp} {xs : List V} {rows : List Rw2} (h : RV H xs rows) {b : Addr} {v : V} {r : Rw2} (e : H b = some (.tup [.str r.1, v])) (hv : HV H v r.2) : RV H (xs ++ [.ref b]) (rows ++ [r]) := by
  have hl := h.len
  refine ⟨by simp [hl], fun i h1 h2 => ?_⟩
  by_cases hlt : i < xs.length
  · rw [List.getElem_append_left hlt, List.getElem_append_left (by omega)]
    exact h.at_ i hlt (by omega)
  · have e1 : i = xs.length := by simp at h1; omega
    subst e1
    rw [List.getElem_append_right (Nat.le_refl _), List.getElem_append_right (by omega)]
    simp only [Nat.sub_self, List.getElem_cons_zero, hl]
    exact ⟨b, v, rfl, e, hv⟩
def RowsK (ns : List Str) (rows : List Rw2) : Prop := ∀ r ∈ rows, isName r.1 = true ∧ r.2.ok ns
def Hd.pre : Hd → List Str
  | .one s => [s]
  | .as _ => []
  | .way _ _ => ["way"]
  | .prs s _ => [s]
section
variable {prog : Program} {w : World} {A : Around} {R : Result → Shared → Prop} {I : Addr} {fp wr : List Addr} {G : Array GenState → Array GenState → Prop} {n : Nat} {P : Nat → Value → Prop} {St : Nat → Shared → Prop}
end
section
variable {prog : Program} {w : World} {A : Around} {E : Value → Shared → Prop} {s : Shared}
end
section
variable {X : Cx}
end
section
variable {prog : Program} {w : World} {A : Around} {E : Value → Shared → Prop} {s : Shared} {I : Addr} {fp wr : List Addr} {G : Array GenState → Array GenState → Prop} {n : Nat} {P : Nat → Value → Prop} {St : Nat → Shared → Prop}
end
section
variable {X : Cx}
end
section
variable {P : Program} {w : World} {A : Around} {E : Value → Shared → Prop} {s : Shared}
end
section
variable {P : Program} {w : World} {A : Around} {E : Value → Shared → Prop} {s : Shared}
end
section
variable {X : Cx}
end
section
variable {X : Cx} {pins : List (Addr × Obj)} {σ : St} {H : Hp} {s : Shared}
theorem op_catTK (K : PySem.W.Frag) (h : X.K = K := by rfl) : OpR X (binaryOp .Add) (rCatT K) := by subst h; exact op_catT
end
section
variable {X : Cx} {tg a b c : Expr} {ta : TA} {p pos : Pos}
end
def Hd.wds : Hd → List Str
  | .prs _ ps => ps.map (·.1)
  | _ => []
structure HG4 (H : Hp) (ns ws : List Str) (v : V) (P : Option Str → Prop) : Prop where
  ex : ∃ h, HV H v h ∧ h.ok ns ∧ P h.nx ∧ ∀ z ∈ h.wds, z ∈ ws
section
variable {H : Hp} {ns ws : List Str} {b : Addr} {v : V} {P : Option Str → Prop}
theorem HG4.tk {H' : Hp} (h : HG4 H ns ws v P) (s : Tk H H') : HG4 H' ns ws v P := let ⟨d, h1, h2⟩ := h.ex; ⟨d, h1.tk s, h2⟩
theorem HG4.imp {P' : Option Str → Prop} (h : HG4 H ns ws v P) (f : ∀ o, P o → P' o) : HG4 H ns ws v P' := let ⟨d, h1, h2, h3, h4⟩ := h.ex; ⟨d, h1, h2, f _ h3, h4⟩
theorem hg4_as {y : Str} (e : H b = some (.tup [.str "as", .str y])) (hy : isName y = true) (hm : y ∈ ns) (hP : P (some y)) : HG4 H ns ws (.ref b) P := ⟨.as y, .as e, ⟨hy, hm⟩, hP, (fun _ h => nomatch h)⟩
theorem hg4_none (e : H b = some (.tup [.str "none"])) (hP : P none) : HG4 H ns ws (.ref b) P := ⟨.one "none", .one e, .inr rfl, hP, (fun _ h => nomatch h)⟩
theorem hg4_all (e : H b = some (.tup [.str "all"])) (hP : P none) : HG4 H ns ws (.ref b) P := ⟨.one "all", .one e, .inl rfl, hP, (fun _ h => nomatch h)⟩
theorem hg4_way {x y : Str} (e : H b = some (.tup [.str "way", .str x, .str y])) (hx : isName x = true) (hy : isName y = true) (mx : x ∈ ns) (my : y ∈ ns) (hP : P none) : HG4 H ns ws (.ref b) P := ⟨.way x y, .way e, ⟨hx, hy, mx, my⟩, hP, (fun _ h => nomatch h)⟩
theorem hg4_worded {s : Str} {c : Addr} {xs : List V} {ps : List (Str × Str)} (hs : s = "box" ∨ s = "pick") (e : H b = some (.tup [.str s, .ref c])) (ec : H c = some (.tup xs)) (hn : xs.length ≤ 10) (h : PrsOk H ns xs ps) (hw : ∀ q ∈ ps, q.1 ∈ ws) (hP : P none) : HG4 H ns ws (.ref b) P :=
  ⟨.prs s ps, .prs e ec ⟨h.len, h.at_⟩, ⟨hs, h.nm, h.ris, by rw [← h.len]; exact hn⟩, hP, fun z hz => by obtain ⟨q, hq, rfl⟩ := List.mem_map.mp hz; exact hw q hq⟩
end
theorem tb_two {H : Hp} {b : Addr} {x y : Str} (e : H b = some (.tup [.str x, .str y])) (hx : Wd x) (hy : Wd y) : TB H (.ref b) 1 411 :=
  (TB.tup (k := 0) (n := 202) e fun v hv => by
    simp only [List.mem_cons, List.mem_nil_iff, or_false] at hv
    rcases hv with rfl | rfl
    · exact TB.str hx
    · exact TB.str hy).mono (by omega) (by simp)
theorem HV.tb {H : Hp} {ns ws : List Str} {v : V} {h : Hd} (q : HV H v h) (ok : h.ok ns) (hn : ∀ n ∈ ns, Wd n) (hw : ∀ z ∈ h.wds, Wd z) : TB H v 3 8273 := by
  cases q with
  | one e =>
    refine (TB.tup (k := 0) (n := 202) e fun v hv => ?_).mono (by omega) (by simp)
    rw [List.mem_singleton.mp hv]
    rcases ok with rfl | rfl <;> exact TB.str (wd_ascii (by decide) (by decide))
  | as e => exact (tb_two e (wd_ascii (by decide) (by decide)) (hn _ ok.2)).mono (by omega) (by omega)
  | way e =>
    refine (TB.tup (k := 0) (n := 202) e fun v hv => ?_).mono (by omega) (by simp)
    simp only [List.mem_cons, List.mem_nil_iff, or_false] at hv
    rcases hv with rfl | rfl | rfl
    · exact TB.str (wd_ascii (by decide) (by decide))
    · exact TB.str (hn _ ok.2.2.1)
    · exact TB.str (hn _ ok.2.2.2)
  | @prs b c s xs ps e e' p =>
    have h10 := ok.2.2.2
    have hl := p.len
    refine (TB.tup (k := 2) (n := 4133) e fun v hv => ?_).mono (by omega) (by simp)
    simp only [List.mem_cons, List.mem_nil_iff, or_false] at hv
    rcases hv with rfl | rfl
    · rcases ok.1 with rfl | rfl <;> exact (TB.str (wd_ascii (by decide) (by decide))).mono (by omega) (by omega)
    · refine (TB.tup (k := 1) (n := 411) e' fun x hx => ?_).mono (by omega) (by omega)
      obtain ⟨i, hi, rfl⟩ := List.getElem_of_mem hx
      have h3 : i < ps.length := by omega
      obtain ⟨c', q1, q2⟩ := p.at_ i hi h3
      rw [q1]
      have hm : ps[i] ∈ ps := List.getElem_mem h3
      exact tb_two q2 (hw _ (List.mem_map.mpr ⟨_, hm, rfl⟩)) (hn _ (ok.2.1 _ hm).2.2)
def Ahd (ns : List Str) (n : Str) (o : Option Str) : Prop := ∀ y, o = some y → ∃ (i j : Nat), i < j ∧ ns[i]? = some y ∧ ns[j]? = some n
structure RowsG (H : Hp) (ns ws : List Str) (rs : List (Str × V)) : Prop where
  sub : ∀ r ∈ rs, r.1 ∈ ns
  hd : ∀ r ∈ rs, HG4 H ns ws r.2 (Ahd ns r.1)
theorem RowsG.tk {H H' : Hp} {ns ws : List Str} {rs : List (Str × V)} (h : RowsG H ns ws rs) (s : Tk H H') : RowsG H' ns ws rs := ⟨h.sub, fun r hr => (h.hd r hr).tk s⟩
theorem RowsG.perm {H : Hp} {ns ws : List Str} {rs rs' : List (Str × V)} (h : RowsG H ns ws rs) (p : ∀ r ∈ rs', r ∈ rs) : RowsG H ns ws rs' := ⟨fun r hr => h.sub r (p r hr), fun r hr => h.hd r (p r hr)⟩
theorem RowsG.add {H : Hp} {ns ws : List Str} {rs : List (Str × V)} (h : RowsG H ns ws rs) {n : Str} {v : V} (h1 : n ∈ ns) (h2 : HG4 H ns ws v (Ahd ns n)) : RowsG H ns ws ((n, v) :: rs) := by
  refine ⟨fun r hr => ?_, fun r hr => ?_⟩ <;> rcases List.mem_cons.mp hr with rfl | hr
  · exact h1
  · exact h.sub r hr
  · exact h2
  · exact h.hd r hr
structure RT (H : Hp) (a : Addr) (xs : List V) (rows : List Rw2) (ns ws : List Str) : Prop where
  at_ : H a = some (.tup xs)
  rv : RV H xs rows
  nm : (rows.map (·.1)).Perm ns
  nd : ns.Nodup
  ok : RowsK ns rows
  wd : ∀ n ∈ ns, Wd n
  ah : ∀ r ∈ rows, Ahd ns r.1 r.2.nx
  ww : ∀ r ∈ rows, ∀ z ∈ r.2.wds, z ∈ ws
  pos : 1 ≤ ns.length
  few : ns.length ≤ 10
section
variable {H H' : Hp} {a : Addr} {xs : List V} {rows : List Rw2} {ns ws : List Str}
theorem RT.tk (h : RT H a xs rows ns ws) (s : Tk H H') : RT H' a xs rows ns ws := ⟨s _ _ h.at_, h.rv.tk s, h.nm, h.nd, h.ok, h.wd, h.ah, h.ww, h.pos, h.few⟩
theorem RT.rl (h : RT H a xs rows ns ws) : rows.length = ns.length := by have := h.nm.length_eq; simpa using this
theorem RT.ndr (h : RT H a xs rows ns ws) : (rows.map (·.1)).Nodup := by rw [h.nm.nodup_iff]; exact h.nd
theorem RT.of {rs : List (Str × V)} (e : H a = some (.tup xs)) (ps : PairsAt H xs (rowsK rs)) (nm : (rs.map (·.1)).Perm ns) (nd : ns.Nodup) (okn : ∀ n ∈ ns, isName n = true ∧ Wd n) (pos : 1 ≤ ns.length) (few : ns.length ≤ 10) (g : RowsG H ns ws rs) : ∃ rows, RT H a xs rows ns ws := by
  have hc : ∀ i : Fin rs.length, ∃ hd : Hd, HV H rs[i.val].2 hd ∧ hd.ok ns ∧ Ahd ns rs[i.val].1 hd.nx ∧ ∀ z ∈ hd.wds, z ∈ ws := fun i => (g.hd _ (List.getElem_mem i.isLt)).ex
  obtain ⟨f, hf⟩ := Classical.axiomOfChoice hc
  have hxl : xs.length = rs.length := by have := ps.1; simpa using this
  have en : (List.ofFn fun i : Fin rs.length => ((rs[i.val].1, f i) : Rw2)).map (·.1) = rs.map (·.1) := by
    apply List.ext_getElem
    · simp
    · intro i h1 h2; simp
  have mem : ∀ r ∈ (List.ofFn fun i : Fin rs.length => ((rs[i.val].1, f i) : Rw2)), ∃ i : Fin rs.length, r = (rs[i.val].1, f i) := fun r hr => by
    obtain ⟨i, hi, rfl⟩ := List.getElem_of_mem hr
    exact ⟨⟨i, by simpa using hi⟩, by simp⟩
  refine ⟨List.ofFn fun i => (rs[i.val].1, f i), e, ⟨by simp [hxl], fun i h1 h2 => ?_⟩, by rw [en]; exact nm, nd, fun r hr => ?_, fun n hn => (okn n hn).2, fun r hr => ?_, fun r hr => ?_, pos, few⟩
  · have h3 : i < rs.length := by omega
    obtain ⟨b, e1, e2⟩ := ps.2 i (by simpa using h3)
    rw [List.getElem?_eq_getElem h1] at e1
    refine ⟨b, rs[i].2, Option.some.inj e1, ?_, ?_⟩
    · simpa [rowsK, kV] using e2
    · simpa using (hf ⟨i, h3⟩).1
  · obtain ⟨i, rfl⟩ := mem r hr
    exact ⟨(okn _ (g.sub _ (List.getElem_mem i.isLt))).1, (hf i).2.1⟩
  · obtain ⟨i, rfl⟩ := mem r hr
    exact (hf i).2.2.1
  · obtain ⟨i, rfl⟩ := mem r hr
    exact (hf i).2.2.2
end
section
variable {H H' : Hp} {a b : Addr} {xs ys : List V} {rows rows2 : List Rw2} {ns ws ws' : List Str} {f g : Str → Str}
theorem RT.pairs (h : RT H a xs rows ns ws) : ∃ rs : List (Str × V), PairsAt H xs (rowsK rs) ∧ rs.map (·.1) = rows.map (·.1) ∧ rs.length = rows.length ∧ ∀ i (h1 : i < rs.length) (h2 : i < rows.length), HV H rs[i].2 rows[i].2 := by
  have hl := h.rv.len
  have hc : ∀ i : Fin rows.length, ∃ v : V, (∃ b, xs[i.val]? = some (.ref b) ∧ H b = some (.tup [.str rows[i.val].1, v])) ∧ HV H v rows[i.val].2 := fun i => by
    obtain ⟨b, v, q1, q2, q3⟩ := h.rv.at_ i.val (by have := i.isLt; omega) i.isLt
    exact ⟨v, ⟨b, by rw [List.getElem?_eq_getElem (by have := i.isLt; omega), q1], q2⟩, q3⟩
  obtain ⟨f, hf⟩ := Classical.axiomOfChoice hc
  refine ⟨List.ofFn fun i => (rows[i.val].1, f i), ⟨by simp [hl], fun i hi => ?_⟩, ?_, by simp, fun i h1 h2 => ?_⟩
  · have hi' : i < rows.length := by simpa using hi
    obtain ⟨b, q1, q2⟩ := (hf ⟨i, hi'⟩).1
    exact ⟨b, q1, by simpa [rowsK, kV] using q2⟩
  · apply List.ext_getElem
    · simp
    · intro i h1 h2; simp
  · simpa using (hf ⟨i, h2⟩).2
def hdOf (rows : List Rw2) (x : Str) : Hd := ((rows.find? fun r => decide (r.1 = x)).map (·.2)).getD (.one "")
def nxOf (rows : List Rw2) (x : Str) : Option Str := (hdOf rows x).nx
theorem hdOf_mem (nd : (rows.map (·.1)).Nodup) {r : Rw2} (hr : r ∈ rows) : hdOf rows r.1 = r.2 := by
  obtain ⟨i, hi, rfl⟩ := List.getElem_of_mem hr
  have : rows.find? (fun r => decide (r.1 = rows[i].1)) = some rows[i] := by
    rw [List.find?_eq_some_iff_getElem]
    refine ⟨by simp, i, hi, rfl, fun j hj => ?_⟩
    have hne : (rows.map (·.1))[j]'(by simp; omega) ≠ (rows.map (·.1))[i]'(by simpa using hi) := List.pairwise_iff_getElem.mp nd j i (by simp; omega) (by simpa using hi) hj
    simpa using hne
  unfold hdOf
  rw [this]; rfl
theorem HV.asV {v : V} {h : Hd} (q : HV H v h) (ok : h.ok ns) : AsV H v h.nx := by
  cases q with
  | one e => exact ⟨_, rfl, .inl ⟨_, _, e, by rcases ok with rfl | rfl <;> decide, rfl⟩⟩
  | as e => exact ⟨_, rfl, .inr ⟨_, e, rfl⟩⟩
  | way e => exact ⟨_, rfl, .inl ⟨_, _, e, by decide, rfl⟩⟩
  | prs e e' p => exact ⟨_, rfl, .inl ⟨_, _, e, by rcases ok.1 with rfl | rfl <;> decide, rfl⟩⟩
theorem RT.good (h : RT H a xs rows ns ws) (hw : ∀ z ∈ ws, Wd z) : ∃ rs, GoodT H a xs rs (nxOf rows) (fun n => ns.idxOf n) ∧ rs.map (·.1) = rows.map (·.1) ∧ rs.length = rows.length ∧ ∀ x v, x ∈ ns → valV (dictOf (rowsK rs)) (.inr x) = some v → HV H v (hdOf rows x) := by
  obtain ⟨rs, ps, nm, rl, hv⟩ := h.pairs
  have hrl := h.rl
  have hf := h.few
  have hp := h.pos
  have nd : (rs.map (·.1)).Nodup := by rw [nm]; exact h.ndr
  have hmem : ∀ n, n ∈ ns ↔ n ∈ rs.map (·.1) := fun n => by rw [nm]; exact h.nm.mem_iff.symm
  have at' : ∀ r ∈ rs, ∃ r' ∈ rows, r.1 = r'.1 ∧ HV H r.2 r'.2 := fun r hr => by
    obtain ⟨i, hi, rfl⟩ := List.getElem_of_mem hr
    have hi' : i < rows.length := by omega
    refine ⟨rows[i], List.getElem_mem hi', ?_, hv i hi hi'⟩
    have : (rs.map (·.1))[i]'(by simpa using hi) = (rows.map (·.1))[i]'(by simpa using hi') := by simp only [nm]
    simpa using this
  have g : GoodT H a xs rs (nxOf rows) (fun n => ns.idxOf n) := by
    refine ⟨h.at_, ps, nd, by omega, by omega, fun r hr => ?_, fun r hr y hy => ?_, fun r hr => ?_, fun r hr => ?_⟩
    · obtain ⟨r', hr', e, v⟩ := at' r hr
      unfold nxOf
      rw [e, hdOf_mem h.ndr hr']
      exact v.asV (h.ok r' hr').2
    · obtain ⟨r', hr', e, v⟩ := at' r hr
      unfold nxOf at hy
      rw [e, hdOf_mem h.ndr hr'] at hy
      obtain ⟨i, j, hij, h1, h2⟩ := h.ah r' hr' y hy
      refine ⟨(hmem y).mp (List.mem_of_getElem? h1), ?_⟩
      show ns.idxOf y < ns.idxOf r.1
      rw [e, idxOf_get h.nd h1, idxOf_get h.nd h2]
      exact hij
    · have := List.idxOf_lt_length_of_mem ((hmem r.1).mpr (List.mem_map.mpr ⟨r, hr, rfl⟩))
      show ns.idxOf r.1 ≤ _
      omega
    · obtain ⟨r', hr', e, v⟩ := at' r hr
      refine ⟨h.wd _ ((hmem r.1).mpr (List.mem_map.mpr ⟨r, hr, rfl⟩)), v.tb (ws := ws) (h.ok r' hr').2 h.wd fun z hz => hw z (h.ww r' hr' z hz)⟩
  refine ⟨rs, g, nm, rl, fun x v hx hval => ?_⟩
  obtain ⟨v', m, e⟩ := g.get ((hmem x).mp hx)
  rw [hval] at e
  cases e
  obtain ⟨r', hr', e, q⟩ := at' _ m
  have e' : x = r'.1 := e
  rw [e', hdOf_mem h.ndr hr']
  exact q
end
section
variable {X : Cx}
end
section
variable {P P' : Addr → Prop} {H H' : Hp} {m : Bool} {v : V} {k n k' n' : Nat} {a : Addr} {xs : List V}
end
section
variable {X : Cx}
end
section
variable {P : Addr → Prop} {m : Bool} {σ : St} {H0 : Hp} {te : TE} {ta : TA} {k c : Nat}
end
section
variable {X : Cx} {pos : Pos}
end
def endOf (rows : List Rw2) (x : Str) : Str := rowEnd (nxOf rows) rows.length x
theorem RT.endIn {H : Hp} {a : Addr} {xs : List V} {rows : List Rw2} {ns ws : List Str} (rt : RT H a xs rows ns ws) (hw : ∀ z ∈ ws, Wd z) {x : Str} (hx : x ∈ ns) : endOf rows x ∈ ns ∧ (hdOf rows (endOf rows x)).nx = none ∧ (hdOf rows (endOf rows x)).ok ns := by
  obtain ⟨rs, g, nm, rl, hv⟩ := rt.good hw
  have hm : ∀ z, z ∈ ns ↔ z ∈ rs.map (·.1) := fun z => by rw [nm]; exact rt.nm.mem_iff.symm
  obtain ⟨h1, h2⟩ := g.endIn ((hm x).mp hx)
  rw [rl] at h1 h2
  refine ⟨(hm _).mpr h1, h2, ?_⟩
  have h3 : endOf rows x ∈ rows.map (·.1) := by rw [← nm]; exact h1
  obtain ⟨r, hr, e⟩ := List.mem_map.mp h3
  rw [← e, hdOf_mem rt.ndr hr]
  exact (rt.ok r hr).2
section
variable {X : Cx} {tg iter kx vx : Expr} {ifs : List Expr} {sc : Scope} {pos : Pos} {own : List Str} {idx : List Nat} {N' : List Str} {wi : TI} {g : TG} {tc : TC} {tk tw : TE}
end
section
variable {X : Cx} {e o value : Expr} {es : List Expr} {te ta tv : TE} {t : TA} {f x : Str} {pos pos' p : Pos} {C : Addr} {k : Nat} {ps : List Str} {sp : Sp}
end
section
variable {X : Cx}
end
theorem kv_get2 {kvs : List (Key × V)} {vs : List (Key × Value)} (r : KV kvs vs) : ∀ {i : Nat} {p : Key × V}, kvs[i]? = some p → ∃ q, vs[i]? = some q ∧ q.1 = p.1 ∧ RelV p.2 q.2 := by
  intro i
  induction r generalizing i with
  | nil => intro p h; simp at h
  | cons a t ih =>
    intro p h
    cases i with
    | zero => simp at h; subst h; exact ⟨_, by simp, a.1.symm, a.2⟩
    | succ i => simp at h; simpa using ih h
section
variable {X : Cx} {elts : List Expr} {k : Nat} {tpos apos cpos : Pos} {o : Expr} {to : TE}
end
end L2
set_option maxRecDepth 100000
namespace PySem
end PySem
namespace L2
open PySem PySem.Spec PyProof.Rows
section
variable {X : Cx}
end
end L2
set_option maxRecDepth 100000
namespace L2
open PySem PySem.Spec PyProof.Rows
section
variable {X : Cx} {pins : List (Addr × Obj)} {σ : St} {H : Hp} {s : Shared}
end
section
variable {X : Cx} {o e : Expr} {es : List Expr} {apos cpos : Pos} {to : TE} {t : TA}
end
def Sx (x : Addr) (H H' : Hp) : Prop := ∀ b o, b ≠ x → H b = some o → H' b = some o
theorem Sx.upd {x : Addr} {H : Hp} {o : HO} : Sx x H (upd H x o) := fun c u n h => by rw [upd_ne n]; exact h
section
variable {H : Hp} {a : Addr} {xs : List V} {rows : List Rw2} {ns ws : List Str}
end
section
variable {X : Cx}
def rCatA (K : PySem.W.Frag) : R2 := fun x y H Q => ∃ a b xs ys, x = .ref a ∧ y = .ref b ∧ SqT K H a xs ∧ SqT K H b ys ∧ xs.length + ys.length ≤ sizeLine ∧ (xs = [] → Q (.ref b) H) ∧
  (xs ≠ [] → ys = [] → Q (.ref a) H) ∧ (xs ≠ [] → ys ≠ [] → ∀ p, H p = none → Q (.ref p) (upd H p (.tup (xs ++ ys))))
theorem op_catA (K : PySem.W.Frag) (h : X.K = K := by rfl) : OpR X (binaryOp .Add) (rCatA K) := by
  subst h
  intro pins s σ H x y v u Q I rx ry h
  obtain ⟨a, b, xs, ys, rfl, rfl, ha, hb, hz, q0, q1, q2⟩ := h
  by_cases hx : xs = []
  · cases rx
    cases ry
    obtain ⟨its, r1, p1, _⟩ := I.tuple ha
    obtain ⟨its2, r2, p2, _⟩ := I.tuple hb
    have hi : its = [] := r1.nil_iff.mpr hx
    obtain ⟨⟨cls, dd, data, sl⟩, ho, hc, n, hd⟩ := id p1
    obtain ⟨⟨cls2, dd2, data2, sl2⟩, ho2, hc2, n2, hd2⟩ := id p2
    simp only at hc hd hc2 hd2
    subst hc hd hc2 hd2
    exact concat_meets ⟨_, ho, rfl⟩ ⟨_, ho2, rfl⟩ noFill_tuple_add seq_tuple_add PySem.F.slot_tuple_add PySem.F.entry_tuple_add (PySem.F.args_tuple_add_2 _ _)
      (tuple_addW0 a b its.toArray its2.toArray n n2 dd dd2 sl sl2 (by simp [hi])) ⟨ho, ho2, ⟨.ref b, H, I, rfl, q0 hx⟩⟩
  · exact op_catT pins s σ H _ _ v u Q I rx ry ⟨a, b, xs, ys, rfl, rfl, ha, hb, hx, hz, q1 hx, q2 hx⟩
end
theorem hu20_of {A : Around} {k : Nat} (hr : Room k A) : A.units + 20 < cLine := by have := hr.un; omega
section
variable {P : Program} {w : World} {A : Around} {E : Value → Shared → Prop} {s : Shared} {it d : Addr} {i n ep : Nat} {od : Obj} {es : Array DictEntry} {ok ov : Value} {Q : Option Value → Shared → Prop}
end
section
variable {X : Cx} {elts : List Expr} {k : Nat} {tpos apos cpos : Pos} {o : Expr} {to : TE}
end
section
variable {X : Cx} {tg : Expr} {apos cpos : Pos} {o : Expr} {to : TE}
end
section
variable {X : Cx}
def rSum (K : PySem.W.Frag) : List V → Hp → VK → Prop := fun xs H Q => match xs with
  | [.ref p] => ∃ ns : List Int, SqL K H p (ns.map V.int) ∧ Q (.int ns.sum) H
  | _ => False
theorem preSum_list (ns : List Int) : ∀ k, k ≤ ns.length → PySem.preSum (fun i => ns.getD i 0) k = (ns.take k).sum
  | 0, _ => rfl
  | k + 1, h => by
    have ih := preSum_list ns k (by omega)
    show PySem.preSum _ k + ns.getD k 0 = _
    rw [ih, List.take_add_one, List.getElem?_eq_getElem h, List.sum_append, List.getD_eq_getElem?_getD, List.getElem?_eq_getElem h]
    simp
theorem call_sumK (K : PySem.W.Frag) (hc : X.calm = true) (h : X.K = K := by rfl) : CallR X (.builtin "sum") (rSum K) := by
  subst h
  intro pins s σ H xs us Q I r h
  unfold rSum at h
  split at h
  · next p =>
    obtain ⟨ns, hq, q⟩ := h
    obtain ⟨u, rfl, ru⟩ := r.one
    cases ru
    obtain ⟨its, rv, pl, hz⟩ := I.list hq
    have hl := rv.length
    rw [List.length_map] at hl
    have hlt : p < s.heap.objs.size := by obtain ⟨_, e, _⟩ := pl.isList; exact Heap.lt_size e
    refine call_sum_walkAnyS (wpAny_pyIter_list pl.isList ?_)
    refine ⟨s.heap.objs.size, [s.heap.objs.size, p], [s.heap.objs.size], _, its.toArray.size, _, _, fun i => ns.getD i 0, rfl, (Walks.list (A := X.A.in1) (I.ok.hd hc) _ p (Nat.ne_of_lt hlt) _).toS,
      ⟨⟨_, Heap.get?_push_size _ rfl, rfl, rfl⟩, pl.isList.push _⟩, fun b hb => ?_, fun i v hP => ?_, fun s' t' mv => ?_⟩
    · simp only [List.mem_cons, List.mem_nil_iff, or_false] at hb
      show b < (s.heap.push _).objs.size
      rw [Heap.size_push]
      rcases hb with rfl | rfl
      · exact Nat.lt_succ_self _
      · exact Nat.lt_succ_of_lt hlt
    · have hP' : its[i]? = some v := by simpa using hP
      have hi : i < its.length := (List.getElem?_eq_some_iff.mp hP').1
      obtain ⟨u, h1, h2⟩ := rv.get (i := i) (x := .int (ns.getD i 0)) (by rw [List.getElem?_map, List.getElem?_eq_getElem (by omega), List.getD_eq_getElem?_getD, List.getElem?_eq_getElem (by omega)]; rfl)
      rw [hP'] at h1
      cases h1
      exact h2
    · have e : PySem.preSum (fun i => ns.getD i 0) its.toArray.size = ns.sum := by
        rw [List.size_toArray, ← hl, preSum_list ns ns.length (Nat.le_refl _), List.take_length]
      rw [e]
      obtain ⟨hp', g', d', tk', os'⟩ := s'
      obtain ⟨m1, m2, m3, m4, m5⟩ := mv
      simp only at m1 m2 m3 m4 m5
      subst m2 m3 m4
      refine ⟨.int ns.sum, H, I.kept (t' := tk') fun b o e => m1 b o (fun hm => ?_) (Heap.get?_push_of_some _ e), ⟨_, rfl⟩, q⟩
      rw [List.mem_singleton.mp hm] at e
      exact Nat.lt_irrefl _ (Heap.lt_size e)
  · exact h.elim
end
theorem Paired.at {α β : Type} {R : α → β → Prop} {xs : List α} {ys : List β} (h : Paired R xs ys) : ∀ i (h1 : i < xs.length) (h2 : i < ys.length), R xs[i] ys[i] := by
  induction h with
  | nil => intro i h1; exact absurd h1 (by simp)
  | cons a _ ih =>
    intro i h1 h2
    cases i with
    | zero => exact a
    | succ i => exact ih i (by simpa using h1) (by simpa using h2)
section
variable {prog : Program} {w : World} {A : Around} {R : Result → Shared → Prop} {s : Shared}
end
section
variable {X : Cx} {t1 i1 t2 i2 elt : Expr} {ifs : List Expr} {tc : TC} {sc : Scope} {pos : Pos} {own : List Str} {idx : List Nat} {N' : List Str} {wi wi2 : TI} {g g2 : TG} {te : TE}
end
section
variable {X : Cx} {tg e : Expr} {te : TE}
end
section
variable {P : Program} {w : World} {A : Around} {E : Value → Shared → Prop} {s : Shared} {it d : Addr} {i n ep : Nat} {od : Obj} {es : Array DictEntry} {Q : Option Value → Shared → Prop}
end
section
variable {X : Cx} {tg : Expr} {apos cpos : Pos} {o : Expr} {to : TE}
end
section
variable {P : Program} {w : World} {A : Around} {E : Value → Shared → Prop} {s : Shared}
end
section
variable {X : Cx} {tg a : Expr} {ta : TA} {p p2 pos pos2 : Pos}
end
section
variable {X : Cx}
end
section
variable {H : Hp} {a : Addr} {xs : List V} {rows : List Rw2} {ns ws : List Str}
end
section
variable {X : Cx} {pos : Pos}
end
section
variable {X : Cx} {tg iter kx vx : Expr} {ifs : List Expr} {tc : TC} {sc : Scope} {pos : Pos} {own : List Str} {idx : List Nat} {N' : List Str} {wi : TI} {g : TG} {tk tw : TE}
end
def hv (hs : List (Str × Nat)) (y : Str) : Nat := ((hs.find? fun q => decide (q.1 = y)).map (·.2)).getD 0
section
variable {P : Program} {w : World} {H : Hp} {h h' : Heap}
end
section
variable {X : Cx} {pins : List (Addr × Obj)} {σ : St} {H : Hp} {s : Shared} {h' : Heap}
end
section
variable {X : Cx} {o : Expr} {to : TE} {p apos ipos cpos : Pos}
end
section
variable {X : Cx} {o e f : Expr} {td ty tx : TE} {apos cpos : Pos}
end
section
variable {X : Cx}
end
section
variable {A : Around} {s : Shared}
end
section
variable {X : Cx} {pins : List (Addr × Obj)} {σ : St} {H : Hp} {s : Shared}
end
end L2
set_option maxRecDepth 100000
namespace L2
open PySem PySem.Spec PyProof.Rows PySem.W
section
variable {prog : Program} {w : World} {A : Around} {E : Value → Shared → Prop} {s : Shared}
end
section
variable {X : Cx}
end
end L2
set_option maxRecDepth 100000
namespace L2
open PySem PySem.Spec PyProof.Rows PySem.W
section
variable {prog : Program} {w : World} {A : Around} {E : Value → Shared → Prop} {s : Shared}
end
section
variable {X : Cx} {o : Expr} {to : TE} {p apos ipos cpos : Pos}
end
end L2
set_option maxRecDepth 100000
namespace L2
open PySem PySem.Spec PyProof.Rows PySem.W
theorem strs_idx : ∀ {us : List Value} {ss : List Str}, us.length = ss.length → (∀ i (h1 : i < us.length) (h2 : i < ss.length), ∃ t, us[i] = Value.str ss[i] t) → StrsAre us ss
  | [], [], _, _ => .nil
  | u :: us, z :: ss, hl, h => by
    obtain ⟨t, e⟩ := h 0 (by simp) (by simp)
    simp only [List.getElem_cons_zero] at e
    subst e
    exact .cons z t (strs_idx (by simpa using hl) fun i h1 h2 => by
      have := h (i + 1) (by simpa using h1) (by simpa using h2)
      simpa using this)
section
variable {X : Cx}
def rSortedD : List V → Hp → VK → Prop := fun xs H Q => ∃ (a : Addr) (kvs : List (Key × V)) (ks : List Str), xs = [.ref a] ∧ Rd H a (.dK kvs) ∧ kvs.map (·.1) = ks.map Sum.inr ∧ ks.length < 64 ∧
  ∀ l (ss' : List Str), H l = none → ss'.Perm ks → Q (.ref l) (upd H l (.lst (ss'.map V.str)))
theorem call_sortedD (hc : X.calm = true) : CallR X (.builtin "sorted") rSortedD := by
  intro pins s σ H xs us Q I r h
  obtain ⟨a, kvs, ks, rfl, hr, hks, h64, q⟩ := h
  obtain ⟨u, rfl, ru⟩ := r.one
  cases ru
  obtain ⟨z, hdm, vs, rel, dd⟩ := dk_rd I.hok hr
  obtain ⟨ob, es, ep, e, h2, hdat, h4⟩ := id dd
  have hlen := rel.length
  have hkl : kvs.length = ks.length := by have := congrArg List.length hks; simpa using this
  refine Calls.call_function_entry kind_sorted plain_sorted entry_sorted (args_sorted1 _) ?_
  unfold Builtin.«sorted»
  refine wpAny_bind (m := checkCount "sorted" 1 1 _) (wpAny_pure ?_)
  refine wpAny_bind (kdu_collect (A := X.A.in1) (kdl_dict (knd := mixKind X.prog X.w) (kvs := vs) (ep := ep) hdm) (I.ok.hd hc) ⟨ob, es, e, h2, hdat, h4⟩ (by omega) fun h' tk acc hk hI => ?_)
  obtain ⟨hsz', hP⟩ := hI
  have hal : acc.toList.length = ks.length := by simp; omega
  have hS : StrsAre acc.toList ks := by
    refine strs_idx hal fun i h1 h2 => ?_
    obtain ⟨k, x, e1, e2⟩ := hP i acc.toList[i] (by rw [← Array.getElem?_toList, List.getElem?_eq_getElem h1])
    obtain ⟨q', e3, e4, _⟩ := kv_get2 rel (i := i) (p := kvs[i]'(by omega)) (List.getElem?_eq_getElem (by omega))
    rw [e1] at e3
    cases e3
    have e5 : (kvs.map (·.1))[i]'(by rw [List.length_map]; omega) = (ks.map (Sum.inr : Str → Key))[i]'(by rw [List.length_map]; omega) := by simp only [hks]
    rw [List.getElem_map, List.getElem_map] at e5
    have e6 : k = Sum.inr ks[i] := (show k = (kvs[i]'(by omega)).1 from e4).trans e5
    rcases keyIs_shape e2 with ⟨j, t, rfl, e⟩ | ⟨y, t, rfl, e⟩
    · cases e6
    · cases e6; exact ⟨t, e⟩
  have hsz : sizeLine = 16777216 := sizeLine_eq
  refine wpAny_bind (wpAny_newList ?_ (by omega))
  have hoL : (h'.push { cls := .type "list", data := .seq acc.toList.toArray }).get? h'.objs.size = some (seqObj "list" acc.toList.toArray 0) := Heap.get?_push_size _ rfl
  refine wpAny_bind (wpAny_holding (wpAny_call_entry slot_list_sort ⟨_, hoL, rfl⟩ entry_list_sort (list_sort_treeK strKind_oneLt hoL hS.keysOf (fun v₁ v₂ rest e => keyKind_strs (by rw [← e]; exact hS)) (by omega) fun st' a1 a2 => ⟨_, rfl, ?_⟩) (args_list_sort _)))
  refine wpAny_pure ⟨_, rfl, ?_⟩
  obtain ⟨ss', b1, b2, b3⟩ := sorted_out_str hS a1 a2
  obtain ⟨ee, hL⟩ := sortedHeap_at (out := (arrOf st').map (·.2)) hoL
  have I2 : Inv X pins σ H { s with heap := h', toks := tk } := I.kept (t' := tk) hk
  have hold : ∀ b o, h'.get? b = some o → (sortedHeap (h'.push { cls := .type "list", data := .seq acc.toList.toArray }) h'.objs.size acc.toList ((arrOf st').map (·.2))).get? b = some o := fun b o q' => by
    rw [sortedHeap_old (Nat.ne_of_lt (Heap.lt_size q')) (Heap.lt_size (Heap.get?_push_of_some _ q'))]
    exact Heap.get?_push_of_some _ q'
  refine ⟨.ref h'.objs.size, _, I2.laid (t' := tk) (a := h'.objs.size) (o := .lst (ss'.map V.str)) hold (Nat.le_refl _) ?_, rfl, q _ ss' (I2.hok.fresh (Nat.le_refl _)) b2⟩
  refine ⟨?_, ((arrOf st').map (·.2)).toList, ee, vals_strs b1, ?_⟩
  · rw [List.length_map, b2.length_eq]; omega
  · rw [hL]
end
end L2
set_option maxRecDepth 100000
namespace L2
open PySem PySem.Spec PyProof.Rows PySem.W
section
variable {X : Cx}
def rDictD : List V → Hp → VK → Prop := fun xs H Q => ∃ (a : Addr) (kvs : List (Key × V)), xs = [.ref a] ∧ Rd H a (.dK kvs) ∧ ∀ l, H l = none → Q (.ref l) (upd H l (.dK kvs))
theorem call_dictD (hc : X.calm = true) : CallR X (.type "dict") rDictD := by
  intro pins s σ H xs us Q I r h
  obtain ⟨a, kvs, rfl, hr, q⟩ := h
  obtain ⟨u, rfl, ru⟩ := r.one
  cases ru
  obtain ⟨z, hdm, vs, rel, dd⟩ := dk_rd I.hok hr
  have hlen := rel.length
  refine kt_call_dict (knd := mixKind X.prog X.w) (more := vs) hdm dd (by omega) ?_
  intro h' hd hs
  have hk : ∀ b o, s.heap.get? b = some o → h'.get? b = some o := fun b o e => hs.extBut _ _ (Nat.ne_of_lt (Heap.lt_size e)) (Heap.get?_push_of_some _ e)
  exact ⟨.ref s.heap.objs.size, _, I.laid (t' := s.toks) (a := s.heap.objs.size) (o := .dK kvs) hk (Nat.le_refl _) ⟨z, beq_eq_false_iff_ne.mpr (Ne.symm (Nat.ne_of_lt I.big)), vs, rel, hd⟩, rfl, q _ (I.hok.fresh (Nat.le_refl _))⟩
end
end L2
set_option maxRecDepth 100000
namespace L2
open PySem PySem.Spec PyProof.Rows
end L2
set_option maxRecDepth 100000
namespace L2
open PySem PySem.Spec PyProof.Rows HT
section
variable {prog : Program} {w : World} {A : Around} {E : Value → Shared → Prop} {s : Shared}
end
section
variable {X : Cx}
end
end L2
set_option maxRecDepth 100000
namespace L2
open PySem PySem.Spec PyProof.Rows
open AutoSeq1 (wpAny_loadPart')
theorem dict_eq_declines_str (l : Addr) (dat : Data) (dd : Option Addr) (sl : Array (Option Value)) (b : Str) (u : Tok) :
    Meets (Builtin.«dict.__eq__» ⟨[.ref l, .str b u], []⟩) (fun _ R s => s.heap.get? l = some { cls := .type "dict", dict := dd, data := dat, slots := sl } ∧ R (.ok (.ret .notImplemented)) s) :=
  .of_wp fun prog w A R s h => by obtain ⟨hp, g, d, tk, os⟩ := s; obtain ⟨hl, h⟩ := h; have f1 := F.sub_str_dict; wp_walk using wpAny_loadPart' hl, wpAny_load hl; exact ⟨_, rfl, h⟩
theorem dict_eq_declines_tuple (l b : Addr) (dat : Data) (items2 : Array Value) (n2 : Nat) (dd dd2 : Option Addr) (sl sl2 : Array (Option Value)) :
    Meets (Builtin.«dict.__eq__» ⟨[.ref l, .ref b], []⟩) (fun _ R s => s.heap.get? l = some { cls := .type "dict", dict := dd, data := dat, slots := sl } ∧ s.heap.get? b = some { cls := .type "tuple", dict := dd2, data := .seq items2 n2, slots := sl2 } ∧ R (.ok (.ret .notImplemented)) s) :=
  .of_wp fun prog w A R s h => by obtain ⟨hp, g, d, tk, os⟩ := s; obtain ⟨hl, hb, h⟩ := h; have f1 := F.sub_tuple_dict; wp_walk using wpAny_loadPart' hl, wpAny_load hl, wpAny_loadPart' hb, wpAny_load hb; exact ⟨_, rfl, h⟩
theorem tuple_eq_declines_dict (l b : Addr) (dat : Data) (items2 : Array Value) (n2 : Nat) (dd dd2 : Option Addr) (sl sl2 : Array (Option Value)) :
    Meets (Builtin.«tuple.__eq__» ⟨[.ref b, .ref l], []⟩) (fun _ R s => s.heap.get? l = some { cls := .type "dict", dict := dd, data := dat, slots := sl } ∧ s.heap.get? b = some { cls := .type "tuple", dict := dd2, data := .seq items2 n2, slots := sl2 } ∧ R (.ok (.ret .notImplemented)) s) :=
  .of_wp fun prog w A R s h => by obtain ⟨hp, g, d, tk, os⟩ := s; obtain ⟨hl, hb, h⟩ := h; have f1 := F.sub_dict_tuple; wp_walk using wpAny_loadPart' hl, wpAny_load hl, wpAny_loadPart' hb, wpAny_load hb; exact ⟨_, rfl, h⟩
theorem str_eq_declines_dict (l : Addr) (es : Array DictEntry) (ep : Nat) (dd : Option Addr) (sl : Array (Option Value)) (b : Str) (u : Tok) :
    Meets (Builtin.«str.__eq__» ⟨[.str b u, .ref l], []⟩) (fun _ R s => s.heap.get? l = some { cls := .type "dict", dict := dd, data := .dict es ep, slots := sl } ∧ R (.ok (.ret .notImplemented)) s) :=
  .of_wp fun prog w A R s h => by obtain ⟨hp, g, d, tk, os⟩ := s; obtain ⟨hl, h⟩ := h; wp_walk using wpAny_loadPart' hl, wpAny_load hl; exact ⟨_, rfl, h⟩
section
variable {A : Around} {s : Shared}
theorem rc_dict_str {l : Addr} {o : Obj} {es : Array DictEntry} {ep : Nat} (b : Str) (u : Tok) (ho : s.heap.get? l = some o) (hc : o.cls = .type "dict") (hd : o.data = .dict es ep) (hu : A.units < cLine) : SeqAt.RcAt A s (.ref l) (.str b u) false := fun prog w E Q h => by
  obtain ⟨cls, dd, data, sl⟩ := o
  simp only at hc hd
  subst hc hd
  exact SeqAt.rc_eq_decline_or (k := false) ⟨_, ho, rfl⟩ (typeIs_str s b u) (by decide) F.sub_str_dict F.slot_dict_eq F.slot_str_eq_refl
    (fun _ hq => call_meets F.slot_dict_eq ⟨_, ho, rfl⟩ F.entry_dict_eq (F.args_dict_eq_2 _ _) (dict_eq_declines_str l (.dict es ep) dd sl b u) ⟨ho, hq⟩)
    (fun _ hq => call_meets F.slot_str_eq_refl (typeIs_str s b u) F.entry_str_eq (F.args_str_eq_2 _ _) (str_eq_declines_dict l es ep dd sl b u) ⟨ho, hq⟩)
    (fun _ hq => wpAny_of_eq (rfl : isSame (.ref l) (.str b u) = pure false) hq) (.inr hu) h
theorem eq_dict_str {l : Addr} {o : Obj} {es : Array DictEntry} {ep : Nat} (b : Str) (u : Tok) (ho : s.heap.get? l = some o) (hc : o.cls = .type "dict") (hd : o.data = .dict es ep) (hu : A.units < cLine) : SeqAt.EqAt A s (.ref l) (.str b u) false := fun prog w E Q h => by
  unfold eqBool
  refine wpAny_holding ?_
  refine wpAny_ite_split (fun hab => absurd (eq_of_beq hab) nofun) (fun _ => ?_)
  exact wpAny_bind (rc_dict_str b u ho hc hd hu prog w E _ (wpAny_truthy_bool h))
theorem rc_dict_tuple {l b : Addr} {o : Obj} {items2 : Array Value} (ho : s.heap.get? l = some o) (hc : o.cls = .type "dict") (hb : s.heap.IsTuple b items2) (hu : A.units < cLine) : l ≠ b ∧ SeqAt.RcAt A s (.ref l) (.ref b) false := by
  obtain ⟨cls, dd, data, sl⟩ := o
  obtain ⟨⟨cls2, dd2, data2, sl2⟩, ho2, hc2, n2, hd2⟩ := id hb
  simp only at hc hc2 hd2
  subst hc hc2 hd2
  have hne : l ≠ b := fun e => by
    subst e
    rw [ho] at ho2
    have := congrArg Obj.cls (Option.some.inj ho2)
    simp at this
  refine ⟨hne, fun prog w E Q h => ?_⟩
  exact (SeqAt.rc_eq_decline_or (k := false) ⟨_, ho, rfl⟩ ⟨_, ho2, rfl⟩ (by decide) F.sub_tuple_dict F.slot_dict_eq F.slot_tuple_eq_refl
    (fun _ hq => call_meets F.slot_dict_eq ⟨_, ho, rfl⟩ F.entry_dict_eq (F.args_dict_eq_2 _ _) (dict_eq_declines_tuple l b data items2 n2 dd dd2 sl sl2) ⟨ho, ho2, hq⟩)
    (fun _ hq => call_meets F.slot_tuple_eq_refl ⟨_, ho2, rfl⟩ F.entry_tuple_eq (F.args_tuple_eq_2 _ _) (tuple_eq_declines_dict l b data items2 n2 dd dd2 sl sl2) ⟨ho, ho2, hq⟩)
    (fun _ hq => wpAny_isSame_ref_other hne ho ho2 (by simp) hq) (.inr hu) h)
end
def Dt.isS (z : Str) : Dt → Bool
  | .str y => y == z
  | _ => false
section
variable {X : Cx} {pins : List (Addr × Obj)} {σ : St} {H : Hp} {s : Shared}
theorem DD.eqS (I : Inv X pins σ H s) {x : V} {d : Dt} (h : DD H x d) {A : Around} (hu : A.units < cLine) {v : Value} (r : RelV x v) (z : Str) (t : Tok) : SeqAt.EqAt A s v (.str z t) (d.isS z) := by
  cases h with
  | @str y h => obtain ⟨t', rfl⟩ := (show ∃ t, v = Value.str y t from r); exact SeqAt.EqAt.str_str y t' z t
  | @tup a xs ds e hl hn hd =>
    cases (show v = Value.ref a from r)
    obtain ⟨i1, r1, p1, _⟩ := I.tuple (SqT.of e)
    exact SeqAt.EqAt.tuple_str z t p1 hu
  | non => cases (show v = Value.none from r); exact SeqAt.EqAt.none_str z t
  | bl b => cases (show v = Value.bool b from r); exact SeqAt.EqAt.bool_str b z t
  | int i => obtain ⟨t', rfl⟩ := (show ∃ t, v = Value.int i t from r); exact SeqAt.EqAt.int_str i t' z t
  | @lst a xs e =>
    cases (show v = Value.ref a from r)
    obtain ⟨_, its, n, rv, ho⟩ := (show ObjOk X.prog X.w H s.heap a (.lst xs) from I.hok a _ e)
    exact SeqAt.EqAt.list_str z t ⟨_, ho, rfl, _, rfl⟩ hu
  | @dct a kvs e =>
    cases (show v = Value.ref a from r)
    obtain ⟨_, hd, vs, rel, o, es, ep, ho, hx, hdat, hk, hp⟩ := dk_of I.hok e
    exact eq_dict_str z t ho hx.1 hdat hu
end
section
variable {H H' : Hp} {a : Addr} {xs : List V} {rows : List Rw2} {ns ws : List Str}
end
end L2
set_option maxRecDepth 100000
namespace L2
open PySem PySem.Spec PyProof.Rows
def Dt.isE : Dt → Bool
  | .tup [] => true
  | _ => false
def Dt.is2 (z : Str) : Dt → Bool
  | .tup [d, e] => d.isS z && e.isE
  | _ => false
section
variable {X : Cx} {pins : List (Addr × Obj)} {σ : St} {H : Hp} {s : Shared}
theorem DD.eqE (I : Inv X pins σ H s) {x : V} {d : Dt} (h : DD H x d) {A : Around} (hu : A.units + 1 < cLine) {v : Value} (r : RelV x v) {b : Addr} (hb : SqT X.K H b []) : SeqAt.EqAt A s v (.ref b) d.isE := by
  obtain ⟨i2, r2, p2, _⟩ := I.tuple hb
  cases r2
  have hu' : A.units < cLine := by omega
  cases h with
  | @str y h => obtain ⟨t', rfl⟩ := (show ∃ t, v = Value.str y t from r); exact SeqAt.EqAt.str_tuple y t' p2 hu'
  | @tup a xs ds e hl hn hd =>
    cases (show v = Value.ref a from r)
    obtain ⟨i1, r1, p1, _⟩ := I.tuple (SqT.of e)
    have hl1 := r1.length
    by_cases hab : a = b
    · subst hab
      have e9 := I.tuple_inj (SqT.of e) hb
      subst e9
      have : ds = [] := List.length_eq_zero_iff.mp hl.symm
      subst this
      exact SeqAt.EqAt.same _
    · refine SeqAt.EqAt.of_refs hab ?_
      have := SeqAt.RcAt.tuples (A := A) (e := fun _ => true) p1 p2 hu' fun j g1 g2 => absurd g2 (by simp)
      have ee : ((List.range (min i1.toArray.size ([] : List Value).toArray.size)).all (fun _ => true) && i1.toArray.size == ([] : List Value).toArray.size) = (Dt.tup ds).isE := by
        have hs : i1.toArray.size = ds.length := by simp; omega
        rw [hs]
        cases ds with
        | nil => rfl
        | cons d dr => simp [Dt.isE]
      rw [← ee]
      exact this
  | non => cases (show v = Value.none from r); exact SeqAt.EqAt.none_tuple p2 hu'
  | bl b' => cases (show v = Value.bool b' from r); exact SeqAt.EqAt.bool_tuple b' p2 hu'
  | int i => obtain ⟨t', rfl⟩ := (show ∃ t, v = Value.int i t from r); exact SeqAt.EqAt.int_tuple i t' p2 hu'
  | @lst a xs e =>
    cases (show v = Value.ref a from r)
    obtain ⟨_, its, n, rv, ho⟩ := (show ObjOk X.prog X.w H s.heap a (.lst xs) from I.hok a _ e)
    exact SeqAt.EqAt.list_tuple ⟨_, ho, rfl, _, rfl⟩ p2 hu'
  | @dct a kvs e =>
    cases (show v = Value.ref a from r)
    obtain ⟨_, hd, vs, rel, o, es, ep, ho, hx, hdat, hk, hp⟩ := dk_of I.hok e
    obtain ⟨h1, h2⟩ := rc_dict_tuple (A := A) ho hx.1 p2 hu'
    exact SeqAt.EqAt.of_refs h1 h2
theorem DD.rc2 (I : Inv X pins σ H s) {a : Addr} {xs : List V} {ds : List Dt} (e : H a = some (.tup xs)) (hl : xs.length = ds.length) (hd : ∀ i (h : i < xs.length) (h' : i < ds.length), DD H xs[i] ds[i]) {A : Around} (hu : A.units + 4 < cLine) {b c : Addr} {z : Str} (hb : SqT X.K H b [.str z, .ref c]) (hc : SqT X.K H c []) : SeqAt.RcAt A s (.ref a) (.ref b) ((Dt.tup ds).is2 z) := by
  obtain ⟨i2, r2, p2, _⟩ := I.tuple hb
  obtain ⟨u1, u2, rfl, ra, rb⟩ := Vals.two r2
  obtain ⟨t2, rfl⟩ := (show ∃ t, u1 = Value.str z t from ra)
  cases rb
  obtain ⟨i1, r1, p1, _⟩ := I.tuple (SqT.of e)
  have hl1 := r1.length
  have hA1 : A.in1.units + 1 < cLine := by rw [Around.in1_units]; omega
  have := SeqAt.RcAt.tuples (A := A) (e := fun j => if j = 0 then (ds.getD j .oth).isS z else (ds.getD j .oth).isE) p1 p2 (by omega) fun j g1 g2 => by
    have g1' : j < xs.length := by simp at g1; omega
    have g2' : j < 2 := by simpa using g2
    obtain ⟨w1, f1, q1⟩ := r1.get (List.getElem?_eq_getElem g1')
    have e1 : i1.toArray[j] = w1 := by
      simp at f1 g1
      rw [List.getElem?_eq_getElem (by omega)] at f1
      simpa using Option.some.inj f1
    have e2 : ds.getD j .oth = ds[j]'(by omega) := by rw [List.getD_eq_getElem?_getD, List.getElem?_eq_getElem (by omega)]; rfl
    rw [e1]
    simp only [e2]
    rcases (show j = 0 ∨ j = 1 by omega) with rfl | rfl
    · exact DD.eqS I (hd 0 g1' (by omega)) (by omega) q1 z t2
    · exact DD.eqE I (hd 1 g1' (by omega)) hA1 q1 hc
  have ee : ((List.range (min i1.toArray.size ([Value.str z t2, Value.ref c] : List Value).toArray.size)).all (fun j => if j = 0 then (ds.getD j .oth).isS z else (ds.getD j .oth).isE) && i1.toArray.size == ([Value.str z t2, Value.ref c] : List Value).toArray.size) = (Dt.tup ds).is2 z := by
    have hs : i1.toArray.size = ds.length := by simp; omega
    rw [hs]
    match ds with
    | [] => rfl
    | [d0] => simp [Dt.is2]
    | [d0, d1] =>
      have : (List.range (min [d0, d1].length ([Value.str z t2, Value.ref c] : List Value).toArray.size)) = [0, 1] := by rfl
      rw [this]
      simp [Dt.is2]
    | d0 :: d1 :: d2 :: dr => simp [Dt.is2]
  rw [← ee]
  exact this
def rEqP (K : PySem.W.Frag) : R2 := fun x y H Q => ∃ (a b c : Addr) (z : Str) (xs : List V) (ds : List Dt), x = .ref a ∧ y = .ref b ∧ H a = some (.tup xs) ∧ xs.length = ds.length ∧ (∀ i (h : i < xs.length) (h' : i < ds.length), DD H xs[i] ds[i]) ∧ SqT K H b [.str z, .ref c] ∧ SqT K H c [] ∧ Q (.bl ((Dt.tup ds).is2 z)) H
theorem op_eqP (K : PySem.W.Frag) (hu : X.A.units + 20 < cLine) (hK : X.K = K := by rfl) : OpR X (compareOp .Eq) (rEqP K) := by
  subst hK
  intro pins s σ H x y v u Q I rx ry h
  obtain ⟨a, b, c, z, xs, ds, rfl, rfl, ha, hl, hd, hb, hc, q⟩ := h
  cases rx
  cases ry
  exact DD.rc2 I ha hl hd (A := X.A) (by omega) hb hc _ _ _ _ ⟨.bl ((Dt.tup ds).is2 z), H, I, rfl, q⟩
def rNeSame : R2 := fun x y H Q => ∃ a xs, x = .ref a ∧ y = .ref a ∧ H a = some (.tup xs) ∧ Q (.bl false) H
theorem op_neSame (hu : X.A.units + 20 < cLine) : OpR X (compareOp .NotEq) rNeSame := by
  intro pins s σ H x y v u Q I rx ry h
  obtain ⟨a, xs, rfl, rfl, ha, q⟩ := h
  cases rx
  cases ry
  obtain ⟨i1, r1, p1, _⟩ := I.tuple (SqT.of ha)
  refine SeqAt.RcNeAt.tuples (A := X.A) (e := fun _ => true) p1 p1 (by omega) (fun j g1 g2 => SeqAt.EqAt.same _) _ _ _ _ ?_
  have e : (!((List.range (min i1.toArray.size i1.toArray.size)).all (fun _ => true) && i1.toArray.size == i1.toArray.size)) = false := by
    simp
  rw [e]
  exact ⟨.bl false, H, I, rfl, q⟩
end
structure RowM (H : Hp) (n : Nat) (xs ms : List V) : Prop where
  len : xs.length = ms.length
  few : xs.length ≤ 1000
  at_ : ∀ i (h : i < xs.length) (h' : i < ms.length), ∃ c ys, xs[i] = .ref c ∧ H c = some (.tup (ys ++ [ms[i]])) ∧ ys.length = n
inductive Shp (H : Hp) : V → List V → Prop
  | get {a : Addr} {z : Str} : H a = some (.tup [.str "get", .str z]) → Shp H (.ref a) []
  | fn {a : Addr} {v r : Str} {m : V} : H a = some (.tup [.str "fn", .str v, .str r, m]) → Shp H (.ref a) [m]
  | call {a : Addr} {f x : V} : H a = some (.tup [.str "call", f, x]) → Shp H (.ref a) [f, x]
  | box {a b : Addr} {xs ms : List V} : H a = some (.tup [.str "box", .ref b]) → H b = some (.tup xs) → RowM H 1 xs ms → Shp H (.ref a) ms
  | part {a : Addr} {m : V} {z : Str} : H a = some (.tup [.str "part", m, .str z]) → Shp H (.ref a) [m]
  | pick {a : Addr} {z : Str} {m : V} : H a = some (.tup [.str "pick", .str z, m]) → Shp H (.ref a) [m]
  | split {a b : Addr} {m : V} {xs ms : List V} : H a = some (.tup [.str "split", m, .ref b]) → H b = some (.tup xs) → RowM H 2 xs ms → Shp H (.ref a) (m :: ms)
  | hold {a : Addr} {m : V} {z : Str} : H a = some (.tup [.str "hold", m, .str z]) → Shp H (.ref a) [m]
theorem RowM.tk {H H' : Hp} {n : Nat} {xs ms : List V} (h : RowM H n xs ms) (s : Tk H H') : RowM H' n xs ms := ⟨h.len, h.few, fun i a b => let ⟨c, ys, h1, h2, h3⟩ := h.at_ i a b; ⟨c, ys, h1, s _ _ h2, h3⟩⟩
theorem Shp.tk {H H' : Hp} (s : Tk H H') {v : V} {ks : List V} (h : Shp H v ks) : Shp H' v ks := by
  cases h with
  | get e => exact .get (s _ _ e)
  | fn e => exact .fn (s _ _ e)
  | call e => exact .call (s _ _ e)
  | box e e' r => exact .box (s _ _ e) (s _ _ e') (r.tk s)
  | part e => exact .part (s _ _ e)
  | pick e => exact .pick (s _ _ e)
  | split e e' r => exact .split (s _ _ e) (s _ _ e') (r.tk s)
  | hold e => exact .hold (s _ _ e)
inductive MkT (H : Hp) : Nat → Nat → V → Prop
  | mk {n s : Nat} {v : V} {ks : List V} {ss : List Nat} : Shp H v ks → ks.length = ss.length → (∀ i (h : i < ks.length) (h' : i < ss.length), MkT H n ss[i] ks[i]) → s = 1 + ss.sum → MkT H (n + 1) s v
theorem MkT.tk {H H' : Hp} (t : Tk H H') {n s : Nat} {v : V} (h : MkT H n s v) : MkT H' n s v := by
  induction h with
  | mk a b _ e ih => exact .mk (a.tk t) b ih e
theorem MkT.up {H : Hp} {n s : Nat} {v : V} (h : MkT H n s v) : ∀ {m}, n ≤ m → MkT H m s v := by
  induction h with
  | mk a b _ e ih =>
    intro m hm
    obtain ⟨k, rfl⟩ : ∃ k, m = k + 1 := ⟨m - 1, by omega⟩
    exact .mk a b (fun i h h' => ih i h h' (by omega)) e
section
variable {P : Program} {w : World} {A : Around}
def SrcAt (tp : Bool) (l : Addr) (vs : Array Value) (h : Heap) : Prop := if tp then IsTup h l vs else h.IsList l vs
def CurAt (tp : Bool) (c l : Addr) (k : Nat) (h : Heap) : Prop := if tp then IsTupIter h c l k else h.IsListIter c l k
theorem SrcAt.ext {tp : Bool} {l b : Addr} {vs : Array Value} {h h' : Heap} (x : SrcAt tp l vs h) (e : Heap.ExtBut b h h') (n : l ≠ b) : SrcAt tp l vs h' := by
  cases tp
  · exact Heap.IsList.extBut x e n
  · exact IsTup.extBut x e n
theorem CurAt.ext {tp : Bool} {c l b : Addr} {k : Nat} {h h' : Heap} (x : CurAt tp c l k h) (e : Heap.ExtBut b h h') (n : c ≠ b) : CurAt tp c l k h' := by
  cases tp
  · exact Heap.IsListIter.extBut x e n
  · obtain ⟨o, ho, r⟩ := x; exact ⟨o, e _ _ n ho, r⟩
theorem CurAt.at_ {tp : Bool} {c l : Addr} {k : Nat} {h h' : Heap} (x : CurAt tp c l k h) (q : ∀ o, h.get? c = some o → h'.get? c = some o) : CurAt tp c l k h' := by
  cases tp
  · obtain ⟨o, ho, r⟩ := x; exact ⟨o, q o ho, r⟩
  · obtain ⟨o, ho, r⟩ := x; exact ⟨o, q o ho, r⟩
theorem CurAt.obj {tp : Bool} {c l : Addr} {k : Nat} {h : Heap} (x : CurAt tp c l k h) : ∃ o, h.get? c = some o ∧ ∀ v, o.data ≠ .cell v := by
  cases tp
  · obtain ⟨o, ho, _, d⟩ := x; exact ⟨o, ho, fun v z => by rw [d] at z; cases z⟩
  · obtain ⟨o, ho, _, d⟩ := x; exact ⟨o, ho, fun v z => by rw [d] at z; cases z⟩
theorem SrcAt.lt {tp : Bool} {l : Addr} {vs : Array Value} {h : Heap} (x : SrcAt tp l vs h) : l < h.objs.size := by
  cases tp <;> (obtain ⟨o, ho, _⟩ := x; exact Heap.lt_size ho)
theorem nx_tupI {c t : Addr} {i : Nat} {vs : Array Value} {x : Value} {Q : Value → Shared → Prop} {E : Value → Shared → Prop} {s : Shared} (hc : IsTupIter s.heap c t i) (ht : IsTup s.heap t vs) (hx : vs[i]? = some x)
    (q : ∀ g, IsTupIter g c t (i + 1) → Heap.SameBut c s.heap g → Q x { s with heap := g }) : wpAny (model P w) A (Builtin.SmallTypes.nextOf (.ref c)) Q E s := by
  obtain ⟨ob, e1, e2, e3⟩ := id hc
  obtain ⟨ot, f1, _, m, f3⟩ := ht
  unfold Builtin.SmallTypes.nextOf
  refine wpAny_bind (wpAny_callSpecial?_slot (name := Str.ofString "__next__") hc.typeIs slot_tupleiter_next (wpAny_call_entry slot_tupleiter_next hc.typeIs entry_tupleiter_next ?_ (args_tupleiter_next _)))
  show wpAny _ _ (field (.ref c) 0 >>= _) _ _ s
  refine wpAny_bind (wpAny_field e1 e3 (x := .ref t) rfl ?_)
  show wpAny _ _ (if (Value.ref t == Value.none) = true then _ else _) _ _ s
  rw [if_neg (by exact Bool.false_ne_true)]
  show wpAny _ _ (field (.ref c) 1 >>= _) _ _ s
  refine wpAny_bind (wpAny_field e1 e3 (x := .int i 0) rfl ?_)
  show wpAny _ _ (seqItems? (.ref t) >>= _) _ _ s
  refine wpAny_bind (wpAny_seqItems f1 f3 ?_)
  simp only [Int.toNat_natCast, hx]
  refine wpAny_bind (wpAny_setField e1 e3 (by simp) (wpAny_pure ⟨x, rfl, wpAny_pure (q _ ⟨_, Heap.get?_update_self _ e1 (Obj.isFreed_of_fields (Obj.data_mapFields e3 _)), (Obj.cls_mapFields ..).trans e2, ?_⟩ (Heap.SameBut.update ..))⟩))
  rw [Obj.data_mapFields e3]; simp [rawInt]
theorem nx_tupE {c t : Addr} {i : Nat} {vs : Array Value} {Q : Value → Shared → Prop} {E : Value → Shared → Prop} {s : Shared} (hh : A.handled = none) (hc : IsTupIter s.heap c t i) (ht : IsTup s.heap t vs) (hx : vs[i]? = none)
    (q : ∀ g e, Heap.ExtBut c s.heap g → (∃ o, g.get? e = some o ∧ o.cls = .type "StopIteration") → E (.ref e) { s with heap := g }) : wpAny (model P w) A (Builtin.SmallTypes.nextOf (.ref c)) Q E s := by
  obtain ⟨ob, e1, e2, e3⟩ := id hc
  obtain ⟨ot, f1, _, m, f3⟩ := ht
  unfold Builtin.SmallTypes.nextOf
  refine wpAny_bind (wpAny_callSpecial?_slot (name := Str.ofString "__next__") hc.typeIs slot_tupleiter_next (wpAny_call_entry slot_tupleiter_next hc.typeIs entry_tupleiter_next ?_ (args_tupleiter_next _)))
  show wpAny _ _ (field (.ref c) 0 >>= _) _ _ s
  refine wpAny_bind (wpAny_field e1 e3 (x := .ref t) rfl ?_)
  show wpAny _ _ (if (Value.ref t == Value.none) = true then _ else _) _ _ s
  rw [if_neg (by exact Bool.false_ne_true)]
  show wpAny _ _ (field (.ref c) 1 >>= _) _ _ s
  refine wpAny_bind (wpAny_field e1 e3 (x := .int i 0) rfl ?_)
  show wpAny _ _ (seqItems? (.ref t) >>= _) _ _ s
  refine wpAny_bind (wpAny_seqItems f1 f3 ?_)
  simp only [Int.toNat_natCast, hx]
  refine wpAny_bind (wpAny_rule (wpAny_bind (wpAny_setField e1 e3 (by simp) ?_)))
  show wpAny _ _ (newExc (.type "StopIteration") [] >>= _) _ _ _
  refine wpAny_bind ?_
  simp only [newExc, newTuple]
  refine wpAny_bind (wpAny_newObj_type ?_ (by size_fits))
  refine wpAny_bind (m := firstArgMember _ _) (wpAny_of_eq (a := .none) (by first | rfl | (simp only [firstArgMember]; rfl)) ?_)
  refine wpAny_newObj_type ?_ (by size_fits)
  simp only [raiseNew]
  refine wpAny_bind (wpAny_handled ?_)
  first | rw [show A.in1.handled = none by exact hh] | rw [hh]
  exact wpAny_bind (wpAny_pure (wpAny_throw (q _ _ (((Heap.SameBut.update ..).extBut.push _).push _) ⟨_, Heap.get?_push_size _ rfl, rfl⟩)))
theorem nx_at {tp : Bool} {c l : Addr} {i : Nat} {vs : Array Value} {x : Value} {Q : Value → Shared → Prop} {E : Value → Shared → Prop} {s : Shared} (hc : CurAt tp c l i s.heap) (hs : SrcAt tp l vs s.heap) (hx : vs[i]? = some x)
    (q : ∀ g, CurAt tp c l (i + 1) g → Heap.SameBut c s.heap g → Q x { s with heap := g }) : wpAny (model P w) A (Builtin.SmallTypes.nextOf (.ref c)) Q E s := by
  cases tp
  · exact wpAny_nextOf_list_item hc hs hx q
  · exact nx_tupI hc hs hx q
theorem nx_end {tp : Bool} {c l : Addr} {i : Nat} {vs : Array Value} {Q : Value → Shared → Prop} {E : Value → Shared → Prop} {s : Shared} (hh : A.handled = none) (hc : CurAt tp c l i s.heap) (hs : SrcAt tp l vs s.heap) (hx : vs[i]? = none)
    (q : ∀ g e, Heap.ExtBut c s.heap g → (∃ o, g.get? e = some o ∧ o.cls = .type "StopIteration") → E (.ref e) { s with heap := g }) : wpAny (model P w) A (Builtin.SmallTypes.nextOf (.ref c)) Q E s := by
  cases tp
  · exact wpAny_nextOf_list_end hh hc hs hx q
  · exact nx_tupE hh hc hs hx q
variable {E : Value → Shared → Prop} {s : Shared} {t1 t2 : Bool} {z TI TO c1 c2 l1 l2 : Addr} {k1 k2 : Nat} {xs ys : Array Value} {x y a b : Value}
theorem zp_item {Q : Option Value → Shared → Prop} (D : ZipApart z TI TO c1 c2 l1 l2) (hz : IsZip s.heap z TI TO .none) (hI : IsPair s.heap TI (.ref c1) (.ref c2)) (hO : IsPair s.heap TO a b)
    (h1 : CurAt t1 c1 l1 k1 s.heap) (h2 : CurAt t2 c2 l2 k2 s.heap) (s1 : SrcAt t1 l1 xs s.heap) (s2 : SrcAt t2 l2 ys s.heap) (hx : xs[k1]? = some x) (hy : ys[k2]? = some y)
    (q : ∀ g, IsZip g z TI TO (rawInt s.heap.objs.size) → IsPair g TO x y → CurAt t1 c1 l1 (k1 + 1) g → CurAt t2 c2 l2 (k2 + 1) g → IsPair g s.heap.objs.size x y →
      (∀ d o, d ≠ z → d ≠ TO → d ≠ c1 → d ≠ c2 → s.heap.get? d = some o → g.get? d = some o) → Q (some (.ref s.heap.objs.size)) { s with heap := g }) : wpAny (model P w) A (pyNext (.ref z)) Q E s := by
  have ty : s.TypeIs (.ref z) "zip" := ⟨_, hz, rfl⟩
  unfold pyNext
  refine wpAny_bind (wpAny_attempt (wpAny_callSpecial?_slot (name := Str.ofString "__next__") ty F.slot_zip_next (wpAny_call_entry F.slot_zip_next ty F.entry_zip_next ?_ (F.args_zip_next_1 _))))
  show wpAny _ _ (field (.ref z) 2 >>= _) _ _ _
  refine wpAny_bind (wpAny_field hz rfl (x := .bool false) rfl ?_)
  show wpAny _ _ (field (.ref z) 3 >>= _) _ _ _
  refine wpAny_bind (wpAny_field hz rfl (x := .ref TI) rfl ?_)
  refine wpAny_bind (wpAny_seqItems hI rfl ?_)
  show wpAny _ _ (Builtin.SmallTypes.ownedTupleIsFree (.ref z) >>= _) _ _ _
  refine wpAny_bind ?_
  unfold Builtin.SmallTypes.ownedTupleIsFree
  refine wpAny_bind (wpAny_field hz rfl (x := .none) rfl (wpAny_pure ?_))
  simp only [if_true]
  refine wpAny_bind (wpAny_rule (wpAny_bind (wpAny_field hz rfl (x := .ref TO) rfl ?_)))
  refine wpAny_bind (wpAny_setField_rec hz (by simp) fun g1 z1 e1 => ?_)
  replace z1 : IsZip g1 z TI TO .ellipsis := z1
  refine wpAny_bind ?_
  simp only [List.zipIdx_cons, List.zipIdx_nil, List.forIn_cons, List.forIn_nil]
  refine wpAny_bind (wpAny_bind (wpAny_onRaise ?_))
  show wpAny _ _ (Builtin.SmallTypes.nextOf (.ref c1) >>= _) _ _ _
  refine wpAny_bind (nx_at (h1.ext e1.extBut D.i1z) (s1.ext e1.extBut D.l1z) hx fun g2 m2 e2 => wpAny_pure ?_)
  have O2 : IsPair g2 TO a b := e2.extBut _ _ D.TOi1 (e1.extBut _ _ D.TOz hO)
  refine wpAny_bind (wpAny_seqItems O2 rfl (wpAny_bind (wpAny_updateSeq_pair O2 fun g3 O3 e3 => ?_)))
  replace O3 : IsPair g3 TO x b := O3
  refine wpAny_bind (wpAny_letGo (wpAny_pure ?_))
  refine wpAny_bind (wpAny_bind (wpAny_onRaise ?_))
  show wpAny _ _ (Builtin.SmallTypes.nextOf (.ref c2) >>= _) _ _ _
  refine wpAny_bind (nx_at (((h2.ext e1.extBut D.i2z).ext e2.extBut D.i12.symm).ext e3.extBut D.TOi2.symm) (((s2.ext e1.extBut D.l2z).ext e2.extBut D.l2i1).ext e3.extBut D.l2TO) hy fun g4 m4 e4 => wpAny_pure ?_)
  have O4 : IsPair g4 TO x b := e4.extBut _ _ D.TOi2 O3
  refine wpAny_bind (wpAny_seqItems O4 rfl (wpAny_bind (wpAny_updateSeq_pair O4 fun g5 O5 e5 => ?_)))
  replace O5 : IsPair g5 TO x y := O5
  refine wpAny_bind (wpAny_letGo (wpAny_pure (wpAny_pure ?_)))
  refine wpAny_bind (wpAny_seqItems O5 rfl (wpAny_bind (wpAny_newTuple ?_)))
  have sz : g5.objs.size = s.heap.objs.size := by rw [e5.1, e4.1, e3.1, e2.1, e1.1]
  have z5 : IsZip g5 z TI TO .ellipsis := e5.extBut _ _ D.TOz.symm (e4.extBut _ _ D.i2z.symm (e3.extBut _ _ D.TOz.symm (e2.extBut _ _ D.i1z.symm z1)))
  have k5 : ∀ d o, d ≠ z → d ≠ TO → d ≠ c1 → d ≠ c2 → s.heap.get? d = some o → g5.get? d = some o := fun d o n1 n2 n3 n4 e => e5.extBut _ _ n2 (e4.extBut _ _ n4 (e3.extBut _ _ n2 (e2.extBut _ _ n3 (e1.extBut _ _ n1 e))))
  have m15 : CurAt t1 c1 l1 (k1 + 1) g5 := ((m2.ext e3.extBut D.TOi1.symm).ext e4.extBut D.i12).ext e5.extBut D.TOi1.symm
  have m25 : CurAt t2 c2 l2 (k2 + 1) g5 := m4.ext e5.extBut D.TOi2.symm
  have zl : z < g5.objs.size := Heap.lt_size z5
  show wpAny _ _ (Builtin.SmallTypes.ownedTupleHandOut (.ref z) (.ref g5.objs.size) >>= _) _ _ _
  refine wpAny_bind ?_
  unfold Builtin.SmallTypes.ownedTupleHandOut
  have z6 : IsZip (g5.push { cls := .type "tuple", data := .seq #[x, y] }) z TI TO .ellipsis := Heap.get?_push_of_some _ z5
  refine wpAny_bind (wpAny_setField_rec z6 (by simp) fun g7 z7 e7 => ?_)
  replace z7 : IsZip g7 z TI TO (rawInt g5.objs.size) := z7
  refine wpAny_setField_rec z7 (by simp) fun g8 z8 e8 => ?_
  replace z8 : IsZip g8 z TI TO (rawInt g5.objs.size) := z8
  have up : ∀ d o, d ≠ z → g5.get? d = some o → g8.get? d = some o := fun d o n e => e8.extBut _ _ n (e7.extBut _ _ n (Heap.get?_push_of_some _ e))
  have T8 : IsPair g8 g5.objs.size x y := e8.extBut _ _ (Nat.ne_of_gt zl) (e7.extBut _ _ (Nat.ne_of_gt zl) (Heap.get?_push_size _ rfl))
  rw [sz] at z8 T8
  refine wpAny_pure ⟨_, rfl, wpAny_pure ?_⟩
  show Q (some (.ref g5.objs.size)) _
  rw [sz]
  exact q g8 z8 (up _ _ D.TOz O5) (m15.at_ fun o e => up _ o D.i1z e) (m25.at_ fun o e => up _ o D.i2z e) T8 fun d o n1 n2 n3 n4 e => up d o n1 (k5 d o n1 n2 n3 n4 e)
theorem zp_end {Q : Option Value → Shared → Prop} (hh : A.handled = none) (D : ZipApart z TI TO c1 c2 l1 l2) (hz : IsZip s.heap z TI TO .none) (hI : IsPair s.heap TI (.ref c1) (.ref c2)) (hO : IsPair s.heap TO a b)
    (h1 : CurAt t1 c1 l1 k1 s.heap) (h2 : CurAt t2 c2 l2 k2 s.heap) (s1 : SrcAt t1 l1 xs s.heap) (s2 : SrcAt t2 l2 ys s.heap) (hend : xs[k1]? = none ∨ ys[k2]? = none)
    (q : ∀ g, (∀ d o, d ≠ z → d ≠ TO → d ≠ c1 → d ≠ c2 → s.heap.get? d = some o → g.get? d = some o) → Q none { s with heap := g }) : wpAny (model P w) A (pyNext (.ref z)) Q E s := by
  have ty : s.TypeIs (.ref z) "zip" := ⟨_, hz, rfl⟩
  unfold pyNext
  refine wpAny_bind (wpAny_attempt (wpAny_callSpecial?_slot (name := Str.ofString "__next__") ty F.slot_zip_next (wpAny_call_entry F.slot_zip_next ty F.entry_zip_next ?_ (F.args_zip_next_1 _))))
  have fin : ∀ (g : Heap) (e : Addr), (∀ d o, d ≠ z → d ≠ TO → d ≠ c1 → d ≠ c2 → s.heap.get? d = some o → g.get? d = some o) → (∃ o, g.get? e = some o ∧ o.cls = .type "StopIteration") → wpAny (model P w) A (do if ← isInstance (.ref e) (.type "StopIteration") then pure none else throw (.ref e)) Q E { s with heap := g } := fun g e k ⟨o, ho, hc⟩ =>
    wpAny_bind (wpAny_isInstance (T := "StopIteration") (b := true) ⟨o, ho, hc⟩ isSubtype_stop (wpAny_pure (q g k)))
  show wpAny _ _ (field (.ref z) 2 >>= _) _ _ _
  refine wpAny_bind (wpAny_field hz rfl (x := .bool false) rfl ?_)
  show wpAny _ _ (field (.ref z) 3 >>= _) _ _ _
  refine wpAny_bind (wpAny_field hz rfl (x := .ref TI) rfl ?_)
  refine wpAny_bind (wpAny_seqItems hI rfl ?_)
  show wpAny _ _ (Builtin.SmallTypes.ownedTupleIsFree (.ref z) >>= _) _ _ _
  refine wpAny_bind ?_
  unfold Builtin.SmallTypes.ownedTupleIsFree
  refine wpAny_bind (wpAny_field hz rfl (x := .none) rfl (wpAny_pure ?_))
  simp only [if_true]
  refine wpAny_bind (wpAny_rule (wpAny_bind (wpAny_field hz rfl (x := .ref TO) rfl ?_)))
  refine wpAny_bind (wpAny_setField_rec hz (by simp) fun g1 z1 e1 => ?_)
  replace z1 : IsZip g1 z TI TO .ellipsis := z1
  refine wpAny_bind ?_
  simp only [List.zipIdx_cons, List.zipIdx_nil, List.forIn_cons, List.forIn_nil]
  refine wpAny_bind (wpAny_bind (wpAny_onRaise ?_))
  show wpAny _ _ (Builtin.SmallTypes.nextOf (.ref c1) >>= _) _ _ _
  cases hx : xs[k1]? with
  | none =>
    refine wpAny_bind (nx_end hh (h1.ext e1.extBut D.i1z) (s1.ext e1.extBut D.l1z) hx ?_)
    rintro g2 e e2 ⟨oe, f1, f2⟩
    have z2 : IsZip g2 z TI TO .ellipsis := e2 _ _ D.i1z.symm z1
    have ez : e ≠ z := fun r => by subst r; rw [z2] at f1; cases f1; simp at f2
    exact wpAny_setField_rec z2 (by simp) fun g3 _ e3 => fin g3 e (fun d o n1 _ n3 _ r => e3.extBut _ _ n1 (e2 _ _ n3 (e1.extBut _ _ n1 r))) ⟨oe, e3.extBut _ _ ez f1, f2⟩
  | some x =>
    have hy : ys[k2]? = none := by rcases hend with h | h; rw [hx] at h; cases h; exact h
    refine wpAny_bind (nx_at (h1.ext e1.extBut D.i1z) (s1.ext e1.extBut D.l1z) hx fun g2 m2 e2 => wpAny_pure ?_)
    have O2 : IsPair g2 TO a b := e2.extBut _ _ D.TOi1 (e1.extBut _ _ D.TOz hO)
    refine wpAny_bind (wpAny_seqItems O2 rfl (wpAny_bind (wpAny_updateSeq_pair O2 fun g3 O3 e3 => ?_)))
    refine wpAny_bind (wpAny_letGo (wpAny_pure ?_))
    refine wpAny_bind (wpAny_bind (wpAny_onRaise ?_))
    show wpAny _ _ (Builtin.SmallTypes.nextOf (.ref c2) >>= _) _ _ _
    refine wpAny_bind (nx_end hh (((h2.ext e1.extBut D.i2z).ext e2.extBut D.i12.symm).ext e3.extBut D.TOi2.symm) (((s2.ext e1.extBut D.l2z).ext e2.extBut D.l2i1).ext e3.extBut D.l2TO) hy ?_)
    rintro g4 e e4 ⟨oe, f1, f2⟩
    have z4 : IsZip g4 z TI TO .ellipsis := e4 _ _ D.i2z.symm (e3.extBut _ _ D.TOz.symm (e2.extBut _ _ D.i1z.symm z1))
    have ez : e ≠ z := fun r => by subst r; rw [z4] at f1; cases f1; simp at f2
    exact wpAny_setField_rec z4 (by simp) fun g5 _ e5 => fin g5 e (fun d o n1 n2 n3 n4 r => e5.extBut _ _ n1 (e4 _ _ n4 (e3.extBut _ _ n2 (e2.extBut _ _ n3 (e1.extBut _ _ n1 r))))) ⟨oe, e5.extBut _ _ ez f1, f2⟩
abbrev zpC (tp : Bool) (l : Addr) : Obj := { cls := .type (if tp then "tuple_iterator" else "list_iterator"), data := .fields #[.ref l, .int 0 0] }
theorem it_of {tp : Bool} {l : Addr} {vs : Array Value} {Q : Value → Shared → Prop} {s : Shared} (h : SrcAt tp l vs s.heap) (q : Q (.ref s.heap.objs.size) { s with heap := s.heap.push (zpC tp l) }) : wpAny (model P w) A (pyIter (.ref l)) Q E s := by
  cases tp
  · exact wpAny_pyIter_list h q
  · exact iter_tuple h q
theorem SrcAt.push {tp : Bool} {l : Addr} {vs : Array Value} {h : Heap} (x : SrcAt tp l vs h) (o : Obj) : SrcAt tp l vs (h.push o) := by
  cases tp
  · exact Heap.IsList.push x o
  · exact IsTup.push x o
end
section
variable {P : Program} {w : World} {A : Around} {E : Value → Shared → Prop}
abbrev zp2 (t1 t2 : Bool) (h : Heap) (l1 l2 : Addr) : Heap := (h.push (zpC t1 l1)).push (zpC t2 l2)
abbrev zp4 (t1 t2 : Bool) (h : Heap) (l1 l2 : Addr) : Heap := ((zp2 t1 t2 h l1 l2).push { cls := .type "tuple", data := .seq #[.ref h.objs.size, .ref (h.objs.size + 1)] }).push { cls := .type "tuple", data := .seq #[.none, .none] }
abbrev zp5 (t1 t2 : Bool) (h : Heap) (l1 l2 : Addr) : Heap := (zp4 t1 t2 h l1 l2).push { cls := .type "zip", data := .fields #[.none, .bool false, .bool false, .ref (h.objs.size + 2), .ref (h.objs.size + 3)] }
theorem zp_new (t1 t2 : Bool) (l1 l2 : Addr) (xs ys : Array Value) : Meets (Builtin.«zip.__new__» ⟨[.type "zip", .ref l1, .ref l2], []⟩) (fun _ R s => SrcAt t1 l1 xs s.heap ∧ SrcAt t2 l2 ys s.heap ∧ R (.ok (.ret (.ref (s.heap.objs.size + 4)))) { s with heap := zp5 t1 t2 s.heap l1 l2 }) :=
  .of_wp fun prog w A R s h => by
    obtain ⟨hp, g, d, tk, os⟩ := s
    obtain ⟨a1, a2, h⟩ := h
    have su := sub_zip
    have b1 : SrcAt t1 l1 xs (Shared.heap ⟨hp, g, d, tk, os⟩) := a1
    have b2 : SrcAt t2 l2 ys (Shared.heap ⟨hp.push (zpC t1 l1), g, d, tk, os⟩) := SrcAt.push a2 _
    wp_walk using it_of b1, it_of b2
    refine ⟨_, rfl, ?_⟩
    simp only [Heap.size_push] at h ⊢
    exact h
theorem call_zp {t1 t2 : Bool} {l1 l2 : Addr} {xs ys : Array Value} {s : Shared} {Q : Value → Shared → Prop} (a1 : SrcAt t1 l1 xs s.heap) (a2 : SrcAt t2 l2 ys s.heap)
    (q : ∀ g, IsZip g (s.heap.objs.size + 4) (s.heap.objs.size + 2) (s.heap.objs.size + 3) .none → IsPair g (s.heap.objs.size + 2) (.ref s.heap.objs.size) (.ref (s.heap.objs.size + 1)) → IsPair g (s.heap.objs.size + 3) .none .none →
      CurAt t1 s.heap.objs.size l1 0 g → CurAt t2 (s.heap.objs.size + 1) l2 0 g → (∀ c o, s.heap.get? c = some o → g.get? c = some o) → Q (.ref (s.heap.objs.size + 4)) { s with heap := g }) : wpAny (model P w) A (call (.type "zip") [.ref l1, .ref l2]) Q E s := by
  refine callType_new F.called_zip (by decide) (F.typeCall_zip_2 _ _) (F.newCall_zip_2 _ _) (fun obj => F.args_object_init_3 obj _ _) F.entry_zip_new (zp_new t1 t2 l1 l2 xs ys) ⟨a1, a2, ?_⟩
  have n1 : (s.heap.push (zpC t1 l1)).objs.size = s.heap.objs.size + 1 := Heap.size_push ..
  have n2 : (zp2 t1 t2 s.heap l1 l2).objs.size = s.heap.objs.size + 2 := by rw [Heap.size_push, n1]
  have n3 : ((zp2 t1 t2 s.heap l1 l2).push { cls := .type "tuple", data := .seq #[.ref s.heap.objs.size, .ref (s.heap.objs.size + 1)] }).objs.size = s.heap.objs.size + 3 := by rw [Heap.size_push, n2]
  have n4 : (zp4 t1 t2 s.heap l1 l2).objs.size = s.heap.objs.size + 4 := by rw [Heap.size_push, n3]
  have g5 : (zp5 t1 t2 s.heap l1 l2).get? (s.heap.objs.size + 4) = some { cls := .type "zip", data := .fields #[.none, .bool false, .bool false, .ref (s.heap.objs.size + 2), .ref (s.heap.objs.size + 3)] } := by rw [← n4]; exact Heap.get?_push_size _ rfl
  have g4 : (zp5 t1 t2 s.heap l1 l2).get? (s.heap.objs.size + 3) = some { cls := .type "tuple", data := .seq #[.none, .none] } := Heap.get?_push_of_some _ (by rw [← n3]; exact Heap.get?_push_size _ rfl)
  have g3 : (zp5 t1 t2 s.heap l1 l2).get? (s.heap.objs.size + 2) = some { cls := .type "tuple", data := .seq #[.ref s.heap.objs.size, .ref (s.heap.objs.size + 1)] } := Heap.get?_push_of_some _ (Heap.get?_push_of_some _ (by rw [← n2]; exact Heap.get?_push_size _ rfl))
  have g2 : (zp5 t1 t2 s.heap l1 l2).get? (s.heap.objs.size + 1) = some (zpC t2 l2) := Heap.get?_push_of_some _ (Heap.get?_push_of_some _ (Heap.get?_push_of_some _ (by rw [← n1]; exact Heap.get?_push_size _ rfl)))
  have g1 : (zp5 t1 t2 s.heap l1 l2).get? s.heap.objs.size = some (zpC t1 l1) := Heap.get?_push_of_some _ (Heap.get?_push_of_some _ (Heap.get?_push_of_some _ (Heap.get?_push_of_some _ (Heap.get?_push_size _ rfl))))
  refine ⟨⟨_, g5, rfl⟩, q _ g5 g3 g4 ?_ ?_ fun c o x => Heap.get?_push_of_some _ (Heap.get?_push_of_some _ (Heap.get?_push_of_some _ (Heap.get?_push_of_some _ (Heap.get?_push_of_some _ x))))⟩
  · cases t1 <;> exact ⟨_, g1, rfl, rfl⟩
  · cases t2 <;> exact ⟨_, g2, rfl, rfl⟩
end
def SqB (tp : Bool) (K : PySem.W.Frag) (H : Hp) (a : Addr) (xs : List V) : Prop := if tp then SqT K H a xs else SqL K H a xs
section
variable {X : Cx} {pins : List (Addr × Obj)} {σ : St} {H : Hp} {s : Shared}
theorem Inv.sqB {tp : Bool} {a : Addr} {xs : List V} (I : Inv X pins σ H s) (h : SqB tp X.K H a xs) : ∃ us : List Value, Vals xs us ∧ SrcAt tp a us.toArray s.heap := by
  cases tp
  · obtain ⟨us, rv, p, _⟩ := I.list h
    exact ⟨us, rv, p.isList⟩
  · obtain ⟨us, rv, p, _⟩ := I.tuple h
    exact ⟨us, rv, p⟩
theorem Inv.sqB_inj {tp : Bool} {a : Addr} {xs ys : List V} (I : Inv X pins σ H s) (h : SqB tp X.K H a xs) (h' : SqB tp X.K H a ys) : xs = ys := by
  cases tp
  · exact I.list_inj h h'
  · exact I.tuple_inj h h'
end
def Itzb (t1 t2 : Bool) (K : PySem.W.Frag) (a b : Addr) : It :=
  ⟨fun i H => ∃ xs ys x y, SqB t1 K H a xs ∧ SqB t2 K H b ys ∧ xs[i]? = some x ∧ ys[i]? = some y, fun i H x H' => ∃ v1 v2, (∀ xs, SqB t1 K H a xs → xs[i]? = some v1) ∧ (∀ ys, SqB t2 K H b ys → ys[i]? = some v2) ∧ pairY v1 v2 H x H',
   fun i H => ∃ xs ys, SqB t1 K H a xs ∧ SqB t2 K H b ys ∧ (xs.length ≤ i ∨ ys.length ≤ i)⟩
abbrev zbSt (t1 t2 : Bool) (z TI TO c1 c2 a b : Addr) (i : Nat) (h : Heap) : Prop := IsZip h z TI TO .none ∧ IsPair h TI (.ref c1) (.ref c2) ∧ (∃ u v, IsPair h TO u v) ∧ CurAt t1 c1 a i h ∧ CurAt t2 c2 b i h
theorem turn_zb {P : Program} {w : World} {K : PySem.W.Frag} {elts : List Expr} {k : Nat} {pos : Pos} {t1 t2 : Bool} (z TI TO c1 c2 a b : Addr) (D : ZipApart z TI TO c1 c2 a b) : Turn P w K (.Tuple elts k pos) (Itzb t1 t2 K a b) [z, TI, TO, c1, c2] z (zbSt t1 t2 z TI TO c1 c2 a b) where
  mem := by simp
  obj := fun i h st c hc => by
    obtain ⟨hz, hTI, ⟨u, v, hTO⟩, h1, h2⟩ := st
    simp only [List.mem_cons, List.mem_nil_iff, or_false] at hc
    rcases hc with rfl | rfl | rfl | rfl | rfl
    · exact ⟨_, hz, fun v z => by have z' : Data.fields _ = Data.cell v := z; cases z'⟩
    · exact ⟨_, hTI, fun v z => by have z' : Data.seq _ _ = Data.cell v := z; cases z'⟩
    · exact ⟨_, hTO, fun v z => by have z' : Data.seq _ _ = Data.cell v := z; cases z'⟩
    · exact h1.obj
    · exact h2.obj
  keep := fun i h h' st k => by
    obtain ⟨hz, hTI, ⟨u, v, hTO⟩, h1, h2⟩ := st
    exact ⟨k z (by simp) _ hz, k TI (by simp) _ hTI, ⟨u, v, k TO (by simp) _ hTO⟩, h1.at_ fun o x => k c1 (by simp) o x, h2.at_ fun o x => k c2 (by simp) o x⟩
  item := by
    intro X hP hw hK hc i pins s σ H E I hf st hg
    subst hP hw hK
    obtain ⟨hz, hTI, ⟨u0, v0, hTO⟩, h1, h2⟩ := st
    obtain ⟨xs, ys, x, y, hq1, hq2, hx, hy⟩ := hg
    obtain ⟨its, rv, p⟩ := I.sqB hq1
    obtain ⟨its2, rv2, p2⟩ := I.sqB hq2
    obtain ⟨u, hu, ru⟩ := rv.get hx
    obtain ⟨u2, hu2, ru2⟩ := rv2.get hy
    refine zp_item D hz hTI hTO h1 h2 p p2 (x := u) (y := u2) (by simpa using hu) (by simpa using hu2) fun h' a1 a2 a3 a4 a5 hk => ?_
    have I1 : Inv X pins σ (upd H s.heap.objs.size (.tup [x, y])) { s with heap := h', toks := s.toks } := I.turnedT (t' := s.toks) hf (fun b o hb e => hk b o (fun z => hb (by simp [z])) (fun z => hb (by simp [z])) (fun z => hb (by simp [z])) (fun z => hb (by simp [z])) e) (Nat.le_refl _) (tup2_ok ru ru2 a5)
    refine ⟨_, rfl, wpAny_letOwnedTupleGo_zip (s := { s with heap := h' }) a1 fun h'' hz'' sb => ?_⟩
    have hlt : ∀ b ∈ [z, TI, TO, c1, c2], b ≠ s.heap.objs.size := fun c hc z' => by
      simp only [List.mem_cons, List.mem_nil_iff, or_false] at hc
      obtain ⟨o1, e1, _⟩ := h1.obj
      obtain ⟨o2, e2, _⟩ := h2.obj
      rcases hc with rfl | rfl | rfl | rfl | rfl
      · exact Nat.ne_of_lt (Heap.lt_size hz) z'
      · exact Nat.ne_of_lt (Heap.lt_size hTI) z'
      · exact Nat.ne_of_lt (Heap.lt_size hTO) z'
      · exact Nat.ne_of_lt (Heap.lt_size e1) z'
      · exact Nat.ne_of_lt (Heap.lt_size e2) z'
    have hf1 : ∀ b ∈ [z, TI, TO, c1, c2], FpOk X pins (upd H s.heap.objs.size (.tup [x, y])) b := fun b hb => by
      obtain ⟨f0, f⟩ := hf b hb
      exact ⟨by rw [upd_ne (hlt b hb)]; exact f0, f⟩
    obtain ⟨f0, f1, f2, f3, f4, f5⟩ := hf1 z (by simp)
    refine ⟨.ref s.heap.objs.size, _, I1.turned (t' := s.toks) (fun b o hb q => (sb.2 b hb).trans q) f0 f1 f3 f4 f5, rfl, ⟨x, y, fun ys hy => by rw [I.sqB_inj hy hq1]; exact hx, fun ys hy' => by rw [I.sqB_inj hy' hq2]; exact hy, _, rfl, I.hok.fresh (Nat.le_refl _), rfl⟩, ?_, fun b hb => (hf1 b hb).1⟩
    refine ⟨hz'', (sb.2 _ D.TIz).trans (hk _ _ D.TIz D.TITO D.TIi1 D.TIi2 hTI), ⟨_, _, (sb.2 _ D.TOz).trans a2⟩, a3.at_ fun o q => (sb.2 _ D.i1z).trans q, a4.at_ fun o q => (sb.2 _ D.i2z).trans q⟩
  done := by
    intro X hP hw hK hc i pins s σ H E I hf st hg
    subst hP hw hK
    obtain ⟨hz, hTI, ⟨u0, v0, hTO⟩, h1, h2⟩ := st
    obtain ⟨xs, ys, hq1, hq2, hx⟩ := hg
    obtain ⟨its, rv, p⟩ := I.sqB hq1
    obtain ⟨its2, rv2, p2⟩ := I.sqB hq2
    have hl := rv.length
    have hl2 := rv2.length
    refine zp_end (I.ok.hd hc) D hz hTI hTO h1 h2 p p2 ?_ fun h' hk => ⟨rfl, I.turnedL (t' := s.toks) hf fun b o hb q => hk b o (fun z => hb (by simp [z])) (fun z => hb (by simp [z])) (fun z => hb (by simp [z])) (fun z => hb (by simp [z])) q⟩
    rcases hx with hx | hx
    · exact .inl (by simp; omega)
    · exact .inr (by simp; omega)
  self := fun _ _ _ _ _ st h => wpAny_pyIter_zip st.1 h
section
variable {X : Cx} {elts : List Expr} {k : Nat} {tpos p pos : Pos} {a b : Expr} {ta : TA}
def iZb (t1 t2 : Bool) (K : PySem.W.Frag) (ta : TA) : TI := fun σ H R => ta σ H fun vs H1 => ∃ l m xs ys, vs = [.ref l, .ref m] ∧ SqB t1 K H1 l xs ∧ SqB t2 K H1 m ys ∧ R (Itzb t1 t2 K l m) H1
theorem pi_zb (t1 t2 : Bool) (K : PySem.W.Frag) (hg : Gl X "zip") (hm : X.mg "zip" = none) (ha : SA X [a, b] ta) (hK : X.K = K := by rfl) (hs : starEach [a, b] X.env = [(false, eval a X.env), (false, eval b X.env)] := by rfl) (hs2 : starEach [b] X.env = [(false, eval b X.env)] := by rfl) :
    SI X (.Tuple elts k tpos) (.Call (.Name "zip" p) [a, b] [] pos) (iZb t1 t2 K ta) := by
  subst hK
  constructor
  intro pins s σ H R I h
  refine Call_ (ld_blt I hg hm boot_zip (PyProof.Rows.callWith_type1 (thn (ha.h pos pins s σ H _ I h) fun us s1 ⟨vs, H1, I1, r1, q1⟩ => ?_) (by rw [hs, hs2]) (by rw [hs2]; rfl)))
  obtain ⟨l, m, xs, ys, e, hq1, hq2, q⟩ := q1
  subst e
  obtain ⟨u1, u2, rfl, r1', r2'⟩ := r1.two
  cases r1'
  cases r2'
  obtain ⟨its, rv, pl⟩ := I1.sqB hq1
  obtain ⟨its2, rv2, pl2⟩ := I1.sqB hq2
  refine call_zp pl pl2 fun h' hz hTI hTO h1 h2 hk => wpAny_pyIter_zip hz ?_
  have I2 : Inv X pins σ H1 { s1 with heap := h' } := I1.kept (t' := s1.toks) hk
  refine ⟨s1.heap.objs.size + 4, [s1.heap.objs.size + 4, s1.heap.objs.size + 2, s1.heap.objs.size + 3, s1.heap.objs.size, s1.heap.objs.size + 1], _, _, H1, rfl, I2, turn_zb _ _ _ _ _ l m ?_, ⟨hz, hTI, ⟨_, _, hTO⟩, h1, h2⟩, fun b hb => ?_, q⟩
  · exact zipApart_mk pl.lt pl2.lt
  · simp only [List.mem_cons, List.mem_nil_iff, or_false] at hb
    rcases hb with rfl | rfl | rfl | rfl | rfl <;> exact I1.fpOk (by simp) (I1.hok.fresh (by simp))
end
theorem itp_zb {t1 t2 : Bool} {K : PySem.W.Frag} {a b : Addr} (xs ys : List V) : ItP (Itzb t1 t2 K a b) (fun H => SqB t1 K H a xs ∧ SqB t2 K H b ys) (min xs.length ys.length) (fun i => xs.getD i .non) (fun i => ys.getD i .non) := fun H ok =>
  ⟨fun i hi => ⟨⟨xs, ys, xs[i]'(by omega), ys[i]'(by omega), ok.1, ok.2, by simp, by simp⟩, fun x H' ⟨v1, v2, hv1, hv2, y⟩ => by
    have e1 : xs.getD i V.non = v1 := by rw [List.getD_eq_getElem?_getD, hv1 xs ok.1]; rfl
    have e2 : ys.getD i V.non = v2 := by rw [List.getD_eq_getElem?_getD, hv2 ys ok.2]; rfl
    show pairY (xs.getD i .non) (ys.getD i .non) H x H'
    rw [e1, e2]; exact y⟩, ⟨xs, ys, ok.1, ok.2, by omega⟩⟩
theorem z_fn0 {X : Cx} {x : Str} {p pos : Pos} {k : Nat} {ps : List Str} {sp : Sp} (F : FnK X.prog X.w X.K X.mg X.base k x ps sp) (hr : Room k X.A) (hg : Gl X x := by rfl) (hdb : (x == ("__debug__" : Str)) = false := by decide) : SE X (.Call (.Name x p) [] [] pos) (tCall sp [] E0 tNil) := by
  obtain ⟨f, fd, G, mgf, kp, b, _⟩ := F
  exact ⟨pe_call0 G hr hg mgf kp b .nil pass0 hdb⟩
section
variable {X : Cx} {e st : Expr} {te ts : TE} {p2 pos : Pos}
def rNeTE : R2 := fun x y H Q => ∃ a b xs, x = .ref a ∧ y = .ref b ∧ H a = some (.tup xs) ∧ H b = some (.tup []) ∧ Q (.bl (!xs.isEmpty)) H
theorem op_neTE (hu : X.A.units + 20 < cLine) : OpR X (compareOp .NotEq) rNeTE := by
  intro pins s σ H x y v u Q I rx ry h
  obtain ⟨a, b, xs, rfl, rfl, ha, hb, q⟩ := h
  cases rx
  cases ry
  obtain ⟨i1, r1, p1, _⟩ := I.tuple (SqT.of ha)
  obtain ⟨i2, r2, p2, _⟩ := I.tuple (SqT.of hb)
  cases r2
  refine SeqAt.RcNeAt.tuples (e := fun _ => true) p1 p2 (by omega) (fun j h1 h2 => absurd h2 (by simp)) _ _ _ _ ?_
  have e : ((List.range (min i1.toArray.size ([] : List Value).toArray.size)).all (fun _ => true) && i1.toArray.size == ([] : List Value).toArray.size) = xs.isEmpty := by
    have hl := r1.length
    cases xs with
    | nil => simp at hl; simp [← hl]
    | cons x xs => cases i1 with
      | nil => simp at hl
      | cons u us => simp
  rw [e]
  exact ⟨.bl (!xs.isEmpty), H, I, rfl, q⟩
end
end L2
set_option autoImplicit false
set_option maxRecDepth 100000
set_option maxHeartbeats 400000
--LEVEL 40
namespace T1
open PySem L2
def top (i : Nat) : Stmt := PySem.Challenge.pw_coilkind_k76_makers_at_places.main.body.getD i (.Pass ⟨0, 0, 0, 0⟩)
abbrev s_maker_at : Stmt := top 2
abbrev s_makers_in : Stmt := top 3
abbrev s_law_fill : Stmt := top 5
abbrev s_law_next : Stmt := top 6
abbrev s_law_turned : Stmt := top 7
abbrev s_law_words : Stmt := top 8
abbrev s_law_head : Stmt := top 9
abbrev s_law_telling : Stmt := top 10
abbrev s_law_any : Stmt := top 11
abbrev s_law_row_here : Stmt := top 12
abbrev s_law_head_here : Stmt := top 13
abbrev s_law_maker_telling : Stmt := top 15
abbrev s_law_endless : Stmt := top 16
abbrev s_law_name_bound : Stmt := top 17
abbrev s_law_for : Stmt := top 18
abbrev s_law_wrapped : Stmt := top 19
abbrev s_law_split_over : Stmt := top 20
abbrev s_law_many : Stmt := top 21
abbrev s_law_parts : Stmt := top 22
abbrev s_law_small_maker : Stmt := top 23
abbrev s_law_places : Stmt := top 24
abbrev s_law : Stmt := top 25
structure Txt (K : PySem.W.Frag) (mg : Str → Option Value) (w : World) : Prop where
  n_len : mg "len" = none
  n_range : mg "range" = none
  n_list : mg "list" = none
  n_tuple : mg "tuple" = none
  n_dict : mg "dict" = none
  n_sorted : mg "sorted" = none
  n_zip : mg "zip" = none
  n_sum : mg "sum" = none
  c_PLACES : ∃ (a t0 t1 t2 t3 t4 t5 t6 t7 : Addr), mg "PLACES" = some (.ref a) ∧ KD w K a [(.inr "get", .ref t0), (.inr "fn", .ref t1), (.inr "call", .ref t2), (.inr "box", .ref t3), (.inr "part", .ref t4), (.inr "pick", .ref t5), (.inr "split", .ref t6), (.inr "hold", .ref t7)] ∧ (∀ H, SqT K H t0 [.str "name"]) ∧ (∀ H, SqT K H t1 [.str "name", .str "row", .str "maker"]) ∧ (∀ H, SqT K H t2 [.str "maker", .str "maker"]) ∧ (∀ H, SqT K H t3 [.str "parts"]) ∧ (∀ H, SqT K H t4 [.str "maker", .str "name"]) ∧ (∀ H, SqT K H t5 [.str "name", .str "maker"]) ∧ (∀ H, SqT K H t6 [.str "maker", .str "cases"]) ∧ (∀ H, SqT K H t7 [.str "maker", .str "row"])
  t_maker_at : FnT K mg "maker_at" s_maker_at ["maker", "place"]
  t_makers_in : FnT K mg "makers_in" s_makers_in ["maker"]
  t_law_fill : FnT K mg "_law_fill" s_law_fill ["_law_cell", "_law_at"]
  t_law_next : FnT K mg "_law_next" s_law_next ["_law_pen", "_law_many"]
  t_law_turned : FnT K mg "_law_turned" s_law_turned ["_law_pen", "_law_some"]
  t_law_words : FnT K mg "_law_words" s_law_words ["_law_pen"]
  t_law_head : FnT K mg "_law_head" s_law_head ["_law_pen", "_law_names", "_law_ahead"]
  t_law_telling : FnT K mg "_law_telling" s_law_telling ["_law_pen", "_law_most"]
  t_law_any : FnT K mg "_law_any" s_law_any ["_law_pen", "_law_told"]
  t_law_row_here : FnT K mg "_law_row_here" s_law_row_here ["_law_told", "_law_name"]
  t_law_head_here : FnT K mg "_law_head_here" s_law_head_here ["_law_told", "_law_name"]
  t_law_maker_telling : FnT K mg "_law_maker_telling" s_law_maker_telling ["_law_pen", "_law_most"]
  t_law_endless : FnT K mg "_law_endless" s_law_endless []
  t_law_name_bound : FnT K mg "_law_name_bound" s_law_name_bound ["_law_pen"]
  t_law_for : FnT K mg "_law_for" s_law_for ["_law_pen", "_law_told", "_law_name", "_law_known", "_law_deep"]
  t_law_wrapped : FnT K mg "_law_wrapped" s_law_wrapped ["_law_pen", "_law_told", "_law_name", "_law_known", "_law_deep"]
  t_law_split_over : FnT K mg "_law_split_over" s_law_split_over ["_law_pen", "_law_told", "_law_name", "_law_known", "_law_deep"]
  t_law_many : FnT K mg "_law_many" s_law_many ["_law_maker"]
  t_law_parts : FnT K mg "_law_parts" s_law_parts ["_law_maker"]
  t_law_small_maker : FnT K mg "_law_small_maker" s_law_small_maker ["_law_pen", "_law_told", "_law_name"]
  t_law_places : FnT K mg "_law_places" s_law_places ["_law_maker", "_law_place"]
  t_law : FnT K mg "law" s_law ["script"]
theorem sc_maker_at : FnScope ["maker", "place", "k"] ["maker", "place"] (defScope s_maker_at) := ⟨rfl, rfl, rfl, by decide +kernel, rfl, by decide +kernel, by decide +kernel⟩
theorem sc_makers_in : FnScope ["maker", "found", "what", "one"] ["maker"] (defScope s_makers_in) := ⟨rfl, rfl, rfl, by decide +kernel, rfl, by decide +kernel, by decide +kernel⟩
theorem sc_law_fill : FnScope ["_law_cell", "_law_at", "_law_x"] ["_law_cell", "_law_at"] (defScope s_law_fill) := ⟨rfl, rfl, rfl, by decide +kernel, rfl, by decide +kernel, by decide +kernel⟩
theorem sc_law_next : FnScope ["_law_pen", "_law_many", "_law_at", "_law_cell", "_law_found"] ["_law_pen", "_law_many"] (defScope s_law_next) := ⟨rfl, rfl, rfl, by decide +kernel, rfl, by decide +kernel, by decide +kernel⟩
theorem sc_law_turned : FnScope ["_law_pen", "_law_some", "_law_left", "_law_found"] ["_law_pen", "_law_some"] (defScope s_law_turned) := ⟨rfl, rfl, rfl, by decide +kernel, rfl, by decide +kernel, by decide +kernel⟩
theorem sc_law_words : FnScope ["_law_pen"] ["_law_pen"] (defScope s_law_words) := ⟨rfl, rfl, rfl, by decide +kernel, rfl, by decide +kernel, by decide +kernel⟩
theorem sc_law_head : FnScope ["_law_pen", "_law_names", "_law_ahead", "_law_way", "_law_one"] ["_law_pen", "_law_names", "_law_ahead"] (defScope s_law_head) := ⟨rfl, rfl, rfl, by decide +kernel, rfl, by decide +kernel, by decide +kernel⟩
theorem sc_law_telling : FnScope ["_law_pen", "_law_most", "_law_size", "_law_names", "_law_rows", "_law_k"] ["_law_pen", "_law_most"] (defScope s_law_telling) := ⟨rfl, rfl, rfl, by decide +kernel, rfl, by decide +kernel, by decide +kernel⟩
theorem sc_law_any : FnScope ["_law_pen", "_law_told"] ["_law_pen", "_law_told"] (defScope s_law_any) := ⟨rfl, rfl, rfl, by decide +kernel, rfl, by decide +kernel, by decide +kernel⟩
theorem sc_law_row_here : FnScope ["_law_told", "_law_name", "_law_rows"] ["_law_told", "_law_name"] (defScope s_law_row_here) := ⟨rfl, rfl, rfl, by decide +kernel, rfl, by decide +kernel, by decide +kernel⟩
theorem sc_law_head_here : FnScope ["_law_told", "_law_name"] ["_law_told", "_law_name"] (defScope s_law_head_here) := ⟨rfl, rfl, rfl, by decide +kernel, rfl, by decide +kernel, by decide +kernel⟩
theorem sc_law_maker_telling : FnScope ["_law_pen", "_law_most"] ["_law_pen", "_law_most"] (defScope s_law_maker_telling) := ⟨rfl, rfl, rfl, by decide +kernel, rfl, by decide +kernel, by decide +kernel⟩
theorem sc_law_endless : FnScope ["_law_self"] [] (defScope s_law_endless) := ⟨rfl, rfl, rfl, by decide +kernel, rfl, by decide +kernel, by decide +kernel⟩
theorem sc_law_name_bound : FnScope ["_law_pen"] ["_law_pen"] (defScope s_law_name_bound) := ⟨rfl, rfl, rfl, by decide +kernel, rfl, by decide +kernel, by decide +kernel⟩
theorem sc_law_for : FnScope ["_law_pen", "_law_told", "_law_name", "_law_known", "_law_deep", "_law_here", "_law_row", "_law_some", "_law_inner", "_law_bound", "_law_made", "_law_word", "_law_other", "_law_parts_here"] ["_law_pen", "_law_told", "_law_name", "_law_known", "_law_deep"] (defScope s_law_for) := ⟨rfl, rfl, rfl, by decide +kernel, rfl, by decide +kernel, by decide +kernel⟩
theorem sc_law_wrapped : FnScope ["_law_pen", "_law_told", "_law_name", "_law_known", "_law_deep", "_law_way", "_law_made", "_law_other", "_law_inner", "_law_bound", "_law_first", "_law_at", "_law_cases"] ["_law_pen", "_law_told", "_law_name", "_law_known", "_law_deep"] (defScope s_law_wrapped) := ⟨rfl, rfl, rfl, by decide +kernel, rfl, by decide +kernel, by decide +kernel⟩
theorem sc_law_split_over : FnScope ["_law_pen", "_law_told", "_law_name", "_law_known", "_law_deep", "_law_rows", "_law_row", "_law_held", "_law_cases", "_law_word", "_law_other", "_law_bound", "_law_inner", "_law_made"] ["_law_pen", "_law_told", "_law_name", "_law_known", "_law_deep"] (defScope s_law_split_over) := ⟨rfl, rfl, rfl, by decide +kernel, rfl, by decide +kernel, by decide +kernel⟩
theorem sc_law_many : FnScope ["_law_maker"] ["_law_maker"] (defScope s_law_many) := ⟨rfl, rfl, rfl, by decide +kernel, rfl, by decide +kernel, by decide +kernel⟩
theorem sc_law_parts : FnScope ["_law_maker", "_law_word"] ["_law_maker"] (defScope s_law_parts) := ⟨rfl, rfl, rfl, by decide +kernel, rfl, by decide +kernel, by decide +kernel⟩
theorem sc_law_small_maker : FnScope ["_law_pen", "_law_told", "_law_name", "_law_deep", "_law_found"] ["_law_pen", "_law_told", "_law_name"] (defScope s_law_small_maker) := ⟨rfl, rfl, rfl, by decide +kernel, rfl, by decide +kernel, by decide +kernel⟩
theorem sc_law_places : FnScope ["_law_maker", "_law_place", "_law_found", "_law_at", "_law_one"] ["_law_maker", "_law_place"] (defScope s_law_places) := ⟨rfl, rfl, rfl, by decide +kernel, rfl, by decide +kernel, by decide +kernel⟩
theorem sc_law : FnScope ["script", "_law_pen", "_law_k", "_law_told", "_law_maker", "_law_place", "_law_due"] ["script"] (defScope s_law) := ⟨rfl, rfl, rfl, by decide +kernel, rfl, by decide +kernel, by decide +kernel⟩
section
variable {P : Program} {w : World} {K : PySem.W.Frag} {mg : Str → Option Value} {base : Heap}
def spFill : Sp := fun vs H Q _ => ∃ c t : Int, vs = [.int c, .int t] ∧ (0 ≤ t ∧ t < 1000000000) ∧ ∀ r : Int, Q (.int r) H
theorem ok_law_fill (T : Txt K mg w) : FnK P w K mg base 1 "_law_fill" ["_law_cell", "_law_at"] spFill := by
  refine T.t_law_fill.okS sc_law_fill (fun vs H Q E h => ?_) (fun f cdv A outer s H vs Q E hr h => ?_)
  · obtain ⟨c, t, rfl, _⟩ := h
    rfl
  · obtain ⟨c, t, rfl, ⟨ht0, ht1⟩, k⟩ := h
    refine ⟨_, (sb_cons (s_if (y_cmpR op_geD (zv 0) (z_op op_powD z_int z_int) (nomark _)) (sb_one (s_ret (zv 0))) sb_nil)
      (sb_cons (s_set (i := 2) sc_law_fill.nd rfl (Or.inl rfl) (z_op op_modD (z_op op_addD (z_op op_addD (z_op op_mulD (z_op op_modD (zv 0) z_int) z_int) (z_op op_mulD (zv 1) z_int)) z_int) z_int))
      (sb_cons (s_set (i := 2) sc_law_fill.nd rfl (Or.inl rfl) (z_op op_modD (z_op op_addD (z_op op_addD (z_op op_mulD (zv 2) (zv 2)) (z_op op_mulD z_int (zv 2))) (zv 1)) z_int))
      (sb_one (s_ret (z_op op_addD (z_op op_mulD (zv 2) z_int) (z_op op_modD (z_op op_addD (z_op op_mulD (zv 2) (zv 2)) (z_op op_mulD z_int (zv 1))) z_int))))))), ?_⟩
    refine ⟨⟨by decide, by decide, by decide⟩, _, rfl, ite2 (fun hk => k _) (fun hk => ?_)⟩
    refine ⟨by decide, .inl ⟨?_, ?_⟩, .inl ⟨by omega, by omega⟩, by decide, ?_⟩
    · have := Int.emod_nonneg c (show (2147483647 : Int) ≠ 0 by decide); omega
    · have := Int.emod_lt_of_pos c (show (0 : Int) < 2147483647 by decide); omega
    generalize hx : (c % 2147483647 * 48271 + t * 69621 + 11) % 2147483629 = x
    have hx0 : 0 ≤ x := by rw [← hx]; exact Int.emod_nonneg _ (by decide)
    have hx1 : x < 2147483629 := by rw [← hx]; exact Int.emod_lt_of_pos _ (by decide)
    refine ⟨.inl ⟨by omega, by omega⟩, .inl ⟨by decide, by decide⟩, by decide, ?_⟩
    generalize hy : (x * x + 48271 * x + t) % 2147483587 = y
    have hy0 : 0 ≤ y := by rw [← hy]; exact Int.emod_nonneg _ (by decide)
    have hy1 : y < 2147483587 := by rw [← hy]; exact Int.emod_lt_of_pos _ (by decide)
    exact ⟨.inl ⟨by omega, by omega⟩, .inl ⟨by omega, by omega⟩, .inl ⟨by decide, by decide⟩, by decide, k _⟩
def spNext (K : PySem.W.Frag) : Sp := fun vs H Q _ => ∃ (p a : Addr) (ns : List Int) (m t x : Int), vs = [.ref p, .int m] ∧ H p = some (.lst [.ref a, .int t, .int x]) ∧ (∀ o, SqL K (upd H p o) a (ns.map V.int)) ∧ SqL K H a (ns.map V.int) ∧ (0 ≤ t ∧ t < 1000000) ∧ (0 < m ∧ m < 1073741824) ∧
  ∀ r t' x' : Int, 0 ≤ r → r < m → 0 ≤ t' → t' ≤ t + 1 → Q (.int r) (upd H p (.lst [.ref a, .int t', .int x']))
theorem atI0 {α : Type} (x y z : α) : atI [x, y, z] 0 = some x := rfl
theorem atI1 {α : Type} (x y z : α) : atI [x, y, z] 1 = some y := rfl
theorem atI2 {α : Type} (x y z : α) : atI [x, y, z] 2 = some z := rfl
theorem ok_law_next (T : Txt K mg w) : FnK P w K mg base 2 "_law_next" ["_law_pen", "_law_many"] (spNext K) := by
  have F_law_fill : FnK P w K mg base 1 "_law_fill" ["_law_cell", "_law_at"] spFill := ok_law_fill T
  refine T.t_law_next.okS sc_law_next (fun vs H Q E h => ?_) (fun f cdv A outer s H vs Q E hr h => ?_)
  · obtain ⟨p, a, ns, m, t, x, rfl, _⟩ := h
    rfl
  · obtain ⟨p, a, ns, m, t, x, rfl, hp, hS', hS, ⟨ht0, ht1⟩, ⟨hm0, hm1⟩, k⟩ := h
    refine ⟨_, (sb_cons (s_if (y_cmpR op_ltD (z_ix (ix_K K) (zv 0) z_int (fun _ _ => rfl)) (zv 1) (nomark _)) (sb_cons (s_set (i := 2) sc_law_next.nd rfl (Or.inl rfl) (z_ix (ix_K K) (zv 0) z_int (fun _ _ => rfl)))
      (sb_cons (s_set (i := 3) sc_law_next.nd rfl (Or.inl rfl) z_int)
      (sb_cons (s_if (y_cmpR op_ltD (zv 2) (z_callB (call_lenK K) (by rfl) T.n_len PySem.boot_len (sa_Subscript (z_ix (ix_K K) (zv 0) z_int (fun _ _ => rfl)) sa_nil)) (nomark _)) (sb_one (s_set (i := 3) sc_law_next.nd rfl (Or.inl rfl) (z_ix (ix_K K) (z_ix (ix_K K) (zv 0) z_int (fun _ _ => rfl)) (zv 2) (fun _ _ => rfl)))) (sb_one (s_if (y_cmpR op_gtD (z_callB (call_lenK K) (by rfl) T.n_len PySem.boot_len (sa_Subscript (z_ix (ix_K K) (zv 0) z_int (fun _ _ => rfl)) sa_nil)) z_int (nomark _)) (sb_one (s_set (i := 3) sc_law_next.nd rfl (Or.inl rfl) (z_op op_addD (z_op op_modD (z_ix (ix_K K) (z_ix (ix_K K) (zv 0) z_int (fun _ _ => rfl)) (z_op op_modD (z_op op_mulD (zv 2) z_int) (z_callB (call_lenK K) (by rfl) T.n_len PySem.boot_len (sa_Subscript (z_ix (ix_K K) (zv 0) z_int (fun _ _ => rfl)) sa_nil))) (fun _ _ => rfl)) z_int) (z_op op_mulD (zv 2) z_int)))) sb_nil)))
      (sb_cons (s_asg (z_op op_addD (zv 2) z_int) (g_sub (zv 0) z_int set_list))
      (sb_one (s_asg (z_fn F_law_fill (hr.mono (by decide)) (sa_Name (zv 3) (sa_Name (zv 2) sa_nil))) (g_sub (zv 0) z_int set_list))))))) sb_nil)
      (sb_cons (s_set (i := 4) sc_law_next.nd rfl (Or.inl rfl) (z_op op_modD (z_ix (ix_K K) (zv 0) z_int (fun _ _ => rfl)) (zv 1)))
      (sb_cons (s_asg (z_op op_divD (z_ix (ix_K K) (zv 0) z_int (fun _ _ => rfl)) (zv 1)) (g_sub (zv 0) z_int set_list))
      (sb_one (s_ret (zv 4)))))), ?_⟩
    refine tSeq_by (fun σ' H1 => ∃ (v2 v3 : Option V) (t' x' : Int), σ' = [some (.ref p), some (.int m), v2, v3, none] ∧ H1 p = some (.lst [.ref a, .int t', .int x']) ∧ (H1 = H ∨ ∃ o, H1 = upd H p o) ∧ 0 ≤ t' ∧ t' ≤ t + 1) ?_ ?_
    · intro nx hnx
      refine ⟨_, .int x, .inl (SqL.of hp), atI2 _ _ _, _, rfl, ite2 (fun hk => ?_) (fun hk => ?_)⟩
      · refine tSeq_set ⟨_, .int t, .inl (SqL.of hp), atI1 _ _ _, ?_⟩
        refine tSeq_setC ?_
        refine tSeq_by (fun σ' H1 => H1 = H ∧ ∃ c : Int, σ' = [some (.ref p), some (.int m), some (.int t), some (.int c), none]) ?_ ?_
        · intro nx' hnx'
          refine ⟨_, .ref a, .inl (SqL.of hp), atI0 _ _ _, .inl ⟨_, .inl hS, _, rfl, ite2 (fun hl => ?_) (fun hl => ?_)⟩⟩
          · obtain ⟨c, hc1, hc2⟩ := atI_some (ns.map V.int) t ht0 (by have := of_decide_eq_true hl; omega)
            have hl' : t.toNat < ns.length := by
              have := of_decide_eq_true hl
              rw [List.length_map] at this; omega
            have hc : c = .int (ns[t.toNat]) := by
              rw [List.getElem?_map, List.getElem?_eq_getElem hl'] at hc1
              exact (Option.some.inj hc1).symm
            subst hc
            exact ⟨_, .ref a, .inl (SqL.of hp), atI0 _ _ _, _, _, .inl hS, hc2, hnx' _ _ ⟨rfl, _, rfl⟩⟩
          · refine ⟨_, .ref a, .inl (SqL.of hp), atI0 _ _ _, .inl ⟨_, .inl hS, _, rfl, ite2 (fun hl2 => ?_) (fun hl2 => ?_)⟩⟩
            · have hl2' := of_decide_eq_true hl2
              have hlp : 0 < (ns.map V.int).length := by omega
              have e0 := Int.emod_nonneg (t * 7) (show ((ns.map V.int).length : Int) ≠ 0 by omega)
              have e1 := Int.emod_lt_of_pos (t * 7) (show (0 : Int) < (ns.map V.int).length by omega)
              obtain ⟨c, hc1, hc2⟩ := atI_some (ns.map V.int) (t * 7 % ((ns.map V.int).length : Int)) e0 e1
              have hl' : (t * 7 % ((ns.map V.int).length : Int)).toNat < ns.length := by
                have e2 : (ns.map V.int).length = ns.length := List.length_map _
                omega
              have hc : c = .int (ns[(t * 7 % ((ns.map V.int).length : Int)).toNat]) := by
                rw [List.getElem?_map, List.getElem?_eq_getElem hl'] at hc1
                exact (Option.some.inj hc1).symm
              subst hc
              refine ⟨_, .ref a, .inl (SqL.of hp), atI0 _ _ _, .inl ⟨by omega, by omega⟩, _, .ref a, .inl (SqL.of hp), atI0 _ _ _, .inl ⟨_, .inl hS, hl2', _, _, .inl hS, hc2, by decide, .inl ⟨by omega, by omega⟩, hnx' _ _ ⟨rfl, _, rfl⟩⟩⟩
            · exact hnx' _ _ ⟨rfl, 0, rfl⟩
        · rintro σ' H1 ⟨rfl, c, rfl⟩
          refine ⟨p, _, 1, 1, rfl, rfl, hp, rfl, ?_⟩
          refine ⟨c, t, rfl, ⟨ht0, by omega⟩, fun r => ?_⟩
          refine ⟨p, _, 2, 2, rfl, rfl, upd_same, rfl, ?_⟩
          rw [upd_upd]
          exact hnx _ _ ⟨_, _, t + 1, r, rfl, upd_same, .inr ⟨_, rfl⟩, by omega, by omega⟩
      · exact hnx _ _ ⟨none, none, t, x, rfl, hp, .inl rfl, ht0, by omega⟩
    · rintro σ' H1 ⟨v2, v3, t', x', rfl, h1, h2, h3, h4⟩
      refine ⟨_, .int x', .inl (SqL.of h1), atI2 _ _ _, hm0, ?_⟩
      refine ⟨_, .int x', .inl (SqL.of h1), atI2 _ _ _, ⟨hm0, hm1⟩, p, _, 2, 2, rfl, rfl, h1, rfl, ?_⟩
      have e : ∀ o, upd H1 p o = upd H p o := fun o => by
        rcases h2 with rfl | ⟨o', rfl⟩
        · rfl
        · exact upd_upd
      rw [e]
      exact k _ t' _ (Int.emod_nonneg _ (by omega)) (Int.emod_lt_of_pos _ hm0) h3 h4
structure NxAt (K : PySem.W.Frag) (H0 H : Hp) (p : Addr) (t : Nat) : Prop where
  ex : ∃ (a : Addr) (ns : List Int) (u x : Int), H p = some (.lst [.ref a, .int u, .int x]) ∧ (∀ H', Sm p p H0 H' → SqL K H' a (ns.map V.int)) ∧ 0 ≤ u ∧ u ≤ (t : Int)
  sm : Sm p p H0 H
section
variable {H0 H H' : Hp} {p D : Addr} {t u : Nat} {o : HO}
theorem NxAt.mono (h : NxAt K H0 H p t) (l : t ≤ u) : NxAt K H0 H p u := by
  obtain ⟨a, ns, y, x, h1, h2, h3, h4⟩ := h.ex
  exact ⟨⟨a, ns, y, x, h1, h2, h3, by omega⟩, h.sm⟩
theorem NxAt.same (h : NxAt K H0 H p t) (s : Same H H') : NxAt K H0 H' p t := by
  obtain ⟨a, ns, y, x, h1, h2⟩ := h.ex
  exact ⟨⟨a, ns, y, x, s _ _ h1, h2⟩, h.sm.trans s.sm⟩
theorem NxAt.ne (h : NxAt K H0 H p t) (hD : H D = none) : D ≠ p := fun e => by
  obtain ⟨_, _, _, _, z, _⟩ := h.ex
  rw [← e, hD] at z; cases z
theorem NxAt.free (h : NxAt K H0 H p t) (hD : H D = none) : H0 D = none := h.sm.free hD (h.ne hD) (h.ne hD)
theorem NxAt.put (h : NxAt K H0 H p t) (h1 : D ≠ p) (h2 : H0 D = none) : NxAt K H0 (upd H D o) p t := by
  obtain ⟨a, ns, y, x, e1, e2⟩ := h.ex
  exact ⟨⟨a, ns, y, x, by rw [upd_ne h1.symm]; exact e1, e2⟩, h.sm.upd h2⟩
theorem NxAt.ts (h : NxAt K H0 H p t) (s : Sm p p H H') : Tk H H' := fun b xs e => by
  obtain ⟨_, _, _, _, z, _⟩ := h.ex
  have n : b ≠ p := fun q => by rw [q, z] at e; cases e
  exact s _ _ e n n
end
def spNx (K : PySem.W.Frag) : Sp := fun vs H Q _ => ∃ (H0 : Hp) (p : Addr) (m : Int) (t : Nat), vs = [.ref p, .int m] ∧ NxAt K H0 H p t ∧ (0 < m ∧ m < 1073741824) ∧ t < 900000 ∧
  ∀ (r : Int) (H' : Hp), 0 ≤ r → r < m → NxAt K H0 H' p (t + 1) → Sm p p H H' → Q (.int r) H'
theorem ixN_nat {n j : Nat} (h : j < n) : ixN n (j : Int) = some j := by
  unfold ixN
  rw [if_pos (by omega), if_pos (by omega)]; simp
theorem erase_perm {α : Type} : ∀ {ls : List α} {i : Nat} (h : i < ls.length), (ls[i] :: ls.eraseIdx i).Perm ls
  | x :: r, 0, _ => List.Perm.refl _
  | x :: r, i + 1, h => by
    have ih := erase_perm (ls := r) (i := i) (by simpa using h)
    exact (List.Perm.swap _ _ _).trans (ih.cons x)
theorem ok_law_nextS (T : Txt K mg w) : FnK P w K mg base 2 "_law_next" ["_law_pen", "_law_many"] (spNx K) := (ok_law_next T).imp fun vs H Q E h => by
  obtain ⟨H0, p, m, t, rfl, hn, hm, ht, k⟩ := h
  obtain ⟨a, ns, u, x, h1, h2, h3, h4⟩ := hn.ex
  have sU : ∀ o, Sm p p H (upd H p o) := fun o b u hb n _ => by rw [upd_ne n]; exact hb
  refine ⟨p, a, ns, m, u, x, rfl, h1, fun o => h2 _ (hn.sm.trans (sU o)), h2 _ hn.sm, ⟨h3, by omega⟩, hm, fun r t' x' r0 r1 t0 t1 => ?_⟩
  exact k r _ r0 r1 ⟨⟨a, ns, t', x', upd_same, h2, t0, by push_cast; omega⟩, hn.sm.trans (sU _)⟩ (sU _)
def spTurn (K : PySem.W.Frag) : Sp := fun vs H Q _ => ∃ (H0 : Hp) (p a : Addr) (xs : List V) (t : Nat), vs = [.ref p, .ref a] ∧ NxAt K H0 H p t ∧ t + 100 < 900000 ∧ (SqL K H a xs ∨ SqT K H a xs) ∧ xs.length ≤ 100 ∧
  ∀ (L : Addr) (ys : List V) (H' : Hp), H L = none → H' L = some (.lst ys) → ys.Perm xs → NxAt K H0 H' p (t + 100) → Sm p p H H' → Q (.ref L) H'
theorem ok_law_turned (T : Txt K mg w) : FnK P w K mg base 3 "_law_turned" ["_law_pen", "_law_some"] (spTurn K) := by
  have F_law_next : FnK P w K mg base 2 "_law_next" ["_law_pen", "_law_many"] (spNx K) := ok_law_nextS T
  refine T.t_law_turned.okS sc_law_turned (fun vs H Q E h => ?_) (fun f cdv A outer s H vs Q E hr h => ?_)
  · obtain ⟨H0, p, a, xs, t, rfl, _⟩ := h
    rfl
  · obtain ⟨H0, p, a, xs, t, rfl, hn, ht, ha, hx, k⟩ := h
    have hu := hu_of hr
    have hu0 := Nat.lt_of_succ_lt (hu_of hr)
    have hsz : sizeLine = 16777216 := sizeLine_eq
    refine ⟨_, (sb_cons (s_set (i := 2) sc_law_turned.nd rfl (Or.inl rfl) (z_callTy (call_lstK K) (by rfl) T.n_list PyProof.Rows.boot_list (sa_Name (zv 1) sa_nil)))
      (sb_cons (s_set (i := 3) sc_law_turned.nd rfl (Or.inl rfl) (z_lst sa_nil))
      (sb_cons (s_while PassesOwn.never (y_cmpR (op_neD hu0) (zv 2) (z_lst sa_nil) (nomark _)) (sb_one (s_expr (z_bm K PySem.F.plainAttrs_list PySem.F.slot_list_append PySem.F.type_list_append mt_append (zv 3) (sa_Call (z_bm K PySem.F.plainAttrs_list PySem.F.slot_list_pop PySem.F.type_list_pop mt_popAt (zv 2) (sa_Call (z_fn F_law_next (hr.mono (by decide)) (sa_Name (zv 0) (sa_Call (z_callB (call_lenK K) (by rfl) T.n_len PySem.boot_len (sa_Name (zv 2) sa_nil)) sa_nil))) sa_nil)) sa_nil)))))
      (sb_one (s_ret (zv 3)))))), ?_⟩
    refine tSeq_set ⟨a, xs, rfl, ha, fun l0 hl0 => ?_⟩
    refine tSeq_set ⟨(show 0 ≤ sizeLine by decide), fun l1 hl1 => ?_⟩
    have s1 := Same.upd hl0 (.lst xs)
    have s2 := Same.upd hl1 (.lst [])
    have e0 : l0 ≠ p := hn.ne hl0
    have e1 : l1 ≠ p := (hn.same s1).ne hl1
    have n01 : l0 ≠ l1 := ne_of_none upd_same hl1
    have f0 := hn.free hl0
    have f1 := (hn.same s1).free hl1
    have g0 : upd (upd H l0 (.lst xs)) l1 (.lst []) l0 = some (.lst xs) := s2 _ _ upd_same
    have g1 : upd (upd H l0 (.lst xs)) l1 (.lst []) l1 = some (.lst []) := upd_same
    have hn2 := (hn.same s1).same s2
    have sm2 : Sm p p H (upd (upd H l0 (.lst xs)) l1 (.lst [])) := (s1.trans s2).sm
    dsimp only
    generalize upd (upd H l0 (.lst xs)) l1 (.lst []) = H2 at g0 g1 hn2 sm2
    have fl0 : H l0 = none := hl0
    have fl1 : H l1 = none := s1.free hl1
    refine tSeq_by (fun σ' H' => ∃ ys, σ' = [some (.ref p), some (.ref a), some (.ref l0), some (.ref l1)] ∧ H' l1 = some (.lst ys) ∧ ys.Perm xs ∧ NxAt K H0 H' p (t + 100) ∧ Sm p p H H') ?_ ?_
    · intro nx hnx
      refine ⟨fun m σ' H' => ∃ (ls ys : List V), σ' = [some (.ref p), some (.ref a), some (.ref l0), some (.ref l1)] ∧ H' l0 = some (.lst ls) ∧ H' l1 = some (.lst ys) ∧ ls.length = m ∧ (ys ++ ls).Perm xs ∧ NxAt K H0 H' p (t + ys.length) ∧ Sm p p H H', ⟨xs.length, xs, [], rfl, g0, g1, rfl, by simp, hn2, sm2⟩, ?_⟩
      rintro m σ' H3 ⟨ls, ys, rfl, q0, q1, q2, q3, q4, q5⟩
      have hyl : ys.length + ls.length = xs.length := by have := q3.length_eq; rw [List.length_append] at this; exact this
      refine ⟨(show 0 ≤ sizeLine by decide), fun b hb => ⟨ne_of_none q0 hb, ls, (Same.upd hb _) _ _ q0, upd_same, _, rfl, iteB (fun c => ?_) (fun c => ?_)⟩⟩
      · have s3 := Same.upd hb (.lst [])
        have q4' := q4.same s3
        have q0' := s3 _ _ q0
        have q1' := s3 _ _ q1
        have q5' := q5.trans s3.sm
        generalize upd H3 b (.lst []) = H4 at q4' q0' q1' q5'
        have hpos : 0 < ls.length := by
          cases ls with
          | nil => exact absurd c (by decide)
          | cons x r => simp
        refine ⟨fun σ' H'' => ∃ m', m' < m ∧ ∃ (ls ys : List V), σ' = [some (.ref p), some (.ref a), some (.ref l0), some (.ref l1)] ∧ H'' l0 = some (.lst ls) ∧ H'' l1 = some (.lst ys) ∧ ls.length = m' ∧ (ys ++ ls).Perm xs ∧ NxAt K H0 H'' p (t + ys.length) ∧ Sm p p H H'', fun σ' H'' h => h, ?_⟩
        refine ⟨.inl ⟨rfl, ys, SqL.of q1'⟩, .inl ⟨rfl, ls, SqL.of q0'⟩, .inl ⟨ls, .inl (SqL.of q0'), H0, p, _, _, rfl, q4', ⟨by omega, by omega⟩, by omega, fun r H5 r0 r1 hn5 sm5 => ?_⟩⟩
        obtain ⟨i, rfl⟩ : ∃ i : Nat, r = (i : Int) := ⟨r.toNat, by omega⟩
        have hi : i < ls.length := by omega
        have p0 := sm5 _ _ q0' e0 e0
        have p1 := sm5 _ _ q1' e1 e1
        refine ⟨l0, ls, (i : Int), i, ls[i], rfl, rfl, p0, by omega, by omega, (ixN_seq (ixN_nat hi)).1, List.getElem?_eq_getElem hi, l1, ys, ls[i], rfl, rfl, by rw [upd_ne n01.symm]; exact p1, by omega, ls.length - 1, by omega, ls.eraseIdx i, ys ++ [ls[i]], rfl, by rw [upd_ne n01]; exact upd_same, upd_same, ?_, ?_, ?_, (q5'.trans sm5).upd fl0 |>.upd fl1⟩
        · rw [List.length_eraseIdx, if_pos hi]
        · rw [List.append_assoc]
          exact ((erase_perm hi).append_left ys).trans q3
        · rw [List.length_append]
          exact (hn5.put e0 f0).put e1 f1
      · have hnil : ls = [] := by
          cases ls with
          | nil => rfl
          | cons x r => exact absurd c (by simp)
        subst hnil
        rw [List.append_nil] at q3
        have s3 := Same.upd hb (.lst [])
        exact hnx _ _ ⟨ys, rfl, s3 _ _ q1, q3, (q4.same s3).mono (by have := q3.length_eq; omega), q5.trans s3.sm⟩
    · rintro σ' H' ⟨ys, rfl, q1, q2, q3, q4⟩
      exact k l1 ys H' fl1 q1 q2 q3 q4
def baseA : List Str := ["a", "ab", "b", "ba"]
def baseB : List Str := ["case", "from", "part", "to"]
def WW : List Str := baseA ++ baseB
theorem ww_ok : ∀ z ∈ WW, isName z = true ∧ Wd z := fun z hz => by
  simp only [WW, baseA, baseB, List.cons_append, List.nil_append, List.mem_cons, List.mem_nil_iff, or_false] at hz
  rcases hz with rfl | rfl | rfl | rfl | rfl | rfl | rfl | rfl <;> exact ⟨by decide +kernel, wd_ascii (by decide) (by decide)⟩
structure WN (os : List Str) : Prop where
  ris : rising os = true
  len : os.length ≤ 4
  ww : ∀ z ∈ os, z ∈ WW
theorem pwA : baseA.Pairwise fun a b => strLt a b = true := by decide +kernel
theorem pwB : baseB.Pairwise fun a b => strLt a b = true := by decide +kernel
theorem WN.of {b os : List Str} (hb : b = baseA ∨ b = baseB) (s : os.Sublist b) : WN os := by
  rcases hb with rfl | rfl
  · exact ⟨rising_of_pw (pwA.sublist s), s.length_le, fun z hz => List.mem_append.mpr (.inl (s.subset hz))⟩
  · exact ⟨rising_of_pw (pwB.sublist s), s.length_le, fun z hz => List.mem_append.mpr (.inr (s.subset hz))⟩
def spWords (K : PySem.W.Frag) : Sp := fun vs H Q _ => ∃ (H0 : Hp) (p : Addr) (t : Nat), vs = [.ref p] ∧ NxAt K H0 H p t ∧ t + 5 < 900000 ∧
  ∀ (L : Addr) (os : List Str) (H' : Hp), H L = none → H' L = some (.lst (os.map V.str)) → WN os → NxAt K H0 H' p (t + 5) → Sm p p H H' → Q (.ref L) H'
theorem ok_law_words (T : Txt K mg w) : FnK P w K mg base 3 "_law_words" ["_law_pen"] (spWords K) := by
  have F_law_next : FnK P w K mg base 2 "_law_next" ["_law_pen", "_law_many"] (spNx K) := ok_law_nextS T
  refine T.t_law_words.okS sc_law_words (fun vs H Q E h => ?_) (fun f cdv A outer s H vs Q E hr h => ?_)
  · obtain ⟨H0, p, t, rfl, _⟩ := h
    rfl
  · obtain ⟨H0, p, t, rfl, hn, ht, k⟩ := h
    have hu := hu_of hr
    have hu0 := Nat.lt_of_succ_lt (hu_of hr)
    have hsz : sizeLine = 16777216 := sizeLine_eq
    refine ⟨_, (sb_one (s_ret (z_lc (own := ["_law_word"]) (idx := [0]) (N' := ["_law_word", "_law_pen"]) (⟨rfl, by decide +kernel, by decide +kernel, (show ∀ y ∈ Scope.names _, y.2 = NameKind.free → ((defScope s_law_words).names.lookup y.1 = some NameKind.cell ∨ (defScope s_law_words).names.lookup y.1 = some NameKind.free) by decide +kernel), (show ∀ j ∈ ([0] : List Nat), (Scope.names _).lookup ((["_law_pen"] : List Str).getD j "") = some NameKind.free ∧ j < (["_law_pen"] : List Str).length by decide +kernel), rfl⟩) rfl (i_K K (z_lst (sa_Constant z_str (sa_Constant z_str (sa_Constant z_str (sa_Constant z_str sa_nil)))))) (fun _ _ _ _ _ _ => (g_name (i := 0) (show List.Nodup (["_law_word", "_law_pen"] : List Str) by decide +kernel) rfl (Or.inl rfl))) (fun _ _ _ _ _ _ => (c_one (y_cmpR (op_eqD hu0) (z_fn F_law_next (hr.mono (by decide)) (sa_Name (zv 1) (sa_Constant z_int sa_nil))) z_int (nomark _)))) (fun _ _ _ _ _ _ => (zv 0))))), ?_⟩
    refine ⟨(show 4 ≤ sizeLine by decide), fun S hl1 => ?_⟩
    have s1 := Same.upd hl1 (.lst [V.str "a", V.str "ab", V.str "b", V.str "ba"])
    have gS0 : upd H S (.lst [V.str "a", V.str "ab", V.str "b", V.str "ba"]) S = some (.lst (baseA.map V.str)) := upd_same
    have hn4 := (hn.same s1).mono (u := t + 1) (by omega)
    have eS : S ≠ p := hn.ne hl1
    generalize upd H S (.lst [V.str "a", V.str "ab", V.str "b", V.str "ba"]) = H4 at s1 gS0 hn4 ⊢
    obtain ⟨bs, hb, gS⟩ : ∃ bs : List Str, (bs = baseA ∨ bs = baseB) ∧ H4 S = some (.lst (bs.map V.str)) := ⟨baseA, .inl rfl, gS0⟩
    have hbl : bs.length = 4 := by rcases hb with rfl | rfl <;> rfl
    have smA : Sm p p H H4 := s1.sm
    refine Or.inl ⟨⟨_, SqL.of gS⟩, fun D hD => ?_⟩
    have nDp : D ≠ p := hn4.ne hD
    have nDS : D ≠ S := fun e => by rw [e, gS] at hD; cases hD
    have fD : H0 D = none := hn4.free hD
    have hD0 : H D = none := smA.free hD nDp nDp
    refine lc_by (itn_list (bs.map V.str)) (fun i τ H2 => ∃ (v : Option V) (os : List Str), τ = [v, some (.ref p)] ∧ H2 D = some (.lst (os.map V.str)) ∧ os.Sublist (bs.take i) ∧ H2 S = some (.lst (bs.map V.str)) ∧ NxAt K H0 H2 p (t + 1 + i) ∧ Sm p p H H2)
      ⟨none, [], rfl, upd_same, List.Sublist.refl _, by rw [upd_ne nDS.symm]; exact gS, hn4.same (Same.upd hD _), smA.upd hD0⟩ (by rintro i τ H2 _ ⟨_, _, _, _, _, q, _⟩; exact SqL.of q) ?_ ?_
    · rintro i τ H5 hi ⟨v, os, rfl, q1, q2, q4, q5, q6⟩
      rw [List.length_map] at hi
      rw [mapStr_getD bs i hi]
      have hti : bs.take (i + 1) = bs.take i ++ [bs.getD i ""] := by
        rw [List.take_add_one, List.getD_eq_getElem?_getD, List.getElem?_eq_getElem hi]; rfl
      generalize bs.getD i "" = z at hti
      have hol : os.length ≤ i := by have := q2.length_le; simp at this; omega
      refine ⟨H0, p, 2, t + 1 + i, rfl, q5, ⟨by decide, by decide⟩, by omega, fun r H6 r0 r1 hp3 sm3 => ?_⟩
      refine ⟨rfl, _, rfl, ?_⟩
      have g4 := sm3 _ _ q4 eS eS
      have g1 := sm3 _ _ q1 nDp nDp
      refine iteB (fun _ => ?_) (fun _ => ?_)
      · exact ⟨_, g1, by rw [List.length_map]; exact small1000 (by omega), _, os ++ [z], rfl, by rw [upd_same, List.map_append]; rfl, by rw [hti]; exact q2.append (List.Sublist.refl _), by rw [upd_ne nDS.symm]; exact g4, hp3.put nDp fD, (q6.trans sm3).upd hD0⟩
      · exact ⟨_, os, rfl, g1, by rw [hti]; exact q2.trans (List.sublist_append_left _ _), g4, hp3, q6.trans sm3⟩
    · rintro τ H5 ⟨v, os, rfl, q1, q2, q4, q5, q6⟩
      rw [List.length_map] at q2 q5
      rw [List.take_length] at q2
      exact k D os H5 hD0 q1 (WN.of hb q2) (q5.mono (by omega)) q6
structure TxtsAt (H : Hp) (l : Addr) (ss : List Str) : Prop where
  e : H l = some (.lst (ss.map V.str))
  ne : ss ≠ []
  few : ss.length ≤ 60
  wd : ∀ z ∈ ss, Wd z
theorem nx_neL {H0 H : Hp} {p l : Addr} {t : Nat} {ss : List Str} (h : TxtsAt H l ss) (hp : NxAt K H0 H p t) : l ≠ p := fun q => by
  obtain ⟨_, _, _, _, z, _⟩ := hp.ex
  have e := h.e
  have ne := h.ne
  rw [q, z] at e
  cases ss with
  | nil => exact ne rfl
  | cons a r => cases e
theorem TxtsAt.nx {H0 H H' : Hp} {p l : Addr} {t : Nat} {ss : List Str} (h : TxtsAt H l ss) (hp : NxAt K H0 H p t) (s : Sm p p H H') : TxtsAt H' l ss := ⟨s _ _ h.e (nx_neL h hp) (nx_neL h hp), h.ne, h.few, h.wd⟩
theorem TxtsAt.same {H H' : Hp} {l : Addr} {ss : List Str} (h : TxtsAt H l ss) (s : Same H H') : TxtsAt H' l ss := ⟨s _ _ h.e, h.ne, h.few, h.wd⟩
theorem TxtsAt.at {H : Hp} {l : Addr} {ss : List Str} (h : TxtsAt H l ss) (r : Int) (h0 : 0 ≤ r) (h1 : r < ss.length) : ∃ z, atI (ss.map V.str) r = some (.str z) ∧ ss[r.toNat]? = some z ∧ Wd z := by
  obtain ⟨c, hc1, hc2⟩ := atI_some (ss.map V.str) r h0 (by rw [List.length_map]; exact h1)
  rw [List.getElem?_map] at hc1
  cases e : ss[r.toNat]? with
  | none => rw [e] at hc1; cases hc1
  | some z =>
    rw [e] at hc1
    cases hc1
    exact ⟨z, hc2, rfl, h.wd z (List.mem_of_getElem? e)⟩
theorem TxtsAt.pos {H : Hp} {l : Addr} {ss : List Str} (h : TxtsAt H l ss) : 0 < ss.length := List.length_pos_iff.mpr h.ne
def AhK (ns : List Str) (k : Nat) (o : Option Str) : Prop := ∀ y, o = some y → ∃ i, i < k ∧ ns[i]? = some y
def spHead5 (K : PySem.W.Frag) : Sp := fun vs H Q _ => ∃ (H0 : Hp) (p nm : Addr) (k t : Nat) (ns : List Str), vs = [.ref p, .ref nm, .int (k : Int)] ∧ NxAt K H0 H p t ∧ t + 20 < 900000 ∧ TxtsAt H nm ns ∧ (∀ z ∈ ns, isName z = true) ∧ k ≤ ns.length ∧
  ∀ (v : V) (H' : Hp), HG4 H' ns WW v (AhK ns k) → NxAt K H0 H' p (t + 20) → Sm p p H H' → Q v H'
theorem ok_law_head (T : Txt K mg w) : FnK P w K mg base 4 "_law_head" ["_law_pen", "_law_names", "_law_ahead"] (spHead5 K) := by
  have F_law_next : FnK P w K mg base 2 "_law_next" ["_law_pen", "_law_many"] (spNx K) := ok_law_nextS T
  have F_law_words : FnK P w K mg base 3 "_law_words" ["_law_pen"] (spWords K) := ok_law_words T
  refine T.t_law_head.okS sc_law_head (fun vs H Q E h => ?_) (fun f cdv A outer s H vs Q E hr h => ?_)
  · obtain ⟨H0, p, nm, k, t, ns, rfl, _⟩ := h
    rfl
  · obtain ⟨H0, p, nm, ka, t, ns, rfl, hn, ht, tn, hnn, hk, k⟩ := h
    have hu := hu_of hr
    have hu0 := Nat.lt_of_succ_lt (hu_of hr)
    have hsz : sizeLine = 16777216 := sizeLine_eq
    have npos := tn.pos
    have nfew := tn.few
    refine ⟨_, (sb_cons (s_set (i := 3) sc_law_head.nd rfl (Or.inl rfl) (z_fn F_law_next (hr.mono (by decide)) (sa_Name (zv 0) (sa_Constant z_int sa_nil))))
      (sb_cons (s_if (y_cmpR op_ltD (zv 3) z_int (nomark _)) (sb_one (s_ret (z_ix (ix_K K) (z_lst (sa_Tuple (z_tup (sa_Constant z_str sa_nil)) (sa_Tuple (z_tup (sa_Constant z_str sa_nil)) sa_nil))) (zv 3) (fun _ _ => rfl)))) sb_nil)
      (sb_cons (s_if (w_and (y_cmpR (op_eqD hu0) (zv 3) z_int (nomark _)) (w_and1 (y_cmpR op_gtD (zv 2) z_int (nomark _)))).pt (sb_one (s_ret (z_tup (sa_Constant z_str (sa_Subscript (z_ix (ix_K K) (zv 1) (z_fn F_law_next (hr.mono (by decide)) (sa_Name (zv 0) (sa_Name (zv 2) sa_nil))) (fun _ _ => rfl)) sa_nil))))) sb_nil)
      (sb_cons (s_if (y_cmpR op_ltD (zv 3) z_int (nomark _)) (sb_cons (s_set (i := 4) sc_law_head.nd rfl (Or.inl rfl) (z_ix (ix_K K) (zv 1) (z_fn F_law_next (hr.mono (by decide)) (sa_Name (zv 0) (sa_Call (z_callB (call_lenK K) (by rfl) T.n_len PySem.boot_len (sa_Name (zv 1) sa_nil)) sa_nil))) (fun _ _ => rfl)))
      (sb_one (s_ret (z_tup (sa_Constant z_str (sa_Name (zv 4) (sa_Subscript (z_ix (ix_K K) (zv 1) (z_fn F_law_next (hr.mono (by decide)) (sa_Name (zv 0) (sa_Call (z_callB (call_lenK K) (by rfl) T.n_len PySem.boot_len (sa_Name (zv 1) sa_nil)) sa_nil))) (fun _ _ => rfl)) sa_nil))))))) sb_nil)
      (sb_one (s_ret (z_tup (sa_Subscript (z_ix (ix_K K) (z_lst (sa_Constant z_str (sa_Constant z_str sa_nil))) (z_op op_modD (zv 3) z_int) (fun _ _ => rfl)) (sa_Call (z_callTy (call_tupK K) (by rfl) T.n_tuple PyProof.Rows.boot_tuple (sa_ListComp (z_lc (own := ["_law_word"]) (idx := [0, 1]) (N' := ["_law_word", "_law_pen", "_law_names"]) (⟨rfl, by decide +kernel, by decide +kernel, (show ∀ y ∈ Scope.names _, y.2 = NameKind.free → ((defScope s_law_head).names.lookup y.1 = some NameKind.cell ∨ (defScope s_law_head).names.lookup y.1 = some NameKind.free) by decide +kernel), (show ∀ j ∈ ([0, 1] : List Nat), (Scope.names _).lookup ((["_law_pen", "_law_names", "_law_ahead", "_law_way", "_law_one"] : List Str).getD j "") = some NameKind.free ∧ j < (["_law_pen", "_law_names", "_law_ahead", "_law_way", "_law_one"] : List Str).length by decide +kernel), rfl⟩) rfl (i_K K (z_fn F_law_words (hr.mono (by decide)) (sa_Name (zv 0) sa_nil))) (fun _ _ _ _ _ _ => (g_name (i := 0) (show List.Nodup (["_law_word", "_law_pen", "_law_names"] : List Str) by decide +kernel) rfl (Or.inl rfl))) (fun _ _ _ _ _ _ => c_nil) (fun _ _ _ _ _ _ => (z_tup (sa_Name (zv 0) (sa_Subscript (z_ix (ix_K K) (zv 2) (z_fn F_law_next (hr.mono (by decide)) (sa_Name (zv 1) (sa_Call (z_callB (call_lenK K) (by rfl) T.n_len PySem.boot_len (sa_Name (zv 2) sa_nil)) sa_nil))) (fun _ _ => rfl)) sa_nil))))) sa_nil)) sa_nil))))))))), ?_⟩
    refine tSeq_set ⟨H0, p, 10, t, rfl, hn, ⟨by decide, by decide⟩, by omega, fun wy H1 w0 w1 hn1 sm1 => ?_⟩
    have tn1 := tn.nx hn sm1
    refine tSeq_by (fun σ' H' => σ' = [some (.ref p), some (.ref nm), some (.int (ka : Int)), some (.int wy), none] ∧ H1 = H') ?_ ?_
    · intro nx hnx
      refine ⟨_, rfl, iteB (fun c1 => ?_) (fun c1 => hnx _ _ ⟨rfl, rfl⟩)⟩
      have c1' : wy < 2 := of_decide_eq_true c1
      refine ⟨(show 1 ≤ sizeLine by decide), fun q1 hq1 => ⟨(show 1 ≤ sizeLine by decide), fun q2 hq2 => ⟨(show 2 ≤ sizeLine by decide), fun O hO => ?_⟩⟩⟩
      have s1 := Same.upd hq1 (.tup [.str "all"])
      have s2 := Same.upd hq2 (.tup [.str "none"])
      have s3 := Same.upd hO (.lst [.ref q1, .ref q2])
      have sA := (s1.trans s2).trans s3
      have g1 := s3 _ _ (s2 _ _ (upd_same : upd H1 q1 (.tup [.str "all"]) q1 = some (.tup [.str "all"])))
      have g2 := s3 _ _ (upd_same : upd (upd H1 q1 (.tup [.str "all"])) q2 (.tup [.str "none"]) q2 = some (.tup [.str "none"]))
      rcases (show wy = 0 ∨ wy = 1 by omega) with rfl | rfl
      · exact ⟨_, .ref q1, .inl (SqL.of upd_same), rfl, k _ _ (hg4_all g1 (fun _ h => nomatch h)) ((hn1.same sA).mono (by omega)) (sm1.trans sA.sm)⟩
      · exact ⟨_, .ref q2, .inl (SqL.of upd_same), rfl, k _ _ (hg4_none g2 (fun _ h => nomatch h)) ((hn1.same sA).mono (by omega)) (sm1.trans sA.sm)⟩
    rintro σ' H' ⟨rfl, rfl⟩
    refine tSeq_by (fun σ' H' => σ' = [some (.ref p), some (.ref nm), some (.int (ka : Int)), some (.int wy), none] ∧ H1 = H') ?_ ?_
    · intro nx hnx
      refine ⟨rfl, _, rfl, iteB (fun h2 => ⟨_, rfl, iteB (fun h3 => ?_) (fun _ => hnx _ _ ⟨rfl, rfl⟩)⟩) (fun h2 => iteB (fun c => absurd c (by decide)) fun _ => hnx _ _ ⟨rfl, rfl⟩)⟩
      have h3' : (0 : Int) < (ka : Int) := of_decide_eq_true h3
      refine ⟨H0, p, (ka : Int), _, rfl, hn1, ⟨by omega, by omega⟩, by omega, fun r H2 r0 r1 hn2 sm2 => ?_⟩
      have tn2 := tn1.nx hn1 sm2
      obtain ⟨y, hya, hyi, hyw⟩ := tn2.at r r0 (by omega)
      refine ⟨_, _, .inl (SqL.of tn2.e), hya, (show 2 ≤ sizeLine by decide), fun c hc => ?_⟩
      refine k _ _ (hg4_as upd_same (hnn _ (List.mem_of_getElem? hyi)) (List.mem_of_getElem? hyi) (fun y' e => ?_)) ((hn2.same (Same.upd hc _)).mono (by omega)) ((sm1.trans sm2).trans (Same.upd hc _).sm)
      cases e
      exact ⟨r.toNat, by omega, hyi⟩
    rintro σ' H' ⟨rfl, rfl⟩
    refine tSeq_by (fun σ' H' => σ' = [some (.ref p), some (.ref nm), some (.int (ka : Int)), some (.int wy), none] ∧ H1 = H') ?_ ?_
    · intro nx hnx
      refine ⟨_, rfl, iteB (fun c1 => ?_) (fun c1 => hnx _ _ ⟨rfl, rfl⟩)⟩
      refine tSeq_set (.inl ⟨_, .inl (SqL.of tn1.e), H0, p, _, _, rfl, hn1, ⟨by rw [List.length_map]; omega, by rw [List.length_map]; omega⟩, by omega, fun r H2 r0 r1 hn2 sm2 => ?_⟩)
      rw [List.length_map] at r1
      have tn2 := tn1.nx hn1 sm2
      obtain ⟨x, hxa, hxi, hxw⟩ := tn2.at r r0 r1
      refine ⟨_, _, .inl (SqL.of tn2.e), hxa, .inl ⟨_, .inl (SqL.of tn2.e), H0, p, _, _, rfl, hn2, ⟨by rw [List.length_map]; omega, by rw [List.length_map]; omega⟩, by omega, fun r2 H3 b0 b1 hn3 sm3 => ?_⟩⟩
      rw [List.length_map] at b1
      have tn3 := tn2.nx hn2 sm3
      obtain ⟨y, hya, hyi, hyw⟩ := tn3.at r2 b0 b1
      refine ⟨_, _, .inl (SqL.of tn3.e), hya, (show 3 ≤ sizeLine by decide), fun b hb => ?_⟩
      exact k _ _ (hg4_way upd_same (hnn _ (List.mem_of_getElem? hxi)) (hnn _ (List.mem_of_getElem? hyi)) (List.mem_of_getElem? hxi) (List.mem_of_getElem? hyi) (fun _ h => nomatch h)) ((hn3.same (Same.upd hb _)).mono (by omega)) (((sm1.trans sm2).trans sm3).trans (Same.upd hb _).sm)
    rintro σ' H' ⟨rfl, rfl⟩
    refine ⟨(show 2 ≤ sizeLine by decide), fun O hO => ?_⟩
    have sO := Same.upd hO (.lst [.str "box", .str "pick"])
    have gO : upd H1 O (.lst [.str "box", .str "pick"]) O = some (.lst [.str "box", .str "pick"]) := upd_same
    have hnO := hn1.same sO
    have tnO := tn1.same sO
    have smO := sm1.trans sO.sm
    dsimp only
    generalize upd H1 O (.lst [.str "box", .str "pick"]) = H2 at sO gO hnO tnO smO
    obtain ⟨so, hat, hso⟩ : ∃ so : Str, atI [V.str "box", V.str "pick"] (wy % 2) = some (.str so) ∧ (so = "box" ∨ so = "pick") := by
      rcases (show wy % 2 = 0 ∨ wy % 2 = 1 by omega) with e | e
      · rw [e]; exact ⟨"box", rfl, .inl rfl⟩
      · rw [e]; exact ⟨"pick", rfl, .inr rfl⟩
    refine ⟨(show (0 : Int) < 2 by decide), _, _, .inl (SqL.of gO), hat, H0, p, _, rfl, hnO, by omega, fun D os H3 hD0 q1 wn q5 sm3 => ?_⟩
    have q6 : Sm p p H H3 := smO.trans sm3
    have tn3 := tnO.nx hnO sm3
    have hol := wn.len
    have nDp : D ≠ p := hnO.ne hD0
    refine Or.inl ⟨⟨_, SqL.of q1⟩, fun D2 hD2 => ?_⟩
    have n2p : D2 ≠ p := q5.ne hD2
    have n2D : D2 ≠ D := fun e => by rw [e, q1] at hD2; cases hD2
    have hD20 : H D2 = none := q6.free hD2 n2p n2p
    have f2 : H0 D2 = none := q5.free hD2
    have n2n : D2 ≠ nm := fun e => by rw [e, tn3.e] at hD2; cases hD2
    refine lc_by (itn_list (os.map V.str)) (fun i τ H3 => ∃ (v : Option V) (xs : List V) (rs : List (Str × V)), τ = [v, some (.ref p), some (.ref nm)] ∧ H3 D2 = some (.lst xs) ∧ PairsAt H3 xs (rowsK rs) ∧ rs.map (·.1) = os.take i ∧ (∀ r ∈ rs, ∃ y, r.2 = .str y ∧ y ∈ ns ∧ Wd y) ∧ H3 D = some (.lst (os.map V.str)) ∧ NxAt K H0 H3 p (t + 1 + 5 + i) ∧ Sm p p H H3 ∧ TxtsAt H3 nm ns)
      ⟨none, [], [], rfl, upd_same, pairs_nil, rfl, (fun _ h => nomatch h), by rw [upd_ne n2D.symm]; exact q1, (q5.same (Same.upd hD2 _)).mono (by omega), q6.upd hD20, tn3.same (Same.upd hD2 _)⟩ (by rintro i τ H2 _ ⟨_, _, _, _, _, _, _, _, q, _⟩; exact SqL.of q) ?_ ?_
    · rintro i τ H4 hi ⟨v, xs, rs, rfl, r1, r2, r2n, r3, r4, r5, r6, tn4⟩
      rw [List.length_map] at hi
      rw [mapStr_getD os i hi]
      have hti : os.take (i + 1) = os.take i ++ [os.getD i ""] := by
        rw [List.take_add_one, List.getD_eq_getElem?_getD, List.getElem?_eq_getElem hi]; rfl
      generalize os.getD i "" = z at hti
      have hrl : rs.length = i := by have := congrArg List.length r2n; simp at this; omega
      have hxl : xs.length = i := by have := r2.1; simp at this; omega
      refine .inl ⟨_, .inl (SqL.of tn4.e), H0, p, _, t + 1 + 5 + i, rfl, r5, ⟨by rw [List.length_map]; omega, by rw [List.length_map]; omega⟩, by omega, fun r H5 a0 a1 hp4 sm4 => ?_⟩
      rw [List.length_map] at a1
      have tn5 := tn4.nx r5 sm4
      obtain ⟨n, hna, hni, hnw⟩ := tn5.at r a0 a1
      refine ⟨_, _, .inl (SqL.of tn5.e), hna, (show 2 ≤ sizeLine by decide), fun b hb => ?_⟩
      have g1 := sm4 _ _ r1 n2p n2p
      have g4 := sm4 _ _ r4 nDp nDp
      have nbD : D2 ≠ b := ne_of_none g1 hb
      have nbD' : D ≠ b := ne_of_none g4 hb
      have tk4 : Tk H4 H5 := r5.ts sm4
      have tk5 : Tk H4 (upd (upd H5 b (.tup [.str z, .str n])) D2 (.lst (xs ++ [.ref b]))) := (tk4.trans (Same.upd hb _).ts).set (by rw [upd_ne nbD]; exact g1) (by intro _ z; cases z)
      have hb5 : upd (upd H5 b (.tup [.str z, .str n])) D2 (.lst (xs ++ [.ref b])) b = some (.tup [.str z, .str n]) := by rw [upd_ne nbD.symm]; exact upd_same
      have tn6 : TxtsAt (upd (upd H5 b (.tup [.str z, .str n])) D2 (.lst (xs ++ [.ref b]))) nm ns := ⟨by rw [upd_ne n2n.symm]; exact (Same.upd hb _) _ _ tn5.e, tn5.ne, tn5.few, tn5.wd⟩
      refine ⟨xs, by rw [upd_ne nbD]; exact g1, by omega, _, xs ++ [.ref b], rs ++ [(z, .str n)], rfl, upd_same, pairs_snoc (r2.ts tk5) hb5, by rw [List.map_append, r2n, hti]; rfl, fun r' hr' => ?_, by rw [upd_ne n2D.symm, upd_ne nbD']; exact g4, ((hp4.same (Same.upd hb _)).put n2p f2), ((r6.trans sm4).trans (Same.upd hb _).sm).upd hD20, tn6⟩
      rcases List.mem_append.mp hr' with hx | hx
      · exact r3 r' hx
      · rw [List.mem_singleton.mp hx]
        exact ⟨n, rfl, List.mem_of_getElem? hni, hnw⟩
    · rintro τ H4 ⟨v, xs, rs, rfl, r1, r2, r2n, r3, r4, r5, r6, tn4⟩
      rw [List.length_map] at r2n r5
      rw [List.take_length] at r2n
      have hrl : rs.length = os.length := by rw [← r2n, List.length_map]
      have hxl : xs.length = os.length := by have := r2.1; simp at this; omega
      refine ⟨D2, xs, rfl, .inl ⟨SqL.of r1, fun c hc => ⟨(show 2 ≤ sizeLine by decide), fun b hb => ?_⟩⟩⟩
      have s5 := Same.upd hc (.tup xs)
      have s6 := Same.upd hb (.tup [.str so, .ref c])
      have gc := s6 _ _ (upd_same : upd H4 c (.tup xs) c = some (.tup xs))
      have hmem : ∀ r' ∈ rs, r'.1 ∈ os := fun r' hr' => by rw [← r2n]; exact List.mem_map.mpr ⟨r', hr', rfl⟩
      have tk := s5.ts.trans s6.ts
      have hprs := prs_of (r2.ts tk) (fun r' hr' => (ww_ok _ (wn.ww _ (hmem r' hr'))).1) (fun r' hr' => by obtain ⟨y, e1, e2, _⟩ := r3 r' hr'; exact ⟨y, e1, e2, hnn y e2⟩) (by rw [r2n]; exact wn.ris)
      exact k _ _ (hg4_worded hso upd_same gc (by omega) hprs (fun q hq => by obtain ⟨q', hq', rfl⟩ := List.mem_map.mp hq; exact wn.ww _ (hmem q' hq')) (fun _ h => nomatch h)) ((r5.same (s5.trans s6)).mono (by omega)) (r6.trans (s5.trans s6).sm)
def N8 : List Str := ["x", "xa", "xb", "y", "ya", "z", "ka", "kb"]
theorem n8_ok : ∀ z ∈ N8, isName z = true ∧ Wd z := fun z hz => by
  simp only [N8, List.mem_cons, List.mem_nil_iff, or_false] at hz
  rcases hz with rfl | rfl | rfl | rfl | rfl | rfl | rfl | rfl <;> exact ⟨by decide +kernel, wd_ascii (by decide) (by decide)⟩
theorem n8_nd : N8.Nodup := by decide +kernel
theorem perm_strs {ys : List V} {l : List Str} (h : ys.Perm (l.map V.str)) : ∃ zs : List Str, zs.Perm l ∧ ys = zs.map V.str := by
  refine ⟨ys.map strV, ?_, ?_⟩
  · have := h.map strV
    rw [List.map_map] at this
    have e : (strV ∘ V.str) = (id : Str → Str) := rfl
    rw [e, List.map_id] at this
    exact this
  · rw [List.map_map]
    have : ∀ y ∈ ys, (V.str ∘ strV) y = y := fun y hy => by
      obtain ⟨z, _, rfl⟩ := List.mem_map.mp (h.mem_iff.mp hy)
      rfl
    rw [List.map_congr_left this, List.map_id']
theorem paired_perm {α β : Type} {R : α → β → Prop} {xs ys : List α} (p : ys.Perm xs) : ∀ {rs : List β}, Paired R xs rs → ∃ rs', rs'.Perm rs ∧ Paired R ys rs' := by
  induction p with
  | nil => intro rs h; cases h; exact ⟨[], .refl _, .nil⟩
  | cons x p ih =>
    intro rs h
    cases h with
    | cons a b =>
      obtain ⟨rs', q1, q2⟩ := ih b
      exact ⟨_ :: rs', q1.cons _, .cons a q2⟩
  | swap x y l =>
    intro rs h
    cases h with
    | cons a h =>
      cases h with
      | cons b h => exact ⟨_ :: _ :: _, .swap _ _ _, .cons b (.cons a h)⟩
  | trans p1 p2 ih1 ih2 =>
    intro rs h
    obtain ⟨r1, a1, b1⟩ := ih2 h
    obtain ⟨r2, a2, b2⟩ := ih1 b1
    exact ⟨r2, a2.trans a1, b2⟩
theorem paired_unmap {α β γ : Type} {R : α → β → Prop} {g : γ → β} : ∀ {xs : List α} {rs : List γ}, Paired R xs (rs.map g) → Paired (fun x r => R x (g r)) xs rs
  | [], [], .nil => .nil
  | _ :: _, _ :: _, .cons a b => .cons a (paired_unmap b)
theorem paired_map {α β γ : Type} {R : α → β → Prop} {g : γ → β} : ∀ {xs : List α} {rs : List γ}, Paired (fun x r => R x (g r)) xs rs → Paired R xs (rs.map g)
  | [], [], .nil => .nil
  | _ :: _, _ :: _, .cons a b => .cons a (paired_map b)
theorem pairs_perm {H : Hp} {xs ys : List V} {rs : List (Str × V)} (h : PairsAt H xs (rowsK rs)) (p : ys.Perm xs) : ∃ rs', rs'.Perm rs ∧ PairsAt H ys (rowsK rs') := by
  obtain ⟨rs', q1, q2⟩ := paired_perm p (paired_unmap (pairs_iff.mp h))
  exact ⟨rs', q1, pairs_iff.mpr (paired_map q2)⟩
def spTelling5 (K : PySem.W.Frag) : Sp := fun vs H Q _ => ∃ (H0 : Hp) (p : Addr) (most : Int) (t : Nat), vs = [.ref p, .int most] ∧ NxAt K H0 H p t ∧ t + 600 < 900000 ∧ (1 ≤ most ∧ most ≤ 8) ∧
  ∀ (a : Addr) (xs : List V) (rows : List Rw2) (ns : List Str) (H' : Hp), RT H' a xs rows ns WW → (ns.length : Int) ≤ most → (∀ n ∈ ns, n ∈ N8) → NxAt K H0 H' p (t + 600) → Sm p p H H' → Q (.ref a) H'
theorem ok_law_telling (T : Txt K mg w) : FnK P w K mg base 5 "_law_telling" ["_law_pen", "_law_most"] (spTelling5 K) := by
  have F_law_next : FnK P w K mg base 2 "_law_next" ["_law_pen", "_law_many"] (spNx K) := ok_law_nextS T
  have F_law_turned : FnK P w K mg base 3 "_law_turned" ["_law_pen", "_law_some"] (spTurn K) := ok_law_turned T
  have F_law_head : FnK P w K mg base 4 "_law_head" ["_law_pen", "_law_names", "_law_ahead"] (spHead5 K) := ok_law_head T
  refine T.t_law_telling.okS sc_law_telling (fun vs H Q E h => ?_) (fun f cdv A outer s H vs Q E hr h => ?_)
  · obtain ⟨H0, p, most, t, rfl, _⟩ := h
    rfl
  · obtain ⟨H0, p, most, t, rfl, hn, ht, ⟨hm1, hm2⟩, k⟩ := h
    have hu := hu_of hr
    have hu0 := Nat.lt_of_succ_lt (hu_of hr)
    have hsz : sizeLine = 16777216 := sizeLine_eq
    refine ⟨_, (sb_cons (s_set (i := 2) sc_law_telling.nd rfl (Or.inl rfl) (z_op op_addD z_int (z_fn F_law_next (hr.mono (by decide)) (sa_Name (zv 0) (sa_Name (zv 1) sa_nil)))))
      (sb_cons (s_set (i := 3) sc_law_telling.nd rfl (Or.inl rfl) (z_slice (sl_K K) (z_fn F_law_turned (hr.mono (by decide)) (sa_Name (zv 0) (sa_List (z_lst (sa_Constant z_str (sa_Constant z_str (sa_Constant z_str (sa_Constant z_str (sa_Constant z_str (sa_Constant z_str (sa_Constant z_str (sa_Constant z_str sa_nil))))))))) sa_nil))) zo_none (zo_some (zv 2))))
      (sb_cons (s_set (i := 4) sc_law_telling.nd rfl (Or.inl rfl) (z_lst sa_nil))
      (sb_cons (s_for PassesOwn.never rfl (i_range1 (by rfl) T.n_range (sa_Name (zv 2) sa_nil)) (g_name (i := 5) sc_law_telling.nd rfl (Or.inl rfl)) (sb_one (s_expr (z_bm K PySem.F.plainAttrs_list PySem.F.slot_list_append PySem.F.type_list_append mt_append (zv 4) (sa_Tuple (z_tup (sa_Subscript (z_ix (ix_K K) (zv 3) (zv 5) (fun _ _ => rfl)) (sa_Call (z_fn F_law_head (hr.mono (by decide)) (sa_Name (zv 0) (sa_Name (zv 3) (sa_Name (zv 5) sa_nil)))) sa_nil))) sa_nil)))))
      (sb_one (s_ret (z_callTy (call_tupK K) (by rfl) T.n_tuple PyProof.Rows.boot_tuple (sa_Call (z_fn F_law_turned (hr.mono (by decide)) (sa_Name (zv 0) (sa_Name (zv 4) sa_nil))) sa_nil)))))))), ?_⟩
    refine tSeq_set ⟨H0, p, most, t, rfl, hn, ⟨by omega, by omega⟩, by omega, fun r H1 r0 r1 hn1 sm1 => ?_⟩
    obtain ⟨i0, rfl⟩ : ∃ i : Nat, r = (i : Int) := ⟨r.toNat, by omega⟩
    refine tSeq_set ⟨(show 8 ≤ sizeLine by decide), fun l1 hl1 => ?_⟩
    have s1 := Same.upd hl1 (.lst (N8.map V.str))
    have g1 : upd H1 l1 (.lst (N8.map V.str)) l1 = some (.lst (N8.map V.str)) := upd_same
    have hn2 := hn1.same s1
    have sm2 := sm1.trans s1.sm
    refine ⟨H0, p, l1, N8.map V.str, _, rfl, hn2, by omega, .inl (SqL.of g1), (by decide), fun L ys H2 hL gL pm hn3 sm3 => ?_⟩
    obtain ⟨zs, zpm, rfl⟩ := perm_strs pm
    have smA := sm2.trans sm3
    have hzl : zs.length = 8 := zpm.length_eq
    refine ⟨1 + (i0 : Int), rfl, Or.inr (Or.inl ⟨L, zs.map V.str, rfl, SqL.of gL, fun N hN => ?_⟩)⟩
    have ecut : cutV (zs.map V.str) none (some (1 + (i0 : Int))) = (zs.take (1 + i0)).map V.str := by
      rw [show (1 + (i0 : Int)) = ((1 + i0 : Nat) : Int) by omega, cut_to, List.map_take]
    rw [ecut]
    have sN := Same.upd hN (.lst ((zs.take (1 + i0)).map V.str))
    have gN : upd H2 N (.lst ((zs.take (1 + i0)).map V.str)) N = some (.lst ((zs.take (1 + i0)).map V.str)) := upd_same
    have hn4 := hn3.same sN
    have smB := smA.trans sN.sm
    generalize upd H2 N (.lst ((zs.take (1 + i0)).map V.str)) = H3 at sN gN hn4 smB
    have nsl : (zs.take (1 + i0)).length = 1 + i0 := by rw [List.length_take]; omega
    have nok : ∀ n ∈ zs.take (1 + i0), n ∈ N8 := fun n hn => zpm.mem_iff.mp (List.mem_of_mem_take hn)
    have nnd : (zs.take (1 + i0)).Nodup := (zpm.nodup_iff.mpr n8_nd).sublist (List.take_sublist _ _)
    generalize zs.take (1 + i0) = ns at gN nsl nok nnd
    have tn : TxtsAt H3 N ns := ⟨gN, by intro e; rw [e] at nsl; simp at nsl; omega, by omega, fun n hn => (n8_ok n (nok n hn)).2⟩
    refine tSeq_set ⟨(show 0 ≤ sizeLine by decide), fun R hR => ?_⟩
    have nRp : R ≠ p := hn4.ne hR
    have nRN : R ≠ N := fun e => by rw [e, gN] at hR; cases hR
    have hR0 : H R = none := smB.free hR nRp nRp
    have fR : H0 R = none := hn4.free hR
    have sR := Same.upd hR (.lst [])
    refine tSeq_by (fun σ' H' => ∃ (v5 : Option V) (xs : List V) (rs : List (Str × V)), σ' = [some (.ref p), some (.int most), some (.int (1 + (i0 : Int))), some (.ref N), some (.ref R), v5] ∧ H' R = some (.lst xs) ∧ PairsAt H' xs (rowsK rs) ∧ rs.map (·.1) = ns ∧ RowsG H' ns WW rs ∧ NxAt K H0 H' p (t + 101 + 20 * 8) ∧ Sm p p H H') ?_ ?_
    · intro nx hnx
      refine ⟨1 + (i0 : Int), rfl, by omega, by omega, for_by (itn_range 0 (1 + (i0 : Int)).toNat) (fun i σ' H' => ∃ (v5 : Option V) (xs : List V) (rs : List (Str × V)), σ' = [some (.ref p), some (.int most), some (.int (1 + (i0 : Int))), some (.ref N), some (.ref R), v5] ∧ H' R = some (.lst xs) ∧ PairsAt H' xs (rowsK rs) ∧ rs.map (·.1) = ns.take i ∧ RowsG H' ns WW rs ∧ TxtsAt H' N ns ∧ NxAt K H0 H' p (t + 101 + 20 * i) ∧ Sm p p H H')
        ⟨none, [], [], rfl, upd_same, pairs_nil, rfl, ⟨(fun _ h => nomatch h), (fun _ h => nomatch h)⟩, tn.same sR, (hn4.same sR).mono (by omega), smB.trans sR.sm⟩ (fun _ _ _ _ _ => True.intro) ?_ ?_⟩
      · rintro i σ' H4 hi ⟨v5, xs, rs, rfl, q1, q2, q3, q4, tn4, q6, q7⟩
        have hi' : i < ns.length := by omega
        have e0 : (0 + (i : Int)) = (i : Int) := by omega
        rw [e0]
        have hni : ns[i]? = some ns[i] := List.getElem?_eq_getElem hi'
        have hnm : ns[i] ∈ ns := List.getElem_mem hi'
        generalize ns[i] = nm at hni hnm
        have hxl : xs.length = i := by
          have h1 := q2.1
          have h2 := congrArg List.length q3
          simp at h1 h2
          omega
        refine ⟨.inl ⟨rfl, _, SqL.of q1⟩, _, .str nm, .inl (SqL.of tn4.e), atI_nat (by rw [List.getElem?_map, hni]; rfl), H0, p, N, i, _, ns, rfl, q6, by omega, tn4, (fun z hz => (n8_ok z (nok z hz)).1), by omega, fun hv H5 hg hn5 sm5 => ⟨(show 2 ≤ sizeLine by decide), fun c hc => ?_⟩⟩
        have g4 : H5 R = some (.lst xs) := sm5 _ _ q1 nRp nRp
        have tn5 := tn4.nx q6 sm5
        have ncR : R ≠ c := ne_of_none g4 hc
        refine ⟨R, xs, .ref c, rfl, rfl, by rw [upd_ne ncR]; exact g4, by omega, ?_⟩
        have tk8 : Tk H5 (upd (upd H5 c (.tup [.str nm, hv])) R (.lst (xs ++ [.ref c]))) := ((Same.upd hc _).ts).set (by rw [upd_ne ncR]; exact g4) (by intro _ z; cases z)
        have hc8 : upd (upd H5 c (.tup [.str nm, hv])) R (.lst (xs ++ [.ref c])) c = some (.tup [.str nm, hv]) := by rw [upd_ne ncR.symm]; exact upd_same
        have tk38 := (q6.ts sm5).trans tk8
        refine ⟨_, xs ++ [.ref c], rs ++ [(nm, hv)], rfl, upd_same, pairs_snoc (q2.ts tk38) hc8, ?_, ?_, ⟨by rw [upd_ne nRN.symm, upd_ne (ne_of_none tn5.e hc)]; exact tn5.e, tn5.ne, tn5.few, tn5.wd⟩, ((hn5.same (Same.upd hc _)).put nRp fR).mono (by omega), ((q7.trans sm5).trans (Same.upd hc _).sm).upd hR0⟩
        · rw [List.map_append, q3, List.take_add_one, hni]; rfl
        · have := ((q4.tk tk38).add (n := nm) (v := hv) hnm ((hg.tk tk8).imp fun o h y e => by obtain ⟨i', h1, h2⟩ := h y e; exact ⟨i', i, h1, h2, hni⟩))
          exact this.perm fun r hr => by
            rcases List.mem_append.mp hr with hr | hr
            · exact List.mem_cons_of_mem _ hr
            · rw [List.mem_singleton.mp hr]; exact List.mem_cons_self
      · rintro σ' H' ⟨v5, xs, rs, rfl, q1, q2, q3, q4, q5, q6, q7⟩
        have en : (1 + (i0 : Int)).toNat = ns.length := by omega
        rw [en, List.take_length] at q3
        exact hnx _ _ ⟨v5, xs, rs, rfl, q1, q2, q3, q4, q6.mono (by omega), q7⟩
    · rintro σ' H4 ⟨v5, xs, rs, rfl, q1, q2, q3, q4, q6, q7⟩
      have hrl : rs.length = ns.length := by rw [← q3, List.length_map]
      have hxl : xs.length = rs.length := by have := q2.1; simpa using this
      refine ⟨H0, p, R, xs, _, rfl, q6, by omega, .inl (SqL.of q1), by omega, fun L2 ys H5 hL2 gL2 pm2 hn5 sm5 => ⟨L2, ys, rfl, .inl ⟨SqL.of gL2, fun a ha => ?_⟩⟩⟩
      have s6 := Same.upd ha (.tup ys)
      have tk5 := (q6.ts sm5).trans s6.ts
      obtain ⟨rs', pr, pa⟩ := pairs_perm (q2.ts tk5) pm2
      obtain ⟨rows, rt⟩ := RT.of upd_same pa (by rw [← q3]; exact pr.map _) nnd (fun n hn => n8_ok n (nok n hn)) (by omega) (by omega) ((q4.tk tk5).perm fun r hr => pr.mem_iff.mp hr)
      exact k a _ rows ns _ rt (by omega) nok ((hn5.same s6).mono (by omega)) ((q7.trans sm5).trans s6.sm)
def spRowOf : Sp := fun vs H Q _ => ∃ (a : Addr) (xs : List V) (rs : List (Str × V)) (nx : Str → Option Str) (ρ : Str → Nat) (x : Str), vs = [.ref a, .str x] ∧ GoodT H a xs rs nx ρ ∧ x ∈ rs.map (·.1) ∧ ∀ H', Same H H' → Q (.str (rowEnd nx rs.length x)) H'
def spHeadOf : Sp := fun vs H Q _ => ∃ (a : Addr) (xs : List V) (rs : List (Str × V)) (nx : Str → Option Str) (ρ : Str → Nat) (x : Str), vs = [.ref a, .str x] ∧ GoodT H a xs rs nx ρ ∧ x ∈ rs.map (·.1) ∧
  ∀ v H', Same H H' → valV (dictOf (rowsK rs)) (.inr (rowEnd nx rs.length x)) = some v → Q v H'
def spAny (K : PySem.W.Frag) : Sp := fun vs H Q _ => ∃ (H0 : Hp) (p a : Addr) (t : Nat) (xs : List V) (rows : List Rw2) (ns ws : List Str), vs = [.ref p, .ref a] ∧ NxAt K H0 H p t ∧ t < 900000 ∧ RT H a xs rows ns ws ∧
  ∀ (n : Str) (H' : Hp), n ∈ ns → NxAt K H0 H' p (t + 1) → Sm p p H H' → Q (.str n) H'
theorem ok_law_any (T : Txt K mg w) : FnK P w K mg base 3 "_law_any" ["_law_pen", "_law_told"] (spAny K) := by
  have F_law_next : FnK P w K mg base 2 "_law_next" ["_law_pen", "_law_many"] (spNx K) := ok_law_nextS T
  refine T.t_law_any.okS sc_law_any (fun vs H Q E h => ?_) (fun f cdv A outer s H vs Q E hr h => ?_)
  · obtain ⟨H0, p, a, t, xs, rows, ns, ws, rfl, _⟩ := h
    rfl
  · obtain ⟨H0, p, a, t, xs, rows, ns, ws, rfl, hn, ht, rt, k⟩ := h
    have hu := hu_of hr
    have hu0 := Nat.lt_of_succ_lt (hu_of hr)
    have hsz : sizeLine = 16777216 := sizeLine_eq
    have hrl := rt.rl
    have hxl := rt.rv.len
    have pos := rt.pos
    have few := rt.few
    refine ⟨_, (sb_one (s_ret (z_ix (ix_K K) (z_ix (ix_K K) (zv 1) (z_fn F_law_next (hr.mono (by decide)) (sa_Name (zv 0) (sa_Call (z_callB (call_lenK K) (by rfl) T.n_len PySem.boot_len (sa_Name (zv 1) sa_nil)) sa_nil))) (fun _ _ => rfl)) z_int (fun _ _ => rfl)))), ?_⟩
    refine .inl ⟨_, .inr (SqT.of rt.at_), H0, p, _, t, rfl, hn, ⟨by omega, by omega⟩, by omega, fun r H1 r0 r1 hn1 sm1 => ?_⟩
    obtain ⟨i, rfl⟩ : ∃ i : Nat, r = (i : Int) := ⟨r.toNat, by omega⟩
    have rt1 := rt.tk (hn.ts sm1)
    obtain ⟨b, v, q1, q2, q3⟩ := rt1.rv.at_ i (by omega) (by omega)
    refine ⟨xs, .ref b, .inr (SqT.of rt1.at_), atI_nat (by rw [List.getElem?_eq_getElem (by omega), q1]), _, _, .inr (SqT.of q2), atI_zero _ _, k _ H1 (rt1.nm.mem_iff.mp (List.mem_map.mpr ⟨_, List.getElem_mem (by omega), rfl⟩)) hn1 sm1⟩
theorem ok_law_row_here (T : Txt K mg w) : FnK P w K mg base 1 "_law_row_here" ["_law_told", "_law_name"] spRowOf := by
  refine T.t_law_row_here.okS sc_law_row_here (fun vs H Q E h => ?_) (fun f cdv A outer s H vs Q E hr h => ?_)
  · obtain ⟨a, xs, rs, nx, ρ, x, rfl, _⟩ := h
    rfl
  · obtain ⟨a, xs, rs, nx, ρ, x, rfl, g, hx, k⟩ := h
    have hu := hu_of hr
    have hu0 := Nat.lt_of_succ_lt hu
    refine ⟨_, (sb_cons (s_set (i := 2) sc_law_row_here.nd rfl (Or.inl rfl) (z_callTy (call_dict_of rfl) (by rfl) T.n_dict PyProof.Rows.boot_dict (sa_Name (zv 0) sa_nil)))
      (sb_cons (s_while PassesOwn.never (y_cmpR (op_eqD hu0) (z_ix (ix_K K) (z_dget hu (zv 2) (zv 1) (fun _ _ => rfl)) z_int (fun _ _ => rfl)) z_str (nomark _)) (sb_one (s_set (i := 1) sc_law_row_here.nd rfl (Or.inl rfl) (z_ix (ix_K K) (z_dget hu (zv 2) (zv 1) (fun _ _ => rfl)) z_int (fun _ _ => rfl)))))
      (sb_one (s_ret (zv 1))))), ?_⟩
    have hsz : sizeLine = 16777216 := sizeLine_eq
    have hgl := g.len
    refine tSeq_set ⟨a, xs, rowsK rs, rfl, g.at_, g.ps, (by simp; omega), fun d hd => ?_⟩
    have s1 : Same H (upd H d (.dK (dictOf (rowsK rs)))) := Same.upd hd _
    have g1 := g.ts s1.ts
    refine ⟨fun m σ H' => H' = upd H d (.dK (dictOf (rowsK rs))) ∧ ∃ y, σ = [some (.ref a), some (.str y), some (.ref d)] ∧ y ∈ rs.map (·.1) ∧ rowEnd nx rs.length y = rowEnd nx rs.length x ∧ m = ρ y, ⟨_, rfl, x, rfl, hx, rfl, rfl⟩, ?_⟩
    rintro m σ H' ⟨rfl, y, rfl, hy, he, rfl⟩
    obtain ⟨v, hv, hval⟩ := g1.get hy
    have hdg : DGet (upd H d (.dK (dictOf (rowsK rs)))) d (.str y) (some v) := by
      rw [← hval]; exact DGet.k (k := Sum.inr y) upd_same
    obtain ⟨b, rfl, hb⟩ := g1.as _ hv
    rcases hb with ⟨z, ys, h1, h2, h3⟩ | ⟨z, h1, h3⟩
    · refine ⟨d, _, rfl, hdg, _, .str z, .inr (SqT.of h1), atI_zero _ _, rfl, _, rfl, ?_⟩
      rw [Bool.false_xor, decide_eq_false (fun e => h2 (V.str.inj e))]
      refine iteF ?_
      have e2 : rowEnd nx rs.length y = y := stps_stay _ h3
      have := k _ s1
      rw [← he, e2] at this
      exact this
    · refine ⟨d, _, rfl, hdg, _, .str "as", .inr (SqT.of h1), atI_zero _ _, rfl, _, rfl, ?_⟩
      refine iteT ?_
      obtain ⟨i1, i2⟩ := g1.inn _ hv z h3
      refine ⟨fun σ' H'' => ∃ m', m' < ρ y ∧ H'' = upd H d (.dK (dictOf (rowsK rs))) ∧ ∃ y, σ' = [some (.ref a), some (.str y), some (.ref d)] ∧ y ∈ rs.map (·.1) ∧ rowEnd nx rs.length y = rowEnd nx rs.length x ∧ m' = ρ y, fun _ _ h => h, ?_⟩
      refine ⟨d, _, rfl, hdg, _, .str z, .inr (SqT.of h1), rfl, _, i2, rfl, z, rfl, i1, ?_, rfl⟩
      rw [← he]
      exact g1.endStep hy h3
theorem ok_law_head_here (T : Txt K mg w) : FnK P w K mg base 2 "_law_head_here" ["_law_told", "_law_name"] spHeadOf := by
  have F_law_row_here : FnK P w K mg base 1 "_law_row_here" ["_law_told", "_law_name"] spRowOf := ok_law_row_here T
  refine T.t_law_head_here.okS sc_law_head_here (fun vs H Q E h => ?_) (fun f cdv A outer s H vs Q E hr h => ?_)
  · obtain ⟨a, xs, rs, nx, ρ, x, rfl, _⟩ := h
    rfl
  · obtain ⟨a, xs, rs, nx, ρ, x, rfl, g, hx, k⟩ := h
    have hu := hu_of hr
    have hsz : sizeLine = 16777216 := sizeLine_eq
    have hgl := g.len
    refine ⟨_, (sb_one (s_ret (z_dget hu (z_callTy (call_dict_of rfl) (by rfl) T.n_dict PyProof.Rows.boot_dict (sa_Name (zv 0) sa_nil)) (z_fn F_law_row_here (hr.mono (by decide)) (sa_Name (zv 0) (sa_Name (zv 1) sa_nil))) (fun _ _ => rfl)))), ?_⟩
    refine ⟨a, xs, rowsK rs, rfl, g.at_, g.ps, (by simp; omega), fun d hd => ?_⟩
    have s1 : Same H (upd H d (.dK (dictOf (rowsK rs)))) := Same.upd hd _
    refine ⟨a, xs, rs, nx, ρ, x, rfl, g.ts s1.ts, hx, fun H' s2 => ?_⟩
    obtain ⟨v, hv, hval⟩ := g.get (g.endIn hx).1
    refine ⟨d, v, rfl, ?_, k v _ (s1.trans s2) hval⟩
    rw [← hval]; exact DGet.k (k := Sum.inr (rowEnd nx rs.length x)) (s2 _ _ upd_same)
def spParts : Sp := fun vs H Q _ => ∃ (v : V) (ks : List V), vs = [v] ∧ Shp H v ks ∧ ∀ L H', H L = none → H' L = some (.lst ks) → Same H H' → Q (.ref L) H'
theorem ok_law_parts (T : Txt K mg w) : FnK P w K mg base 1 "_law_parts" ["_law_maker"] spParts := by
  refine T.t_law_parts.okS sc_law_parts (fun vs H Q E h => ?_) (fun f cdv A outer s H vs Q E hr h => ?_)
  · obtain ⟨v, ks, rfl, _⟩ := h
    rfl
  · obtain ⟨v, ks, rfl, hs, k⟩ := h
    have hu0 := Nat.lt_of_succ_lt (hu_of hr)
    have hsz : sizeLine = 16777216 := sizeLine_eq
    refine ⟨_, (sb_cons (s_set (i := 1) sc_law_parts.nd rfl (Or.inl rfl) (z_ix (ix_K K) (zv 0) z_int (fun _ _ => rfl)))
      (sb_cons (s_if (y_cmpR (op_inK K) (zv 1) (z_tup (sa_Constant z_str (sa_Constant z_str sa_nil))) rfl) (sb_one (s_ret (z_lst (sa_Subscript (z_ix (ix_K K) (zv 0) (z_un un_neg z_int) (fun _ _ => rfl)) sa_nil)))) sb_nil)
      (sb_cons (s_if (y_cmpR (op_eqD hu0) (zv 1) z_str (nomark _)) (sb_one (s_ret (z_lst (sa_Subscript (z_ix (ix_K K) (zv 0) z_int (fun _ _ => rfl)) (sa_Subscript (z_ix (ix_K K) (zv 0) z_int (fun _ _ => rfl)) sa_nil))))) sb_nil)
      (sb_cons (s_if (y_cmpR (op_inK K) (zv 1) (z_tup (sa_Constant z_str (sa_Constant z_str sa_nil))) rfl) (sb_one (s_ret (z_lst (sa_Subscript (z_ix (ix_K K) (zv 0) z_int (fun _ _ => rfl)) sa_nil)))) sb_nil)
      (sb_cons (s_if (y_cmpR (op_eqD hu0) (zv 1) z_str (nomark _)) (sb_one (s_ret (z_lc (own := ["_law_one"]) (idx := []) (N' := ["_law_one"]) (⟨rfl, by decide +kernel, by decide +kernel, (show ∀ y ∈ Scope.names _, y.2 = NameKind.free → ((defScope s_law_parts).names.lookup y.1 = some NameKind.cell ∨ (defScope s_law_parts).names.lookup y.1 = some NameKind.free) by decide +kernel), (show ∀ j ∈ ([] : List Nat), (Scope.names _).lookup ((["_law_maker", "_law_word"] : List Str).getD j "") = some NameKind.free ∧ j < (["_law_maker", "_law_word"] : List Str).length by decide +kernel), rfl⟩) rfl (i_K K (z_ix (ix_K K) (zv 0) z_int (fun _ _ => rfl))) (fun _ _ _ _ _ _ => (g_name (i := 0) (show List.Nodup (["_law_one"] : List Str) by decide +kernel) rfl (Or.inl rfl))) (fun _ _ _ _ _ _ => c_nil) (fun _ _ _ _ _ _ => (z_ix (ix_K K) (zv 0) z_int (fun _ _ => rfl)))))) sb_nil)
      (sb_cons (s_if (y_cmpR (op_eqD hu0) (zv 1) z_str (nomark _)) (sb_one (s_ret (z_op op_addD (z_lst (sa_Subscript (z_ix (ix_K K) (zv 0) z_int (fun _ _ => rfl)) sa_nil)) (z_lc (own := ["_law_one"]) (idx := []) (N' := ["_law_one"]) (⟨rfl, by decide +kernel, by decide +kernel, (show ∀ y ∈ Scope.names _, y.2 = NameKind.free → ((defScope s_law_parts).names.lookup y.1 = some NameKind.cell ∨ (defScope s_law_parts).names.lookup y.1 = some NameKind.free) by decide +kernel), (show ∀ j ∈ ([] : List Nat), (Scope.names _).lookup ((["_law_maker", "_law_word"] : List Str).getD j "") = some NameKind.free ∧ j < (["_law_maker", "_law_word"] : List Str).length by decide +kernel), rfl⟩) rfl (i_K K (z_ix (ix_K K) (zv 0) z_int (fun _ _ => rfl))) (fun _ _ _ _ _ _ => (g_name (i := 0) (show List.Nodup (["_law_one"] : List Str) by decide +kernel) rfl (Or.inl rfl))) (fun _ _ _ _ _ _ => c_nil) (fun _ _ _ _ _ _ => (z_ix (ix_K K) (zv 0) z_int (fun _ _ => rfl))))))) sb_nil)
      (sb_one (s_ret (z_lst sa_nil))))))))), ?_⟩
    cases hs with
    | @fn a v r m e =>
      refine tSeq_set ⟨_, .str "fn", .inr (SqT.of e), atI_zero _ _, ?_⟩
      refine ⟨(show 2 ≤ sizeLine by decide), fun b1 hb1 => ⟨_, .inr (SqT.of upd_same), rfl, rfl, _, rfl, ?_⟩⟩
      have s1 : Same H _ := (Same.refl H).trans (Same.upd hb1 (.tup [.str "fn", .str "pick"]))
      generalize upd H b1 (.tup [.str "fn", .str "pick"]) = H1 at s1
      refine iteB (fun _ => ?_) (fun c => absurd c (by decide +kernel))
      exact ⟨1, rfl, _, m, .inr (SqT.of (s1 _ _ e)), rfl, (show 1 ≤ sizeLine by decide), fun L hL => k L _ (s1.free hL) upd_same (s1.trans (Same.upd hL _))⟩
    | @pick a z m e =>
      refine tSeq_set ⟨_, .str "pick", .inr (SqT.of e), atI_zero _ _, ?_⟩
      refine ⟨(show 2 ≤ sizeLine by decide), fun b1 hb1 => ⟨_, .inr (SqT.of upd_same), rfl, rfl, _, rfl, ?_⟩⟩
      have s1 : Same H _ := (Same.refl H).trans (Same.upd hb1 (.tup [.str "fn", .str "pick"]))
      generalize upd H b1 (.tup [.str "fn", .str "pick"]) = H1 at s1
      refine iteB (fun _ => ?_) (fun c => absurd c (by decide +kernel))
      exact ⟨1, rfl, _, m, .inr (SqT.of (s1 _ _ e)), rfl, (show 1 ≤ sizeLine by decide), fun L hL => k L _ (s1.free hL) upd_same (s1.trans (Same.upd hL _))⟩
    | @call a f x e =>
      refine tSeq_set ⟨_, .str "call", .inr (SqT.of e), atI_zero _ _, ?_⟩
      refine ⟨(show 2 ≤ sizeLine by decide), fun b1 hb1 => ⟨_, .inr (SqT.of upd_same), rfl, rfl, _, rfl, ?_⟩⟩
      have s1 : Same H _ := (Same.refl H).trans (Same.upd hb1 (.tup [.str "fn", .str "pick"]))
      generalize upd H b1 (.tup [.str "fn", .str "pick"]) = H1 at s1
      refine iteB (fun c => absurd c (by decide +kernel)) (fun _ => tNext_seq ?_)
      refine ⟨rfl, _, rfl, ?_⟩
      refine iteB (fun _ => ?_) (fun c => absurd c (by decide +kernel))
      exact ⟨_, f, .inr (SqT.of (s1 _ _ e)), rfl, _, x, .inr (SqT.of (s1 _ _ e)), rfl, (show 2 ≤ sizeLine by decide), fun L hL => k L _ (s1.free hL) upd_same (s1.trans (Same.upd hL _))⟩
    | @part a m z e =>
      refine tSeq_set ⟨_, .str "part", .inr (SqT.of e), atI_zero _ _, ?_⟩
      refine ⟨(show 2 ≤ sizeLine by decide), fun b1 hb1 => ⟨_, .inr (SqT.of upd_same), rfl, rfl, _, rfl, ?_⟩⟩
      have s1 : Same H _ := (Same.refl H).trans (Same.upd hb1 (.tup [.str "fn", .str "pick"]))
      generalize upd H b1 (.tup [.str "fn", .str "pick"]) = H1 at s1
      refine iteB (fun c => absurd c (by decide +kernel)) (fun _ => tNext_seq ?_)
      refine ⟨rfl, _, rfl, ?_⟩
      refine iteB (fun c => absurd c (by decide +kernel)) (fun _ => tNext_seq ?_)
      refine ⟨(show 2 ≤ sizeLine by decide), fun b2 hb2 => ⟨_, .inr (SqT.of upd_same), rfl, rfl, _, rfl, ?_⟩⟩
      have s2 : Same H _ := s1.trans (Same.upd hb2 (.tup [.str "part", .str "hold"]))
      generalize upd H1 b2 (.tup [.str "part", .str "hold"]) = H2 at s2
      refine iteB (fun _ => ?_) (fun c => absurd c (by decide +kernel))
      exact ⟨_, m, .inr (SqT.of (s2 _ _ e)), rfl, (show 1 ≤ sizeLine by decide), fun L hL => k L _ (s2.free hL) upd_same (s2.trans (Same.upd hL _))⟩
    | @hold a m z e =>
      refine tSeq_set ⟨_, .str "hold", .inr (SqT.of e), atI_zero _ _, ?_⟩
      refine ⟨(show 2 ≤ sizeLine by decide), fun b1 hb1 => ⟨_, .inr (SqT.of upd_same), rfl, rfl, _, rfl, ?_⟩⟩
      have s1 : Same H _ := (Same.refl H).trans (Same.upd hb1 (.tup [.str "fn", .str "pick"]))
      generalize upd H b1 (.tup [.str "fn", .str "pick"]) = H1 at s1
      refine iteB (fun c => absurd c (by decide +kernel)) (fun _ => tNext_seq ?_)
      refine ⟨rfl, _, rfl, ?_⟩
      refine iteB (fun c => absurd c (by decide +kernel)) (fun _ => tNext_seq ?_)
      refine ⟨(show 2 ≤ sizeLine by decide), fun b2 hb2 => ⟨_, .inr (SqT.of upd_same), rfl, rfl, _, rfl, ?_⟩⟩
      have s2 : Same H _ := s1.trans (Same.upd hb2 (.tup [.str "part", .str "hold"]))
      generalize upd H1 b2 (.tup [.str "part", .str "hold"]) = H2 at s2
      refine iteB (fun _ => ?_) (fun c => absurd c (by decide +kernel))
      exact ⟨_, m, .inr (SqT.of (s2 _ _ e)), rfl, (show 1 ≤ sizeLine by decide), fun L hL => k L _ (s2.free hL) upd_same (s2.trans (Same.upd hL _))⟩
    | @box a b xs ms e e2 rm =>
      refine tSeq_set ⟨_, .str "box", .inr (SqT.of e), atI_zero _ _, ?_⟩
      refine ⟨(show 2 ≤ sizeLine by decide), fun b1 hb1 => ⟨_, .inr (SqT.of upd_same), rfl, rfl, _, rfl, ?_⟩⟩
      have s1 : Same H _ := (Same.refl H).trans (Same.upd hb1 (.tup [.str "fn", .str "pick"]))
      generalize upd H b1 (.tup [.str "fn", .str "pick"]) = H1 at s1
      refine iteB (fun c => absurd c (by decide +kernel)) (fun _ => tNext_seq ?_)
      refine ⟨rfl, _, rfl, ?_⟩
      refine iteB (fun c => absurd c (by decide +kernel)) (fun _ => tNext_seq ?_)
      refine ⟨(show 2 ≤ sizeLine by decide), fun b2 hb2 => ⟨_, .inr (SqT.of upd_same), rfl, rfl, _, rfl, ?_⟩⟩
      have s2 : Same H _ := s1.trans (Same.upd hb2 (.tup [.str "part", .str "hold"]))
      generalize upd H1 b2 (.tup [.str "part", .str "hold"]) = H2 at s2
      refine iteB (fun c => absurd c (by decide +kernel)) (fun _ => tNext_seq ?_)
      refine ⟨rfl, _, rfl, ?_⟩
      refine iteB (fun _ => ?_) (fun c => absurd c (by decide +kernel))
      refine ⟨_, .ref b, .inr (SqT.of (s2 _ _ e)), rfl, Or.inr ⟨⟨xs, SqT.of (s2 _ _ e2)⟩, fun D hD => ?_⟩⟩
      have hl := rm.len
      have hfew := rm.few
      refine lc_by (itn_tup xs) (fun i τ H3 => H3 D = some (.lst (ks.take i)) ∧ Same H2 H3 ∧ ∃ v1, τ = [v1]) ⟨upd_same, Same.upd hD _, none, rfl⟩ (fun i τ H3 _ h => SqT.of (h.2.1 _ _ (s2 _ _ e2))) ?_ ?_
      · rintro i τ H3 hi ⟨q1, q2, v1, rfl⟩
        obtain ⟨c, ys, r1, r2, r3⟩ := rm.at_ i hi (by omega)
        have eg : xs.getD i .non = .ref c := by rw [List.getD_eq_getElem?_getD, List.getElem?_eq_getElem hi, r1]; rfl
        rw [eg]
        refine ⟨_, ks[i]'(by omega), .inr (SqT.of (q2 _ _ (s2 _ _ r2))), ?_, _, q1, by simp; omega, ?_, q2.put hD, _, rfl⟩
        · exact atI_nat (j := 1) (by rw [← r3, List.getElem?_append_right (Nat.le_refl _), Nat.sub_self]; rfl)
        · rw [upd_same, List.take_add_one, List.getElem?_eq_getElem (show i < ks.length by omega)]; rfl
      · rintro τ H3 ⟨q1, q2, v1, rfl⟩
        rw [List.take_of_length_le (by omega)] at q1
        exact k D H3 (s2.free hD) q1 (s2.trans q2)
    | @split a b m xs ms e e2 rm =>
      refine tSeq_set ⟨_, .str "split", .inr (SqT.of e), atI_zero _ _, ?_⟩
      refine ⟨(show 2 ≤ sizeLine by decide), fun b1 hb1 => ⟨_, .inr (SqT.of upd_same), rfl, rfl, _, rfl, ?_⟩⟩
      have s1 : Same H _ := (Same.refl H).trans (Same.upd hb1 (.tup [.str "fn", .str "pick"]))
      generalize upd H b1 (.tup [.str "fn", .str "pick"]) = H1 at s1
      refine iteB (fun c => absurd c (by decide +kernel)) (fun _ => tNext_seq ?_)
      refine ⟨rfl, _, rfl, ?_⟩
      refine iteB (fun c => absurd c (by decide +kernel)) (fun _ => tNext_seq ?_)
      refine ⟨(show 2 ≤ sizeLine by decide), fun b2 hb2 => ⟨_, .inr (SqT.of upd_same), rfl, rfl, _, rfl, ?_⟩⟩
      have s2 : Same H _ := s1.trans (Same.upd hb2 (.tup [.str "part", .str "hold"]))
      generalize upd H1 b2 (.tup [.str "part", .str "hold"]) = H2 at s2
      refine iteB (fun c => absurd c (by decide +kernel)) (fun _ => tNext_seq ?_)
      refine ⟨rfl, _, rfl, ?_⟩
      refine iteB (fun c => absurd c (by decide +kernel)) (fun _ => tNext_seq ?_)
      refine ⟨rfl, _, rfl, ?_⟩
      refine iteB (fun _ => ?_) (fun c => absurd c (by decide +kernel))
      refine ⟨_, m, .inr (SqT.of (s2 _ _ e)), rfl, (show 1 ≤ sizeLine by decide), fun L1 hL1 => ?_⟩
      have s9 : Same H _ := s2.trans (Same.upd hL1 (.lst [m]))
      have gL1 : upd H2 L1 (.lst [m]) L1 = some (.lst [m]) := upd_same
      generalize upd H2 L1 (.lst [m]) = H9 at s9 gL1
      refine ⟨_, .ref b, .inr (SqT.of (s9 _ _ e)), rfl, Or.inr ⟨⟨xs, SqT.of (s9 _ _ e2)⟩, fun D hD => ?_⟩⟩
      have hl := rm.len
      have hfew := rm.few
      refine lc_by (itn_tup xs) (fun i τ H3 => H3 D = some (.lst (ms.take i)) ∧ Same H9 H3 ∧ ∃ v1, τ = [v1]) ⟨upd_same, Same.upd hD _, none, rfl⟩ (fun i τ H3 _ h => SqT.of (h.2.1 _ _ (s9 _ _ e2))) ?_ ?_
      · rintro i τ H3 hi ⟨q1, q2, v1, rfl⟩
        obtain ⟨c, ys, r1, r2, r3⟩ := rm.at_ i hi (by omega)
        have eg : xs.getD i .non = .ref c := by rw [List.getD_eq_getElem?_getD, List.getElem?_eq_getElem hi, r1]; rfl
        rw [eg]
        refine ⟨_, ms[i]'(by omega), .inr (SqT.of (q2 _ _ (s9 _ _ r2))), ?_, _, q1, by simp; omega, ?_, q2.put hD, _, rfl⟩
        · exact atI_nat (j := 2) (by rw [← r3, List.getElem?_append_right (Nat.le_refl _), Nat.sub_self]; rfl)
        · rw [upd_same, List.take_add_one, List.getElem?_eq_getElem (show i < ms.length by omega)]; rfl
      · rintro τ H3 ⟨q1, q2, v1, rfl⟩
        rw [List.take_of_length_le (by omega)] at q1
        exact ⟨_, _, q2 _ _ gL1, q1, by simp; omega, fun L hL => k L _ (s9.free (q2.free hL)) upd_same ((s9.trans q2).trans (Same.upd hL _))⟩
    | @get a z e =>
      refine tSeq_set ⟨_, .str "get", .inr (SqT.of e), atI_zero _ _, ?_⟩
      refine ⟨(show 2 ≤ sizeLine by decide), fun b1 hb1 => ⟨_, .inr (SqT.of upd_same), rfl, rfl, _, rfl, ?_⟩⟩
      have s1 : Same H _ := (Same.refl H).trans (Same.upd hb1 (.tup [.str "fn", .str "pick"]))
      generalize upd H b1 (.tup [.str "fn", .str "pick"]) = H1 at s1
      refine iteB (fun c => absurd c (by decide +kernel)) (fun _ => tNext_seq ?_)
      refine ⟨rfl, _, rfl, ?_⟩
      refine iteB (fun c => absurd c (by decide +kernel)) (fun _ => tNext_seq ?_)
      refine ⟨(show 2 ≤ sizeLine by decide), fun b2 hb2 => ⟨_, .inr (SqT.of upd_same), rfl, rfl, _, rfl, ?_⟩⟩
      have s2 : Same H _ := s1.trans (Same.upd hb2 (.tup [.str "part", .str "hold"]))
      generalize upd H1 b2 (.tup [.str "part", .str "hold"]) = H2 at s2
      refine iteB (fun c => absurd c (by decide +kernel)) (fun _ => tNext_seq ?_)
      refine ⟨rfl, _, rfl, ?_⟩
      refine iteB (fun c => absurd c (by decide +kernel)) (fun _ => tNext_seq ?_)
      refine ⟨rfl, _, rfl, ?_⟩
      refine iteB (fun c => absurd c (by decide +kernel)) (fun _ => tNext_seq2 ?_)
      exact ⟨(show 0 ≤ sizeLine by decide), fun L hL => k L _ (s2.free hL) upd_same (s2.trans (Same.upd hL _))⟩
def spMany (n : Nat) : Sp := fun vs H Q _ => ∃ (v : V) (s : Nat), vs = [v] ∧ MkT H n s v ∧ s ≤ 1000000 ∧ ∀ H', Same H H' → Q (.int (s : Int)) H'
theorem sum_get : ∀ {ss : List Nat} (i : Nat) (h : i < ss.length), ss[i] ≤ ss.sum
  | s :: ss, 0, _ => by simp
  | s :: ss, i + 1, h => by
    have := sum_get (ss := ss) i (by simpa using h)
    simp only [List.getElem_cons_succ, List.sum_cons]
    omega
theorem len_sum : ∀ {ss : List Nat}, (∀ i (h : i < ss.length), 1 ≤ ss[i]) → ss.length ≤ ss.sum
  | [], _ => Nat.le_refl _
  | s :: ss, h => by
    have h0 := h 0 (by simp)
    have ih := len_sum (ss := ss) fun i hi => by have := h (i + 1) (by simpa using hi); simpa using this
    simp only [List.getElem_cons_zero] at h0
    simp only [List.length_cons, List.sum_cons]
    omega
theorem mk_pos {H : Hp} {n s : Nat} {v : V} (h : MkT H n s v) : 1 ≤ s := by
  cases h with
  | mk _ _ _ e => omega
theorem sum_ints : ∀ ss : List Nat, (ss.map fun x : Nat => (x : Int)).sum = ((ss.sum : Nat) : Int)
  | [] => rfl
  | s :: ss => by rw [List.map_cons, List.sum_cons, List.sum_cons, sum_ints ss]; push_cast; rfl
theorem ok_law_many (T : Txt K mg w) : ∀ n : Nat, FnK P w K mg base (2 + n) "_law_many" ["_law_maker"] (spMany n) := by
  intro n
  induction n with
  | zero =>
    refine T.t_law_many.okS (k := 1) sc_law_many (fun vs H Q E h => ?_) (fun f cdv A outer s H vs Q E hr h => ?_)
    · obtain ⟨v, s, rfl, _⟩ := h
      rfl
    · obtain ⟨v, s, rfl, h, _⟩ := h
      cases h
  | succ n ih =>
    have F_law_many : FnK P w K mg base (2 + n) "_law_many" ["_law_maker"] (spMany n) := ih
    have F_law_parts : FnK P w K mg base 1 "_law_parts" ["_law_maker"] spParts := ok_law_parts T
    refine T.t_law_many.okS (k := 2 + n) sc_law_many (fun vs H Q E h => ?_) (fun f cdv A outer s H vs Q E hr h => ?_)
    · obtain ⟨v, s, rfl, _⟩ := h
      rfl
    · obtain ⟨v, s, rfl, hm, hs, k⟩ := h
      have hu := hu_of hr
      have hu0 := Nat.lt_of_succ_lt (hu_of hr)
      have hsz : sizeLine = 16777216 := sizeLine_eq
      cases hm with
      | @mk _ _ _ ks ss hsh hl hks he =>
        have hpos : ∀ i (h : i < ss.length), 1 ≤ ss[i] := fun i h => mk_pos (hks i (by omega) h)
        have hls := len_sum hpos
        refine ⟨_, (sb_one (s_ret (z_op op_addD z_int (z_callB (call_sumK K rfl) (by rfl) T.n_sum PyProof.Rows.boot_sum (sa_ListComp (z_lc (own := ["_law_one"]) (idx := []) (N' := ["_law_one"]) (⟨rfl, by decide +kernel, by decide +kernel, (show ∀ y ∈ Scope.names _, y.2 = NameKind.free → ((defScope s_law_many).names.lookup y.1 = some NameKind.cell ∨ (defScope s_law_many).names.lookup y.1 = some NameKind.free) by decide +kernel), (show ∀ j ∈ ([] : List Nat), (Scope.names _).lookup ((["_law_maker"] : List Str).getD j "") = some NameKind.free ∧ j < (["_law_maker"] : List Str).length by decide +kernel), rfl⟩) rfl (i_K K (z_fn F_law_parts (hr.mono (by omega)) (sa_Name (zv 0) sa_nil))) (fun _ _ _ _ _ _ => (g_name (i := 0) (show List.Nodup (["_law_one"] : List Str) by decide +kernel) rfl (Or.inl rfl))) (fun _ _ _ _ _ _ => c_nil) (fun _ _ _ _ _ _ => (z_fn F_law_many (hr.mono (by omega)) (sa_Name (zv 0) sa_nil)))) sa_nil))))), ?_⟩
        refine ⟨v, ks, rfl, hsh, fun L H1 hL gL s1 => Or.inl ⟨⟨ks, SqL.of gL⟩, fun D hD => ?_⟩⟩
        refine lc_by (itn_list ks) (fun i τ H3 => H3 D = some (.lst (((ss.take i).map fun x : Nat => (x : Int)).map V.int)) ∧ Same H1 H3 ∧ ∃ v1, τ = [v1]) ⟨upd_same, Same.upd hD _, none, rfl⟩ (fun i τ H3 _ h => SqL.of (h.2.1 _ _ gL)) ?_ ?_
        · rintro i τ H3 hi ⟨q1, q2, v1, rfl⟩
          have hi' : i < ss.length := by omega
          have eg : ks.getD i .non = ks[i] := by simp [List.getD_eq_getElem?_getD, hi]
          rw [eg]
          refine ⟨ks[i], ss[i], rfl, (hks i hi hi').tk (s1.trans q2).ts, by have := sum_get i hi'; omega, fun H4 s4 => ?_⟩
          refine ⟨_, s4 _ _ q1, by simp; omega, ?_, (q2.trans s4).put hD, _, rfl⟩
          have et : ss.take (i + 1) = ss.take i ++ [ss[i]] := by rw [List.take_add_one, List.getElem?_eq_getElem hi']; rfl
          rw [upd_same, et, List.map_append, List.map_append]; rfl
        · rintro τ H3 ⟨q1, q2, v1, rfl⟩
          rw [List.take_of_length_le (by omega)] at q1
          refine ⟨_, SqL.of q1, ?_⟩
          rw [sum_ints]
          have := k H3 (s1.trans q2)
          have e9 : (s : Int) = 1 + ((ss.sum : Nat) : Int) := by omega
          rw [e9] at this
          exact this
inductive AtM (H : Hp) : V → List Nat → V → Prop
  | nil {v : V} : AtM H v [] v
  | cons {v m m' : V} {ks : List V} {k : Nat} {path : List Nat} : Shp H v ks → ks[k]? = some m → AtM H m path m' → AtM H v (k :: path) m'
theorem at_tk {H H' : Hp} (t : Tk H H') {v m : V} {path : List Nat} (h : AtM H v path m) : AtM H' v path m := by
  induction h with
  | nil => exact .nil
  | cons a b _ ih => exact .cons (a.tk t) b ih
def intsV (ps : List Nat) : List V := ps.map fun k : Nat => V.int (k : Int)
def PlcAt (H : Hp) (ps : List Nat) (v u : V) : Prop := ∃ c q' path m, u = .ref c ∧ H c = some (.tup [.ref q', m]) ∧ H q' = some (.tup (intsV (ps ++ path))) ∧ AtM H v path m ∧ ∃ ks, Shp H m ks
theorem PlcAt.tk {H H' : Hp} (t : Tk H H') {ps : List Nat} {v u : V} (h : PlcAt H ps v u) : PlcAt H' ps v u := by
  obtain ⟨c, q', path, m, h1, h2, h3, h4, ks, h5⟩ := h
  exact ⟨c, q', path, m, h1, t _ _ h2, t _ _ h3, at_tk t h4, ks, h5.tk t⟩
def spPlaces (n : Nat) : Sp := fun vs H Q _ => ∃ (v : V) (s : Nat) (q : Addr) (ps : List Nat), vs = [v, .ref q] ∧ MkT H n s v ∧ s ≤ 1000000 ∧ H q = some (.tup (intsV ps)) ∧ ps.length + n ≤ 1000 ∧
  ∀ L us H', H L = none → H' L = some (.lst us) → us.length = s → (∀ u ∈ us, PlcAt H' ps v u) → Same H H' → Q (.ref L) H'
theorem ok_law_places (T : Txt K mg w) : ∀ n : Nat, FnK P w K mg base (2 + n) "_law_places" ["_law_maker", "_law_place"] (spPlaces n) := by
  intro n
  induction n with
  | zero =>
    refine T.t_law_places.okS (k := 1) sc_law_places (fun vs H Q E h => ?_) (fun f cdv A outer s H vs Q E hr h => ?_)
    · obtain ⟨v, s, q, ps, rfl, _⟩ := h
      rfl
    · obtain ⟨v, s, q, ps, rfl, h, _⟩ := h
      cases h
  | succ n ih =>
    have F_law_places : FnK P w K mg base (2 + n) "_law_places" ["_law_maker", "_law_place"] (spPlaces n) := ih
    have F_law_parts : FnK P w K mg base 1 "_law_parts" ["_law_maker"] spParts := ok_law_parts T
    refine T.t_law_places.okS (k := 2 + n) sc_law_places (fun vs H Q E h => ?_) (fun f cdv A outer s H vs Q E hr h => ?_)
    · obtain ⟨v, s, q, ps, rfl, _⟩ := h
      rfl
    · obtain ⟨v, s, q, ps, rfl, hm, hs, hq, hpn, k⟩ := h
      have hu := hu_of hr
      have hu0 := Nat.lt_of_succ_lt (hu_of hr)
      have hsz : sizeLine = 16777216 := sizeLine_eq
      cases hm with
      | @mk _ _ _ ks ss hsh hl hks he =>
        have hpos : ∀ i (h : i < ss.length), 1 ≤ ss[i] := fun i h => mk_pos (hks i (by omega) h)
        have hls := len_sum hpos
        refine ⟨_, (sb_cons (s_set (i := 2) sc_law_places.nd rfl (Or.inl rfl) (z_lst (sa_Tuple (z_tup (sa_Name (zv 1) (sa_Name (zv 0) sa_nil))) sa_nil)))
      (sb_cons (s_set (i := 3) sc_law_places.nd rfl (Or.inl rfl) z_int)
      (sb_cons (s_for PassesOwn.never rfl (i_K K (z_fn F_law_parts (hr.mono (by omega)) (sa_Name (zv 0) sa_nil))) (g_name (i := 4) sc_law_places.nd rfl (Or.inl rfl)) (sb_cons (s_expr (z_bm K PySem.F.plainAttrs_list PySem.F.slot_list_extend PySem.F.type_list_extend mt_extend (zv 2) (sa_Call (z_fn F_law_places (hr.mono (by omega)) (sa_Name (zv 4) (sa_BinOp (z_op (op_catA K) (zv 1) (z_tup (sa_Name (zv 3) sa_nil))) sa_nil))) sa_nil)))
      (sb_one (s_set (i := 3) sc_law_places.nd rfl (Or.inl rfl) (z_op op_addD (zv 3) z_int)))))
      (sb_one (s_ret (zv 2)))))), ?_⟩
        refine tSeq_set ⟨(show 2 ≤ sizeLine by decide), fun c hc => ⟨(show 1 ≤ sizeLine by decide), fun R hR => ?_⟩⟩
        have s1 := Same.upd hc (.tup [.ref q, v])
        have hR0 : H R = none := s1.free hR
        have s2 : Same H _ := s1.trans (Same.upd hR (.lst [.ref c]))
        have gR : upd (upd H c (.tup [.ref q, v])) R (.lst [.ref c]) R = some (.lst [.ref c]) := upd_same
        have gc := (Same.upd hR (.lst [.ref c])) _ _ (upd_same : upd H c (.tup [.ref q, v]) c = some (.tup [.ref q, v]))
        generalize upd (upd H c (.tup [.ref q, v])) R (.lst [.ref c]) = H2 at s2 gR gc
        refine tSeq_setC ?_
        try dsimp only
        have first : PlcAt H2 ps v (.ref c) := ⟨c, q, [], v, rfl, gc, by rw [List.append_nil]; exact s2 _ _ hq, .nil, ks, hsh.tk s2.ts⟩
        refine tSeq_by (fun σ' H' => ∃ (us : List V) (v3 v4 : Option V), σ' = [some v, some (.ref q), some (.ref R), v3, v4] ∧ H' R = some (.lst us) ∧ us.length = s ∧ (∀ u ∈ us, PlcAt H' ps v u) ∧ Same H H') ?_ ?_
        · intro nx hnx
          refine ⟨v, ks, rfl, hsh.tk s2.ts, fun L H3 hL gL s3 => Or.inl ⟨⟨ks, SqL.of gL⟩, for_by (itn_list ks) (fun i σ' H' => ∃ (us : List V) (v4 : Option V), σ' = [some v, some (.ref q), some (.ref R), some (.int (i : Int)), v4] ∧ H' R = some (.lst us) ∧ us.length = 1 + (ss.take i).sum ∧ (∀ u ∈ us, PlcAt H' ps v u) ∧ Same H H' ∧ H' L = some (.lst ks)) ⟨[.ref c], none, rfl, s3 _ _ gR, rfl, fun u hu => by rw [List.mem_singleton.mp hu]; exact first.tk s3.ts, s2.trans s3, gL⟩ (by rintro i τ H' _ ⟨_, _, _, _, _, _, _, g⟩; exact SqL.of g) ?_ ?_⟩⟩
          · rintro i σ' H4 hi ⟨us, v4, rfl, g1, g2, g3, g4, g5⟩
            have hi' : i < ss.length := by omega
            have nLR : L ≠ R := fun z => by rw [z, gR] at hL; cases hL
            have eg : ks.getD i .non = ks[i] := by simp [List.getD_eq_getElem?_getD, hi]
            rw [eg]
            have et : ss.take (i + 1) = ss.take i ++ [ss[i]] := by rw [List.take_add_one, List.getElem?_eq_getElem hi']; rfl
            have hsum : (ss.take i).sum + ss[i] ≤ ss.sum := by
              have : ss.sum = (ss.take (i + 1)).sum + (ss.drop (i + 1)).sum := by rw [← List.sum_append, List.take_append_drop]
              rw [et, List.sum_append] at this
              simp at this
              omega
            -- place + (at,)
            have conv : ∀ (H6 : Hp) (zs : List V), Same H4 H6 → (∀ u ∈ zs, PlcAt H6 (ps ++ [i]) ks[i] u) → ∀ u ∈ zs, PlcAt H6 ps v u := fun H6 zs s6 f4 u hu => by
              obtain ⟨c', q', path, m, r1, r2, r3, r4, r5⟩ := f4 u hu
              exact ⟨c', q', i :: path, m, r1, r2, by rw [List.append_assoc] at r3; exact r3, .cons (hsh.tk (g4.trans s6).ts) (List.getElem?_eq_getElem hi) r4, r5⟩
            refine ⟨.inl ⟨rfl, _, SqL.of g1⟩, (show 1 ≤ sizeLine by decide), fun t ht => ?_⟩
            have st := Same.upd ht (.tup [.int (i : Int)])
            have gt : upd H4 t (.tup [.int (i : Int)]) t = some (.tup [.int (i : Int)]) := upd_same
            generalize upd H4 t (.tup [.int (i : Int)]) = H5 at st gt
            have fin : ∀ (H5 : Hp), Same H4 H5 → ∀ L2 zs H6, H5 L2 = none → H6 L2 = some (.lst zs) → zs.length = ss[i] → (∀ u ∈ zs, PlcAt H6 ps v u) → Same H5 H6 → H6 R = some (.lst us) ∧ (us ++ zs).length = 1 + (ss.take (i + 1)).sum ∧ (∀ u ∈ us ++ zs, PlcAt (upd H6 R (.lst (us ++ zs))) ps v u) ∧ Same H (upd H6 R (.lst (us ++ zs))) ∧ upd H6 R (.lst (us ++ zs)) L = some (.lst ks) := by
              intro H5 s5 L2 zs H6 f1 f2 f3 f4 f5
              have gR6 := f5 _ _ (s5 _ _ g1)
              have tk6 : Tk H6 (upd H6 R (.lst (us ++ zs))) := Tk.refl.set gR6 (by intro _ z; cases z)
              refine ⟨gR6, ?_, fun u hu => ?_, ((g4.trans s5).trans f5).put hR0, by rw [upd_ne nLR]; exact f5 _ _ (s5 _ _ g5)⟩
              · rw [et, List.sum_append, List.length_append]; simp; omega
              · rcases List.mem_append.mp hu with hu | hu
                · exact ((g3 u hu).tk (s5.trans f5).ts).tk tk6
                · exact (f4 u hu).tk tk6
            have hq5 := (g4.trans st) _ _ hq
            refine ⟨q, t, intsV ps, [.int (i : Int)], rfl, rfl, SqT.of hq5, SqT.of gt, by simp [intsV]; omega, fun h0 => ?_, fun _ h => absurd h (by simp), fun _ _ p hp => ?_⟩
            · have hp0 : ps = [] := by simpa [intsV] using h0
              refine ⟨ks[i], ss[i], t, ps ++ [i], rfl, (hks i hi hi').tk (g4.trans st).ts, by omega, by rw [hp0]; exact gt, by simp; omega, fun L2 zs H6 f1 f2 f3 f4 f5 => ?_⟩
              obtain ⟨gR6, w1, w2, w3, w4⟩ := fin H5 st L2 zs H6 f1 f2 f3 (conv H6 zs (st.trans f5) f4) f5
              exact ⟨R, L2, us, zs, rfl, rfl, gR6, f2, by omega, us ++ zs, _, rfl, upd_same, w1, w2, w3, w4⟩
            · have sp := Same.upd hp (.tup (intsV ps ++ [.int (i : Int)]))
              refine ⟨ks[i], ss[i], p, ps ++ [i], rfl, (hks i hi hi').tk (g4.trans (st.trans sp)).ts, by omega, by rw [upd_same]; simp [intsV], by simp; omega, fun L2 zs H6 f1 f2 f3 f4 f5 => ?_⟩
              obtain ⟨gR6, w1, w2, w3, w4⟩ := fin _ (st.trans sp) L2 zs H6 f1 f2 f3 (conv H6 zs ((st.trans sp).trans f5) f4) f5
              exact ⟨R, L2, us, zs, rfl, rfl, gR6, f2, by omega, us ++ zs, _, rfl, upd_same, w1, w2, w3, w4⟩
          · rintro σ' H4 ⟨us, v4, rfl, g1, g2, g3, g4, g5⟩
            rw [List.take_of_length_le (by omega)] at g2
            exact hnx _ _ ⟨us, _, _, rfl, g1, by omega, g3, g4⟩
        rintro σ' H4 ⟨us, v3, v4, rfl, g1, g2, g3, g4⟩
        exact k R us H4 hR0 g1 g2 g3 g4
def Ctr (H : Hp) (what : Str) (x : V) (ms : List V) : Prop := (what = "maker" ∧ ms = [x]) ∨ ((what = "parts" ∨ what = "cases") ∧ ∃ b rows n, x = .ref b ∧ H b = some (.tup rows) ∧ RowM H (n + 1) rows ms) ∨ ((what = "name" ∨ what = "row") ∧ ms = [])
inductive CtrL (H : Hp) : List Str → List V → List (List V) → Prop
  | nil : CtrL H [] [] []
  | cons {w : Str} {ws : List Str} {x : V} {xs : List V} {c : List V} {cs : List (List V)} : Ctr H w x c → CtrL H ws xs cs → CtrL H (w :: ws) (x :: xs) (c :: cs)
theorem CtrL.len {H : Hp} {ws : List Str} {xs : List V} {cs : List (List V)} (h : CtrL H ws xs cs) : xs.length = ws.length ∧ cs.length = ws.length := by
  induction h with
  | nil => exact ⟨rfl, rfl⟩
  | cons _ _ ih => simp [ih.1, ih.2]
theorem CtrL.at_ {H : Hp} {ws : List Str} {xs : List V} {cs : List (List V)} (h : CtrL H ws xs cs) : ∀ i, i < ws.length → ∃ w x c, ws[i]? = some w ∧ xs[i]? = some x ∧ cs[i]? = some c ∧ Ctr H w x c := by
  induction h with
  | nil => intro i hi; exact absurd hi (by simp)
  | cons hc _ ih =>
    intro i hi
    cases i with
    | zero => exact ⟨_, _, _, rfl, rfl, rfl, hc⟩
    | succ j => exact ih j (by simpa using hi)
structure MkrOf (K : PySem.W.Frag) (H : Hp) (kvs : List (Key × V)) (v : V) (ks : List V) (t : Addr) (w : Str) (whats : List Str) (xs : List V) (cs : List (List V)) : Prop where
  vl : valV kvs (.inr w) = some (.ref t)
  at_ : ∃ a, v = .ref a ∧ H a = some (.tup (.str w :: xs))
  sq : ∀ H, SqT K H t (whats.map V.str)
  ctr : CtrL H whats xs cs
  fl : cs.flatten = ks
  few : whats.length ≤ 3
abbrev PLk (t0 t1 t2 t3 t4 t5 t6 t7 : Addr) : List (Key × V) := [(.inr "get", .ref t0), (.inr "fn", .ref t1), (.inr "call", .ref t2), (.inr "box", .ref t3), (.inr "part", .ref t4), (.inr "pick", .ref t5), (.inr "split", .ref t6), (.inr "hold", .ref t7)]
theorem ctM {H : Hp} {x : V} : Ctr H "maker" x [x] := .inl ⟨rfl, rfl⟩
theorem ctN {H : Hp} {x : V} : Ctr H "name" x [] := .inr (.inr ⟨.inl rfl, rfl⟩)
theorem ctR {H : Hp} {x : V} : Ctr H "row" x [] := .inr (.inr ⟨.inr rfl, rfl⟩)
theorem atI_last {α : Type} (ys : List α) (y : α) : atI (ys ++ [y]) (-1) = some y := by
  unfold atI ixN
  rw [if_neg (by decide), if_pos (by simp; omega)]
  have : (-1 + ((ys ++ [y]).length : Int)).toNat = ys.length := by simp; omega
  show (ys ++ [y])[(-1 + ((ys ++ [y]).length : Int)).toNat]? = some y
  rw [this]; simp
theorem ok_makers_in (T : Txt K mg w) : FnK P w K mg base 1 "makers_in" ["maker"] spParts := by
  refine T.t_makers_in.okS sc_makers_in (fun vs H Q E h => ?_) (fun f cdv A outer s H vs Q E hr h => ?_)
  · obtain ⟨v, ks, rfl, _⟩ := h
    rfl
  · obtain ⟨v, ks, rfl, hs, k⟩ := h
    have hu0 := Nat.lt_of_succ_lt (hu_of hr)
    have hsz : sizeLine = 16777216 := sizeLine_eq
    obtain ⟨aP, t0, t1, t2, t3, t4, t5, t6, t7, hmP, kdP, q0, q1, q2, q3, q4, q5, q6, q7⟩ := T.c_PLACES
    have cPLACES : ∃ a, mg "PLACES" = some (.ref a) ∧ KD w K a _ := ⟨aP, hmP, kdP⟩
    refine ⟨_, (sb_cons (s_set (i := 1) sc_makers_in.nd rfl (Or.inl rfl) (z_lst sa_nil))
      (sb_cons (s_for PassesOwn.never rfl (pi_zb true true K (by rfl) T.n_zip (sa_Subscript (z_kget cPLACES (z_ix (ix_K K) (zv 0) z_int (fun _ _ => rfl)) (fun _ _ => rfl)) (sa_Subscript (z_slice (sl_K K) (zv 0) (zo_some z_int) zo_none) sa_nil))) (g_tup K (n := 2) rfl (gs_cons (g_name (i := 2) sc_makers_in.nd rfl (Or.inl rfl)) (gs_cons (g_name (i := 3) sc_makers_in.nd rfl (Or.inl rfl)) gs_nil))) (sb_one (s_if (y_cmpR (op_eqD hu0) (zv 2) z_str (nomark _)) (sb_one (s_expr (z_bm K PySem.F.plainAttrs_list PySem.F.slot_list_append PySem.F.type_list_append mt_append (zv 1) (sa_Name (zv 3) sa_nil)))) (sb_one (s_if (y_cmpR (op_inK K) (zv 2) (z_tup (sa_Constant z_str (sa_Constant z_str sa_nil))) rfl) (sb_one (s_expr (z_bm K PySem.F.plainAttrs_list PySem.F.slot_list_extend PySem.F.type_list_extend mt_extend (zv 1) (sa_ListComp (z_lc (own := ["row"]) (idx := []) (N' := ["row"]) (⟨rfl, by decide +kernel, by decide +kernel, (show ∀ y ∈ Scope.names _, y.2 = NameKind.free → ((defScope s_makers_in).names.lookup y.1 = some NameKind.cell ∨ (defScope s_makers_in).names.lookup y.1 = some NameKind.free) by decide +kernel), (show ∀ j ∈ ([] : List Nat), (Scope.names _).lookup ((["maker", "found", "what", "one"] : List Str).getD j "") = some NameKind.free ∧ j < (["maker", "found", "what", "one"] : List Str).length by decide +kernel), rfl⟩) rfl (i_K K (zv 3)) (fun _ _ _ _ _ _ => (g_name (i := 0) (show List.Nodup (["row"] : List Str) by decide +kernel) rfl (Or.inl rfl))) (fun _ _ _ _ _ _ => c_nil) (fun _ _ _ _ _ _ => (z_ix (ix_K K) (zv 0) (z_un un_neg z_int) (fun _ _ => rfl)))) sa_nil)))) sb_nil)))))
      (sb_one (s_ret (zv 1))))), ?_⟩
    have core : ∃ t ww whats xs cs, MkrOf K H (PLk t0 t1 t2 t3 t4 t5 t6 t7) v ks t ww whats xs cs := by
      cases hs with
      | @get a z e => exact ⟨t0, "get", ["name"], [.str z], [[]], rfl, ⟨a, rfl, e⟩, q0, .cons ctN .nil, rfl, by simp⟩
      | @fn a z r m e => exact ⟨t1, "fn", ["name", "row", "maker"], [.str z, .str r, m], [[], [], [m]], rfl, ⟨a, rfl, e⟩, q1, .cons ctN (.cons ctR (.cons ctM .nil)), rfl, by simp⟩
      | @call a f x e => exact ⟨t2, "call", ["maker", "maker"], [f, x], [[f], [x]], rfl, ⟨a, rfl, e⟩, q2, .cons ctM (.cons ctM .nil), rfl, by simp⟩
      | @box a b xs ms e e2 rm => exact ⟨t3, "box", ["parts"], [.ref b], [ks], rfl, ⟨a, rfl, e⟩, q3, .cons (.inr (.inl ⟨.inl rfl, b, xs, 0, rfl, e2, rm⟩)) .nil, by simp, by simp⟩
      | @part a m z e => exact ⟨t4, "part", ["maker", "name"], [m, .str z], [[m], []], rfl, ⟨a, rfl, e⟩, q4, .cons ctM (.cons ctN .nil), rfl, by simp⟩
      | @pick a z m e => exact ⟨t5, "pick", ["name", "maker"], [.str z, m], [[], [m]], rfl, ⟨a, rfl, e⟩, q5, .cons ctN (.cons ctM .nil), rfl, by simp⟩
      | @split a b m xs ms e e2 rm => exact ⟨t6, "split", ["maker", "cases"], [m, .ref b], [[m], ms], rfl, ⟨a, rfl, e⟩, q6, .cons ctM (.cons (.inr (.inl ⟨.inr rfl, b, xs, 1, rfl, e2, rm⟩)) .nil), by simp, by simp⟩
      | @hold a m z e => exact ⟨t7, "hold", ["maker", "row"], [m, .str z], [[m], []], rfl, ⟨a, rfl, e⟩, q7, .cons ctM (.cons ctR .nil), rfl, by simp⟩
    obtain ⟨t, ww, whats, xs, cs, mo⟩ := core
    obtain ⟨a, rfl, ea⟩ := mo.at_
    have hfew := mo.few
    obtain ⟨hl1, hl2⟩ := mo.ctr.len
    refine tSeq_set ⟨Nat.zero_le _, fun L hL => ?_⟩
    have s0 := Same.upd hL (.lst [])
    have gL : upd H L (.lst []) L = some (.lst []) := upd_same
    generalize upd H L (.lst []) = H1 at s0 gL
    refine tSeq_by (fun σ' H' => ∃ v2 v3, σ' = [some (.ref a), some (.ref L), v2, v3] ∧ H' L = some (.lst ks) ∧ Same H H') ?_ ?_
    · intro nx hnx
      refine ⟨_, _, .inr (SqT.of (s0 _ _ ea)), atI_zero _ _, _, _, rfl, mo.vl, ?_⟩
      refine ⟨1, rfl, ?_⟩
      refine Or.inr ?_
      refine Or.inr ?_
      refine ⟨a, _, rfl, SqT.of (s0 _ _ ea), by simp [HT.sIx], fun p hp => ?_⟩
      have ecut : cutV (V.str ww :: xs) (some 1) none = xs := by simp [cutV, HT.sIx]
      rw [ecut]
      have s1 := Same.upd hp (.tup xs)
      have gp : upd H1 p (.tup xs) p = some (.tup xs) := upd_same
      have gL1 := s1 _ _ gL
      generalize upd H1 p (.tup xs) = H2 at s1 gp gL1
      have s2 := s0.trans s1
      refine ⟨t, p, _, _, rfl, mo.sq _, SqT.of gp, for_pair (itp_zb (whats.map V.str) xs) (fun i σ' H' => ∃ v2 v3, σ' = [some (.ref a), some (.ref L), v2, v3] ∧ H' L = some (.lst (cs.take i).flatten) ∧ Same H H' ∧ H' p = some (.tup xs) ∧ (cs.take i).flatten.length ≤ 1000 * i) ⟨_, _, rfl, by simpa using gL1, s2, gp, by simp⟩ (by rintro i τ H' _ ⟨_, _, _, _, s', gp', _⟩; exact ⟨mo.sq _, SqT.of gp'⟩) ?_ ?_⟩
      · rintro i σ' H3 tt hi ⟨v2, v3, rfl, g1, s3, gp3, hln⟩ htt
        have hi' : i < whats.length := by simp at hi; omega
        obtain ⟨wh, x, c, e1, e2, e3, hc⟩ := mo.ctr.at_ i hi'
        have ew : (whats.map V.str).getD i .non = .str wh := by simp [List.getD_eq_getElem?_getD, e1]
        have ex : xs.getD i .non = x := by simp [List.getD_eq_getElem?_getD, e2]
        rw [ew, ex]
        have s4 := s3.trans (Same.upd htt (.tup [.str wh, x]))
        have g4 := Same.upd htt (.tup [.str wh, x]) _ _ g1
        have gp4 := Same.upd htt (.tup [.str wh, x]) _ _ gp3
        generalize upd H3 tt (.tup [.str wh, x]) = H4 at s4 g4 gp4
        have etk : (cs.take (i + 1)).flatten = (cs.take i).flatten ++ c := by rw [List.take_add_one, e3]; simp
        have nLp : p ≠ L := fun z => by rw [z, gL] at hp; cases hp
        rcases hc with ⟨rfl, rfl⟩ | ⟨hw, b, rows, n, rfl, hb, rm⟩ | ⟨hw, rfl⟩
        · refine ⟨rfl, _, rfl, iteB (fun _ => ?_) (fun c => absurd c (by decide +kernel))⟩
          refine ⟨.inl ⟨rfl, _, SqL.of g4⟩, L, _, _, rfl, rfl, g4, by omega, _, _, rfl, by rw [upd_same, etk], s4.put hL, by rw [upd_ne nLp]; exact gp4, by rw [etk, List.length_append, List.length_singleton]; omega⟩
        · have hnm : wh ≠ "maker" := by rcases hw with rfl | rfl <;> decide +kernel
          have hl := rm.len
          have hfw := rm.few
          refine ⟨rfl, _, rfl, iteB (fun c => absurd c (by simp [hnm])) (fun _ => ?_)⟩
          refine ⟨(show 2 ≤ sizeLine by decide), fun b1 hb1 => ⟨_, .inr (SqT.of upd_same), ?_, rfl, _, rfl, ?_⟩⟩
          · rcases hw with rfl | rfl <;> rfl
          have s5 := s4.trans (Same.upd hb1 (.tup [.str "parts", .str "cases"]))
          have g5 := Same.upd hb1 (.tup [.str "parts", .str "cases"]) _ _ g4
          have gp5 := Same.upd hb1 (.tup [.str "parts", .str "cases"]) _ _ gp4
          generalize upd H4 b1 (.tup [.str "parts", .str "cases"]) = H5 at s5 g5 gp5
          refine iteB (fun _ => ?_) (fun c => absurd c ?_)
          · refine ⟨.inl ⟨rfl, _, SqL.of g5⟩, Or.inr ⟨⟨rows, SqT.of (s5 _ _ hb)⟩, fun D hD => ?_⟩⟩
            have nDL : L ≠ D := fun z => by rw [← z, g5] at hD; cases hD
            refine lc_by (itn_tup rows) (fun i τ H3 => H3 D = some (.lst (c.take i)) ∧ Same H5 H3 ∧ ∃ v1, τ = [v1]) ⟨upd_same, Same.upd hD _, none, rfl⟩ (fun i τ H3 _ h => SqT.of (h.2.1 _ _ (s5 _ _ hb))) ?_ ?_
            · rintro j τ H6 hj ⟨r1, r2, v1, rfl⟩
              obtain ⟨cc, ys, w1, w2, w3⟩ := rm.at_ j hj (by omega)
              have eg : rows.getD j .non = .ref cc := by rw [List.getD_eq_getElem?_getD, List.getElem?_eq_getElem hj, w1]; rfl
              rw [eg]
              refine ⟨1, rfl, _, c[j]'(by omega), .inr (SqT.of (r2 _ _ (s5 _ _ w2))), atI_last _ _, _, r1, by simp; omega, ?_, r2.put hD, _, rfl⟩
              rw [upd_same, List.take_add_one, List.getElem?_eq_getElem (show j < c.length by omega)]; rfl
            · rintro τ H6 ⟨r1, r2, v1, rfl⟩
              rw [List.take_of_length_le (by omega)] at r1
              exact ⟨L, D, _, c, rfl, rfl, r2 _ _ g5, r1, by omega, _, _, rfl, by rw [upd_same, etk], (s5.trans r2).put hL, by rw [upd_ne nLp]; exact r2 _ _ gp5, by rw [etk, List.length_append]; omega⟩
          · rcases hw with rfl | rfl <;> decide +kernel
        · have hnm : wh ≠ "maker" := by rcases hw with rfl | rfl <;> decide +kernel
          refine ⟨rfl, _, rfl, iteB (fun c => absurd c (by simp [hnm])) (fun _ => ?_)⟩
          refine ⟨(show 2 ≤ sizeLine by decide), fun b1 hb1 => ⟨_, .inr (SqT.of upd_same), ?_, rfl, _, rfl, ?_⟩⟩
          · rcases hw with rfl | rfl <;> rfl
          have s5 := s4.trans (Same.upd hb1 (.tup [.str "parts", .str "cases"]))
          have g5 := Same.upd hb1 (.tup [.str "parts", .str "cases"]) _ _ g4
          have gp5 := Same.upd hb1 (.tup [.str "parts", .str "cases"]) _ _ gp4
          generalize upd H4 b1 (.tup [.str "parts", .str "cases"]) = H5 at s5 g5 gp5
          refine iteB (fun c => absurd c ?_) (fun _ => ?_)
          · rcases hw with rfl | rfl <;> decide +kernel
          · exact ⟨_, _, rfl, by rw [g5, etk, List.append_nil], s5, gp5, by rw [etk, List.append_nil]; omega⟩
      · rintro σ' H3 ⟨v2, v3, rfl, g1, s3, gp3, _⟩
        rw [List.take_of_length_le (by simp; omega)] at g1
        exact hnx _ _ ⟨v2, v3, rfl, by rw [g1, mo.fl], s3⟩
    · rintro σ' H3 ⟨v2, v3, rfl, g1, s3⟩
      exact k L H3 hL g1 s3
def spAtM : Sp := fun vs H Q _ => ∃ (v m : V) (q : Addr) (path : List Nat), vs = [v, .ref q] ∧ H q = some (.tup (intsV path)) ∧ AtM H v path m ∧ ∀ H', Same H H' → Q m H'
theorem ok_maker_at (T : Txt K mg w) (F_makers_in : FnK P w K mg base 1 "makers_in" ["maker"] spParts) : FnK P w K mg base 2 "maker_at" ["maker", "place"] spAtM := by
  refine T.t_maker_at.okS (k := 1) sc_maker_at (fun vs H Q E h => ?_) (fun f cdv A outer s H vs Q E hr h => ?_)
  · obtain ⟨v, m, q, path, rfl, _⟩ := h
    rfl
  · obtain ⟨v, m, q, path, rfl, hq, ha, k⟩ := h
    have hu0 := Nat.lt_of_succ_lt (hu_of hr)
    have hil : (intsV path).length = path.length := by simp [intsV]
    refine ⟨_, (sb_cons (s_for PassesOwn.never rfl (i_K K (zv 1)) (g_name (i := 2) sc_maker_at.nd rfl (Or.inl rfl)) (sb_one (s_set (i := 0) sc_maker_at.nd rfl (Or.inl rfl) (z_ix (ix_K K) (z_fn F_makers_in (hr.mono (by decide)) (sa_Name (zv 0) sa_nil)) (zv 2) (fun _ _ => rfl)))))
      (sb_one (s_ret (zv 0)))), ?_⟩
    refine tSeq_by (fun σ' H' => ∃ v2, σ' = [some m, some (.ref q), v2] ∧ Same H H') ?_ ?_
    · intro nx hnx
      refine Or.inr ⟨⟨_, SqT.of hq⟩, for_by (itn_tup (intsV path)) (fun i σ' H' => ∃ v' v2, σ' = [some v', some (.ref q), v2] ∧ AtM H v' (path.drop i) m ∧ Same H H') ⟨v, none, rfl, ha, Same.refl H⟩ (by rintro i τ H' _ ⟨_, _, _, _, s'⟩; exact SqT.of (s' _ _ hq)) ?_ ?_⟩
      · rintro i σ' H1 hi ⟨v', v2, rfl, h1, s1⟩
        rw [hil] at hi
        have eg : (intsV path).getD i .non = .int ((path[i] : Nat) : Int) := by
          rw [List.getD_eq_getElem?_getD, List.getElem?_eq_getElem (by omega)]; simp [intsV]
        rw [eg]
        rw [List.drop_eq_getElem_cons hi] at h1
        generalize path[i] = kk at h1
        cases h1 with
        | @cons _ m2 _ ks _ _ hsh hk hat =>
          refine ⟨v', ks, rfl, hsh.tk s1.ts, fun L H2 hL gL s2 => ⟨ks, m2, .inl (SqL.of gL), atI_nat hk, m2, _, rfl, hat, s1.trans s2⟩⟩
      · rintro σ' H1 ⟨v', v2, rfl, h1, s1⟩
        rw [hil, List.drop_length] at h1
        cases h1
        exact hnx _ _ ⟨v2, rfl, s1⟩
    · rintro σ' H1 ⟨v2, rfl, s1⟩
      exact k H1 s1
def spEndless : Sp := fun vs H Q _ => vs = [] ∧ ∀ v H', Same H H' → MkT H' 4 9 v → Q v H'
theorem mk_get {H : Hp} {a : Addr} {z : Str} (e : H a = some (.tup [.str "get", .str z])) : MkT H 1 1 (.ref a) := .mk (ss := []) (.get e) rfl (fun i h => absurd h (by simp)) rfl
theorem mk_one {H : Hp} {n s : Nat} {v m : V} (h : Shp H v [m]) (hm : MkT H n s m) : MkT H (n + 1) (1 + s) v := .mk (ss := [s]) h rfl (fun i h1 h2 => by
  match i, h1 with
  | 0, _ => exact hm) (by simp)
theorem mk_two {H : Hp} {n s s' : Nat} {v m m' : V} (h : Shp H v [m, m']) (hm : MkT H n s m) (hm' : MkT H n s' m') : MkT H (n + 1) (1 + s + s') v := .mk (ss := [s, s']) h rfl (fun i h1 h2 => by
  match i, h1 with
  | 0, _ => exact hm
  | 1, _ => exact hm') (by simp; omega)
theorem ok_law_endless (T : Txt K mg w) : FnK P w K mg base 1 "_law_endless" [] spEndless := by
  refine T.t_law_endless.okS sc_law_endless (fun vs H Q E h => ?_) (fun f cdv A outer s H vs Q E hr h => ?_)
  · obtain ⟨rfl, _⟩ := h
    rfl
  · obtain ⟨rfl, k⟩ := h
    refine ⟨_, (sb_cons (s_set (i := 0) sc_law_endless.nd rfl (Or.inl rfl) (z_tup (sa_Constant z_str (sa_Constant z_str (sa_Constant z_str (sa_Tuple (z_tup (sa_Constant z_str (sa_Tuple (z_tup (sa_Constant z_str (sa_Constant z_str sa_nil))) (sa_Tuple (z_tup (sa_Constant z_str (sa_Constant z_str sa_nil))) sa_nil)))) sa_nil))))))
      (sb_one (s_ret (z_tup (sa_Constant z_str (sa_Name (zv 0) (sa_Name (zv 0) sa_nil))))))), ?_⟩
    refine tSeq_set ⟨(show 2 ≤ sizeLine by decide), fun a1 h1 => ⟨(show 2 ≤ sizeLine by decide), fun a2 h2 => ⟨(show 3 ≤ sizeLine by decide), fun a3 h3 => ⟨(show 4 ≤ sizeLine by decide), fun a4 h4 => ?_⟩⟩⟩⟩
    have s1 := Same.upd h1 (.tup [.str "get", .str "v"])
    have g1 : upd H a1 (.tup [.str "get", .str "v"]) a1 = some (.tup [.str "get", .str "v"]) := upd_same
    generalize upd H a1 (.tup [.str "get", .str "v"]) = H1 at *
    have s2 := Same.upd h2 (.tup [.str "get", .str "v"])
    have g2 : upd H1 a2 (.tup [.str "get", .str "v"]) a2 = some (.tup [.str "get", .str "v"]) := upd_same
    generalize upd H1 a2 (.tup [.str "get", .str "v"]) = H2 at *
    have s3 := Same.upd h3 (.tup [.str "call", .ref a1, .ref a2])
    have g3 : upd H2 a3 (.tup [.str "call", .ref a1, .ref a2]) a3 = some (.tup [.str "call", .ref a1, .ref a2]) := upd_same
    generalize upd H2 a3 (.tup [.str "call", .ref a1, .ref a2]) = H3 at *
    have s4 := Same.upd h4 (.tup [.str "fn", .str "v", .str "dn", .ref a3])
    have g4 : upd H3 a4 (.tup [.str "fn", .str "v", .str "dn", .ref a3]) a4 = some (.tup [.str "fn", .str "v", .str "dn", .ref a3]) := upd_same
    generalize upd H3 a4 (.tup [.str "fn", .str "v", .str "dn", .ref a3]) = H4 at *
    refine ⟨(show 3 ≤ sizeLine by decide), fun a5 h5 => ?_⟩
    have s5 := Same.upd h5 (.tup [.str "call", .ref a4, .ref a4])
    have g5 : upd H4 a5 (.tup [.str "call", .ref a4, .ref a4]) a5 = some (.tup [.str "call", .ref a4, .ref a4]) := upd_same
    generalize upd H4 a5 (.tup [.str "call", .ref a4, .ref a4]) = H5 at *
    have m1 := mk_get (s5 _ _ (s4 _ _ (s3 _ _ (s2 _ _ g1))))
    have m2 := mk_get (s5 _ _ (s4 _ _ (s3 _ _ g2)))
    have m3 := mk_two (.call (s5 _ _ (s4 _ _ g3))) m1 m2
    have m4 := mk_one (.fn (s5 _ _ g4)) m3
    exact k _ H5 ((((s1.trans s2).trans s3).trans s4).trans s5) (mk_two (.call g5) m4 m4)
def BN : List Str := ["v", "va", "u", "x"]
def spBound (K : PySem.W.Frag) : Sp := fun vs H Q _ => ∃ (H0 : Hp) (p : Addr) (t : Nat), vs = [.ref p] ∧ NxAt K H0 H p t ∧ t < 900000 ∧ ∀ (z : Str) (H' : Hp), z ∈ BN → NxAt K H0 H' p (t + 1) → Sm p p H H' → Q (.str z) H'
theorem ok_law_name_bound (T : Txt K mg w) : FnK P w K mg base 3 "_law_name_bound" ["_law_pen"] (spBound K) := by
  have F_law_next : FnK P w K mg base 2 "_law_next" ["_law_pen", "_law_many"] (spNx K) := ok_law_nextS T
  refine T.t_law_name_bound.okS sc_law_name_bound (fun vs H Q E h => ?_) (fun f cdv A outer s H vs Q E hr h => ?_)
  · obtain ⟨H0, p, t, rfl, _⟩ := h
    rfl
  · obtain ⟨H0, p, t, rfl, hn, ht, k⟩ := h
    refine ⟨_, (sb_one (s_ret (z_ix (ix_K K) (z_lst (sa_Constant z_str (sa_Constant z_str (sa_Constant z_str (sa_Constant z_str sa_nil))))) (z_fn F_law_next (hr.mono (by decide)) (sa_Name (zv 0) (sa_Constant z_int sa_nil))) (fun _ _ => rfl)))), ?_⟩
    refine ⟨(show 4 ≤ sizeLine by decide), fun L hL => ?_⟩
    have s1 := Same.upd hL (.lst (BN.map V.str))
    have gL : upd H L (.lst (BN.map V.str)) L = some (.lst (BN.map V.str)) := upd_same
    have nLp : L ≠ p := hn.ne hL
    have hn1 := hn.same s1
    refine ⟨H0, p, 4, t, rfl, hn1, ⟨by decide, by decide⟩, ht, fun r H2 r0 r1 hn2 sm2 => ?_⟩
    obtain ⟨c, hc1, hc2⟩ := atI_some (BN.map V.str) r r0 r1
    obtain ⟨z, hz, rfl⟩ := List.mem_map.mp (List.mem_of_getElem? hc1)
    exact ⟨_, _, .inl (SqL.of (sm2 _ _ gL nLp nLp)), hc2, k z H2 hz hn2 (s1.sm.trans sm2)⟩
theorem hd_ok_app {ns ns2 : List Str} {h : Hd} (ok : h.ok ns) : h.ok (ns ++ ns2) := by
  cases h with
  | one s => exact ok
  | as y => exact ⟨ok.1, List.mem_append_left _ ok.2⟩
  | way x y => exact ⟨ok.1, ok.2.1, List.mem_append_left _ ok.2.2.1, List.mem_append_left _ ok.2.2.2⟩
  | prs s ps => exact ⟨ok.1, fun p hp => ⟨(ok.2.1 p hp).1, (ok.2.1 p hp).2.1, List.mem_append_left _ (ok.2.1 p hp).2.2⟩, ok.2.2⟩
theorem ahd_app {ns ns2 : List Str} {n : Str} {o : Option Str} (h : Ahd ns n o) : Ahd (ns ++ ns2) n o := fun y e => by
  obtain ⟨i, j, h1, h2, h3⟩ := h y e
  have hi : i < ns.length := (List.getElem?_eq_some_iff.mp h2).1
  have hj : j < ns.length := (List.getElem?_eq_some_iff.mp h3).1
  exact ⟨i, j, h1, by rw [List.getElem?_append_left hi]; exact h2, by rw [List.getElem?_append_left hj]; exact h3⟩
def spMkTell (K : PySem.W.Frag) : Sp := fun vs H Q _ => ∃ (H0 : Hp) (p : Addr) (most : Int) (t : Nat), vs = [.ref p, .int most] ∧ NxAt K H0 H p t ∧ t + 600 < 900000 ∧ (1 ≤ most ∧ most ≤ 8) ∧
  ∀ (a : Addr) (xs : List V) (rows : List Rw2) (ns : List Str) (H' : Hp), RT H' a xs rows ns WW → (∀ n ∈ ns, n ∈ N8 ++ (["nn", "dn"] : List Str)) → NxAt K H0 H' p (t + 600) → Sm p p H H' → Q (.ref a) H'
theorem ok_law_maker_telling (T : Txt K mg w) : FnK P w K mg base 6 "_law_maker_telling" ["_law_pen", "_law_most"] (spMkTell K) := by
  have F_law_telling : FnK P w K mg base 5 "_law_telling" ["_law_pen", "_law_most"] (spTelling5 K) := ok_law_telling T
  refine T.t_law_maker_telling.okS sc_law_maker_telling (fun vs H Q E h => ?_) (fun f cdv A outer s H vs Q E hr h => ?_)
  · obtain ⟨H0, p, most, t, rfl, _⟩ := h
    rfl
  · obtain ⟨H0, p, most, t, rfl, hn, ht, hm, k⟩ := h
    have hsz : sizeLine = 16777216 := sizeLine_eq
    refine ⟨_, (sb_one (s_ret (z_op (op_catTK K) (z_fn F_law_telling (hr.mono (by decide)) (sa_Name (zv 0) (sa_Name (zv 1) sa_nil))) (z_tup (sa_Tuple (z_tup (sa_Constant z_str (sa_Tuple (z_tup (sa_Constant z_str sa_nil)) sa_nil))) (sa_Tuple (z_tup (sa_Constant z_str (sa_Tuple (z_tup (sa_Constant z_str (sa_Constant z_str (sa_Constant z_str sa_nil)))) sa_nil))) sa_nil)))))), ?_⟩
    refine ⟨H0, p, most, t, rfl, hn, ht, hm, fun a xs rows ns H1 rt hle h8 hn1 sm1 => ?_⟩
    have hrl := rt.rl
    have hxl := rt.rv.len
    have pos := rt.pos
    refine ⟨(show 1 ≤ sizeLine by decide), fun b1 h1 => ⟨(show 2 ≤ sizeLine by decide), fun c1 h2 => ⟨(show 3 ≤ sizeLine by decide), fun b2 h3 => ⟨(show 2 ≤ sizeLine by decide), fun c2 h4 => ⟨(show 2 ≤ sizeLine by decide), fun q h5 => ?_⟩⟩⟩⟩⟩
    have s1 := Same.upd h1 (.tup [.str "none"])
    have g1 : upd H1 b1 (.tup [.str "none"]) b1 = some (.tup [.str "none"]) := upd_same
    generalize upd H1 b1 (.tup [.str "none"]) = H2 at *
    have s2 := Same.upd h2 (.tup [.str "nn", .ref b1])
    have g2 : upd H2 c1 (.tup [.str "nn", .ref b1]) c1 = some (.tup [.str "nn", .ref b1]) := upd_same
    generalize upd H2 c1 (.tup [.str "nn", .ref b1]) = H3 at *
    have s3 := Same.upd h3 (.tup [.str "way", .str "dn", .str "nn"])
    have g3 : upd H3 b2 (.tup [.str "way", .str "dn", .str "nn"]) b2 = some (.tup [.str "way", .str "dn", .str "nn"]) := upd_same
    generalize upd H3 b2 (.tup [.str "way", .str "dn", .str "nn"]) = H4 at *
    have s4 := Same.upd h4 (.tup [.str "dn", .ref b2])
    have g4 : upd H4 c2 (.tup [.str "dn", .ref b2]) c2 = some (.tup [.str "dn", .ref b2]) := upd_same
    generalize upd H4 c2 (.tup [.str "dn", .ref b2]) = H5 at *
    have s5 := Same.upd h5 (.tup [.ref c1, .ref c2])
    have g5 : upd H5 q (.tup [.ref c1, .ref c2]) q = some (.tup [.ref c1, .ref c2]) := upd_same
    generalize upd H5 q (.tup [.ref c1, .ref c2]) = H6 at *
    have sA : Same H1 H6 := (((s1.trans s2).trans s3).trans s4).trans s5
    refine ⟨a, q, xs, [.ref c1, .ref c2], rfl, rfl, SqT.of (sA _ _ rt.at_), SqT.of g5, fun z => by rw [z] at hxl; simp at hxl; omega, by simp; omega, fun z => by simp at z, fun _ d hd => ?_⟩
    have sd := Same.upd hd (.tup (xs ++ [.ref c1, .ref c2]))
    have gd : upd H6 d (.tup (xs ++ [.ref c1, .ref c2])) d = some (.tup (xs ++ [.ref c1, .ref c2])) := upd_same
    generalize upd H6 d (.tup (xs ++ [.ref c1, .ref c2])) = H7 at *
    have sB := sA.trans sd
    have r1 : RV H7 (xs ++ [.ref c1]) (rows ++ ([("nn", .one "none")] : List Rw2)) := (rt.rv.tk sB.ts).snoc (sd _ _ (s5 _ _ (s4 _ _ (s3 _ _ g2)))) (.one (sd _ _ (s5 _ _ (s4 _ _ (s3 _ _ (s2 _ _ g1))))))
    have r2 : RV H7 (xs ++ [.ref c1] ++ [.ref c2]) (rows ++ ([("nn", .one "none")] : List Rw2) ++ ([("dn", .way "dn" "nn")] : List Rw2)) := r1.snoc (sd _ _ (s5 _ _ g4)) (.way (sd _ _ (s5 _ _ (s4 _ _ g3))))
    have nin : ∀ z ∈ (["nn", "dn"] : List Str), z ∉ ns := fun z hz hzn => by
      have := h8 z hzn
      simp only [List.mem_cons, List.mem_nil_iff, or_false] at hz
      rcases hz with rfl | rfl <;> exact absurd this (by decide)
    have nlen : ns.length ≤ 8 := by omega
    refine k d _ (rows ++ ([("nn", .one "none")] : List Rw2) ++ ([("dn", .way "dn" "nn")] : List Rw2)) (ns ++ (["nn", "dn"] : List Str)) H7 ⟨?_, r2, ?_, ?_, ?_, ?_, ?_, ?_, by simp, by simp; omega⟩ (fun n hn' => ?_) (hn1.same sB) (sm1.trans sB.sm)
    · rw [gd]; simp
    · simp only [List.map_append, List.map_cons, List.map_nil, List.append_assoc]
      exact rt.nm.append_right _
    · refine List.nodup_append.mpr ⟨rt.nd, by decide, fun x hx y hy e => nin y hy (e ▸ hx)⟩
    · intro r hr
      rcases List.mem_append.mp hr with hr | hr
      · rcases List.mem_append.mp hr with hr | hr
        · exact ⟨(rt.ok r hr).1, hd_ok_app (rt.ok r hr).2⟩
        · rw [List.mem_singleton.mp hr]; exact ⟨by decide +kernel, .inr rfl⟩
      · rw [List.mem_singleton.mp hr]; exact ⟨by decide +kernel, by decide +kernel, by decide +kernel, by simp, by simp⟩
    · intro n hn'
      rcases List.mem_append.mp hn' with h | h
      · exact rt.wd n h
      · simp only [List.mem_cons, List.mem_nil_iff, or_false] at h
        rcases h with rfl | rfl <;> exact wd_ascii (by decide) (by decide)
    · intro r hr
      rcases List.mem_append.mp hr with hr | hr
      · rcases List.mem_append.mp hr with hr | hr
        · exact ahd_app (rt.ah r hr)
        · rw [List.mem_singleton.mp hr]; exact fun _ h => nomatch h
      · rw [List.mem_singleton.mp hr]; exact fun _ h => nomatch h
    · intro r hr z hz
      rcases List.mem_append.mp hr with hr | hr
      · rcases List.mem_append.mp hr with hr | hr
        · exact rt.ww r hr z hz
        · rw [List.mem_singleton.mp hr] at hz; exact nomatch hz
      · rw [List.mem_singleton.mp hr] at hz; exact nomatch hz
    · rcases List.mem_append.mp hn' with h | h
      · exact List.mem_append_left _ (h8 n h)
      · exact List.mem_append_right _ h
def NN : Nat → Nat
  | 0 => 10
  | d + 1 => 12 * NN d + 40
def KnK (kvs : List (Key × V)) : Prop := ∀ e ∈ kvs, ∃ z y : Str, e = (.inr z, .str y)
def spMd (K : PySem.W.Frag) (lim : Nat → Prop) (dep cost siz : Nat → Nat) : Sp := fun vs H Q _ => ∃ (H0 : Hp) (p a kn : Addr) (t : Nat) (xs : List V) (rows : List Rw2) (ns : List Str) (kvs : List (Key × V)) (x : Str) (d : Nat),
  vs = [.ref p, .ref a, .str x, .ref kn, .int (d : Int)] ∧ NxAt K H0 H p t ∧ t + cost d < 900000 ∧ RT H a xs rows ns WW ∧ x ∈ ns ∧ H kn = some (.dK kvs) ∧ KnK kvs ∧ kvs.length + d ≤ 8 ∧ lim d ∧
  ∀ (v : V) (s : Nat) (H' : Hp), MkT H' (dep d) s v → s ≤ siz d → NxAt K H0 H' p (t + cost d) → Sm p p H H' → Q v H'
abbrev spFr (K : PySem.W.Frag) (n : Nat) : Sp := spMd K (fun d => d < n) (fun d => 4 + 3 * d) NN NN
abbrev spSo (K : PySem.W.Frag) (n : Nat) : Sp := spMd K (fun d => 0 < d ∧ d < n) (fun d => 4 + 3 * d) NN NN
abbrev spWr (K : PySem.W.Frag) (n : Nat) : Sp := spMd K (fun d => d < n) (fun d => 6 + 3 * d) (fun d => NN d + 1) (fun d => NN d + 3)
structure MW (K : PySem.W.Frag) (H0 Hs H : Hp) (p a kn : Addr) (t : Nat) (xs : List V) (rows : List Rw2) (ns : List Str) (kvs : List (Key × V)) : Prop where
  hn : NxAt K H0 H p t
  rt : RT H a xs rows ns WW
  kn : H kn = some (.dK kvs)
  sm : Sm p p Hs H
  s0 : Sm p p H0 Hs
section
variable {H0 Hs H H' : Hp} {p a kn D : Addr} {t t' : Nat} {xs : List V} {rows : List Rw2} {ns : List Str} {kvs : List (Key × V)}
theorem MW.nk (h : MW K H0 Hs H p a kn t xs rows ns kvs) : kn ≠ p := fun q => by
  obtain ⟨_, _, _, _, z, _⟩ := h.hn.ex
  have := h.kn
  rw [q, z] at this; cases this
theorem MW.same (h : MW K H0 Hs H p a kn t xs rows ns kvs) (s : Same H H') : MW K H0 Hs H' p a kn t xs rows ns kvs := ⟨h.hn.same s, h.rt.tk s.ts, s _ _ h.kn, h.sm.trans s.sm, h.s0⟩
theorem MW.draw (h : MW K H0 Hs H p a kn t xs rows ns kvs) (hn' : NxAt K H0 H' p t') (s : Sm p p H H') : MW K H0 Hs H' p a kn t' xs rows ns kvs := ⟨hn', h.rt.tk (h.hn.ts s), s _ _ h.kn h.nk h.nk, h.sm.trans s, h.s0⟩
theorem MW.mono (h : MW K H0 Hs H p a kn t xs rows ns kvs) (l : t ≤ t') : MW K H0 Hs H p a kn t' xs rows ns kvs := ⟨h.hn.mono l, h.rt, h.kn, h.sm, h.s0⟩
theorem MW.free (h : MW K H0 Hs H p a kn t xs rows ns kvs) (e : H D = none) : Hs D = none := h.sm.free e (h.hn.ne e) (h.hn.ne e)
theorem MW.neD (h : MW K H0 Hs H p a kn t xs rows ns kvs) {kv : List (Key × V)} (e : H D = some (.dK kv)) : D ≠ p := fun q => by
  obtain ⟨_, _, _, _, z, _⟩ := h.hn.ex
  rw [q, z] at e; cases e
theorem tk_dput {kv kv' : List (Key × V)} (e : H D = some (.dK kv)) : Tk H (upd H D (.dK kv')) := (Tk.refl).set e (by intro _ z; cases z)
theorem MW.dput (h : MW K H0 Hs H p a kn t xs rows ns kvs) {kv kv' : List (Key × V)} (e : H D = some (.dK kv)) (f : Hs D = none) (nk : kn ≠ D) : MW K H0 Hs (upd H D (.dK kv')) p a kn t xs rows ns kvs :=
  have np := h.neD e
  ⟨h.hn.put np (h.s0.free f np np), h.rt.tk (tk_dput e), by rw [upd_ne nk]; exact h.kn, h.sm.upd f, h.s0⟩
theorem MW.lput (h : MW K H0 Hs H p a kn t xs rows ns kvs) {kv kv' : List V} (e : H D = some (.lst kv)) (f : Hs D = none) (np : D ≠ p) : MW K H0 Hs (upd H D (.lst kv')) p a kn t xs rows ns kvs :=
  ⟨h.hn.put np (h.s0.free f np np), h.rt.tk ((Tk.refl).set e (by intro _ z; cases z)), by rw [upd_ne (fun q => by have := h.kn; rw [q, e] at this; cases this)]; exact h.kn, h.sm.upd f, h.s0⟩
theorem KnK.put (h : KnK kvs) (z y : Str) : KnK (putK kvs (.inr z) (.str y)) := fun e he => by
  unfold putK at he
  split at he
  · obtain ⟨e', h1, rfl⟩ := List.mem_map.mp he
    split
    · obtain ⟨z', y', rfl⟩ := h e' h1
      exact ⟨z', y, rfl⟩
    · exact h e' h1
  · rcases List.mem_append.mp he with h1 | h1
    · exact h e h1
    · exact ⟨z, y, List.mem_singleton.mp h1⟩
theorem putK_few (z y : Str) : (putK kvs (.inr z) (.str y)).length ≤ kvs.length + 1 := by
  unfold putK
  split <;> simp
theorem KnK.keys (h : KnK kvs) : ∃ ks : List Str, kvs.map (·.1) = ks.map Sum.inr ∧ ks.length = kvs.length ∧ ∀ z ∈ ks, ∃ y, valV kvs (.inr z) = some (.str y) := by
  induction kvs with
  | nil => exact ⟨[], rfl, rfl, fun z hz => nomatch hz⟩
  | cons e r ih =>
    obtain ⟨ks, h1, h2, h3⟩ := ih fun e' he => h e' (List.mem_cons_of_mem _ he)
    obtain ⟨z, y, rfl⟩ := h e (List.mem_cons_self ..)
    refine ⟨z :: ks, by simp [h1], by simp [h2], fun z' hz => ?_⟩
    by_cases ez : z = z'
    · subst ez
      exact ⟨y, valV_pos rfl⟩
    · rw [valV_neg (by simpa using ez)]
      rcases List.mem_cons.mp hz with rfl | hz
      · exact absurd rfl ez
      · exact h3 z' hz
end
def Hd.s0 : Hd → Str
  | .one s => s
  | .as _ => "as"
  | .way _ _ => "way"
  | .prs s _ => s
theorem hv_first {H : Hp} {v : V} {h : Hd} (q : HV H v h) : ∃ b ys, v = .ref b ∧ H b = some (.tup (.str (Hd.s0 h) :: ys)) := by
  cases q with
  | one e => exact ⟨_, _, rfl, e⟩
  | as e => exact ⟨_, _, rfl, e⟩
  | way e => exact ⟨_, _, rfl, e⟩
  | prs e _ _ => exact ⟨_, _, rfl, e⟩
theorem hv_isP {H : Hp} {v : V} {h : Hd} {ns : List Str} (q : HV H v h) (ok : h.ok ns) : ∃ a xs ds, v = .ref a ∧ H a = some (.tup xs) ∧ xs.length = ds.length ∧ (∀ i (h : i < xs.length) (h' : i < ds.length), DD H xs[i] ds[i]) ∧ ((Dt.tup ds).is2 "pick" = false → h ≠ .prs "pick" []) := by
  have t := (q.tx ok).dd
  have key : ∀ d, DD H v d → d = h.dt → ∃ a xs ds, v = .ref a ∧ H a = some (.tup xs) ∧ xs.length = ds.length ∧ (∀ i (h : i < xs.length) (h' : i < ds.length), DD H xs[i] ds[i]) ∧ ((Dt.tup ds).is2 "pick" = false → h ≠ .prs "pick" []) := by
    intro d hd e
    cases hd with
    | tup e1 e2 _ e3 => exact ⟨_, _, _, rfl, e1, e2, e3, fun hf hh => by subst hh; rw [e] at hf; exact absurd hf (by decide +kernel)⟩
    | str _ => cases h <;> cases e
    | _ => cases h <;> cases e
  exact key _ t rfl
theorem nn_pos : ∀ d, 10 ≤ NN d
  | 0 => Nat.le_refl _
  | d + 1 => by have := nn_pos d; simp only [NN]; omega
def RowMk (H : Hp) (n : Nat) (zs : List V) (dep tot : Nat) : Prop := ∃ (ms : List V) (ss : List Nat), RowM H n zs ms ∧ ms.length = ss.length ∧ (∀ j (h : j < ms.length) (h' : j < ss.length), MkT H dep ss[j] ms[j]) ∧ ss.sum ≤ tot
theorem RowMk.tk {H H' : Hp} {n : Nat} {zs : List V} {dep tot : Nat} (h : RowMk H n zs dep tot) (s : Tk H H') : RowMk H' n zs dep tot := by
  obtain ⟨ms, ss, h1, h2, h3, h4⟩ := h
  exact ⟨ms, ss, h1.tk s, h2, fun j a b => (h3 j a b).tk s, h4⟩
theorem RowMk.nil {H : Hp} {n dep : Nat} : RowMk H n [] dep 0 := ⟨[], [], ⟨rfl, by simp, fun i h => absurd h (by simp)⟩, rfl, fun j h => absurd h (by simp), Nat.le_refl _⟩
theorem RowMk.snoc {H : Hp} {n : Nat} {zs : List V} {dep tot s tot' : Nat} (h : RowMk H n zs dep tot) {c : Addr} {ys : List V} {m : V} (e : H c = some (.tup (ys ++ [m]))) (hy : ys.length = n) (hm : MkT H dep s m) (hl : zs.length < 1000) (ht : tot + s ≤ tot') : RowMk H n (zs ++ [.ref c]) dep tot' := by
  obtain ⟨ms, ss, h1, h2, h3, h4⟩ := h
  have hlen := h1.len
  refine ⟨ms ++ [m], ss ++ [s], ⟨by simp [hlen], by simp; omega, fun i g1 g2 => ?_⟩, by simp [h2], fun j g1 g2 => ?_, by rw [List.sum_append]; simp; omega⟩
  · by_cases hi : i < zs.length
    · rw [List.getElem_append_left hi, List.getElem_append_left (by omega)]
      exact h1.at_ i hi (by omega)
    · obtain rfl : i = zs.length := by simp at g1; omega
      refine ⟨c, ys, by simp, ?_, hy⟩
      rw [e]
      have : (ms ++ [m])[zs.length]'g2 = m := by
        rw [List.getElem_append_right (by omega)]; simp [hlen]
      rw [this]
  · by_cases hj : j < ms.length
    · rw [List.getElem_append_left hj, List.getElem_append_left (by omega)]
      exact h3 j hj (by omega)
    · obtain rfl : j = ms.length := by simp at g1; omega
      rw [List.getElem_append_right (by omega), List.getElem_append_right (by omega)]
      simpa using hm
theorem RowMk.fall {H : Hp} {n : Nat} {zs : List V} {dep tot tot' dep' : Nat} (h : RowMk H n zs dep tot) (hd : dep ≤ dep') (ht : tot ≤ tot') : RowMk H n zs dep' tot' := by
  obtain ⟨ms, ss, h1, h2, h3, h4⟩ := h
  exact ⟨ms, ss, h1, h2, fun j a b => (h3 j a b).up hd, by omega⟩
theorem mk_box {H : Hp} {a b : Addr} {zs : List V} {dep tot : Nat} (e : H a = some (.tup [.str "box", .ref b])) (e' : H b = some (.tup zs)) (h : RowMk H 1 zs dep tot) : ∃ s, s ≤ 1 + tot ∧ MkT H (dep + 1) s (.ref a) := by
  obtain ⟨ms, ss, h1, h2, h3, h4⟩ := h
  exact ⟨1 + ss.sum, by omega, .mk (.box e e' h1) h2 h3 rfl⟩
theorem mk_split {H : Hp} {a b : Addr} {m : V} {zs : List V} {dep tot s0 : Nat} (e : H a = some (.tup [.str "split", m, .ref b])) (e' : H b = some (.tup zs)) (hm : MkT H dep s0 m) (h : RowMk H 2 zs dep tot) : ∃ s, s ≤ 1 + s0 + tot ∧ MkT H (dep + 1) s (.ref a) := by
  obtain ⟨ms, ss, h1, h2, h3, h4⟩ := h
  refine ⟨1 + (s0 :: ss).sum, by simp; omega, .mk (.split e e' h1) (by simp [h2]) (fun j a b => ?_) rfl⟩
  cases j with
  | zero => exact hm
  | succ j => exact h3 j (by simpa using a) (by simpa using b)
theorem mk_ebox {H : Hp} {a b : Addr} (e : H a = some (.tup [.str "box", .ref b])) (e' : H b = some (.tup [])) : MkT H 1 1 (.ref a) := .mk (ss := []) (.box e e' ⟨rfl, by simp, fun i h => absurd h (by simp)⟩) rfl (fun i h => absurd h (by simp)) rfl
theorem tif_by {tc : TT} {t u : TS} {D : Ends} {σ : St} {H : Hp} (M : Bool → Hp → Prop) (h1 : ∀ Q : Bool → Hp → Prop, (∀ c H', M c H' → Q c H') → tc σ H Q) (h2 : ∀ H', M true H' → t D σ H') (h3 : ∀ H', M false H' → u D σ H') : tIfS tc t u D σ H := h1 _ fun c H' m => iteB (fun e => h2 H' (e ▸ m)) (fun e => h3 H' (e ▸ m))
set_option maxHeartbeats 2000000 in
theorem ok_law_forS (T : Txt K mg w) (n : Nat) (F_law_for : FnK P w K mg base (6 + 3 * n) "_law_for" ["_law_pen", "_law_told", "_law_name", "_law_known", "_law_deep"] (spFr K n))
    (F_law_wrapped : FnK P w K mg base (8 + 3 * n) "_law_wrapped" ["_law_pen", "_law_told", "_law_name", "_law_known", "_law_deep"] (spWr K n)) : FnK P w K mg base (8 + 3 * n + 1) "_law_for" ["_law_pen", "_law_told", "_law_name", "_law_known", "_law_deep"] (spFr K (n + 1)) := by
  have F_law_next : FnK P w K mg base 2 "_law_next" ["_law_pen", "_law_many"] (spNx K) := ok_law_nextS T
  have F_law_row_here : FnK P w K mg base 1 "_law_row_here" ["_law_told", "_law_name"] spRowOf := ok_law_row_here T
  have F_law_head_here : FnK P w K mg base 2 "_law_head_here" ["_law_told", "_law_name"] spHeadOf := ok_law_head_here T
  have F_law_any : FnK P w K mg base 3 "_law_any" ["_law_pen", "_law_told"] (spAny K) := ok_law_any T
  have F_law_endless : FnK P w K mg base 1 "_law_endless" [] spEndless := ok_law_endless T
  have F_law_name_bound : FnK P w K mg base 3 "_law_name_bound" ["_law_pen"] (spBound K) := ok_law_name_bound T
  refine T.t_law_for.okS (k := 8 + 3 * n) sc_law_for (fun vs H Q E h => ?_) (fun f cdv A outer s H vs Q E hr h => ?_)
  · obtain ⟨H0, p, a, kn, t, xs, rows, ns, kvs, x, d, rfl, _⟩ := h
    rfl
  · obtain ⟨H0, p, a, kn, t, xs, rows, ns, kvs, x, d, rfl, hn, ht, rt, hx, hk, kk, hkl, hd, k⟩ := h
    have hu := hu_of hr
    have hu0 := Nat.lt_of_succ_lt (hu_of hr)
    have hu20 := hu20_of hr
    have hsz : sizeLine = 16777216 := sizeLine_eq
    obtain ⟨rs, g, nm, rl, hval⟩ := rt.good fun z hz => (ww_ok z hz).2
    have hm : ∀ z, z ∈ ns ↔ z ∈ rs.map (·.1) := fun z => by rw [nm]; exact rt.nm.mem_iff.symm
    obtain ⟨e1, e2, e3⟩ := rt.endIn (fun z hz => (ww_ok z hz).2) hx
    have few := rt.few
    have W : MW K H0 H H p a kn t xs rows ns kvs := ⟨hn, rt, hk, Sm.refl, hn.sm⟩
    refine ⟨_, (sb_cons (s_set (i := 5) sc_law_for.nd rfl (Or.inl rfl) (z_fn F_law_head_here (hr.mono (by omega)) (sa_Name (zv 1) (sa_Name (zv 2) sa_nil))))
      (sb_cons (s_set (i := 6) sc_law_for.nd rfl (Or.inr rfl) (z_fn F_law_row_here (hr.mono (by omega)) (sa_Name (zv 1) (sa_Name (zv 2) sa_nil))))
      (sb_cons (s_lc (i := 7) (own := ["_law_bound"]) (idx := [3, 6]) (N' := ["_law_bound", "_law_known", "_law_row"]) (⟨rfl, by decide +kernel, by decide +kernel, (show ∀ y ∈ Scope.names _, y.2 = NameKind.free → ((defScope s_law_for).names.lookup y.1 = some NameKind.cell ∨ (defScope s_law_for).names.lookup y.1 = some NameKind.free) by decide +kernel), (show ∀ j ∈ ([3, 6] : List Nat), (Scope.names _).lookup ((["_law_pen", "_law_told", "_law_name", "_law_known", "_law_deep", "_law_here", "_law_row", "_law_some", "_law_inner", "_law_bound", "_law_made", "_law_word", "_law_other", "_law_parts_here"] : List Str).getD j "") = some NameKind.free ∧ j < (["_law_pen", "_law_told", "_law_name", "_law_known", "_law_deep", "_law_here", "_law_row", "_law_some", "_law_inner", "_law_bound", "_law_made", "_law_word", "_law_other", "_law_parts_here"] : List Str).length by decide +kernel), rfl⟩) rfl (i_K K (z_callB (call_sortedD rfl) (by rfl) T.n_sorted PyProof.Rows.boot_sorted (sa_Name (zv 3) sa_nil))) (fun _ _ _ _ _ _ => (g_name (i := 0) (show List.Nodup (["_law_bound", "_law_known", "_law_row"] : List Str) by decide +kernel) rfl (Or.inl rfl))) (fun _ _ _ _ _ _ => (c_one (y_cmpR (op_eqD hu0) (z_dget hu (zv 1) (zv 0) (fun _ _ => rfl)) (zv 2) (nomark _)))) (fun _ _ _ _ _ _ => (zv 0)) sc_law_for.nd rfl rfl)
      (sb_cons (s_if (w_and (y_cmpR (op_neD hu0) (zv 7) (z_lst sa_nil) (nomark _)) (w_and1 (y_cmpR op_gtD (z_fn F_law_next (hr.mono (by omega)) (sa_Name (zv 0) (sa_Constant z_int sa_nil))) z_int (nomark _)))).pt (sb_one (s_ret (z_tup (sa_Constant z_str (sa_Subscript (z_ix (ix_K K) (zv 7) (z_fn F_law_next (hr.mono (by omega)) (sa_Name (zv 0) (sa_Call (z_callB (call_lenK K) (by rfl) T.n_len PySem.boot_len (sa_Name (zv 7) sa_nil)) sa_nil))) (fun _ _ => rfl)) sa_nil))))) sb_nil)
      (sb_cons (s_if (w_or (y_cmpR (op_eqD hu0) (zv 4) z_int (nomark _)) (w_or (y_cmpR (op_eqD hu0) (z_ix (ix_K K) (zv 5) z_int (fun _ _ => rfl)) z_str (nomark _)) (w_or1 (y_cmpR (op_eqP K hu20) (zv 5) (z_tup (sa_Constant z_str (sa_Tuple (z_tup sa_nil) sa_nil))) (nomark _))))).pt (sb_one (s_ret (z_fn0 F_law_endless (hr.mono (by omega))))) sb_nil)
      (sb_cons (s_if (y_cmpR (op_eqD hu0) (z_ix (ix_K K) (zv 5) z_int (fun _ _ => rfl)) z_str (nomark _)) (sb_one (s_ret (z_fn F_law_for (hr.mono (by omega)) (sa_Name (zv 0) (sa_Name (zv 1) (sa_Call (z_fn F_law_any (hr.mono (by omega)) (sa_Name (zv 0) (sa_Name (zv 1) sa_nil))) (sa_Name (zv 3) (sa_BinOp (z_op op_subD (zv 4) z_int) sa_nil)))))))) sb_nil)
      (sb_cons (s_if (y_cmpR (op_eqD hu0) (z_ix (ix_K K) (zv 5) z_int (fun _ _ => rfl)) z_str (nomark _)) (sb_cons (s_set (i := 8) sc_law_for.nd rfl (Or.inl rfl) (z_callTy (call_dictD rfl) (by rfl) T.n_dict PyProof.Rows.boot_dict (sa_Name (zv 3) sa_nil)))
      (sb_cons (s_set (i := 9) sc_law_for.nd rfl (Or.inl rfl) (z_fn F_law_name_bound (hr.mono (by omega)) (sa_Name (zv 0) sa_nil)))
      (sb_cons (s_dput hu (zv 8) (zv 9) (z_fn F_law_row_here (hr.mono (by omega)) (sa_Name (zv 1) (sa_Subscript (z_ix (ix_K K) (zv 5) z_int (fun _ _ => rfl)) sa_nil))) rfl)
      (sb_cons (s_set (i := 10) sc_law_for.nd rfl (Or.inl rfl) (z_fn F_law_wrapped (hr.mono (by omega)) (sa_Name (zv 0) (sa_Name (zv 1) (sa_Subscript (z_ix (ix_K K) (zv 5) z_int (fun _ _ => rfl)) (sa_Name (zv 8) (sa_BinOp (z_op op_subD (zv 4) z_int) sa_nil)))))))
      (sb_one (s_ret (z_tup (sa_Constant z_str (sa_Name (zv 9) (sa_Subscript (z_ix (ix_K K) (zv 5) z_int (fun _ _ => rfl)) (sa_Name (zv 10) sa_nil))))))))))) sb_nil)
      (sb_cons (s_if (y_cmpR (op_eqD hu0) (z_ix (ix_K K) (zv 5) z_int (fun _ _ => rfl)) z_str (nomark _)) (sb_cons (s_asg (z_ix (ix_K K) (z_ix (ix_K K) (zv 5) z_int (fun _ _ => rfl)) (z_fn F_law_next (hr.mono (by omega)) (sa_Name (zv 0) (sa_Call (z_callB (call_lenK K) (by rfl) T.n_len PySem.boot_len (sa_Subscript (z_ix (ix_K K) (zv 5) z_int (fun _ _ => rfl)) sa_nil)) sa_nil))) (fun _ _ => rfl)) (g_tup K (n := 2) rfl (gs_cons (g_name (i := 11) sc_law_for.nd rfl (Or.inl rfl)) (gs_cons (g_name (i := 12) sc_law_for.nd rfl (Or.inl rfl)) gs_nil))))
      (sb_one (s_ret (z_tup (sa_Constant z_str (sa_Name (zv 11) (sa_Call (z_fn F_law_wrapped (hr.mono (by omega)) (sa_Name (zv 0) (sa_Name (zv 1) (sa_Name (zv 12) (sa_Name (zv 3) (sa_BinOp (z_op op_subD (zv 4) z_int) sa_nil)))))) sa_nil))))))) sb_nil)
      (sb_cons (s_lc (i := 13) (own := ["_law_word", "_law_other"]) (idx := [0, 1, 3, 4]) (N' := ["_law_word", "_law_other", "_law_pen", "_law_told", "_law_known", "_law_deep"]) (⟨rfl, by decide +kernel, by decide +kernel, (show ∀ y ∈ Scope.names _, y.2 = NameKind.free → ((defScope s_law_for).names.lookup y.1 = some NameKind.cell ∨ (defScope s_law_for).names.lookup y.1 = some NameKind.free) by decide +kernel), (show ∀ j ∈ ([0, 1, 3, 4] : List Nat), (Scope.names _).lookup ((["_law_pen", "_law_told", "_law_name", "_law_known", "_law_deep", "_law_here", "_law_row", "_law_some", "_law_inner", "_law_bound", "_law_made", "_law_word", "_law_other", "_law_parts_here"] : List Str).getD j "") = some NameKind.free ∧ j < (["_law_pen", "_law_told", "_law_name", "_law_known", "_law_deep", "_law_here", "_law_row", "_law_some", "_law_inner", "_law_bound", "_law_made", "_law_word", "_law_other", "_law_parts_here"] : List Str).length by decide +kernel), rfl⟩) rfl (i_K K (z_ix (ix_K K) (zv 5) z_int (fun _ _ => rfl))) (fun _ _ _ _ _ _ => (g_tup K (n := 2) rfl (gs_cons (g_name (i := 0) (show List.Nodup (["_law_word", "_law_other", "_law_pen", "_law_told", "_law_known", "_law_deep"] : List Str) by decide +kernel) rfl (Or.inl rfl)) (gs_cons (g_name (i := 1) (show List.Nodup (["_law_word", "_law_other", "_law_pen", "_law_told", "_law_known", "_law_deep"] : List Str) by decide +kernel) rfl (Or.inl rfl)) gs_nil)))) (fun _ _ _ _ _ _ => c_nil) (fun _ _ _ _ _ _ => (z_tup (sa_Name (zv 0) (sa_Call (z_fn F_law_wrapped (hr.mono (by omega)) (sa_Name (zv 2) (sa_Name (zv 3) (sa_Name (zv 1) (sa_Name (zv 4) (sa_BinOp (z_op op_subD (zv 5) z_int) sa_nil)))))) sa_nil)))) sc_law_for.nd rfl rfl)
      (sb_cons (s_if (y_cmpR (op_eqD hu0) (z_fn F_law_next (hr.mono (by omega)) (sa_Name (zv 0) (sa_Constant z_int sa_nil))) z_int (nomark _)) (sb_one (s_expr (z_bm K PySem.F.plainAttrs_list PySem.F.slot_list_append PySem.F.type_list_append mt_append (zv 13) (sa_Tuple (z_tup (sa_Constant z_str (sa_Tuple (z_tup (sa_Constant z_str (sa_Tuple (z_tup sa_nil) sa_nil))) sa_nil))) sa_nil)))) sb_nil)
      (sb_one (s_ret (z_tup (sa_Constant z_str (sa_Call (z_callTy (call_tupK K) (by rfl) T.n_tuple PyProof.Rows.boot_tuple (sa_Name (zv 13) sa_nil)) sa_nil))))))))))))))), ?_⟩
    refine tSeq_set ⟨a, xs, rs, _, _, x, rfl, g, (hm x).mp hx, fun v H1 s1 hv => ?_⟩
    have hq0 : HV H v (hdOf rows (endOf rows x)) := hval _ v e1 (by rw [rl] at hv; exact hv)
    have hq := hq0.tk s1.ts
    generalize hdOf rows (endOf rows x) = h at e2 e3 hq
    clear hq0 hval hv
    refine tSeq_set ⟨a, xs, rs, _, _, x, rfl, g.ts s1.ts, (hm x).mp hx, fun H2 s2 => ?_⟩
    generalize rowEnd (nxOf rows) rs.length x = rw
    have W2 := (W.same s1).same s2
    have hq2 := hq.tk s2.ts
    have g2 := (g.ts s1.ts).ts s2.ts
    clear hq W
    obtain ⟨ks, k1, k2, k3⟩ := kk.keys
    refine tSeq_by (fun σ' H' => ∃ (S : Addr) (ss : List Str), σ' = [some (.ref p), some (.ref a), some (.str x), some (.ref kn), some (.int (d : Int)), some v, some (.str rw), some (.ref S), none, none, none, none, none, none] ∧ H' S = some (.lst (ss.map V.str)) ∧ ss.length ≤ 8 ∧ Same H2 H') ?_ ?_
    · intro nx hnx
      refine ⟨kn, kvs, ks, rfl, .inl W2.kn, k1, by omega, fun l ss' hl hp => ?_⟩
      have sl := Same.upd hl (.lst (ss'.map V.str))
      have gl : upd H2 l (.lst (ss'.map V.str)) l = some (.lst (ss'.map V.str)) := upd_same
      generalize upd H2 l (.lst (ss'.map V.str)) = Hl at sl gl
      have hsl := hp.length_eq
      refine Or.inl ⟨⟨_, SqL.of gl⟩, fun D hD => ?_⟩
      refine lc_by (itn_list (ss'.map V.str)) (fun i τ H' => ∃ (v0 : Option V) (zs : List Str), τ = [v0, some (.ref kn), some (.str rw)] ∧ H' D = some (.lst (zs.map V.str)) ∧ zs.length ≤ i ∧ Same Hl H') ⟨none, [], rfl, upd_same, Nat.le_refl _, Same.upd hD _⟩ (by rintro i τ H' _ ⟨_, _, _, _, _, s⟩; exact SqL.of (s _ _ gl)) ?_ ?_
      · rintro i τ H4 hi ⟨v0, zs, rfl, q1, q2, q3⟩
        have hi' : i < ss'.length := by simpa using hi
        have eg : (ss'.map V.str).getD i .non = .str ss'[i] := by simp [List.getD_eq_getElem?_getD, hi']
        rw [eg]
        obtain ⟨y, hy⟩ := k3 ss'[i] (hp.mem_iff.mp (List.getElem_mem hi'))
        refine ⟨kn, .str y, rfl, by rw [← hy]; exact DGet.k (k := Sum.inr ss'[i]) (q3 _ _ (sl _ _ W2.kn)), rfl, _, rfl, iteB (fun _ => ?_) (fun _ => ⟨_, zs, rfl, q1, by omega, q3⟩)⟩
        exact ⟨_, q1, by simp; omega, _, zs ++ [ss'[i]], rfl, by rw [upd_same, List.map_append]; rfl, by simp; omega, q3.put hD⟩
      · rintro τ H4 ⟨v0, zs, rfl, q1, q2, q3⟩
        simp only [List.length_map] at q2
        exact hnx _ _ ⟨D, zs, rfl, q1, by omega, sl.trans q3⟩
    rintro σ' H3 ⟨S, ss, rfl, gS, hS8, s3⟩
    have W3 := W2.same s3
    have hq3 := hq2.tk s3.ts
    have g3 := g2.ts s3.ts
    clear W2 hq2 g2
    have nnd := nn_pos d
    refine tSeq_by (fun σ' H' => σ' = [some (.ref p), some (.ref a), some (.str x), some (.ref kn), some (.int (d : Int)), some v, some (.str rw), some (.ref S), none, none, none, none, none, none] ∧ MW K H0 H H' p a kn (t + 1) xs rows ns kvs ∧ Tk H3 H') ?_ ?_
    · intro nx hnx
      refine tif_by (fun c H' => MW K H0 H H' p a kn (t + 1) xs rows ns kvs ∧ Tk H3 H' ∧ (c = true → ss ≠ [] ∧ H' S = some (.lst (ss.map V.str)) ∧ S ≠ p)) (fun Q hQ => ?_) (fun H4 ⟨W4, tk4, hc⟩ => ?_) (by rintro H4 ⟨W4, tk4, _⟩; exact hnx _ _ ⟨rfl, W4, tk4⟩)
      · refine ⟨(show 0 ≤ sizeLine by decide), fun b hb => ⟨ne_of_none gS hb, _, (Same.upd hb _) _ _ gS, upd_same, _, rfl, iteB (fun c => ?_) (fun c => ?_)⟩⟩
        · have sb := Same.upd hb (.lst [])
          have Wb := W3.same sb
          have nSp : S ≠ p := fun q => by
            obtain ⟨a', ns', u', x', z, _⟩ := W3.hn.ex
            rw [q, z] at gS
            have := congrArg (fun o => match o with | some (HO.lst (y :: _)) => y | _ => V.non) gS
            cases ss with
            | nil => simp at this
            | cons _ _ => simp at this
          refine ⟨H0, p, 3, t, rfl, Wb.hn, ⟨by decide, by decide⟩, by omega, fun r H5 r0 r1 hn5 sm5 => ⟨_, rfl, hQ _ _ ⟨Wb.draw hn5 sm5, sb.ts.trans (Wb.hn.ts sm5), fun _ => ⟨fun z => ?_, sm5 _ _ (sb _ _ gS) nSp nSp, nSp⟩⟩⟩⟩
          subst z
          exact absurd c (by decide)
        · exact hQ _ _ ⟨(W3.same (Same.upd hb _)).mono (by omega), (Same.upd hb _).ts, fun z => absurd z (by decide)⟩
      · obtain ⟨hne, gS4, nSp⟩ := hc rfl
        have hpos : 0 < ss.length := by
          cases ss with
          | nil => exact absurd rfl hne
          | cons _ _ => simp
        refine .inl ⟨_, .inl (SqL.of gS4), H0, p, _, _, rfl, W4.hn, ⟨by simp; omega, by simp; omega⟩, by omega, fun r H5 r0 r1 hn5 sm5 => ?_⟩
        obtain ⟨i, rfl⟩ : ∃ i : Nat, r = (i : Int) := ⟨r.toNat, by omega⟩
        have hi : i < ss.length := by simpa using r1
        refine ⟨ss.map V.str, .str ss[i], .inl (SqL.of (sm5 _ _ gS4 nSp nSp)), atI_nat (by simp [hi]), (show 2 ≤ sizeLine by decide), fun b hb => ?_⟩
        exact k _ 1 _ ((mk_get upd_same).up (by dsimp only; omega)) (by omega) ((hn5.same (Same.upd hb _)).mono (by omega)) (((W4.draw hn5 sm5).same (Same.upd hb _)).sm)
    rintro σ' H4 ⟨rfl, W4, tk4⟩
    have hq4 := hq3.tk tk4
    have g4 := g3.ts tk4
    clear W3 hq3 g3
    refine tSeq_by (fun σ' H' => σ' = [some (.ref p), some (.ref a), some (.str x), some (.ref kn), some (.int (d : Int)), some v, some (.str rw), some (.ref S), none, none, none, none, none, none] ∧ MW K H0 H H' p a kn (t + 1) xs rows ns kvs ∧ Tk H4 H' ∧ 0 < d ∧ Hd.s0 h ≠ "none" ∧ h ≠ .prs "pick" []) ?_ ?_
    · intro nx hnx
      refine tif_by (fun c H' => MW K H0 H H' p a kn (t + 1) xs rows ns kvs ∧ Tk H4 H' ∧ (c = false → 0 < d ∧ Hd.s0 h ≠ "none" ∧ h ≠ .prs "pick" [])) (fun Q hQ => ?_) (fun H5 ⟨W5, tk5, _⟩ => ?_) (by rintro H5 ⟨W5, tk5, hc⟩; exact hnx _ _ ⟨rfl, W5, tk5, hc rfl⟩)
      · refine ⟨rfl, _, rfl, iteB (fun c => hQ _ _ ⟨W4, Tk.refl, fun z => absurd z (by decide)⟩) (fun c0 => ?_)⟩
        obtain ⟨b, ys, eb1, eb⟩ := hv_first hq4
        obtain ⟨b', xs', ds, eb2, f1, f2, f3, f4⟩ := hv_isP hq4 e3
        subst eb1
        cases eb2
        refine ⟨_, .str _, .inr (SqT.of eb), atI_zero _ _, rfl, _, rfl, iteB (fun c => hQ _ _ ⟨W4, Tk.refl, fun z => absurd z (by decide)⟩) (fun c1 => ?_)⟩
        refine ⟨(show 0 ≤ sizeLine by decide), fun c1' h1 => ⟨(show 2 ≤ sizeLine by decide), fun b1 hb1 => ?_⟩⟩
        have sA := (Same.upd h1 (.tup [])).trans (Same.upd hb1 (.tup [.str "pick", .ref c1']))
        have gc : upd (upd H4 c1' (.tup [])) b1 (.tup [.str "pick", .ref c1']) c1' = some (.tup []) := Same.upd hb1 _ _ _ upd_same
        have gb : upd (upd H4 c1' (.tup [])) b1 (.tup [.str "pick", .ref c1']) b1 = some (.tup [.str "pick", .ref c1']) := upd_same
        generalize upd (upd H4 c1' (.tup [])) b1 (.tup [.str "pick", .ref c1']) = H5 at sA gc gb
        refine ⟨b, b1, c1', "pick", xs', ds, rfl, rfl, sA _ _ f1, f2, fun i h1 h2 => (f3 i h1 h2).same sA, SqT.of gb, SqT.of gc, _, rfl, hQ _ _ ⟨W4.same sA, sA.ts, fun hc => ⟨?_, ?_, f4 hc⟩⟩⟩
        · rw [Bool.false_xor, decide_eq_false_iff_not] at c0
          exact Nat.pos_of_ne_zero fun z => c0 (by rw [z]; rfl)
        · rw [Bool.false_xor, decide_eq_false_iff_not] at c1
          exact fun z => c1 (by rw [z])
      · refine ⟨rfl, fun v6 H6 s6 mk6 => ?_⟩
        exact k v6 9 H6 (mk6.up (by dsimp only; omega)) (by omega) ((W5.hn.same s6).mono (by omega)) (W5.same s6).sm
    rintro σ' H5 ⟨rfl, W5, tk5, hd0, hnn, hnp⟩
    have hq5 := hq4.tk tk5
    have g5 := g4.ts tk5
    clear W4 hq4 g4
    obtain ⟨d', rfl⟩ : ∃ d', d = d' + 1 := ⟨d - 1, by omega⟩
    have eN : NN (d' + 1) = 12 * NN d' + 40 := rfl
    have ed : (((d' + 1 : Nat) : Int)) - 1 = (d' : Int) := by omega
    have nnd' := nn_pos d'
    cases hq5 with
    | @as b y e => cases e2
    | @one b s e =>
      rcases e3 with rfl | rfl
      · refine tSeq_by (fun _ _ => False) (fun nx hnx => ?_) (fun _ _ h => h.elim)
        refine ⟨_, .str _, .inr (SqT.of e), atI_zero _ _, rfl, _, rfl, iteB (fun _ => ?_) (fun c => absurd c (by decide +kernel))⟩
        refine ⟨H0, p, a, _, xs, rows, ns, WW, rfl, W5.hn, by omega, W5.rt, fun nm H6 hnm hn6 sm6 => ?_⟩
        have W6 := W5.draw hn6 sm6
        refine ⟨H0, p, a, kn, _, xs, rows, ns, kvs, nm, d', by rw [ed]; rfl, W6.hn, by omega, W6.rt, hnm, W6.kn, kk, by omega, by omega, fun v7 s7 H7 mk7 hs7 hn7 sm7 => ?_⟩
        exact k v7 s7 H7 (mk7.up (by dsimp only; omega)) (by omega) (hn7.mono (by omega)) (W6.draw hn7 sm7).sm
      · exact absurd rfl hnn
    | @way b y z e =>
      refine tSeq_by (fun σ' H' => σ' = [some (.ref p), some (.ref a), some (.str x), some (.ref kn), some (.int ((d' + 1 : Nat) : Int)), some (.ref b), some (.str rw), some (.ref S), none, none, none, none, none, none] ∧ H5 = H') (fun nx hnx => ⟨_, .str _, .inr (SqT.of e), atI_zero _ _, rfl, _, rfl, iteB (fun c => absurd c (by decide +kernel)) (fun _ => hnx _ _ ⟨rfl, rfl⟩)⟩) ?_
      rintro σ' _ ⟨rfl, rfl⟩
      refine tSeq_by (fun _ _ => False) (fun nx hnx => ?_) (fun _ _ h => h.elim)
      refine ⟨_, .str _, .inr (SqT.of e), atI_zero _ _, rfl, _, rfl, iteB (fun _ => ?_) (fun c => absurd c (by decide +kernel))⟩
      refine tSeq_set ⟨kn, kvs, rfl, .inl W5.kn, fun l hl => ?_⟩
      have sl := Same.upd hl (.dK kvs)
      have gl : upd H5 l (.dK kvs) l = some (.dK kvs) := upd_same
      have fl := W5.free hl
      have nkl : kn ≠ l := fun q => by have := W5.kn; rw [q, hl] at this; cases this
      have W6 := W5.same sl
      have e6 := sl _ _ e
      have g6 := g5.ts sl.ts
      generalize upd H5 l (.dK kvs) = H6 at sl gl W6 e6 g6
      have nlp := W6.neD gl
      refine tSeq_set ⟨H0, p, _, rfl, W6.hn, by omega, fun bn H7 hbn hn7 sm7 => ?_⟩
      have W7 := W6.draw hn7 sm7
      have tk7 := W6.hn.ts sm7
      have e7 := tk7 _ _ e6
      have gl7 := sm7 _ _ gl nlp nlp
      refine ⟨_, .str y, .inr (SqT.of e7), rfl, a, xs, rs, _, _, y, rfl, g6.ts tk7, (hm y).mp e3.2.2.1, fun H8 s8 => ⟨l, _, rfl, .inl ⟨kvs, .inr bn, s8 _ _ gl7, rfl, by omega, rfl⟩, ?_⟩⟩
      have W8 := W7.same s8
      have gl8 := s8 _ _ gl7
      have W9 := W8.dput (kv' := putK kvs (.inr bn) (.str (rowEnd (nxOf rows) rs.length y))) gl8 fl nkl
      have tk9 := tk_dput (kv' := putK kvs (.inr bn) (.str (rowEnd (nxOf rows) rs.length y))) gl8
      have e9 := tk9 _ _ (s8 _ _ e7)
      have gl9 : upd H8 l (.dK (putK kvs (.inr bn) (.str (rowEnd (nxOf rows) rs.length y)))) l = some (.dK (putK kvs (.inr bn) (.str (rowEnd (nxOf rows) rs.length y)))) := upd_same
      generalize upd H8 l (.dK (putK kvs (.inr bn) (.str (rowEnd (nxOf rows) rs.length y)))) = H9 at W9 e9 gl9
      have hpl := putK_few (kvs := kvs) bn (rowEnd (nxOf rows) rs.length y)
      dsimp only
      refine tSeq_set ⟨_, .str z, .inr (SqT.of e9), rfl, H0, p, a, l, _, xs, rows, ns, _, z, d', by rw [ed]; rfl, W9.hn, by dsimp only; omega, W9.rt, e3.2.2.2, gl9, kk.put bn _, by omega, by omega, fun v10 s10 H10 mk10 hs10 hn10 sm10 => ?_⟩
      have W10 := W9.draw hn10 sm10
      have e10 := (W9.hn.ts sm10) _ _ e9
      refine ⟨_, .str y, .inr (SqT.of e10), rfl, (show 4 ≤ sizeLine by decide), fun r hr' => ?_⟩
      have sr := Same.upd hr' (.tup [.str "fn", .str bn, .str y, v10])
      exact k _ (1 + s10) _ ((mk_one (.fn upd_same) (mk10.tk sr.ts)).up (by dsimp only; omega)) (by dsimp only at hs10; omega) ((hn10.same sr).mono (by dsimp only; omega)) (W10.same sr).sm
    | @prs b c s ys ps e ec hp =>
      have hpl := hp.len
      have ok10 := e3.2.2.2
      refine tSeq_by (fun σ' H' => σ' = [some (.ref p), some (.ref a), some (.str x), some (.ref kn), some (.int ((d' + 1 : Nat) : Int)), some (.ref b), some (.str rw), some (.ref S), none, none, none, none, none, none] ∧ H5 = H') (fun nx hnx => ⟨_, .str _, .inr (SqT.of e), atI_zero _ _, rfl, _, rfl, iteB (fun c => absurd c (by rcases e3.1 with rfl | rfl <;> decide +kernel)) (fun _ => hnx _ _ ⟨rfl, rfl⟩)⟩) ?_
      rintro σ' _ ⟨rfl, rfl⟩
      refine tSeq_by (fun σ' H' => σ' = [some (.ref p), some (.ref a), some (.str x), some (.ref kn), some (.int ((d' + 1 : Nat) : Int)), some (.ref b), some (.str rw), some (.ref S), none, none, none, none, none, none] ∧ H5 = H') (fun nx hnx => ⟨_, .str _, .inr (SqT.of e), atI_zero _ _, rfl, _, rfl, iteB (fun c => absurd c (by rcases e3.1 with rfl | rfl <;> decide +kernel)) (fun _ => hnx _ _ ⟨rfl, rfl⟩)⟩) ?_
      rintro σ' _ ⟨rfl, rfl⟩
      rcases e3.1 with rfl | rfl
      · refine tSeq_by (fun σ' H' => σ' = [some (.ref p), some (.ref a), some (.str x), some (.ref kn), some (.int ((d' + 1 : Nat) : Int)), some (.ref b), some (.str rw), some (.ref S), none, none, none, none, none, none] ∧ H5 = H') (fun nx hnx => ⟨_, .str _, .inr (SqT.of e), atI_zero _ _, rfl, _, rfl, iteB (fun c => absurd c (by decide +kernel)) (fun _ => hnx _ _ ⟨rfl, rfl⟩)⟩) ?_
        rintro σ' _ ⟨rfl, rfl⟩
        refine tSeq_by (fun σ' H' => ∃ (D : Addr) (zs : List V), σ' = [some (.ref p), some (.ref a), some (.str x), some (.ref kn), some (.int ((d' + 1 : Nat) : Int)), some (.ref b), some (.str rw), some (.ref S), none, none, none, none, none, some (.ref D)] ∧ D ≠ p ∧ H D = none ∧ H' D = some (.lst zs) ∧ zs.length ≤ 10 ∧ MW K H0 H H' p a kn (t + 1 + 10 * (NN d' + 1)) xs rows ns kvs ∧ RowMk H' 1 zs (6 + 3 * d') (10 * (NN d' + 3))) ?_ ?_
        · intro nx hnx
          refine ⟨_, .ref c, .inr (SqT.of e), rfl, Or.inr ⟨⟨ys, SqT.of ec⟩, fun D hD => ?_⟩⟩
          have fD := W5.free hD
          have nD := W5.hn.ne hD
          refine lc_by (itn_tup ys) (fun i τ H' => ∃ (v0 v1 : Option V) (zs : List V), τ = [v0, v1, some (.ref p), some (.ref a), some (.ref kn), some (.int ((d' + 1 : Nat) : Int))] ∧ H' D = some (.lst zs) ∧ zs.length = i ∧ MW K H0 H H' p a kn (t + 1 + i * (NN d' + 1)) xs rows ns kvs ∧ Tk H5 H' ∧ RowMk H' 1 zs (6 + 3 * d') (i * (NN d' + 3)))
            ⟨none, none, [], rfl, upd_same, rfl, by simpa using W5.same (Same.upd hD _), (Same.upd hD _).ts, by simpa using RowMk.nil⟩ (by rintro i τ H' _ ⟨_, _, _, _, _, _, _, s, _⟩; exact SqT.of (s _ _ ec)) ?_ ?_
          · rintro i τ H6 hi ⟨v0, v1, zs, rfl, q1, q2, q3, q4, q5⟩
            have hip : i < ps.length := by omega
            have hi10 : i ≤ 9 := by omega
            have m1 : (i + 1) * (NN d' + 1) = i * (NN d' + 1) + (NN d' + 1) := Nat.succ_mul ..
            have m2 : (i + 1) * (NN d' + 3) = i * (NN d' + 3) + (NN d' + 3) := Nat.succ_mul ..
            have m3 : i * (NN d' + 1) ≤ 9 * (NN d' + 1) := Nat.mul_le_mul_right _ hi10
            obtain ⟨dd, r1, r2⟩ := hp.at_ i hi hip
            have eg : ys.getD i .non = .ref dd := by rw [List.getD_eq_getElem?_getD, List.getElem?_eq_getElem hi, r1]; rfl
            rw [eg]
            refine g2_at (q4 _ _ r2) ?_
            refine ⟨H0, p, a, kn, _, xs, rows, ns, kvs, _, d', by rw [ed]; rfl, q3.hn, by dsimp only; omega, q3.rt, (e3.2.1 _ (List.getElem_mem hip)).2.2, q3.kn, kk, by omega, by omega, fun v10 s10 H10 mk10 hs10 hn10 sm10 => ⟨(show 2 ≤ sizeLine by decide), fun r hr' => ?_⟩⟩
            dsimp only at hs10 hn10 mk10
            have sr := Same.upd hr' (.tup [.str ps[i].1, v10])
            have gr : upd H10 r (.tup [.str ps[i].1, v10]) r = some (.tup ([.str ps[i].1] ++ [v10])) := upd_same
            have W11 := (q3.draw hn10 sm10).same sr
            have q11 := sr _ _ (sm10 _ _ q1 nD nD)
            have tk11 := (q3.hn.ts sm10).trans sr.ts
            have mk11 := mk10.tk sr.ts
            generalize upd H10 r (.tup [.str ps[i].1, v10]) = H11 at sr gr W11 q11 tk11 mk11
            have tkD : Tk H11 (upd H11 D (.lst (zs ++ [.ref r]))) := (Tk.refl).set q11 (by intro _ z; cases z)
            refine ⟨zs, q11, by omega, _, _, zs ++ [.ref r], rfl, upd_same, by simp [q2], (W11.lput q11 fD nD).mono (by omega), q4.trans (tk11.trans tkD), (((q5.tk tk11).snoc gr rfl mk11 (by omega) (by omega)).tk tkD)⟩
          · rintro τ H6 ⟨v0, v1, zs, rfl, q1, q2, q3, q4, q5⟩
            have m3 : ys.length * (NN d' + 1) ≤ 10 * (NN d' + 1) := Nat.mul_le_mul_right _ (by omega)
            have m4 : ys.length * (NN d' + 3) ≤ 10 * (NN d' + 3) := Nat.mul_le_mul_right _ (by omega)
            exact hnx _ _ ⟨D, zs, rfl, nD, fD, q1, by omega, q3.mono (by omega), q5.fall (Nat.le_refl _) m4⟩
        rintro σ' H6 ⟨D, zs, rfl, nD, fD, q1, q2, q3, q5⟩
        refine tSeq_by (fun σ' H' => ∃ (zs : List V), σ' = [some (.ref p), some (.ref a), some (.str x), some (.ref kn), some (.int ((d' + 1 : Nat) : Int)), some (.ref b), some (.str rw), some (.ref S), none, none, none, none, none, some (.ref D)] ∧ H' D = some (.lst zs) ∧ zs.length ≤ 11 ∧ MW K H0 H H' p a kn (t + 2 + 10 * (NN d' + 1)) xs rows ns kvs ∧ RowMk H' 1 zs (6 + 3 * d') (10 * (NN d' + 3) + 1)) ?_ ?_
        · intro nx hnx
          refine ⟨H0, p, 3, _, rfl, q3.hn, ⟨by decide, by decide⟩, by omega, fun r H7 r0 r1 hn7 sm7 => ⟨rfl, _, rfl, iteB (fun _ => ?_) (fun _ => hnx _ _ ⟨zs, rfl, sm7 _ _ q1 nD nD, by omega, (q3.draw hn7 sm7).mono (by omega), (q5.tk (q3.hn.ts sm7)).fall (Nat.le_refl _) (by omega)⟩)⟩⟩
          have W7 := q3.draw hn7 sm7
          have q7 := q5.tk (q3.hn.ts sm7)
          have g7 := sm7 _ _ q1 nD nD
          refine ⟨.inl ⟨rfl, _, SqL.of g7⟩, (show 0 ≤ sizeLine by decide), fun c1 h1 => ⟨(show 2 ≤ sizeLine by decide), fun c2 h2 => ⟨(show 2 ≤ sizeLine by decide), fun c3 h3 => ?_⟩⟩⟩
          have t1 := Same.upd h1 (.tup [])
          have t2 := Same.upd h2 (.tup [.str "box", .ref c1])
          have t3 := Same.upd h3 (.tup [.str "z", .ref c2])
          have f1 : _ = some (HO.tup []) := t3 _ _ (t2 _ _ (upd_same : upd H7 c1 (.tup []) c1 = _))
          have f2 := t3 _ _ (upd_same : upd (upd H7 c1 (.tup [])) c2 (.tup [.str "box", .ref c1]) c2 = _)
          have f3 : upd (upd (upd H7 c1 (.tup [])) c2 (.tup [.str "box", .ref c1])) c3 (.tup [.str "z", .ref c2]) c3 = some (.tup ([.str "z"] ++ [.ref c2])) := upd_same
          have tt := (t1.trans t2).trans t3
          generalize upd (upd (upd H7 c1 (.tup [])) c2 (.tup [.str "box", .ref c1])) c3 (.tup [.str "z", .ref c2]) = H8 at f1 f2 f3 tt
          have g8 := tt _ _ g7
          have tkD : Tk H8 (upd H8 D (.lst (zs ++ [.ref c3]))) := (Tk.refl).set g8 (by intro _ z; cases z)
          exact ⟨D, zs, _, rfl, rfl, g8, by omega, hnx _ _ ⟨zs ++ [.ref c3], rfl, upd_same, by simp; omega, ((W7.same tt).lput g8 fD nD).mono (by omega), ((q7.tk tt.ts).snoc f3 rfl ((mk_ebox f2 f1).up (by omega)) (by omega) (by omega)).tk tkD⟩⟩
        rintro σ' H7 ⟨zs, rfl, q1, q2, q3, q5⟩
        refine ⟨D, zs, rfl, Or.inl ⟨SqL.of q1, fun r1 hr1 => ⟨(show 2 ≤ sizeLine by decide), fun r2 hr2 => ?_⟩⟩⟩
        have t1 := Same.upd hr1 (.tup zs)
        have t2 := Same.upd hr2 (.tup [.str "box", .ref r1])
        have f1 := t2 _ _ (upd_same : upd H7 r1 (.tup zs) r1 = _)
        have tt := t1.trans t2
        obtain ⟨sz, hs1, hs2⟩ := mk_box upd_same f1 (q5.tk tt.ts)
        exact k _ sz _ (hs2.up (by dsimp only; omega)) (by omega) ((q3.hn.same tt).mono (by omega)) (q3.same tt).sm
      · have hpos : 0 < ps.length := by
          cases ps with
          | nil => exact absurd rfl hnp
          | cons _ _ => simp
        refine tSeq_by (fun _ _ => False) (fun nx hnx => ?_) (fun _ _ h => h.elim)
        refine ⟨_, .str _, .inr (SqT.of e), atI_zero _ _, rfl, _, rfl, iteB (fun _ => ?_) (fun c => absurd c (by decide +kernel))⟩
        refine ⟨_, .ref c, .inr (SqT.of e), rfl, _, .ref c, .inr (SqT.of e), rfl, .inl ⟨_, .inr (SqT.of ec), H0, p, _, _, rfl, W5.hn, ⟨by omega, by omega⟩, by omega, fun r H6 r0 r1 hn6 sm6 => ?_⟩⟩
        obtain ⟨i, rfl⟩ : ∃ i : Nat, r = (i : Int) := ⟨r.toNat, by omega⟩
        have hi : i < ps.length := by omega
        have W6 := W5.draw hn6 sm6
        have tk6 := W5.hn.ts sm6
        obtain ⟨dd, r1', r2'⟩ := hp.at_ i (by omega) hi
        refine ⟨ys, .ref dd, .inr (SqT.of (tk6 _ _ ec)), atI_nat (by rw [List.getElem?_eq_getElem (by omega), r1']), ?_⟩
        refine g2_at (tk6 _ _ r2') ?_
        refine ⟨H0, p, a, kn, _, xs, rows, ns, kvs, _, d', by rw [ed]; rfl, W6.hn, by dsimp only; omega, W6.rt, (e3.2.1 _ (List.getElem_mem hi)).2.2, W6.kn, kk, by omega, by omega, fun v10 s10 H10 mk10 hs10 hn10 sm10 => ⟨(show 3 ≤ sizeLine by decide), fun r hr' => ?_⟩⟩
        have sr := Same.upd hr' (.tup [.str "pick", .str ps[i].1, v10])
        exact k _ (1 + s10) _ ((mk_one (.pick upd_same) (mk10.tk sr.ts)).up (by dsimp only; omega)) (by dsimp only at hs10; omega) ((hn10.same sr).mono (by dsimp only; omega)) ((W6.draw hn10 sm10).same sr).sm
set_option maxHeartbeats 2000000 in
theorem ok_law_split_overS (T : Txt K mg w) (n : Nat) (F_law_for : FnK P w K mg base (6 + 3 * n) "_law_for" ["_law_pen", "_law_told", "_law_name", "_law_known", "_law_deep"] (spFr K n)) :
    FnK P w K mg base (6 + 3 * n + 1) "_law_split_over" ["_law_pen", "_law_told", "_law_name", "_law_known", "_law_deep"] (spSo K n) := by
  have F_law_next : FnK P w K mg base 2 "_law_next" ["_law_pen", "_law_many"] (spNx K) := ok_law_nextS T
  have F_law_row_here : FnK P w K mg base 1 "_law_row_here" ["_law_told", "_law_name"] spRowOf := ok_law_row_here T
  have F_law_name_bound : FnK P w K mg base 3 "_law_name_bound" ["_law_pen"] (spBound K) := ok_law_name_bound T
  refine T.t_law_split_over.okS (k := 6 + 3 * n) sc_law_split_over (fun vs H Q E h => ?_) (fun f cdv A outer s H vs Q E hr h => ?_)
  · obtain ⟨H0, p, a, kn, t, xs, rows, ns, kvs, x, d, rfl, _⟩ := h
    rfl
  · obtain ⟨H0, p, a, kn, t, xs, rows, ns, kvs, x, d, rfl, hn, ht, rt, hx, hk, kk, hkl, ⟨hd0, hd⟩, k⟩ := h
    have hu := hu_of hr
    have hu0 := Nat.lt_of_succ_lt (hu_of hr)
    have hu20 := hu20_of hr
    have hsz : sizeLine = 16777216 := sizeLine_eq
    obtain ⟨d', rfl⟩ : ∃ d', d = d' + 1 := ⟨d - 1, by omega⟩
    have eN : NN (d' + 1) = 12 * NN d' + 40 := rfl
    have ed : (((d' + 1 : Nat) : Int)) - 1 = (d' : Int) := by omega
    have nnd' := nn_pos d'
    obtain ⟨rs, g, nm, rl, hval⟩ := rt.good fun z hz => (ww_ok z hz).2
    have hm : ∀ z, z ∈ ns ↔ z ∈ rs.map (·.1) := fun z => by rw [nm]; exact rt.nm.mem_iff.symm
    have few := rt.few
    have hrl := rt.rl
    have hxl := rt.rv.len
    have W : MW K H0 H H p a kn t xs rows ns kvs := ⟨hn, rt, hk, Sm.refl, hn.sm⟩
    refine ⟨_, (sb_cons (s_lc (i := 5) (own := ["_law_row", "_law_here"]) (idx := []) (N' := ["_law_row", "_law_here"]) (⟨rfl, by decide +kernel, by decide +kernel, (show ∀ y ∈ Scope.names _, y.2 = NameKind.free → ((defScope s_law_split_over).names.lookup y.1 = some NameKind.cell ∨ (defScope s_law_split_over).names.lookup y.1 = some NameKind.free) by decide +kernel), (show ∀ j ∈ ([] : List Nat), (Scope.names _).lookup ((["_law_pen", "_law_told", "_law_name", "_law_known", "_law_deep", "_law_rows", "_law_row", "_law_held", "_law_cases", "_law_word", "_law_other", "_law_bound", "_law_inner", "_law_made"] : List Str).getD j "") = some NameKind.free ∧ j < (["_law_pen", "_law_told", "_law_name", "_law_known", "_law_deep", "_law_rows", "_law_row", "_law_held", "_law_cases", "_law_word", "_law_other", "_law_bound", "_law_inner", "_law_made"] : List Str).length by decide +kernel), rfl⟩) rfl (i_K K (zv 1)) (fun _ _ _ _ _ _ => (g_tup K (n := 2) rfl (gs_cons (g_name (i := 0) (show List.Nodup (["_law_row", "_law_here"] : List Str) by decide +kernel) rfl (Or.inl rfl)) (gs_cons (g_name (i := 1) (show List.Nodup (["_law_row", "_law_here"] : List Str) by decide +kernel) rfl (Or.inl rfl)) gs_nil)))) (fun _ _ _ _ _ _ => (c_one (w_and (y_cmpR (op_eqD hu0) (z_ix (ix_K K) (zv 1) z_int (fun _ _ => rfl)) z_str (nomark _)) (w_and1 (y_cmpR (op_neTE hu20) (z_ix (ix_K K) (zv 1) z_int (fun _ _ => rfl)) (z_tup sa_nil) (nomark _)))).pt)) (fun _ _ _ _ _ _ => (zv 0)) sc_law_split_over.nd rfl rfl)
      (sb_cons (s_if (y_cmpR (op_eqD hu0) (zv 5) (z_lst sa_nil) (nomark _)) (sb_one (s_ret (z_fn F_law_for (hr.mono (by omega)) (sa_Name (zv 0) (sa_Name (zv 1) (sa_Name (zv 2) (sa_Name (zv 3) (sa_Name (zv 4) sa_nil)))))))) sb_nil)
      (sb_cons (s_set (i := 6) sc_law_split_over.nd rfl (Or.inl rfl) (z_ix (ix_K K) (zv 5) (z_fn F_law_next (hr.mono (by omega)) (sa_Name (zv 0) (sa_Call (z_callB (call_lenK K) (by rfl) T.n_len PySem.boot_len (sa_Name (zv 5) sa_nil)) sa_nil))) (fun _ _ => rfl)))
      (sb_cons (s_set (i := 7) sc_law_split_over.nd rfl (Or.inl rfl) (z_tup (sa_Constant z_str (sa_Call (z_fn F_law_for (hr.mono (by omega)) (sa_Name (zv 0) (sa_Name (zv 1) (sa_Name (zv 6) (sa_Name (zv 3) (sa_BinOp (z_op op_subD (zv 4) z_int) sa_nil)))))) (sa_Name (zv 6) sa_nil)))))
      (sb_cons (s_set (i := 8) sc_law_split_over.nd rfl (Or.inl rfl) (z_lst sa_nil))
      (sb_cons (s_for PassesOwn.never rfl (i_K K (z_ix (ix_K K) (z_dget hu (z_callTy (call_dict_of rfl) (by rfl) T.n_dict PyProof.Rows.boot_dict (sa_Name (zv 1) sa_nil)) (zv 6) (fun _ _ => rfl)) z_int (fun _ _ => rfl))) (g_tup K (n := 2) rfl (gs_cons (g_name (i := 9) sc_law_split_over.nd rfl (Or.inl rfl)) (gs_cons (g_name (i := 10) sc_law_split_over.nd rfl (Or.inl rfl)) gs_nil))) (sb_cons (s_set (i := 11) sc_law_split_over.nd rfl (Or.inl rfl) (z_fn F_law_name_bound (hr.mono (by omega)) (sa_Name (zv 0) sa_nil)))
      (sb_cons (s_set (i := 12) sc_law_split_over.nd rfl (Or.inl rfl) (z_callTy (call_dictD rfl) (by rfl) T.n_dict PyProof.Rows.boot_dict (sa_Name (zv 3) sa_nil)))
      (sb_cons (s_dput hu (zv 12) (zv 11) (z_fn F_law_row_here (hr.mono (by omega)) (sa_Name (zv 1) (sa_Name (zv 10) sa_nil))) rfl)
      (sb_cons (s_set (i := 13) sc_law_split_over.nd rfl (Or.inl rfl) (z_fn F_law_for (hr.mono (by omega)) (sa_Name (zv 0) (sa_Name (zv 1) (sa_Name (zv 2) (sa_Name (zv 12) (sa_BinOp (z_op op_subD (zv 4) z_int) sa_nil)))))))
      (sb_one (s_expr (z_bm K PySem.F.plainAttrs_list PySem.F.slot_list_append PySem.F.type_list_append mt_append (zv 8) (sa_Tuple (z_tup (sa_Name (zv 9) (sa_Name (zv 11) (sa_Name (zv 13) sa_nil)))) sa_nil)))))))))
      (sb_cons (s_if (y_cmpR (op_eqD hu0) (z_fn F_law_next (hr.mono (by omega)) (sa_Name (zv 0) (sa_Constant z_int sa_nil))) z_int (nomark _)) (sb_one (s_expr (z_bm K PySem.F.plainAttrs_list PySem.F.slot_list_append PySem.F.type_list_append mt_append (zv 8) (sa_Tuple (z_tup (sa_Constant z_str (sa_Constant z_str (sa_Tuple (z_tup (sa_Constant z_str (sa_Tuple (z_tup (sa_Constant z_str (sa_Tuple (z_tup sa_nil) sa_nil))) (sa_Constant z_str sa_nil)))) sa_nil)))) sa_nil)))) sb_nil)
      (sb_one (s_ret (z_tup (sa_Constant z_str (sa_Name (zv 7) (sa_Call (z_callTy (call_tupK K) (by rfl) T.n_tuple PyProof.Rows.boot_tuple (sa_Name (zv 8) sa_nil)) sa_nil))))))))))))), ?_⟩
    refine tSeq_by (fun σ' H' => ∃ (R : Addr) (zs : List Str), σ' = [some (.ref p), some (.ref a), some (.str x), some (.ref kn), some (.int ((d' + 1 : Nat) : Int)), some (.ref R), none, none, none, none, none, none, none, none] ∧ R ≠ p ∧ H' R = some (.lst (zs.map V.str)) ∧ zs.length ≤ 10 ∧ (∀ z ∈ zs, ∃ ps, (z, Hd.prs "pick" ps) ∈ rows) ∧ Same H H') ?_ ?_
    · intro nx hnx
      refine Or.inr ⟨⟨xs, SqT.of rt.at_⟩, fun D hD => ?_⟩
      refine lc_by (itn_tup xs) (fun i τ H' => ∃ (v0 v1 : Option V) (zs : List Str), τ = [v0, v1] ∧ H' D = some (.lst (zs.map V.str)) ∧ zs.length ≤ i ∧ (∀ z ∈ zs, ∃ ps, (z, Hd.prs "pick" ps) ∈ rows) ∧ Same H H') ⟨none, none, [], rfl, upd_same, Nat.le_refl _, (fun z hz => by cases hz), Same.upd hD _⟩ (by rintro i τ H' _ ⟨_, _, _, _, _, _, _, s⟩; exact SqT.of (s _ _ rt.at_)) ?_ ?_
      · rintro i τ H1 hi ⟨v0, v1, zs, rfl, q1, q2, q3, q4⟩
        have hir : i < rows.length := by omega
        obtain ⟨b, v, r1, r2, r3⟩ := rt.rv.at_ i hi hir
        have eg : xs.getD i .non = .ref b := by rw [List.getD_eq_getElem?_getD, List.getElem?_eq_getElem hi, r1]; rfl
        rw [eg]
        have okr := (rt.ok _ (List.getElem_mem hir)).2
        have hmem := List.getElem_mem hir
        generalize rows[i] = rw at r2 r3 okr hmem
        obtain ⟨rn, rh⟩ := rw
        refine g2_at (q4 _ _ r2) ?_
        have hv := r3.tk q4.ts
        obtain ⟨b', ys, eb1, eb⟩ := hv_first hv
        subst eb1
        refine ⟨_, .str _, .inr (SqT.of eb), atI_zero _ _, rfl, _, rfl, iteB (fun c => ?_) (fun _ => iteF ⟨_, _, zs, rfl, q1, by omega, q3, q4⟩)⟩
        have c' : Hd.s0 rh = "pick" := by
          rw [Bool.false_xor, decide_eq_true_iff] at c
          exact V.str.inj c
        have hp : ∃ ps, rh = .prs "pick" ps := by
          cases rh with
          | one s => rcases okr with rfl | rfl <;> exact absurd c' (by decide +kernel)
          | as y => exact absurd (show ("as" : Str) = "pick" from c') (by decide +kernel)
          | way y z => exact absurd (show ("way" : Str) = "pick" from c') (by decide +kernel)
          | prs s ps => exact ⟨ps, by rw [show s = "pick" from c']⟩
        obtain ⟨ps, rfl⟩ := hp
        cases hv with
        | @prs _ c2 _ ys2 _ e ec hp =>
          refine ⟨_, .ref c2, .inr (SqT.of e), rfl, (show 0 ≤ sizeLine by decide), fun e0 he0 => ⟨c2, e0, ys2, rfl, rfl, Same.upd he0 _ _ _ ec, upd_same, _, rfl, iteB (fun _ => ?_) (fun _ => ⟨_, _, zs, rfl, Same.upd he0 _ _ _ q1, by omega, q3, q4.trans (Same.upd he0 _)⟩)⟩⟩
          refine ⟨_, Same.upd he0 _ _ _ q1, by simp; omega, _, _, zs ++ [rn], rfl, by rw [upd_same, List.map_append]; rfl, by simp; omega, fun z hz => ?_, (q4.trans (Same.upd he0 _)).put hD⟩
          rcases List.mem_append.mp hz with h | h
          · exact q3 z h
          · rw [List.mem_singleton.mp h]; exact ⟨ps, hmem⟩
      · rintro τ H1 ⟨v0, v1, zs, rfl, q1, q2, q3, q4⟩
        exact hnx _ _ ⟨D, zs, rfl, hn.ne hD, q1, by omega, q3, q4⟩
    rintro σ' H1 ⟨R, zs, rfl, nR, gR, hz10, hzp, s1⟩
    have W1 := W.same s1
    refine tSeq_by (fun σ' H' => zs ≠ [] ∧ σ' = [some (.ref p), some (.ref a), some (.str x), some (.ref kn), some (.int ((d' + 1 : Nat) : Int)), some (.ref R), none, none, none, none, none, none, none, none] ∧ Same H1 H') ?_ ?_
    · intro nx hnx
      refine tif_by (fun c H' => Same H1 H' ∧ (c = false → zs ≠ [])) (fun Q hQ => ?_) (fun H2 ⟨s2, _⟩ => ?_) (by rintro H2 ⟨s2, hc⟩; exact hnx _ _ ⟨hc rfl, rfl, s2⟩)
      · refine ⟨(show 0 ≤ sizeLine by decide), fun b hb => ⟨ne_of_none gR hb, _, (Same.upd hb _) _ _ gR, upd_same, _, rfl, hQ _ _ ⟨Same.upd hb _, fun c z => ?_⟩⟩⟩
        subst z
        exact absurd c (by decide)
      · have W2 := W1.same s2
        refine ⟨H0, p, a, kn, _, xs, rows, ns, kvs, x, d' + 1, rfl, W2.hn, ht, W2.rt, hx, W2.kn, kk, hkl, hd, fun v7 s7 H7 mk7 hs7 hn7 sm7 => ?_⟩
        exact k v7 s7 H7 mk7 hs7 hn7 (W2.draw hn7 sm7).sm
    rintro σ' H2 ⟨hne, rfl, s2⟩
    have W2 := W1.same s2
    have gR2 := s2 _ _ gR
    have hpos : 0 < zs.length := by
      cases zs with
      | nil => exact absurd rfl hne
      | cons _ _ => simp
    refine tSeq_set (.inl ⟨_, .inl (SqL.of gR2), H0, p, _, _, rfl, W2.hn, ⟨by simp; omega, by simp; omega⟩, by omega, fun r H3 r0 r1 hn3 sm3 => ?_⟩)
    obtain ⟨i, rfl⟩ : ∃ i : Nat, r = (i : Int) := ⟨r.toNat, by omega⟩
    have hi : i < zs.length := by simpa using r1
    have W3 := W2.draw hn3 sm3
    refine ⟨zs.map V.str, .str zs[i], .inl (SqL.of (sm3 _ _ gR2 nR nR)), atI_nat (by simp [hi]), ?_⟩
    obtain ⟨ps, hzr⟩ := hzp _ (List.getElem_mem hi)
    have hzn : zs[i] ∈ ns := rt.nm.mem_iff.mp (List.mem_map.mpr ⟨_, hzr, rfl⟩)
    have hzh : hdOf rows zs[i] = .prs "pick" ps := hdOf_mem rt.ndr hzr
    have okz : (Hd.prs "pick" ps).ok ns := (rt.ok _ hzr).2
    generalize zs[i] = z at hzr hzn hzh
    refine tSeq_set ⟨H0, p, a, kn, _, xs, rows, ns, kvs, z, d', by rw [ed]; rfl, W3.hn, by omega, W3.rt, hzn, W3.kn, kk, by omega, by omega, fun v4 s4 H4 mk4 hs4 hn4 sm4 => ⟨(show 3 ≤ sizeLine by decide), fun c5 hc5 => ?_⟩⟩
    have W4 := W3.draw hn4 sm4
    have t5 := Same.upd hc5 (.tup [.str "hold", v4, .str z])
    have mk5 : MkT (upd H4 c5 (.tup [.str "hold", v4, .str z])) (5 + 3 * d') (1 + s4) (.ref c5) := (mk_one (.hold upd_same) (mk4.tk t5.ts)).up (by dsimp only; omega)
    have W5 := W4.same t5
    generalize upd H4 c5 (.tup [.str "hold", v4, .str z]) = H5 at t5 mk5 W5
    refine tSeq_set ⟨(show 0 ≤ sizeLine by decide), fun C hC => ?_⟩
    have t6 := Same.upd hC (.lst [])
    have gC : upd H5 C (.lst []) C = some (.lst []) := upd_same
    have fC := W5.free hC
    have nC := W5.hn.ne hC
    have W6 := W5.same t6
    have mk6 := mk5.tk t6.ts
    generalize upd H5 C (.lst []) = H6 at t6 gC W6 mk6
    have tk16 : Tk H H6 := s1.ts.trans (s2.ts.trans ((W2.hn.ts sm3).trans ((W3.hn.ts sm4).trans (t5.ts.trans t6.ts))))
    have g6 := g.ts tk16
    clear W1 W2 W3 W4 W5 mk5 hn3 hn4
    refine tSeq_by (fun σ' H' => ∃ (ws : List V) (v9 v10 v11 v12 v13 : Option V), σ' = [some (.ref p), some (.ref a), some (.str x), some (.ref kn), some (.int ((d' + 1 : Nat) : Int)), some (.ref R), some (.str z), some (.ref c5), some (.ref C), v9, v10, v11, v12, v13] ∧ H' C = some (.lst ws) ∧ ws.length ≤ 10 ∧ MW K H0 H H' p a kn (t + 1 + NN d' + 10 * (NN d' + 1)) xs rows ns kvs ∧ RowMk H' 2 ws (4 + 3 * d') (10 * NN d') ∧ MkT H' (5 + 3 * d') (1 + s4) (.ref c5)) ?_ ?_
    · intro nx hnx
      refine ⟨a, xs, rowsK rs, rfl, g6.at_, g6.ps, (by simp; omega), fun dc hdc => ?_⟩
      obtain ⟨v, hv, hvl⟩ := g.get ((hm z).mp hzn)
      have t7 := Same.upd hdc (.dK (dictOf (rowsK rs)))
      have hdg : DGet (upd H6 dc (.dK (dictOf (rowsK rs)))) dc (.str z) (some v) := by
        rw [← hvl]; exact DGet.k (k := Sum.inr z) upd_same
      have hvv := ((hval z v hzn hvl).tk tk16).tk t7.ts
      have W7 := W6.same t7
      have g7 := g6.ts t7.ts
      have mk7 := mk6.tk t7.ts
      have gC7 := t7 _ _ gC
      generalize upd H6 dc (.dK (dictOf (rowsK rs))) = H7 at t7 hdg hvv W7 g7 mk7 gC7
      refine ⟨dc, v, rfl, hdg, ?_⟩
      rw [hzh] at hvv
      cases hvv with
      | @prs b c _ ys _ e ec hp =>
        have hpl := hp.len
        have ok10 := okz.2.2.2
        refine ⟨_, .ref c, .inr (SqT.of e), rfl, Or.inr ⟨⟨ys, SqT.of ec⟩, ?_⟩⟩
        refine for_by (itn_tup ys) (fun i σ' H' => ∃ (ws : List V) (v9 v10 v11 v12 v13 : Option V), σ' = [some (.ref p), some (.ref a), some (.str x), some (.ref kn), some (.int ((d' + 1 : Nat) : Int)), some (.ref R), some (.str z), some (.ref c5), some (.ref C), v9, v10, v11, v12, v13] ∧ H' C = some (.lst ws) ∧ ws.length = i ∧ MW K H0 H H' p a kn (t + 1 + NN d' + i * (NN d' + 1)) xs rows ns kvs ∧ RowMk H' 2 ws (4 + 3 * d') (i * NN d') ∧ Tk H7 H')
          ⟨[], none, none, none, none, none, rfl, gC7, rfl, by simpa using W7, by simpa using RowMk.nil, Tk.refl⟩ (by rintro i τ H' _ ⟨_, _, _, _, _, _, _, _, _, _, _, s⟩; exact SqT.of (s _ _ ec)) ?_ ?_
        · rintro i σ' H8 hi ⟨ws, v9, v10, v11, v12, v13, rfl, q1, q2, q3, q5, q4⟩
          have hip : i < ps.length := by omega
          have hi10 : i ≤ 9 := by omega
          have m1 : (i + 1) * (NN d' + 1) = i * (NN d' + 1) + (NN d' + 1) := Nat.succ_mul ..
          have m2 : (i + 1) * NN d' = i * NN d' + NN d' := Nat.succ_mul ..
          have m3 : i * (NN d' + 1) ≤ 9 * (NN d' + 1) := Nat.mul_le_mul_right _ hi10
          obtain ⟨dd, r1, r2⟩ := hp.at_ i hi hip
          have eg : ys.getD i .non = .ref dd := by rw [List.getD_eq_getElem?_getD, List.getElem?_eq_getElem hi, r1]; rfl
          rw [eg]
          have hoth := (okz.2.1 _ (List.getElem_mem hip)).2.2
          generalize ps[i] = pr at r2 hoth
          refine g2_at (q4 _ _ r2) ?_
          refine tSeq_set ⟨H0, p, _, rfl, q3.hn, by omega, fun bn H9 hbn hn9 sm9 => ?_⟩
          have W9 := q3.draw hn9 sm9
          have tk9 := q3.hn.ts sm9
          have gC9 := sm9 _ _ q1 nC nC
          refine tSeq_set ⟨kn, kvs, rfl, .inl W9.kn, fun l hl => ?_⟩
          have sl := Same.upd hl (.dK kvs)
          have gl : upd H9 l (.dK kvs) l = some (.dK kvs) := upd_same
          have fl := W9.free hl
          have nkl : kn ≠ l := fun q => by have := W9.kn; rw [q, hl] at this; cases this
          have nCl : C ≠ l := fun q => by rw [q, hl] at gC9; cases gC9
          have Wl := W9.same sl
          have gCl := sl _ _ gC9
          generalize upd H9 l (.dK kvs) = Hl at sl gl Wl gCl
          have nlp := Wl.neD gl
          refine ⟨a, xs, rs, _, _, pr.2, rfl, ((g7.ts q4).ts tk9).ts sl.ts, (hm pr.2).mp hoth, fun Hm sm => ⟨l, _, rfl, .inl ⟨kvs, .inr bn, sm _ _ gl, rfl, by omega, rfl⟩, ?_⟩⟩
          have Wm := (Wl.same sm).dput (kv' := putK kvs (.inr bn) (.str (rowEnd (nxOf rows) rs.length pr.2))) (sm _ _ gl) fl nkl
          have tkm := tk_dput (kv' := putK kvs (.inr bn) (.str (rowEnd (nxOf rows) rs.length pr.2))) (sm _ _ gl)
          have glm : upd Hm l (.dK (putK kvs (.inr bn) (.str (rowEnd (nxOf rows) rs.length pr.2)))) l = some (.dK (putK kvs (.inr bn) (.str (rowEnd (nxOf rows) rs.length pr.2)))) := upd_same
          have gCm : upd Hm l (.dK (putK kvs (.inr bn) (.str (rowEnd (nxOf rows) rs.length pr.2)))) C = some (.lst ws) := by rw [upd_ne nCl]; exact sm _ _ gCl
          generalize upd Hm l (.dK (putK kvs (.inr bn) (.str (rowEnd (nxOf rows) rs.length pr.2)))) = Hn at Wm tkm glm gCm
          have hpf := putK_few (kvs := kvs) bn (rowEnd (nxOf rows) rs.length pr.2)
          have tkA := tk9.trans (sl.ts.trans (sm.ts.trans tkm))
          dsimp only
          refine tSeq_set ⟨H0, p, a, l, _, xs, rows, ns, _, x, d', by rw [ed]; rfl, Wm.hn, by omega, Wm.rt, hx, glm, kk.put bn _, by omega, by omega, fun v10 s10 H10 mk10 hs10 hn10 sm10 => ?_⟩
          have W10 := MW.draw (K := K) (H' := H10) Wm hn10 sm10
          have gC10 := sm10 _ _ gCm nC nC
          refine ⟨.inl ⟨rfl, _, SqL.of gC10⟩, (show 3 ≤ sizeLine by decide), fun r hr' => ?_⟩
          have sr := Same.upd hr' (.tup [.str pr.1, .str bn, v10])
          have gr : upd H10 r (.tup [.str pr.1, .str bn, v10]) r = some (.tup ([.str pr.1, .str bn] ++ [v10])) := upd_same
          have W11 := W10.same sr
          have gC11 := sr _ _ gC10
          have tk11 := tkA.trans ((Wm.hn.ts sm10).trans sr.ts)
          have mk11 := mk10.tk sr.ts
          generalize upd H10 r (.tup [.str pr.1, .str bn, v10]) = H11 at sr gr W11 gC11 tk11 mk11
          have tkD : Tk H11 (upd H11 C (.lst (ws ++ [.ref r]))) := (Tk.refl).set gC11 (by intro _ z; cases z)
          exact ⟨C, ws, _, rfl, rfl, gC11, by omega, ws ++ [.ref r], _, _, _, _, _, rfl, upd_same, by simp [q2], (W11.lput gC11 fC nC).mono (by omega), (((q5.tk tk11).snoc gr rfl mk11 (by omega) (by omega)).tk tkD), q4.trans (tk11.trans tkD)⟩
        · rintro σ' H8 ⟨ws, v9, v10, v11, v12, v13, rfl, q1, q2, q3, q5, q4⟩
          have m3 : ys.length * (NN d' + 1) ≤ 10 * (NN d' + 1) := Nat.mul_le_mul_right _ (by omega)
          have m4 : ys.length * NN d' ≤ 10 * NN d' := Nat.mul_le_mul_right _ (by omega)
          exact hnx _ _ ⟨ws, v9, v10, v11, v12, v13, rfl, q1, by omega, q3.mono (by omega), q5.fall (Nat.le_refl _) m4, mk7.tk q4⟩
    rintro σ' H8 ⟨ws, v9, v10, v11, v12, v13, rfl, q1, q2, q3, q5, mk8⟩
    refine tSeq_by (fun σ' H' => ∃ (ws : List V) (v9 v10 v11 v12 v13 : Option V), σ' = [some (.ref p), some (.ref a), some (.str x), some (.ref kn), some (.int ((d' + 1 : Nat) : Int)), some (.ref R), some (.str z), some (.ref c5), some (.ref C), v9, v10, v11, v12, v13] ∧ H' C = some (.lst ws) ∧ ws.length ≤ 11 ∧ MW K H0 H H' p a kn (t + 2 + NN d' + 10 * (NN d' + 1)) xs rows ns kvs ∧ RowMk H' 2 ws (4 + 3 * d') (10 * NN d' + 2) ∧ MkT H' (5 + 3 * d') (1 + s4) (.ref c5)) ?_ ?_
    · intro nx hnx
      refine ⟨H0, p, 3, _, rfl, q3.hn, ⟨by decide, by decide⟩, by omega, fun r H7 r0 r1 hn7 sm7 => ⟨rfl, _, rfl, iteB (fun _ => ?_) (fun _ => hnx _ _ ⟨ws, v9, v10, v11, v12, v13, rfl, sm7 _ _ q1 nC nC, by omega, (q3.draw hn7 sm7).mono (by omega), (q5.tk (q3.hn.ts sm7)).fall (Nat.le_refl _) (by omega), mk8.tk (q3.hn.ts sm7)⟩)⟩⟩
      have W7 := q3.draw hn7 sm7
      have tk7 := q3.hn.ts sm7
      have q7 := q5.tk tk7
      have g7 := sm7 _ _ q1 nC nC
      refine ⟨.inl ⟨rfl, _, SqL.of g7⟩, (show 0 ≤ sizeLine by decide), fun c1 h1 => ⟨(show 2 ≤ sizeLine by decide), fun c2 h2 => ⟨(show 3 ≤ sizeLine by decide), fun c3 h3 => ⟨(show 3 ≤ sizeLine by decide), fun c4 h4 => ?_⟩⟩⟩⟩
      have t1 := Same.upd h1 (.tup [])
      have t2 := Same.upd h2 (.tup [.str "box", .ref c1])
      have t3 := Same.upd h3 (.tup [.str "part", .ref c2, .str "zz"])
      have t4 := Same.upd h4 (.tup [.str "zz", .str "v", .ref c3])
      have f1 : _ = some (HO.tup []) := t4 _ _ (t3 _ _ (t2 _ _ (upd_same : upd H7 c1 (.tup []) c1 = _)))
      have f2 := t4 _ _ (t3 _ _ (upd_same : upd (upd H7 c1 (.tup [])) c2 (.tup [.str "box", .ref c1]) c2 = _))
      have f3 := t4 _ _ (upd_same : upd (upd (upd H7 c1 (.tup [])) c2 (.tup [.str "box", .ref c1])) c3 (.tup [.str "part", .ref c2, .str "zz"]) c3 = _)
      have f4 : upd (upd (upd (upd H7 c1 (.tup [])) c2 (.tup [.str "box", .ref c1])) c3 (.tup [.str "part", .ref c2, .str "zz"])) c4 (.tup [.str "zz", .str "v", .ref c3]) c4 = some (.tup ([.str "zz", .str "v"] ++ [.ref c3])) := upd_same
      have tt := ((t1.trans t2).trans t3).trans t4
      generalize upd (upd (upd (upd H7 c1 (.tup [])) c2 (.tup [.str "box", .ref c1])) c3 (.tup [.str "part", .ref c2, .str "zz"])) c4 (.tup [.str "zz", .str "v", .ref c3]) = H8' at f1 f2 f3 f4 tt
      have g8 := tt _ _ g7
      have tkD : Tk H8' (upd H8' C (.lst (ws ++ [.ref c4]))) := (Tk.refl).set g8 (by intro _ z; cases z)
      exact ⟨C, ws, _, rfl, rfl, g8, by omega, hnx _ _ ⟨ws ++ [.ref c4], v9, v10, v11, v12, v13, rfl, upd_same, by simp; omega, ((W7.same tt).lput g8 fC nC).mono (by omega), ((q7.tk tt.ts).snoc f4 rfl ((mk_one (.part f3) (mk_ebox f2 f1)).up (by omega)) (by omega) (by omega)).tk tkD, ((mk8.tk tk7).tk tt.ts).tk tkD⟩⟩
    rintro σ' H7 ⟨ws, v9, v10, v11, v12, v13, rfl, q1, q2, q3, q5, mk8⟩
    refine ⟨C, ws, rfl, Or.inl ⟨SqL.of q1, fun r1 hr1 => ⟨(show 3 ≤ sizeLine by decide), fun r2 hr2 => ?_⟩⟩⟩
    have t1 := Same.upd hr1 (.tup ws)
    have t2 := Same.upd hr2 (.tup [.str "split", .ref c5, .ref r1])
    have f1 := t2 _ _ (upd_same : upd H7 r1 (.tup ws) r1 = _)
    have tt := t1.trans t2
    obtain ⟨sz, hs1, hs2⟩ := mk_split upd_same f1 (mk8.tk tt.ts) ((q5.tk tt.ts).fall (by omega) (Nat.le_refl _))
    exact k _ sz _ (hs2.up (by dsimp only; omega)) (by omega) ((q3.hn.same tt).mono (by omega)) (q3.same tt).sm
def CaseAt (H : Hp) (zs : List V) (dep sz : Nat) : Prop := ∀ j (h : j < zs.length), ∃ (c : Addr) (w z : Str) (m : V) (s : Nat), zs[j] = .ref c ∧ H c = some (.tup [.str w, .str z, m]) ∧ MkT H dep s m ∧ s ≤ sz
theorem CaseAt.tk {H H' : Hp} {zs : List V} {dep sz : Nat} (h : CaseAt H zs dep sz) (t : Tk H H') : CaseAt H' zs dep sz := fun j hj => by
  obtain ⟨c, w, z, m, s, h1, h2, h3, h4⟩ := h j hj
  exact ⟨c, w, z, m, s, h1, t _ _ h2, h3.tk t, h4⟩
theorem CaseAt.row {H : Hp} {zs : List V} {dep sz : Nat} (h : CaseAt H zs dep sz) (hl : zs.length ≤ 900) : ∀ i, i ≤ zs.length → RowMk H 2 (zs.take i) dep (i * sz)
  | 0, _ => by simpa using RowMk.nil
  | i + 1, hi => by
    obtain ⟨c, w, z, m, s, h1, h2, h3, h4⟩ := h i (by omega)
    have ih := CaseAt.row h hl i (by omega)
    rw [List.take_add_one, List.getElem?_eq_getElem (show i < zs.length by omega), h1]
    exact ih.snoc (ys := [.str w, .str z]) h2 rfl h3 (by simp; omega) (by rw [Nat.succ_mul]; omega)
theorem CaseAt.set {H : Hp} {zs : List V} {dep sz : Nat} (h : CaseAt H zs dep sz) {i : Nat} {c : Addr} {w z : Str} {m : V} {s : Nat} (e : H c = some (.tup [.str w, .str z, m])) (hm : MkT H dep s m) (hs : s ≤ sz) : CaseAt H (zs.set i (.ref c)) dep sz := fun j hj => by
  have hj' : j < zs.length := by simpa using hj
  by_cases hij : i = j
  · subst hij
    exact ⟨c, w, z, m, s, by simp, e, hm, hs⟩
  · obtain ⟨c', w', z', m', s', h1, h2, h3, h4⟩ := h j hj'
    exact ⟨c', w', z', m', s', by rw [List.getElem_set_ne hij]; exact h1, h2, h3, h4⟩
set_option maxHeartbeats 2000000 in
theorem ok_law_wrappedS (T : Txt K mg w) (n : Nat) (F_law_for : FnK P w K mg base (6 + 3 * n) "_law_for" ["_law_pen", "_law_told", "_law_name", "_law_known", "_law_deep"] (spFr K n))
    (F_law_split_over : FnK P w K mg base (6 + 3 * n + 1) "_law_split_over" ["_law_pen", "_law_told", "_law_name", "_law_known", "_law_deep"] (spSo K n)) :
    FnK P w K mg base (6 + 3 * n + 1 + 1) "_law_wrapped" ["_law_pen", "_law_told", "_law_name", "_law_known", "_law_deep"] (spWr K n) := by
  have F_law_next : FnK P w K mg base 2 "_law_next" ["_law_pen", "_law_many"] (spNx K) := ok_law_nextS T
  have F_law_row_here : FnK P w K mg base 1 "_law_row_here" ["_law_told", "_law_name"] spRowOf := ok_law_row_here T
  have F_law_any : FnK P w K mg base 3 "_law_any" ["_law_pen", "_law_told"] (spAny K) := ok_law_any T
  have F_law_name_bound : FnK P w K mg base 3 "_law_name_bound" ["_law_pen"] (spBound K) := ok_law_name_bound T
  refine T.t_law_wrapped.okS (k := 6 + 3 * n + 1) sc_law_wrapped (fun vs H Q E h => ?_) (fun f cdv A outer s H vs Q E hr h => ?_)
  · obtain ⟨H0, p, a, kn, t, xs, rows, ns, kvs, x, d, rfl, _⟩ := h
    rfl
  · obtain ⟨H0, p, a, kn, t, xs, rows, ns, kvs, x, d, rfl, hn, ht, rt, hx, hk, kk, hkl, hd, k⟩ := h
    dsimp only at ht hd k
    have hu := hu_of hr
    have hu0 := Nat.lt_of_succ_lt (hu_of hr)
    have hsz : sizeLine = 16777216 := sizeLine_eq
    have nnd := nn_pos d
    obtain ⟨rs, g, nm, rl, hval⟩ := rt.good fun z hz => (ww_ok z hz).2
    have hm : ∀ z, z ∈ ns ↔ z ∈ rs.map (·.1) := fun z => by rw [nm]; exact rt.nm.mem_iff.symm
    have W : MW K H0 H H p a kn t xs rows ns kvs := ⟨hn, rt, hk, Sm.refl, hn.sm⟩
    refine ⟨_, (sb_cons (s_set (i := 5) sc_law_wrapped.nd rfl (Or.inl rfl) (z_fn F_law_next (hr.mono (by omega)) (sa_Name (zv 0) (sa_Constant z_int sa_nil))))
      (sb_cons (s_if (w_or (y_cmpR (op_eqD hu0) (zv 4) z_int (nomark _)) (w_or1 (y_cmpR op_gtD (zv 5) z_int (nomark _)))).pt (sb_one (s_ret (z_fn F_law_for (hr.mono (by omega)) (sa_Name (zv 0) (sa_Name (zv 1) (sa_Name (zv 2) (sa_Name (zv 3) (sa_Name (zv 4) sa_nil)))))))) sb_nil)
      (sb_cons (s_if (y_cmpR (op_eqD hu0) (zv 5) z_int (nomark _)) (sb_one (s_ret (z_tup (sa_Constant z_str (sa_Call (z_fn F_law_for (hr.mono (by omega)) (sa_Name (zv 0) (sa_Name (zv 1) (sa_Name (zv 2) (sa_Name (zv 3) (sa_Name (zv 4) sa_nil)))))) (sa_Name (zv 2) sa_nil)))))) sb_nil)
      (sb_cons (s_if (y_cmpR (op_eqD hu0) (zv 5) z_int (nomark _)) (sb_cons (s_set (i := 6) sc_law_wrapped.nd rfl (Or.inl rfl) (z_fn F_law_for (hr.mono (by omega)) (sa_Name (zv 0) (sa_Name (zv 1) (sa_Name (zv 2) (sa_Name (zv 3) (sa_Name (zv 4) sa_nil)))))))
      (sb_one (s_ret (z_tup (sa_Constant z_str (sa_Tuple (z_tup (sa_Constant z_str (sa_Tuple (z_tup (sa_Tuple (z_tup (sa_Constant z_str (sa_Name (zv 6) sa_nil))) (sa_Tuple (z_tup (sa_Constant z_str (sa_Tuple (z_tup (sa_Constant z_str (sa_Tuple (z_tup sa_nil) sa_nil))) sa_nil))) sa_nil))) sa_nil))) (sa_Constant z_str sa_nil))))))) sb_nil)
      (sb_cons (s_if (y_cmpR (op_eqD hu0) (zv 5) z_int (nomark _)) (sb_one (s_ret (z_fn F_law_split_over (hr.mono (by omega)) (sa_Name (zv 0) (sa_Name (zv 1) (sa_Name (zv 2) (sa_Name (zv 3) (sa_Name (zv 4) sa_nil)))))))) sb_nil)
      (sb_cons (s_set (i := 7) sc_law_wrapped.nd rfl (Or.inl rfl) (z_fn F_law_any (hr.mono (by omega)) (sa_Name (zv 0) (sa_Name (zv 1) sa_nil))))
      (sb_cons (s_set (i := 8) sc_law_wrapped.nd rfl (Or.inl rfl) (z_callTy (call_dictD rfl) (by rfl) T.n_dict PyProof.Rows.boot_dict (sa_Name (zv 3) sa_nil)))
      (sb_cons (s_set (i := 9) sc_law_wrapped.nd rfl (Or.inr rfl) (z_fn F_law_name_bound (hr.mono (by omega)) (sa_Name (zv 0) sa_nil)))
      (sb_cons (s_dput hu (zv 8) (zv 9) (z_fn F_law_row_here (hr.mono (by omega)) (sa_Name (zv 1) (sa_Name (zv 7) sa_nil))) rfl)
      (sb_cons (s_set (i := 10) sc_law_wrapped.nd rfl (Or.inl rfl) (z_fn F_law_for (hr.mono (by omega)) (sa_Name (zv 0) (sa_Name (zv 1) (sa_Name (zv 7) (sa_Name (zv 3) (sa_BinOp (z_op op_subD (zv 4) z_int) sa_nil)))))))
      (sb_cons (s_set (i := 6) sc_law_wrapped.nd rfl (Or.inl rfl) (z_fn F_law_for (hr.mono (by omega)) (sa_Name (zv 0) (sa_Name (zv 1) (sa_Name (zv 2) (sa_Name (zv 8) (sa_BinOp (z_op op_subD (zv 4) z_int) sa_nil)))))))
      (sb_cons (s_if (y_cmpR (op_eqD hu0) (zv 5) z_int (nomark _)) (sb_one (s_ret (z_tup (sa_Constant z_str (sa_Tuple (z_tup (sa_Constant z_str (sa_Name (zv 9) (sa_Name (zv 7) (sa_Name (zv 6) sa_nil))))) (sa_Name (zv 10) sa_nil)))))) sb_nil)
      (sb_cons (s_set (i := 11) sc_law_wrapped.nd rfl (Or.inl rfl) (z_fn F_law_next (hr.mono (by omega)) (sa_Name (zv 0) (sa_Constant z_int sa_nil))))
      (sb_cons (s_lc (i := 12) (own := ["_law_word"]) (idx := [9]) (N' := ["_law_word", "_law_bound"]) (⟨rfl, by decide +kernel, by decide +kernel, (show ∀ y ∈ Scope.names _, y.2 = NameKind.free → ((defScope s_law_wrapped).names.lookup y.1 = some NameKind.cell ∨ (defScope s_law_wrapped).names.lookup y.1 = some NameKind.free) by decide +kernel), (show ∀ j ∈ ([9] : List Nat), (Scope.names _).lookup ((["_law_pen", "_law_told", "_law_name", "_law_known", "_law_deep", "_law_way", "_law_made", "_law_other", "_law_inner", "_law_bound", "_law_first", "_law_at", "_law_cases"] : List Str).getD j "") = some NameKind.free ∧ j < (["_law_pen", "_law_told", "_law_name", "_law_known", "_law_deep", "_law_way", "_law_made", "_law_other", "_law_inner", "_law_bound", "_law_first", "_law_at", "_law_cases"] : List Str).length by decide +kernel), rfl⟩) rfl (i_K K (z_lst (sa_Constant z_str (sa_Constant z_str (sa_Constant z_str sa_nil))))) (fun _ _ _ _ _ _ => (g_name (i := 0) (show List.Nodup (["_law_word", "_law_bound"] : List Str) by decide +kernel) rfl (Or.inl rfl))) (fun _ _ _ _ _ _ => c_nil) (fun _ _ _ _ _ _ => (z_tup (sa_Name (zv 0) (sa_Name (zv 1) (sa_Tuple (z_tup (sa_Constant z_str (sa_Tuple (z_tup (sa_Constant z_str (sa_Tuple (z_tup sa_nil) sa_nil))) (sa_Constant z_str sa_nil)))) sa_nil))))) sc_law_wrapped.nd rfl rfl)
      (sb_cons (s_asg (z_tup (sa_Subscript (z_ix (ix_K K) (z_ix (ix_K K) (zv 12) (zv 11) (fun _ _ => rfl)) z_int (fun _ _ => rfl)) (sa_Name (zv 9) (sa_Name (zv 6) sa_nil)))) (g_sub (zv 12) (zv 11) set_list))
      (sb_one (s_ret (z_tup (sa_Constant z_str (sa_Tuple (z_tup (sa_Constant z_str (sa_Subscript (z_ix (ix_K K) (z_ix (ix_K K) (zv 12) (zv 11) (fun _ _ => rfl)) z_int (fun _ _ => rfl)) (sa_Name (zv 10) sa_nil)))) (sa_Call (z_callTy (call_tupK K) (by rfl) T.n_tuple PyProof.Rows.boot_tuple (sa_Name (zv 12) sa_nil)) sa_nil))))))))))))))))))))), ?_⟩
    refine tSeq_set ⟨H0, p, 9, t, rfl, hn, ⟨by decide, by decide⟩, by omega, fun r H1 r0 r1 hn1 sm1 => ?_⟩
    have W1 := W.draw hn1 sm1
    have g1 := g.ts (hn.ts sm1)
    refine tSeq_by (fun σ' H' => 0 < d ∧ r ≤ 4 ∧ σ' = [some (.ref p), some (.ref a), some (.str x), some (.ref kn), some (.int (d : Int)), some (.int r), none, none, none, none, none, none, none] ∧ H1 = H') ?_ ?_
    · intro nx hnx
      refine tif_by (fun c H' => H1 = H' ∧ (c = false → 0 < d ∧ r ≤ 4)) (fun Q hQ => ?_) (fun H2 ⟨e2, _⟩ => ?_) (by rintro H2 ⟨e2, hc⟩; exact hnx _ _ ⟨(hc rfl).1, (hc rfl).2, rfl, e2⟩)
      · refine ⟨rfl, _, rfl, iteB (fun c => hQ _ _ ⟨rfl, fun z => absurd z (by decide)⟩) (fun c0 => ⟨_, rfl, hQ _ _ ⟨rfl, fun c => ?_⟩⟩)⟩
        rw [Bool.false_xor, decide_eq_false_iff_not] at c0
        have c0' : d ≠ 0 := fun z => c0 (by rw [z]; rfl)
        have c' : ¬ (r > 4) := by simpa using c
        omega
      · subst e2
        refine ⟨H0, p, a, kn, _, xs, rows, ns, kvs, x, d, rfl, W1.hn, by omega, W1.rt, hx, W1.kn, kk, hkl, hd, fun v7 s7 H7 mk7 hs7 hn7 sm7 => ?_⟩
        exact k v7 s7 H7 (mk7.up (by dsimp only; omega)) (by omega) (hn7.mono (by omega)) (W1.draw hn7 sm7).sm
    rintro σ' _ ⟨hd0, hr4, rfl, rfl⟩
    obtain ⟨d', rfl⟩ : ∃ d', d = d' + 1 := ⟨d - 1, by omega⟩
    have eN : NN (d' + 1) = 12 * NN d' + 40 := rfl
    have ed : (((d' + 1 : Nat) : Int)) - 1 = (d' : Int) := by omega
    have nnd' := nn_pos d'
    refine tSeq_by (fun σ' H' => r ≠ 0 ∧ σ' = [some (.ref p), some (.ref a), some (.str x), some (.ref kn), some (.int ((d' + 1 : Nat) : Int)), some (.int r), none, none, none, none, none, none, none] ∧ H1 = H') ?_ ?_
    · intro nx hnx
      refine ⟨rfl, _, rfl, iteB (fun c => ?_) (fun c => hnx _ _ ⟨fun z => ?_, rfl, rfl⟩)⟩
      · refine ⟨H0, p, a, kn, _, xs, rows, ns, kvs, x, d' + 1, rfl, W1.hn, by omega, W1.rt, hx, W1.kn, kk, hkl, hd, fun v7 s7 H7 mk7 hs7 hn7 sm7 => ⟨(show 3 ≤ sizeLine by decide), fun q hq => ?_⟩⟩
        have sq := Same.upd hq (.tup [.str "hold", v7, .str x])
        exact k _ (1 + s7) _ ((mk_one (.hold upd_same) (mk7.tk sq.ts)).up (by dsimp only; omega)) (by omega) ((hn7.same sq).mono (by omega)) ((W1.draw hn7 sm7).same sq).sm
      · rw [z] at c; exact absurd c (by decide)
    rintro σ' _ ⟨hrn0, rfl, rfl⟩
    refine tSeq_by (fun σ' H' => r ≠ 1 ∧ σ' = [some (.ref p), some (.ref a), some (.str x), some (.ref kn), some (.int ((d' + 1 : Nat) : Int)), some (.int r), none, none, none, none, none, none, none] ∧ H1 = H') ?_ ?_
    · intro nx hnx
      refine ⟨rfl, _, rfl, iteB (fun c => ?_) (fun c => hnx _ _ ⟨fun z => ?_, rfl, rfl⟩)⟩
      · refine tSeq_set ⟨H0, p, a, kn, _, xs, rows, ns, kvs, x, d' + 1, rfl, W1.hn, by omega, W1.rt, hx, W1.kn, kk, hkl, hd, fun v7 s7 H7 mk7 hs7 hn7 sm7 => ?_⟩
        have W7 := W1.draw hn7 sm7
        refine ⟨(show 2 ≤ sizeLine by decide), fun c1 h1 => ⟨(show 0 ≤ sizeLine by decide), fun c2 h2 => ⟨(show 2 ≤ sizeLine by decide), fun c3 h3 => ⟨(show 2 ≤ sizeLine by decide), fun c4 h4 => ⟨(show 2 ≤ sizeLine by decide), fun c5 h5 => ⟨(show 2 ≤ sizeLine by decide), fun c6 h6 => ⟨(show 3 ≤ sizeLine by decide), fun c7 h7 => ?_⟩⟩⟩⟩⟩⟩⟩
        have t1 := Same.upd h1 (.tup [.str "a", v7])
        have f1 : upd H7 c1 (.tup [.str "a", v7]) c1 = some (.tup ([.str "a"] ++ [v7])) := upd_same
        generalize upd H7 c1 (.tup [.str "a", v7]) = G1 at *
        have t2 := Same.upd h2 (.tup [])
        have f2 : upd G1 c2 (.tup []) c2 = some (.tup []) := upd_same
        generalize upd G1 c2 (.tup []) = G2 at *
        have t3 := Same.upd h3 (.tup [.str "box", .ref c2])
        have f3 : upd G2 c3 (.tup [.str "box", .ref c2]) c3 = some (.tup [.str "box", .ref c2]) := upd_same
        generalize upd G2 c3 (.tup [.str "box", .ref c2]) = G3 at *
        have t4 := Same.upd h4 (.tup [.str "b", .ref c3])
        have f4 : upd G3 c4 (.tup [.str "b", .ref c3]) c4 = some (.tup ([.str "b"] ++ [.ref c3])) := upd_same
        generalize upd G3 c4 (.tup [.str "b", .ref c3]) = G4 at *
        have t5 := Same.upd h5 (.tup [.ref c1, .ref c4])
        have f5 : upd G4 c5 (.tup [.ref c1, .ref c4]) c5 = some (.tup [.ref c1, .ref c4]) := upd_same
        generalize upd G4 c5 (.tup [.ref c1, .ref c4]) = G5 at *
        have t6 := Same.upd h6 (.tup [.str "box", .ref c5])
        have f6 : upd G5 c6 (.tup [.str "box", .ref c5]) c6 = some (.tup [.str "box", .ref c5]) := upd_same
        generalize upd G5 c6 (.tup [.str "box", .ref c5]) = G6 at *
        have t7 := Same.upd h7 (.tup [.str "part", .ref c6, .str "a"])
        have f7 : upd G6 c7 (.tup [.str "part", .ref c6, .str "a"]) c7 = some (.tup [.str "part", .ref c6, .str "a"]) := upd_same
        generalize upd G6 c7 (.tup [.str "part", .ref c6, .str "a"]) = G7 at *
        have tt := t1.trans (t2.trans (t3.trans (t4.trans (t5.trans (t6.trans t7)))))
        have rm := (RowMk.nil (H := G7) (n := 1) (dep := 4 + 3 * (d' + 1))).snoc (t7 _ _ (t6 _ _ (t5 _ _ (t4 _ _ (t3 _ _ (t2 _ _ f1)))))) rfl (mk7.tk tt.ts) (by simp) (Nat.le_refl _)
        have rm2 := rm.snoc (t7 _ _ (t6 _ _ (t5 _ _ f4))) rfl ((mk_ebox (t7 _ _ (t6 _ _ (t5 _ _ (t4 _ _ f3)))) (t7 _ _ (t6 _ _ (t5 _ _ (t4 _ _ (t3 _ _ f2)))))).up (by omega)) (by simp) (Nat.le_refl _)
        obtain ⟨sz, hs1, hs2⟩ := mk_box (t7 _ _ f6) (t7 _ _ (t6 _ _ f5)) rm2
        exact k _ (1 + sz) _ ((mk_one (.part f7) hs2).up (by omega)) (by omega) ((hn7.same tt).mono (by omega)) (W7.same tt).sm
      · rw [z] at c; exact absurd c (by decide)
    rintro σ' _ ⟨hrn1, rfl, rfl⟩
    refine tSeq_by (fun σ' H' => r ≠ 4 ∧ σ' = [some (.ref p), some (.ref a), some (.str x), some (.ref kn), some (.int ((d' + 1 : Nat) : Int)), some (.int r), none, none, none, none, none, none, none] ∧ H1 = H') ?_ ?_
    · intro nx hnx
      refine ⟨rfl, _, rfl, iteB (fun c => ?_) (fun c => hnx _ _ ⟨fun z => ?_, rfl, rfl⟩)⟩
      · refine ⟨H0, p, a, kn, _, xs, rows, ns, kvs, x, d' + 1, rfl, W1.hn, by omega, W1.rt, hx, W1.kn, kk, hkl, ⟨by omega, hd⟩, fun v7 s7 H7 mk7 hs7 hn7 sm7 => ?_⟩
        exact k v7 s7 H7 (mk7.up (by dsimp only; omega)) (by omega) (hn7.mono (by omega)) (W1.draw hn7 sm7).sm
      · rw [z] at c; exact absurd c (by decide)
    rintro σ' _ ⟨hrn4, rfl, rfl⟩
    refine tSeq_set ⟨H0, p, a, _, xs, rows, ns, WW, rfl, W1.hn, by omega, W1.rt, fun ot H2 hot hn2 sm2 => ?_⟩
    have W2 := W1.draw hn2 sm2
    have g2 := g1.ts (hn1.ts sm2)
    refine tSeq_set ⟨kn, kvs, rfl, .inl W2.kn, fun l hl => ?_⟩
    have sl := Same.upd hl (.dK kvs)
    have gl : upd H2 l (.dK kvs) l = some (.dK kvs) := upd_same
    have fl := W2.free hl
    have nkl : kn ≠ l := fun q => by have := W2.kn; rw [q, hl] at this; cases this
    have W3 := W2.same sl
    have g3 := g2.ts sl.ts
    generalize upd H2 l (.dK kvs) = H3 at sl gl W3 g3
    have nlp := W3.neD gl
    refine tSeq_set ⟨H0, p, _, rfl, W3.hn, by omega, fun bn H4 hbn hn4 sm4 => ?_⟩
    have W4 := W3.draw hn4 sm4
    have g4 := g3.ts (W3.hn.ts sm4)
    have gl4 := sm4 _ _ gl nlp nlp
    refine ⟨a, xs, rs, _, _, ot, rfl, g4, (hm ot).mp hot, fun H5 s5 => ⟨l, _, rfl, .inl ⟨kvs, .inr bn, s5 _ _ gl4, rfl, by omega, rfl⟩, ?_⟩⟩
    have W6 := (W4.same s5).dput (kv' := putK kvs (.inr bn) (.str (rowEnd (nxOf rows) rs.length ot))) (s5 _ _ gl4) fl nkl
    have gl6 : upd H5 l (.dK (putK kvs (.inr bn) (.str (rowEnd (nxOf rows) rs.length ot)))) l = some (.dK (putK kvs (.inr bn) (.str (rowEnd (nxOf rows) rs.length ot)))) := upd_same
    generalize upd H5 l (.dK (putK kvs (.inr bn) (.str (rowEnd (nxOf rows) rs.length ot)))) = H6 at W6 gl6
    have hpf := putK_few (kvs := kvs) bn (rowEnd (nxOf rows) rs.length ot)
    dsimp only
    refine tSeq_set ⟨H0, p, a, kn, _, xs, rows, ns, kvs, ot, d', by rw [ed]; rfl, W6.hn, by omega, W6.rt, hot, W6.kn, kk, by omega, by omega, fun v7 s7 H7 mk7 hs7 hn7 sm7 => ?_⟩
    have W7 := W6.draw hn7 sm7
    have gl7 := sm7 _ _ gl6 nlp nlp
    refine tSeq_set ⟨H0, p, a, l, _, xs, rows, ns, _, x, d', by rw [ed]; rfl, W7.hn, by omega, W7.rt, hx, gl7, kk.put bn _, by omega, by omega, fun v8 s8 H8 mk8 hs8 hn8 sm8 => ?_⟩
    have W8 := MW.draw (K := K) (H' := H8) W7 hn8 sm8
    have mk78 := mk7.tk (W7.hn.ts sm8)
    refine tSeq_by (fun σ' H' => σ' = [some (.ref p), some (.ref a), some (.str x), some (.ref kn), some (.int ((d' + 1 : Nat) : Int)), some (.int r), some v8, some (.str ot), some (.ref l), some (.str bn), some v7, none, none] ∧ H8 = H') ?_ ?_
    · intro nx hnx
      refine ⟨rfl, _, rfl, iteB (fun c => ?_) (fun c => hnx _ _ ⟨rfl, rfl⟩)⟩
      refine ⟨(show 4 ≤ sizeLine by decide), fun c1 h1 => ⟨(show 3 ≤ sizeLine by decide), fun c2 h2 => ?_⟩⟩
      have t1 := Same.upd h1 (.tup [.str "fn", .str bn, .str ot, v8])
      have t2 := Same.upd h2 (.tup [.str "call", .ref c1, v7])
      have f1 := t2 _ _ (upd_same : upd H8 c1 (.tup [.str "fn", .str bn, .str ot, v8]) c1 = _)
      have tt := t1.trans t2
      have m1 := mk_one (.fn f1) (mk8.tk tt.ts)
      exact k _ (1 + (1 + s8) + s7) _ ((mk_two (.call upd_same) m1 ((mk78.tk tt.ts).up (by omega))).up (by dsimp only; omega)) (by omega) ((hn8.same tt).mono (by omega)) (W8.same tt).sm
    rintro σ' _ ⟨rfl, rfl⟩
    refine tSeq_set ⟨H0, p, 3, _, rfl, W8.hn, ⟨by decide, by decide⟩, by omega, fun ra H9 ra0 ra1 hn9 sm9 => ?_⟩
    have W9 := W8.draw hn9 sm9
    have tk9 := W8.hn.ts sm9
    have mk9 := mk8.tk tk9
    have mk79 := mk78.tk tk9
    obtain ⟨ia, rfl⟩ : ∃ i : Nat, ra = (i : Int) := ⟨ra.toNat, by omega⟩
    have hia : ia < 3 := by omega
    clear hn1 W1 W2 W3 W4 W6 W7 W8 mk8 mk78
    refine tSeq_by (fun σ' H' => ∃ (C : Addr) (zs : List V), σ' = [some (.ref p), some (.ref a), some (.str x), some (.ref kn), some (.int ((d' + 1 : Nat) : Int)), some (.int r), some v8, some (.str ot), some (.ref l), some (.str bn), some v7, some (.int (ia : Int)), some (.ref C)] ∧ C ≠ p ∧ H C = none ∧ H' C = some (.lst zs) ∧ zs.length = 3 ∧ CaseAt H' zs (4 + 3 * d') (NN d') ∧ Same H9 H') ?_ ?_
    · intro nx hnx
      refine ⟨(show 3 ≤ sizeLine by decide), fun L hL => Or.inl ⟨⟨_, SqL.of upd_same⟩, fun D hD => ?_⟩⟩
      have sL := Same.upd hL (.lst [.str "a", .str "b", .str "ba"])
      have gL : upd H9 L (.lst [.str "a", .str "b", .str "ba"]) L = some (.lst [.str "a", .str "b", .str "ba"]) := upd_same
      generalize upd H9 L (.lst [.str "a", .str "b", .str "ba"]) = HL at sL gL hD
      have WL := W9.same sL
      refine lc_by (itn_list [.str "a", .str "b", .str "ba"]) (fun i τ H' => ∃ (v0 : Option V) (zs : List V), τ = [v0, some (.str bn)] ∧ H' D = some (.lst zs) ∧ zs.length = i ∧ CaseAt H' zs (4 + 3 * d') (NN d') ∧ Same HL H') ⟨none, [], rfl, upd_same, rfl, fun j hj => absurd hj (by simp), Same.upd hD _⟩ (by rintro i τ H' _ ⟨_, _, _, _, _, _, s⟩; exact SqL.of (s _ _ gL)) ?_ ?_
      · rintro i τ G hi ⟨v0, zs, rfl, q1, q2, q3, q4⟩
        have hi3 : i < 3 := hi
        obtain ⟨wd, ew⟩ : ∃ wd : Str, ([.str "a", .str "b", .str "ba"] : List V).getD i .non = .str wd := by
          rcases (show i = 0 ∨ i = 1 ∨ i = 2 by omega) with rfl | rfl | rfl <;> exact ⟨_, rfl⟩
        rw [ew]
        refine ⟨(show 0 ≤ sizeLine by decide), fun c1 h1 => ⟨(show 2 ≤ sizeLine by decide), fun c2 h2 => ⟨(show 3 ≤ sizeLine by decide), fun c3 h3 => ⟨(show 3 ≤ sizeLine by decide), fun c4 h4 => ?_⟩⟩⟩⟩
        have t1 := Same.upd h1 (.tup [])
        have f1 : upd G c1 (.tup []) c1 = some (.tup []) := upd_same
        generalize upd G c1 (.tup []) = G1 at *
        have t2 := Same.upd h2 (.tup [.str "box", .ref c1])
        have f2 : upd G1 c2 (.tup [.str "box", .ref c1]) c2 = some (.tup [.str "box", .ref c1]) := upd_same
        generalize upd G1 c2 (.tup [.str "box", .ref c1]) = G2 at *
        have t3 := Same.upd h3 (.tup [.str "part", .ref c2, .str "zz"])
        have f3 : upd G2 c3 (.tup [.str "part", .ref c2, .str "zz"]) c3 = some (.tup [.str "part", .ref c2, .str "zz"]) := upd_same
        generalize upd G2 c3 (.tup [.str "part", .ref c2, .str "zz"]) = G3 at *
        have t4 := Same.upd h4 (.tup [.str wd, .str bn, .ref c3])
        have f4 : upd G3 c4 (.tup [.str wd, .str bn, .ref c3]) c4 = some (.tup [.str wd, .str bn, .ref c3]) := upd_same
        generalize upd G3 c4 (.tup [.str wd, .str bn, .ref c3]) = G4 at *
        have tt := t1.trans (t2.trans (t3.trans t4))
        have g4' := tt _ _ q1
        have tkD : Tk G4 (upd G4 D (.lst (zs ++ [.ref c4]))) := (Tk.refl).set g4' (by intro _ z; cases z)
        have m3 := ((mk_one (.part (t4 _ _ f3)) (mk_ebox (t4 _ _ (t3 _ _ f2)) (t4 _ _ (t3 _ _ (t2 _ _ f1))))).up (show 2 ≤ 4 + 3 * d' by omega)).tk tkD
        refine ⟨zs, g4', by omega, _, zs ++ [.ref c4], rfl, upd_same, by simp [q2], fun j hj => ?_, (q4.trans tt).put hD⟩
        by_cases hj' : j < zs.length
        · obtain ⟨c, w', z, m, s, e1, e2, e3, e4⟩ := ((q3.tk tt.ts).tk tkD) j hj'
          exact ⟨c, w', z, m, s, by rw [List.getElem_append_left hj']; exact e1, e2, e3, e4⟩
        · obtain rfl : j = zs.length := by simp at hj; omega
          exact ⟨c4, wd, bn, .ref c3, 2, by simp, tkD _ _ f4, m3, by omega⟩
      · rintro τ G ⟨v0, zs, rfl, q1, q2, q3, q4⟩
        exact hnx _ _ ⟨D, zs, rfl, WL.hn.ne hD, WL.free hD, q1, q2, q3, sL.trans q4⟩
    rintro σ' G ⟨C, zs, rfl, nC, fC, gC, hz3, hz, sG⟩
    have WG := W9.same sG
    have mkG := mk9.tk sG.ts
    have mk7G := mk79.tk sG.ts
    obtain ⟨cc, wd, z, m, sm', e1, e2, e3, e4⟩ := hz ia (by omega)
    refine ⟨zs, .ref cc, .inl (SqL.of gC), atI_nat (by rw [List.getElem?_eq_getElem (by omega), e1]), _, .str wd, .inr (SqT.of e2), atI_zero _ _, (show 3 ≤ sizeLine by decide), fun c1 h1 => ?_⟩
    have t1 := Same.upd h1 (.tup [.str wd, .str bn, v8])
    have f1 : upd G c1 (.tup [.str wd, .str bn, v8]) c1 = some (.tup [.str wd, .str bn, v8]) := upd_same
    have W10 := WG.same t1
    have gC1 := t1 _ _ gC
    have mk10 := mkG.tk t1.ts
    have mk710 := mk7G.tk t1.ts
    have hz1 := (hz.tk t1.ts).set (i := ia) f1 mk10 hs8
    generalize upd G c1 (.tup [.str wd, .str bn, v8]) = G1 at t1 f1 W10 gC1 mk10 mk710 hz1
    refine ⟨C, zs, _, ia, rfl, rfl, gC1, ixN_nat (by omega), ?_⟩
    have tkC : Tk G1 (upd G1 C (.lst (zs.set ia (.ref c1)))) := (Tk.refl).set gC1 (by intro _ z; cases z)
    have gC2 : upd G1 C (.lst (zs.set ia (.ref c1))) C = some (.lst (zs.set ia (.ref c1))) := upd_same
    have W11 := W10.lput (kv' := zs.set ia (.ref c1)) gC1 fC nC
    have mk11 := mk710.tk tkC
    have hz2 := hz1.tk tkC
    have f2 := tkC _ _ f1
    generalize upd G1 C (.lst (zs.set ia (.ref c1))) = G2 at tkC gC2 W11 mk11 hz2 f2
    refine ⟨_, .ref c1, .inl (SqL.of gC2), atI_nat (by rw [List.getElem?_set_self (by omega)]), _, .str wd, .inr (SqT.of f2), atI_zero _ _, (show 3 ≤ sizeLine by decide), fun c2 h2 => ?_⟩
    have t2 := Same.upd h2 (.tup [.str "pick", .str wd, v7])
    have f3 : upd G2 c2 (.tup [.str "pick", .str wd, v7]) c2 = some (.tup [.str "pick", .str wd, v7]) := upd_same
    generalize upd G2 c2 (.tup [.str "pick", .str wd, v7]) = G3 at t2 f3
    refine ⟨C, _, rfl, Or.inl ⟨SqL.of (t2 _ _ gC2), fun r1 hr1 => ⟨(show 3 ≤ sizeLine by decide), fun r2 hr2 => ?_⟩⟩⟩
    have t3 := Same.upd hr1 (.tup (zs.set ia (.ref c1)))
    have t4 := Same.upd hr2 (.tup [.str "split", .ref c2, .ref r1])
    have f4 := t4 _ _ (upd_same : upd G3 r1 (.tup (zs.set ia (.ref c1))) r1 = _)
    have tt := t3.trans t4
    have rw3 := hz2.row (by simp; omega) 3 (by simp; omega)
    rw [List.take_of_length_le (by simp; omega)] at rw3
    have mp := mk_one (.pick (tt _ _ f3)) (mk11.tk (t2.trans tt).ts)
    obtain ⟨sz, hs1, hs2⟩ := mk_split upd_same f4 mp ((rw3.tk (t2.trans tt).ts).fall (show 4 + 3 * d' ≤ 4 + 3 * d' + 1 by omega) (Nat.le_refl _))
    have W12 := W11.same (t2.trans tt)
    exact k _ sz _ (hs2.up (by dsimp only; omega)) (by omega) (W12.hn.mono (by omega)) W12.sm
theorem ok_mkrs (T : Txt K mg w) : ∀ n : Nat, FnK P w K mg base (6 + 3 * n) "_law_for" ["_law_pen", "_law_told", "_law_name", "_law_known", "_law_deep"] (spFr K n) ∧ FnK P w K mg base (8 + 3 * n) "_law_wrapped" ["_law_pen", "_law_told", "_law_name", "_law_known", "_law_deep"] (spWr K n) := by
  intro n
  have wr : ∀ n, FnK P w K mg base (6 + 3 * n) "_law_for" ["_law_pen", "_law_told", "_law_name", "_law_known", "_law_deep"] (spFr K n) → FnK P w K mg base (8 + 3 * n) "_law_wrapped" ["_law_pen", "_law_told", "_law_name", "_law_known", "_law_deep"] (spWr K n) := fun n F => (ok_law_wrappedS T n F (ok_law_split_overS T n F)).mono (by omega)
  induction n with
  | zero =>
    have F : FnK P w K mg base (6 + 3 * 0) "_law_for" ["_law_pen", "_law_told", "_law_name", "_law_known", "_law_deep"] (spFr K 0) := by
      refine T.t_law_for.okS (k := 5) sc_law_for (fun vs H Q E h => ?_) (fun f cdv A outer s H vs Q E hr h => ?_)
      · obtain ⟨H0, p, a, kn, t, xs, rows, ns, kvs, x, d, rfl, _⟩ := h
        rfl
      · obtain ⟨H0, p, a, kn, t, xs, rows, ns, kvs, x, d, rfl, hn, ht, rt, hx, hk, kk, hkl, hd, k⟩ := h
        exact absurd hd (Nat.not_lt_zero _)
    exact ⟨F, wr 0 F⟩
  | succ n ih =>
    have F := (ok_law_forS T n ih.1 ih.2).mono (show 8 + 3 * n + 1 ≤ 6 + 3 * (n + 1) by omega)
    exact ⟨F, wr (n + 1) F⟩
def spSmall (K : PySem.W.Frag) : Sp := fun vs H Q _ => ∃ (H0 : Hp) (p a : Addr) (t : Nat) (xs : List V) (rows : List Rw2) (ns : List Str) (x : Str), vs = [.ref p, .ref a, .str x] ∧ NxAt K H0 H p t ∧ t + 80000 < 900000 ∧ RT H a xs rows ns WW ∧ x ∈ ns ∧
  ∀ (v : V) (s : Nat) (H' : Hp), MkT H' 15 s v → s ≤ 30 → NxAt K H0 H' p (t + 80000) → Sm p p H H' → Q v H'
set_option maxHeartbeats 2000000 in
theorem ok_law_small_maker (T : Txt K mg w) : FnK P w K mg base 21 "_law_small_maker" ["_law_pen", "_law_told", "_law_name"] (spSmall K) := by
  have F_law_wrapped : FnK P w K mg base 20 "_law_wrapped" ["_law_pen", "_law_told", "_law_name", "_law_known", "_law_deep"] (spWr K 4) := (ok_mkrs T 4).2
  have F_law_many : FnK P w K mg base 17 "_law_many" ["_law_maker"] (spMany 15) := ok_law_many T 15
  have F_law_endless : FnK P w K mg base 1 "_law_endless" [] spEndless := ok_law_endless T
  refine T.t_law_small_maker.okS sc_law_small_maker (fun vs H Q E h => ?_) (fun f cdv A outer s H vs Q E hr h => ?_)
  · obtain ⟨H0, p, a, t, xs, rows, ns, x, rfl, _⟩ := h
    rfl
  · obtain ⟨H0, p, a, t, xs, rows, ns, x, rfl, hn, ht, rt, hx, k⟩ := h
    have hsz : sizeLine = 16777216 := sizeLine_eq
    have nb : ∀ d, d ≤ 3 → NN d ≤ 23560 := by decide
    refine ⟨_, (sb_cons (s_for PassesOwn.never rfl (i_K K (z_lst (sa_Constant z_int (sa_Constant z_int (sa_Constant z_int sa_nil))))) (g_name (i := 3) sc_law_small_maker.nd rfl (Or.inl rfl)) (sb_cons (s_set (i := 4) sc_law_small_maker.nd rfl (Or.inl rfl) (z_fn F_law_wrapped (hr.mono (by decide)) (sa_Name (zv 0) (sa_Name (zv 1) (sa_Name (zv 2) (sa_Dict z_dnew (sa_Name (zv 3) sa_nil)))))))
      (sb_one (s_if (y_cmpR op_leI (z_fn F_law_many (hr.mono (by decide)) (sa_Name (zv 4) sa_nil)) z_int (nomark _)) (sb_one (s_ret (zv 4))) sb_nil))))
      (sb_one (s_ret (z_fn0 F_law_endless (hr.mono (by decide)))))), ?_⟩
    refine tSeq_by (fun σ' H' => ∃ v3 v4, σ' = [some (.ref p), some (.ref a), some (.str x), v3, v4] ∧ NxAt K H0 H' p (t + 72000) ∧ Sm p p H H') ?_ ?_
    · intro nx hnx
      refine ⟨(show 3 ≤ sizeLine by decide), fun L hL => Or.inl ⟨⟨_, SqL.of upd_same⟩, ?_⟩⟩
      have sL := Same.upd hL (.lst [.int 3, .int 2, .int 1])
      have gL : upd H L (.lst [.int 3, .int 2, .int 1]) L = some (.lst [.int 3, .int 2, .int 1]) := upd_same
      have nL := hn.ne hL
      have hn1 := hn.same sL
      generalize upd H L (.lst [.int 3, .int 2, .int 1]) = H1 at sL gL hn1
      refine for_by (itn_list [.int 3, .int 2, .int 1]) (fun i σ' H' => ∃ v3 v4, σ' = [some (.ref p), some (.ref a), some (.str x), v3, v4] ∧ NxAt K H0 H' p (t + i * 24000) ∧ Sm p p H1 H') ⟨none, none, rfl, by simpa using hn1, Sm.refl⟩ (by rintro i τ H' _ ⟨_, _, _, _, s⟩; exact SqL.of (s _ _ gL nL nL)) ?_ ?_
      · rintro i σ' H2 hi ⟨v3, v4, rfl, hn2, sm2⟩
        have hi3 : i < 3 := hi
        obtain ⟨d, hd3, ew⟩ : ∃ d : Nat, d ≤ 3 ∧ ([.int 3, .int 2, .int 1] : List V).getD i .non = .int (d : Int) := by
          rcases (show i = 0 ∨ i = 1 ∨ i = 2 by omega) with rfl | rfl | rfl
          · exact ⟨3, by decide, rfl⟩
          · exact ⟨2, by decide, rfl⟩
          · exact ⟨1, by decide, rfl⟩
        rw [ew]
        have hN := nb d hd3
        have smA := sL.sm.trans sm2
        refine tSeq_set fun kn hkn => ?_
        have sk := Same.upd hkn (.dK [])
        have gk : upd H2 kn (.dK []) kn = some (.dK []) := upd_same
        have hn3 := hn2.same sk
        have rt3 := (rt.tk (hn.ts smA)).tk sk.ts
        generalize upd H2 kn (.dK []) = H3 at sk gk hn3 rt3
        refine ⟨H0, p, a, kn, _, xs, rows, ns, [], x, d, rfl, hn3, by dsimp only; omega, rt3, hx, gk, (fun e he => nomatch he), by simp; omega, by dsimp only; omega, fun v4 s4 H4 mk4 hs4 hn4 sm4 => ?_⟩
        dsimp only at mk4 hs4 hn4
        have smB := (smA.trans sk.sm).trans sm4
        refine ⟨v4, s4, rfl, mk4.up (by omega), by omega, fun H5 s5 => ⟨_, rfl, iteB (fun c => ?_) (fun _ => ⟨_, _, rfl, (hn4.same s5).mono (by rw [Nat.succ_mul]; omega), (sm2.trans sk.sm).trans (sm4.trans s5.sm)⟩)⟩⟩
        have c' : (s4 : Int) ≤ 30 := by simpa using c
        exact k v4 s4 H5 ((mk4.tk s5.ts).up (by omega)) (by omega) ((hn4.same s5).mono (by omega)) (smB.trans s5.sm)
      · rintro σ' H2 ⟨v3, v4, rfl, hn2, sm2⟩
        exact hnx _ _ ⟨v3, v4, rfl, hn2.mono (by simp), sL.sm.trans sm2⟩
    · rintro σ' H2 ⟨v3, v4, rfl, hn2, sm2⟩
      refine ⟨rfl, fun v3 H3 s3 mk3 => ?_⟩
      exact k v3 9 H3 (mk3.up (by omega)) (by omega) ((hn2.same s3).mono (by omega)) (sm2.trans s3.sm)
theorem nx_start {H : Hp} {a p : Addr} {ns : List Int} (hs : SqL K H a (ns.map V.int)) (hp : H p = none) : NxAt K H (upd H p (.lst [.ref a, .int 0, .int 0])) p 0 := by
  refine ⟨⟨a, ns, 0, 0, upd_same, fun H' sm => ?_, by omega, by omega⟩, (Same.upd hp _).sm⟩
  rcases hs with h | h
  · refine .inl ?_
    have n : a ≠ p := fun z => by rcases h with h | ⟨o, h⟩ <;> (rw [z, hp] at h; cases h)
    exact h.imp (fun e => sm _ _ e n n) fun ⟨o, e⟩ => ⟨o, sm _ _ e n n⟩
  · exact .inr h
set_option maxHeartbeats 2000000 in
theorem ok_law (T : Txt K mg w) : FnK P w K mg base 40 "law" ["script"] (spLaw K) := by
  have F_law_maker_telling : FnK P w K mg base 6 "_law_maker_telling" ["_law_pen", "_law_most"] (spMkTell K) := ok_law_maker_telling T
  have F_law_any : FnK P w K mg base 3 "_law_any" ["_law_pen", "_law_told"] (spAny K) := ok_law_any T
  have F_law_small_maker : FnK P w K mg base 21 "_law_small_maker" ["_law_pen", "_law_told", "_law_name"] (spSmall K) := ok_law_small_maker T
  have F_law_places : FnK P w K mg base 17 "_law_places" ["_law_maker", "_law_place"] (spPlaces 15) := ok_law_places T 15
  have F_maker_at : FnK P w K mg base 2 "maker_at" ["maker", "place"] spAtM := ok_maker_at T (ok_makers_in T)
  refine T.t_law.okS (k := 39) sc_law (fun vs H Q E h => ?_) (fun f cdv A outer s H vs Q E hr h => ?_)
  · obtain ⟨a, ns, rfl, _⟩ := h
    rfl
  · obtain ⟨sc, cells, rfl, hsc, hl63, k⟩ := h
    have hu := hu_of hr
    have hu0 := Nat.lt_of_succ_lt (hu_of hr)
    have hu20 := hu20_of hr
    have hsz : sizeLine = 16777216 := sizeLine_eq
    refine ⟨_, (sb_cons (s_set (i := 1) sc_law.nd rfl (Or.inl rfl) (z_lst (sa_Name (zv 0) (sa_Constant z_int (sa_Constant z_int sa_nil)))))
      (sb_cons (s_for PassesOwn.never rfl (i_range1 (by rfl) T.n_range (sa_Constant z_int sa_nil)) (g_name (i := 2) sc_law.nd rfl (Or.inl rfl)) (sb_cons (s_set (i := 3) sc_law.nd rfl (Or.inl rfl) (z_fn F_law_maker_telling (hr.mono (by decide)) (sa_Name (zv 1) (sa_Constant z_int sa_nil))))
      (sb_cons (s_set (i := 4) sc_law.nd rfl (Or.inl rfl) (z_fn F_law_small_maker (hr.mono (by decide)) (sa_Name (zv 1) (sa_Name (zv 3) (sa_Call (z_fn F_law_any (hr.mono (by decide)) (sa_Name (zv 1) (sa_Name (zv 3) sa_nil))) sa_nil)))))
      (sb_one (s_for PassesOwn.never rfl (i_K K (z_fn F_law_places (hr.mono (by decide)) (sa_Name (zv 4) (sa_Tuple (z_tup sa_nil) sa_nil)))) (g_tup K (n := 2) rfl (gs_cons (g_name (i := 5) sc_law.nd rfl (Or.inl rfl)) (gs_cons (g_name (i := 6) sc_law.nd rfl (Or.inl rfl)) gs_nil))) (sb_one (s_if (y_cmpR (op_neSame hu20) (z_fn F_maker_at (hr.mono (by decide)) (sa_Name (zv 4) (sa_Name (zv 5) sa_nil))) (zv 6) (nomark _)) (sb_one (s_ret z_bl)) sb_nil)))))))
      (sb_one (s_ret z_bl)))), ?_⟩
    refine tSeq_set ⟨(show 3 ≤ sizeLine by decide), fun p hp => ?_⟩
    have hn0 := nx_start hsc hp
    dsimp only
    generalize upd H p (.lst [.ref sc, .int 0, .int 0]) = H1 at hn0
    refine tSeq_by (fun σ' H' => True) ?_ (fun σ' H' _ => k H')
    intro nx hnx
    refine ⟨3, rfl, by decide, by decide, ?_⟩
    refine for_by (itn_range 0 3) (fun i σ' H' => ∃ v2 v3 v4 v5 v6, σ' = [some (.ref sc), some (.ref p), v2, v3, v4, v5, v6] ∧ NxAt K H H' p (i * 90000))
      ⟨none, none, none, none, none, rfl, hn0⟩ (fun _ _ _ _ _ => trivial) ?_ (fun σ' H' _ => hnx _ _ trivial)
    rintro i σ' H2 hi ⟨v2, v3, v4, v5, v6, rfl, hn2⟩
    have hi3 : i < 3 := hi
    refine tSeq_set ⟨H, p, 5, i * 90000, rfl, hn2, by omega, ⟨by decide, by decide⟩, fun a xs rows ns H3 rt hN hn3 sm3 => ?_⟩
    refine tSeq_set ⟨H, p, a, _, xs, rows, ns, WW, rfl, hn3, by omega, rt, fun x H4 hx hn4 sm4 => ?_⟩
    refine ⟨H, p, a, _, xs, rows, ns, x, rfl, hn4, by omega, rt.tk (hn3.ts sm4), hx, fun v s5 H5 mk5 hs5 hn5 sm5 => ?_⟩
    dsimp only
    refine ⟨(show 0 ≤ sizeLine by decide), fun q hq => ?_⟩
    have sq := Same.upd hq (.tup [])
    have gq : upd H5 q (.tup []) q = some (.tup (intsV [])) := upd_same
    have mk6 := mk5.tk sq.ts
    have hn6 := hn5.same sq
    generalize upd H5 q (.tup []) = H6 at sq gq mk6 hn6
    refine ⟨v, s5, q, [], rfl, mk6, by omega, gq, by simp, fun L us H7 hL gL hul hus s7 => Or.inl ⟨⟨us, SqL.of gL⟩, ?_⟩⟩
    have hn7 := hn6.same s7
    have mk7 := mk6.tk s7.ts
    refine for_by (itn_list us) (fun j σ' H' => ∃ v5 v6, σ' = [some (.ref sc), some (.ref p), some (.int (0 + (i : Int))), some (.ref a), some v, v5, v6] ∧ Same H7 H') ⟨v5, v6, rfl, Same.refl _⟩ (by rintro j τ H' _ ⟨_, _, _, s⟩; exact SqL.of (s _ _ gL)) ?_ ?_
    · rintro j σ' H8 hj ⟨v5, v6, rfl, s8⟩
      obtain ⟨c, q', path, m, e1, e2, e3, e4, ks, e5⟩ := hus us[j] (List.getElem_mem hj)
      have eg : us.getD j .non = .ref c := by rw [List.getD_eq_getElem?_getD, List.getElem?_eq_getElem hj, e1]; rfl
      rw [eg]
      refine g2_at (s8 _ _ e2) ?_
      refine ⟨v, m, q', path, rfl, by simpa using s8 _ _ e3, at_tk s8.ts e4, fun H9 s9 => ?_⟩
      have hsh := e5.tk (s8.trans s9).ts
      have ht : ∃ b ys, m = .ref b ∧ H9 b = some (.tup ys) := by
        cases hsh <;> exact ⟨_, _, rfl, by assumption⟩
      obtain ⟨b, ys, rfl, hb⟩ := ht
      exact ⟨b, ys, rfl, rfl, hb, _, rfl, iteF ⟨_, _, rfl, s8.trans s9⟩⟩
    · rintro σ' H8 ⟨v5, v6, rfl, s8⟩
      exact ⟨_, _, _, _, _, rfl, (hn7.same s8).mono (by rw [Nat.succ_mul]; omega)⟩
end
theorem lnS {n : Nat} {us : List Value} (h : us.length = n + 1) : ∃ a t, us = a :: t ∧ t.length = n := by
  cases us with
  | nil => cases h
  | cons a t => exact ⟨a, t, rfl, by simpa using h⟩
theorem txt_mk {K : PySem.W.Frag} {h : Heap} {mg : Str → Option Value} (X : K.In h) (G : h.Ns mainGlobals mg) {w : World}
    {f_maker_at : Addr} {od_maker_at an_maker_at : Option Addr} {sl_maker_at : Array (Option Value)} {oc_maker_at kV_maker_at dc_maker_at pm_maker_at cd_maker_at ct_maker_at : Value}
    {f_makers_in : Addr} {od_makers_in an_makers_in : Option Addr} {sl_makers_in : Array (Option Value)} {oc_makers_in kV_makers_in dc_makers_in pm_makers_in cd_makers_in ct_makers_in : Value}
    {f_law_fill : Addr} {od_law_fill an_law_fill : Option Addr} {sl_law_fill : Array (Option Value)} {oc_law_fill kV_law_fill dc_law_fill pm_law_fill cd_law_fill ct_law_fill : Value}
    {f_law_next : Addr} {od_law_next an_law_next : Option Addr} {sl_law_next : Array (Option Value)} {oc_law_next kV_law_next dc_law_next pm_law_next cd_law_next ct_law_next : Value}
    {f_law_turned : Addr} {od_law_turned an_law_turned : Option Addr} {sl_law_turned : Array (Option Value)} {oc_law_turned kV_law_turned dc_law_turned pm_law_turned cd_law_turned ct_law_turned : Value}
    {f_law_words : Addr} {od_law_words an_law_words : Option Addr} {sl_law_words : Array (Option Value)} {oc_law_words kV_law_words dc_law_words pm_law_words cd_law_words ct_law_words : Value}
    {f_law_head : Addr} {od_law_head an_law_head : Option Addr} {sl_law_head : Array (Option Value)} {oc_law_head kV_law_head dc_law_head pm_law_head cd_law_head ct_law_head : Value}
    {f_law_telling : Addr} {od_law_telling an_law_telling : Option Addr} {sl_law_telling : Array (Option Value)} {oc_law_telling kV_law_telling dc_law_telling pm_law_telling cd_law_telling ct_law_telling : Value}
    {f_law_any : Addr} {od_law_any an_law_any : Option Addr} {sl_law_any : Array (Option Value)} {oc_law_any kV_law_any dc_law_any pm_law_any cd_law_any ct_law_any : Value}
    {f_law_row_here : Addr} {od_law_row_here an_law_row_here : Option Addr} {sl_law_row_here : Array (Option Value)} {oc_law_row_here kV_law_row_here dc_law_row_here pm_law_row_here cd_law_row_here ct_law_row_here : Value}
    {f_law_head_here : Addr} {od_law_head_here an_law_head_here : Option Addr} {sl_law_head_here : Array (Option Value)} {oc_law_head_here kV_law_head_here dc_law_head_here pm_law_head_here cd_law_head_here ct_law_head_here : Value}
    {f_law_maker_telling : Addr} {od_law_maker_telling an_law_maker_telling : Option Addr} {sl_law_maker_telling : Array (Option Value)} {oc_law_maker_telling kV_law_maker_telling dc_law_maker_telling pm_law_maker_telling cd_law_maker_telling ct_law_maker_telling : Value}
    {f_law_endless : Addr} {od_law_endless an_law_endless : Option Addr} {sl_law_endless : Array (Option Value)} {oc_law_endless kV_law_endless dc_law_endless pm_law_endless cd_law_endless ct_law_endless : Value}
    {f_law_name_bound : Addr} {od_law_name_bound an_law_name_bound : Option Addr} {sl_law_name_bound : Array (Option Value)} {oc_law_name_bound kV_law_name_bound dc_law_name_bound pm_law_name_bound cd_law_name_bound ct_law_name_bound : Value}
    {f_law_for : Addr} {od_law_for an_law_for : Option Addr} {sl_law_for : Array (Option Value)} {oc_law_for kV_law_for dc_law_for pm_law_for cd_law_for ct_law_for : Value}
    {f_law_wrapped : Addr} {od_law_wrapped an_law_wrapped : Option Addr} {sl_law_wrapped : Array (Option Value)} {oc_law_wrapped kV_law_wrapped dc_law_wrapped pm_law_wrapped cd_law_wrapped ct_law_wrapped : Value}
    {f_law_split_over : Addr} {od_law_split_over an_law_split_over : Option Addr} {sl_law_split_over : Array (Option Value)} {oc_law_split_over kV_law_split_over dc_law_split_over pm_law_split_over cd_law_split_over ct_law_split_over : Value}
    {f_law_many : Addr} {od_law_many an_law_many : Option Addr} {sl_law_many : Array (Option Value)} {oc_law_many kV_law_many dc_law_many pm_law_many cd_law_many ct_law_many : Value}
    {f_law_parts : Addr} {od_law_parts an_law_parts : Option Addr} {sl_law_parts : Array (Option Value)} {oc_law_parts kV_law_parts dc_law_parts pm_law_parts cd_law_parts ct_law_parts : Value}
    {f_law_small_maker : Addr} {od_law_small_maker an_law_small_maker : Option Addr} {sl_law_small_maker : Array (Option Value)} {oc_law_small_maker kV_law_small_maker dc_law_small_maker pm_law_small_maker cd_law_small_maker ct_law_small_maker : Value}
    {f_law_places : Addr} {od_law_places an_law_places : Option Addr} {sl_law_places : Array (Option Value)} {oc_law_places kV_law_places dc_law_places pm_law_places cd_law_places ct_law_places : Value}
    {f_law : Addr} {od_law an_law : Option Addr} {sl_law : Array (Option Value)} {oc_law kV_law dc_law pm_law cd_law ct_law : Value}
    {td_PLACES_0 : Addr} {oe_PLACES_0 : Option Addr} {it_PLACES_0 : Array Value} {nn_PLACES_0 : Nat} {sq_PLACES_0 : Array (Option Value)}
    {td_PLACES_1 : Addr} {oe_PLACES_1 : Option Addr} {it_PLACES_1 : Array Value} {nn_PLACES_1 : Nat} {sq_PLACES_1 : Array (Option Value)}
    {td_PLACES_2 : Addr} {oe_PLACES_2 : Option Addr} {it_PLACES_2 : Array Value} {nn_PLACES_2 : Nat} {sq_PLACES_2 : Array (Option Value)}
    {td_PLACES_3 : Addr} {oe_PLACES_3 : Option Addr} {it_PLACES_3 : Array Value} {nn_PLACES_3 : Nat} {sq_PLACES_3 : Array (Option Value)}
    {td_PLACES_4 : Addr} {oe_PLACES_4 : Option Addr} {it_PLACES_4 : Array Value} {nn_PLACES_4 : Nat} {sq_PLACES_4 : Array (Option Value)}
    {td_PLACES_5 : Addr} {oe_PLACES_5 : Option Addr} {it_PLACES_5 : Array Value} {nn_PLACES_5 : Nat} {sq_PLACES_5 : Array (Option Value)}
    {td_PLACES_6 : Addr} {oe_PLACES_6 : Option Addr} {it_PLACES_6 : Array Value} {nn_PLACES_6 : Nat} {sq_PLACES_6 : Array (Option Value)}
    {td_PLACES_7 : Addr} {oe_PLACES_7 : Option Addr} {it_PLACES_7 : Array Value} {nn_PLACES_7 : Nat} {sq_PLACES_7 : Array (Option Value)}
    {ad_PLACES : Addr} {es_PLACES : Array DictEntry} {ep_PLACES : Nat} {vs_PLACES : List (Key × Value)}
    (a_maker_at : PySem.W.nsIn K mainGlobals "maker_at" = some (some (.ref f_maker_at)))
    (l_maker_at : K.lookup f_maker_at = some ⟨oc_maker_at, od_maker_at, .func (PySem.W.fnOf "maker_at" "maker_at" (defArgs s_maker_at) (defBody s_maker_at) (defScope s_maker_at) .none kV_maker_at dc_maker_at pm_maker_at an_maker_at cd_maker_at ct_maker_at), sl_maker_at⟩)
    (cc_maker_at : PySem.W.codeIn K cd_maker_at "maker_at" = true)
    (k_maker_at : PySem.W.keepIn K (.ref f_maker_at) = true)
    (a_makers_in : PySem.W.nsIn K mainGlobals "makers_in" = some (some (.ref f_makers_in)))
    (l_makers_in : K.lookup f_makers_in = some ⟨oc_makers_in, od_makers_in, .func (PySem.W.fnOf "makers_in" "makers_in" (defArgs s_makers_in) (defBody s_makers_in) (defScope s_makers_in) .none kV_makers_in dc_makers_in pm_makers_in an_makers_in cd_makers_in ct_makers_in), sl_makers_in⟩)
    (cc_makers_in : PySem.W.codeIn K cd_makers_in "makers_in" = true)
    (k_makers_in : PySem.W.keepIn K (.ref f_makers_in) = true)
    (a_law_fill : PySem.W.nsIn K mainGlobals "_law_fill" = some (some (.ref f_law_fill)))
    (l_law_fill : K.lookup f_law_fill = some ⟨oc_law_fill, od_law_fill, .func (PySem.W.fnOf "_law_fill" "_law_fill" (defArgs s_law_fill) (defBody s_law_fill) (defScope s_law_fill) .none kV_law_fill dc_law_fill pm_law_fill an_law_fill cd_law_fill ct_law_fill), sl_law_fill⟩)
    (cc_law_fill : PySem.W.codeIn K cd_law_fill "_law_fill" = true)
    (k_law_fill : PySem.W.keepIn K (.ref f_law_fill) = true)
    (a_law_next : PySem.W.nsIn K mainGlobals "_law_next" = some (some (.ref f_law_next)))
    (l_law_next : K.lookup f_law_next = some ⟨oc_law_next, od_law_next, .func (PySem.W.fnOf "_law_next" "_law_next" (defArgs s_law_next) (defBody s_law_next) (defScope s_law_next) .none kV_law_next dc_law_next pm_law_next an_law_next cd_law_next ct_law_next), sl_law_next⟩)
    (cc_law_next : PySem.W.codeIn K cd_law_next "_law_next" = true)
    (k_law_next : PySem.W.keepIn K (.ref f_law_next) = true)
    (a_law_turned : PySem.W.nsIn K mainGlobals "_law_turned" = some (some (.ref f_law_turned)))
    (l_law_turned : K.lookup f_law_turned = some ⟨oc_law_turned, od_law_turned, .func (PySem.W.fnOf "_law_turned" "_law_turned" (defArgs s_law_turned) (defBody s_law_turned) (defScope s_law_turned) .none kV_law_turned dc_law_turned pm_law_turned an_law_turned cd_law_turned ct_law_turned), sl_law_turned⟩)
    (cc_law_turned : PySem.W.codeIn K cd_law_turned "_law_turned" = true)
    (k_law_turned : PySem.W.keepIn K (.ref f_law_turned) = true)
    (a_law_words : PySem.W.nsIn K mainGlobals "_law_words" = some (some (.ref f_law_words)))
    (l_law_words : K.lookup f_law_words = some ⟨oc_law_words, od_law_words, .func (PySem.W.fnOf "_law_words" "_law_words" (defArgs s_law_words) (defBody s_law_words) (defScope s_law_words) .none kV_law_words dc_law_words pm_law_words an_law_words cd_law_words ct_law_words), sl_law_words⟩)
    (cc_law_words : PySem.W.codeIn K cd_law_words "_law_words" = true)
    (k_law_words : PySem.W.keepIn K (.ref f_law_words) = true)
    (a_law_head : PySem.W.nsIn K mainGlobals "_law_head" = some (some (.ref f_law_head)))
    (l_law_head : K.lookup f_law_head = some ⟨oc_law_head, od_law_head, .func (PySem.W.fnOf "_law_head" "_law_head" (defArgs s_law_head) (defBody s_law_head) (defScope s_law_head) .none kV_law_head dc_law_head pm_law_head an_law_head cd_law_head ct_law_head), sl_law_head⟩)
    (cc_law_head : PySem.W.codeIn K cd_law_head "_law_head" = true)
    (k_law_head : PySem.W.keepIn K (.ref f_law_head) = true)
    (a_law_telling : PySem.W.nsIn K mainGlobals "_law_telling" = some (some (.ref f_law_telling)))
    (l_law_telling : K.lookup f_law_telling = some ⟨oc_law_telling, od_law_telling, .func (PySem.W.fnOf "_law_telling" "_law_telling" (defArgs s_law_telling) (defBody s_law_telling) (defScope s_law_telling) .none kV_law_telling dc_law_telling pm_law_telling an_law_telling cd_law_telling ct_law_telling), sl_law_telling⟩)
    (cc_law_telling : PySem.W.codeIn K cd_law_telling "_law_telling" = true)
    (k_law_telling : PySem.W.keepIn K (.ref f_law_telling) = true)
    (a_law_any : PySem.W.nsIn K mainGlobals "_law_any" = some (some (.ref f_law_any)))
    (l_law_any : K.lookup f_law_any = some ⟨oc_law_any, od_law_any, .func (PySem.W.fnOf "_law_any" "_law_any" (defArgs s_law_any) (defBody s_law_any) (defScope s_law_any) .none kV_law_any dc_law_any pm_law_any an_law_any cd_law_any ct_law_any), sl_law_any⟩)
    (cc_law_any : PySem.W.codeIn K cd_law_any "_law_any" = true)
    (k_law_any : PySem.W.keepIn K (.ref f_law_any) = true)
    (a_law_row_here : PySem.W.nsIn K mainGlobals "_law_row_here" = some (some (.ref f_law_row_here)))
    (l_law_row_here : K.lookup f_law_row_here = some ⟨oc_law_row_here, od_law_row_here, .func (PySem.W.fnOf "_law_row_here" "_law_row_here" (defArgs s_law_row_here) (defBody s_law_row_here) (defScope s_law_row_here) .none kV_law_row_here dc_law_row_here pm_law_row_here an_law_row_here cd_law_row_here ct_law_row_here), sl_law_row_here⟩)
    (cc_law_row_here : PySem.W.codeIn K cd_law_row_here "_law_row_here" = true)
    (k_law_row_here : PySem.W.keepIn K (.ref f_law_row_here) = true)
    (a_law_head_here : PySem.W.nsIn K mainGlobals "_law_head_here" = some (some (.ref f_law_head_here)))
    (l_law_head_here : K.lookup f_law_head_here = some ⟨oc_law_head_here, od_law_head_here, .func (PySem.W.fnOf "_law_head_here" "_law_head_here" (defArgs s_law_head_here) (defBody s_law_head_here) (defScope s_law_head_here) .none kV_law_head_here dc_law_head_here pm_law_head_here an_law_head_here cd_law_head_here ct_law_head_here), sl_law_head_here⟩)
    (cc_law_head_here : PySem.W.codeIn K cd_law_head_here "_law_head_here" = true)
    (k_law_head_here : PySem.W.keepIn K (.ref f_law_head_here) = true)
    (a_law_maker_telling : PySem.W.nsIn K mainGlobals "_law_maker_telling" = some (some (.ref f_law_maker_telling)))
    (l_law_maker_telling : K.lookup f_law_maker_telling = some ⟨oc_law_maker_telling, od_law_maker_telling, .func (PySem.W.fnOf "_law_maker_telling" "_law_maker_telling" (defArgs s_law_maker_telling) (defBody s_law_maker_telling) (defScope s_law_maker_telling) .none kV_law_maker_telling dc_law_maker_telling pm_law_maker_telling an_law_maker_telling cd_law_maker_telling ct_law_maker_telling), sl_law_maker_telling⟩)
    (cc_law_maker_telling : PySem.W.codeIn K cd_law_maker_telling "_law_maker_telling" = true)
    (k_law_maker_telling : PySem.W.keepIn K (.ref f_law_maker_telling) = true)
    (a_law_endless : PySem.W.nsIn K mainGlobals "_law_endless" = some (some (.ref f_law_endless)))
    (l_law_endless : K.lookup f_law_endless = some ⟨oc_law_endless, od_law_endless, .func (PySem.W.fnOf "_law_endless" "_law_endless" (defArgs s_law_endless) (defBody s_law_endless) (defScope s_law_endless) .none kV_law_endless dc_law_endless pm_law_endless an_law_endless cd_law_endless ct_law_endless), sl_law_endless⟩)
    (cc_law_endless : PySem.W.codeIn K cd_law_endless "_law_endless" = true)
    (k_law_endless : PySem.W.keepIn K (.ref f_law_endless) = true)
    (a_law_name_bound : PySem.W.nsIn K mainGlobals "_law_name_bound" = some (some (.ref f_law_name_bound)))
    (l_law_name_bound : K.lookup f_law_name_bound = some ⟨oc_law_name_bound, od_law_name_bound, .func (PySem.W.fnOf "_law_name_bound" "_law_name_bound" (defArgs s_law_name_bound) (defBody s_law_name_bound) (defScope s_law_name_bound) .none kV_law_name_bound dc_law_name_bound pm_law_name_bound an_law_name_bound cd_law_name_bound ct_law_name_bound), sl_law_name_bound⟩)
    (cc_law_name_bound : PySem.W.codeIn K cd_law_name_bound "_law_name_bound" = true)
    (k_law_name_bound : PySem.W.keepIn K (.ref f_law_name_bound) = true)
    (a_law_for : PySem.W.nsIn K mainGlobals "_law_for" = some (some (.ref f_law_for)))
    (l_law_for : K.lookup f_law_for = some ⟨oc_law_for, od_law_for, .func (PySem.W.fnOf "_law_for" "_law_for" (defArgs s_law_for) (defBody s_law_for) (defScope s_law_for) .none kV_law_for dc_law_for pm_law_for an_law_for cd_law_for ct_law_for), sl_law_for⟩)
    (cc_law_for : PySem.W.codeIn K cd_law_for "_law_for" = true)
    (k_law_for : PySem.W.keepIn K (.ref f_law_for) = true)
    (a_law_wrapped : PySem.W.nsIn K mainGlobals "_law_wrapped" = some (some (.ref f_law_wrapped)))
    (l_law_wrapped : K.lookup f_law_wrapped = some ⟨oc_law_wrapped, od_law_wrapped, .func (PySem.W.fnOf "_law_wrapped" "_law_wrapped" (defArgs s_law_wrapped) (defBody s_law_wrapped) (defScope s_law_wrapped) .none kV_law_wrapped dc_law_wrapped pm_law_wrapped an_law_wrapped cd_law_wrapped ct_law_wrapped), sl_law_wrapped⟩)
    (cc_law_wrapped : PySem.W.codeIn K cd_law_wrapped "_law_wrapped" = true)
    (k_law_wrapped : PySem.W.keepIn K (.ref f_law_wrapped) = true)
    (a_law_split_over : PySem.W.nsIn K mainGlobals "_law_split_over" = some (some (.ref f_law_split_over)))
    (l_law_split_over : K.lookup f_law_split_over = some ⟨oc_law_split_over, od_law_split_over, .func (PySem.W.fnOf "_law_split_over" "_law_split_over" (defArgs s_law_split_over) (defBody s_law_split_over) (defScope s_law_split_over) .none kV_law_split_over dc_law_split_over pm_law_split_over an_law_split_over cd_law_split_over ct_law_split_over), sl_law_split_over⟩)
    (cc_law_split_over : PySem.W.codeIn K cd_law_split_over "_law_split_over" = true)
    (k_law_split_over : PySem.W.keepIn K (.ref f_law_split_over) = true)
    (a_law_many : PySem.W.nsIn K mainGlobals "_law_many" = some (some (.ref f_law_many)))
    (l_law_many : K.lookup f_law_many = some ⟨oc_law_many, od_law_many, .func (PySem.W.fnOf "_law_many" "_law_many" (defArgs s_law_many) (defBody s_law_many) (defScope s_law_many) .none kV_law_many dc_law_many pm_law_many an_law_many cd_law_many ct_law_many), sl_law_many⟩)
    (cc_law_many : PySem.W.codeIn K cd_law_many "_law_many" = true)
    (k_law_many : PySem.W.keepIn K (.ref f_law_many) = true)
    (a_law_parts : PySem.W.nsIn K mainGlobals "_law_parts" = some (some (.ref f_law_parts)))
    (l_law_parts : K.lookup f_law_parts = some ⟨oc_law_parts, od_law_parts, .func (PySem.W.fnOf "_law_parts" "_law_parts" (defArgs s_law_parts) (defBody s_law_parts) (defScope s_law_parts) .none kV_law_parts dc_law_parts pm_law_parts an_law_parts cd_law_parts ct_law_parts), sl_law_parts⟩)
    (cc_law_parts : PySem.W.codeIn K cd_law_parts "_law_parts" = true)
    (k_law_parts : PySem.W.keepIn K (.ref f_law_parts) = true)
    (a_law_small_maker : PySem.W.nsIn K mainGlobals "_law_small_maker" = some (some (.ref f_law_small_maker)))
    (l_law_small_maker : K.lookup f_law_small_maker = some ⟨oc_law_small_maker, od_law_small_maker, .func (PySem.W.fnOf "_law_small_maker" "_law_small_maker" (defArgs s_law_small_maker) (defBody s_law_small_maker) (defScope s_law_small_maker) .none kV_law_small_maker dc_law_small_maker pm_law_small_maker an_law_small_maker cd_law_small_maker ct_law_small_maker), sl_law_small_maker⟩)
    (cc_law_small_maker : PySem.W.codeIn K cd_law_small_maker "_law_small_maker" = true)
    (k_law_small_maker : PySem.W.keepIn K (.ref f_law_small_maker) = true)
    (a_law_places : PySem.W.nsIn K mainGlobals "_law_places" = some (some (.ref f_law_places)))
    (l_law_places : K.lookup f_law_places = some ⟨oc_law_places, od_law_places, .func (PySem.W.fnOf "_law_places" "_law_places" (defArgs s_law_places) (defBody s_law_places) (defScope s_law_places) .none kV_law_places dc_law_places pm_law_places an_law_places cd_law_places ct_law_places), sl_law_places⟩)
    (cc_law_places : PySem.W.codeIn K cd_law_places "_law_places" = true)
    (k_law_places : PySem.W.keepIn K (.ref f_law_places) = true)
    (a_law : PySem.W.nsIn K mainGlobals "law" = some (some (.ref f_law)))
    (l_law : K.lookup f_law = some ⟨oc_law, od_law, .func (PySem.W.fnOf "law" "law" (defArgs s_law) (defBody s_law) (defScope s_law) .none kV_law dc_law pm_law an_law cd_law ct_law), sl_law⟩)
    (cc_law : PySem.W.codeIn K cd_law "law" = true)
    (k_law : PySem.W.keepIn K (.ref f_law) = true)
    (z_len : PySem.W.nsIn K mainGlobals "len" = some none)
    (z_range : PySem.W.nsIn K mainGlobals "range" = some none)
    (z_list : PySem.W.nsIn K mainGlobals "list" = some none)
    (z_tuple : PySem.W.nsIn K mainGlobals "tuple" = some none)
    (z_dict : PySem.W.nsIn K mainGlobals "dict" = some none)
    (z_sorted : PySem.W.nsIn K mainGlobals "sorted" = some none)
    (z_zip : PySem.W.nsIn K mainGlobals "zip" = some none)
    (z_sum : PySem.W.nsIn K mainGlobals "sum" = some none)
    (g_PLACES : PySem.W.nsIn K mainGlobals "PLACES" = some (some (.ref ad_PLACES)))
    (gl_PLACES : K.lookup ad_PLACES = some { cls := .type "dict", data := .dict es_PLACES ep_PLACES })
    (gs_PLACES : (ad_PLACES == sysModules) = false) (gp_PLACES : ∀ P : Program, Pairs (mixKind P w) es_PLACES.toList vs_PLACES) (gk_PLACES : ∀ P : Program, KeysOf (mixKind P w) es_PLACES) (gn_PLACES : (vs_PLACES.map (·.1)).Nodup) (gv_PLACES : KV [(.inr "get", .ref td_PLACES_0), (.inr "fn", .ref td_PLACES_1), (.inr "call", .ref td_PLACES_2), (.inr "box", .ref td_PLACES_3), (.inr "part", .ref td_PLACES_4), (.inr "pick", .ref td_PLACES_5), (.inr "split", .ref td_PLACES_6), (.inr "hold", .ref td_PLACES_7)] vs_PLACES)
    (gl_PLACES_0 : K.lookup td_PLACES_0 = some ⟨.type "tuple", oe_PLACES_0, .seq it_PLACES_0 nn_PLACES_0, sq_PLACES_0⟩)
    (gz_PLACES_0 : it_PLACES_0.size ≤ sizeLine) (gv_PLACES_0 : Vals [.str "name"] it_PLACES_0.toList)
    (gl_PLACES_1 : K.lookup td_PLACES_1 = some ⟨.type "tuple", oe_PLACES_1, .seq it_PLACES_1 nn_PLACES_1, sq_PLACES_1⟩)
    (gz_PLACES_1 : it_PLACES_1.size ≤ sizeLine) (gv_PLACES_1 : Vals [.str "name", .str "row", .str "maker"] it_PLACES_1.toList)
    (gl_PLACES_2 : K.lookup td_PLACES_2 = some ⟨.type "tuple", oe_PLACES_2, .seq it_PLACES_2 nn_PLACES_2, sq_PLACES_2⟩)
    (gz_PLACES_2 : it_PLACES_2.size ≤ sizeLine) (gv_PLACES_2 : Vals [.str "maker", .str "maker"] it_PLACES_2.toList)
    (gl_PLACES_3 : K.lookup td_PLACES_3 = some ⟨.type "tuple", oe_PLACES_3, .seq it_PLACES_3 nn_PLACES_3, sq_PLACES_3⟩)
    (gz_PLACES_3 : it_PLACES_3.size ≤ sizeLine) (gv_PLACES_3 : Vals [.str "parts"] it_PLACES_3.toList)
    (gl_PLACES_4 : K.lookup td_PLACES_4 = some ⟨.type "tuple", oe_PLACES_4, .seq it_PLACES_4 nn_PLACES_4, sq_PLACES_4⟩)
    (gz_PLACES_4 : it_PLACES_4.size ≤ sizeLine) (gv_PLACES_4 : Vals [.str "maker", .str "name"] it_PLACES_4.toList)
    (gl_PLACES_5 : K.lookup td_PLACES_5 = some ⟨.type "tuple", oe_PLACES_5, .seq it_PLACES_5 nn_PLACES_5, sq_PLACES_5⟩)
    (gz_PLACES_5 : it_PLACES_5.size ≤ sizeLine) (gv_PLACES_5 : Vals [.str "name", .str "maker"] it_PLACES_5.toList)
    (gl_PLACES_6 : K.lookup td_PLACES_6 = some ⟨.type "tuple", oe_PLACES_6, .seq it_PLACES_6 nn_PLACES_6, sq_PLACES_6⟩)
    (gz_PLACES_6 : it_PLACES_6.size ≤ sizeLine) (gv_PLACES_6 : Vals [.str "maker", .str "cases"] it_PLACES_6.toList)
    (gl_PLACES_7 : K.lookup td_PLACES_7 = some ⟨.type "tuple", oe_PLACES_7, .seq it_PLACES_7 nn_PLACES_7, sq_PLACES_7⟩)
    (gz_PLACES_7 : it_PLACES_7.size ≤ sizeLine) (gv_PLACES_7 : Vals [.str "maker", .str "row"] it_PLACES_7.toList) : Txt K mg w := by
  have F_maker_at := fun_mk (st := s_maker_at) l_maker_at cc_maker_at k_maker_at
  have b_maker_at := F_maker_at.binds (ps := ["maker", "place"]) fun _ _ _ _ _ _ us hl => by obtain ⟨a0, us0, rfl, hl0⟩ := lnS (n := 1) hl; obtain ⟨a1, us1, rfl, hl1⟩ := lnS (n := 0) hl0;  obtain rfl := List.eq_nil_of_length_eq_zero hl1; rfl
  have F_makers_in := fun_mk (st := s_makers_in) l_makers_in cc_makers_in k_makers_in
  have b_makers_in := F_makers_in.binds (ps := ["maker"]) fun _ _ _ _ _ _ us hl => by obtain ⟨a0, us0, rfl, hl0⟩ := lnS (n := 0) hl;  obtain rfl := List.eq_nil_of_length_eq_zero hl0; rfl
  have F_law_fill := fun_mk (st := s_law_fill) l_law_fill cc_law_fill k_law_fill
  have b_law_fill := F_law_fill.binds (ps := ["_law_cell", "_law_at"]) fun _ _ _ _ _ _ us hl => by obtain ⟨a0, us0, rfl, hl0⟩ := lnS (n := 1) hl; obtain ⟨a1, us1, rfl, hl1⟩ := lnS (n := 0) hl0;  obtain rfl := List.eq_nil_of_length_eq_zero hl1; rfl
  have F_law_next := fun_mk (st := s_law_next) l_law_next cc_law_next k_law_next
  have b_law_next := F_law_next.binds (ps := ["_law_pen", "_law_many"]) fun _ _ _ _ _ _ us hl => by obtain ⟨a0, us0, rfl, hl0⟩ := lnS (n := 1) hl; obtain ⟨a1, us1, rfl, hl1⟩ := lnS (n := 0) hl0;  obtain rfl := List.eq_nil_of_length_eq_zero hl1; rfl
  have F_law_turned := fun_mk (st := s_law_turned) l_law_turned cc_law_turned k_law_turned
  have b_law_turned := F_law_turned.binds (ps := ["_law_pen", "_law_some"]) fun _ _ _ _ _ _ us hl => by obtain ⟨a0, us0, rfl, hl0⟩ := lnS (n := 1) hl; obtain ⟨a1, us1, rfl, hl1⟩ := lnS (n := 0) hl0;  obtain rfl := List.eq_nil_of_length_eq_zero hl1; rfl
  have F_law_words := fun_mk (st := s_law_words) l_law_words cc_law_words k_law_words
  have b_law_words := F_law_words.binds (ps := ["_law_pen"]) fun _ _ _ _ _ _ us hl => by obtain ⟨a0, us0, rfl, hl0⟩ := lnS (n := 0) hl;  obtain rfl := List.eq_nil_of_length_eq_zero hl0; rfl
  have F_law_head := fun_mk (st := s_law_head) l_law_head cc_law_head k_law_head
  have b_law_head := F_law_head.binds (ps := ["_law_pen", "_law_names", "_law_ahead"]) fun _ _ _ _ _ _ us hl => by obtain ⟨a0, us0, rfl, hl0⟩ := lnS (n := 2) hl; obtain ⟨a1, us1, rfl, hl1⟩ := lnS (n := 1) hl0; obtain ⟨a2, us2, rfl, hl2⟩ := lnS (n := 0) hl1;  obtain rfl := List.eq_nil_of_length_eq_zero hl2; rfl
  have F_law_telling := fun_mk (st := s_law_telling) l_law_telling cc_law_telling k_law_telling
  have b_law_telling := F_law_telling.binds (ps := ["_law_pen", "_law_most"]) fun _ _ _ _ _ _ us hl => by obtain ⟨a0, us0, rfl, hl0⟩ := lnS (n := 1) hl; obtain ⟨a1, us1, rfl, hl1⟩ := lnS (n := 0) hl0;  obtain rfl := List.eq_nil_of_length_eq_zero hl1; rfl
  have F_law_any := fun_mk (st := s_law_any) l_law_any cc_law_any k_law_any
  have b_law_any := F_law_any.binds (ps := ["_law_pen", "_law_told"]) fun _ _ _ _ _ _ us hl => by obtain ⟨a0, us0, rfl, hl0⟩ := lnS (n := 1) hl; obtain ⟨a1, us1, rfl, hl1⟩ := lnS (n := 0) hl0;  obtain rfl := List.eq_nil_of_length_eq_zero hl1; rfl
  have F_law_row_here := fun_mk (st := s_law_row_here) l_law_row_here cc_law_row_here k_law_row_here
  have b_law_row_here := F_law_row_here.binds (ps := ["_law_told", "_law_name"]) fun _ _ _ _ _ _ us hl => by obtain ⟨a0, us0, rfl, hl0⟩ := lnS (n := 1) hl; obtain ⟨a1, us1, rfl, hl1⟩ := lnS (n := 0) hl0;  obtain rfl := List.eq_nil_of_length_eq_zero hl1; rfl
  have F_law_head_here := fun_mk (st := s_law_head_here) l_law_head_here cc_law_head_here k_law_head_here
  have b_law_head_here := F_law_head_here.binds (ps := ["_law_told", "_law_name"]) fun _ _ _ _ _ _ us hl => by obtain ⟨a0, us0, rfl, hl0⟩ := lnS (n := 1) hl; obtain ⟨a1, us1, rfl, hl1⟩ := lnS (n := 0) hl0;  obtain rfl := List.eq_nil_of_length_eq_zero hl1; rfl
  have F_law_maker_telling := fun_mk (st := s_law_maker_telling) l_law_maker_telling cc_law_maker_telling k_law_maker_telling
  have b_law_maker_telling := F_law_maker_telling.binds (ps := ["_law_pen", "_law_most"]) fun _ _ _ _ _ _ us hl => by obtain ⟨a0, us0, rfl, hl0⟩ := lnS (n := 1) hl; obtain ⟨a1, us1, rfl, hl1⟩ := lnS (n := 0) hl0;  obtain rfl := List.eq_nil_of_length_eq_zero hl1; rfl
  have F_law_endless := fun_mk (st := s_law_endless) l_law_endless cc_law_endless k_law_endless
  have b_law_endless := F_law_endless.binds (ps := []) fun _ _ _ _ _ _ us hl => by  obtain rfl := List.eq_nil_of_length_eq_zero hl; rfl
  have F_law_name_bound := fun_mk (st := s_law_name_bound) l_law_name_bound cc_law_name_bound k_law_name_bound
  have b_law_name_bound := F_law_name_bound.binds (ps := ["_law_pen"]) fun _ _ _ _ _ _ us hl => by obtain ⟨a0, us0, rfl, hl0⟩ := lnS (n := 0) hl;  obtain rfl := List.eq_nil_of_length_eq_zero hl0; rfl
  have F_law_for := fun_mk (st := s_law_for) l_law_for cc_law_for k_law_for
  have b_law_for := F_law_for.binds (ps := ["_law_pen", "_law_told", "_law_name", "_law_known", "_law_deep"]) fun _ _ _ _ _ _ us hl => by obtain ⟨a0, us0, rfl, hl0⟩ := lnS (n := 4) hl; obtain ⟨a1, us1, rfl, hl1⟩ := lnS (n := 3) hl0; obtain ⟨a2, us2, rfl, hl2⟩ := lnS (n := 2) hl1; obtain ⟨a3, us3, rfl, hl3⟩ := lnS (n := 1) hl2; obtain ⟨a4, us4, rfl, hl4⟩ := lnS (n := 0) hl3;  obtain rfl := List.eq_nil_of_length_eq_zero hl4; rfl
  have F_law_wrapped := fun_mk (st := s_law_wrapped) l_law_wrapped cc_law_wrapped k_law_wrapped
  have b_law_wrapped := F_law_wrapped.binds (ps := ["_law_pen", "_law_told", "_law_name", "_law_known", "_law_deep"]) fun _ _ _ _ _ _ us hl => by obtain ⟨a0, us0, rfl, hl0⟩ := lnS (n := 4) hl; obtain ⟨a1, us1, rfl, hl1⟩ := lnS (n := 3) hl0; obtain ⟨a2, us2, rfl, hl2⟩ := lnS (n := 2) hl1; obtain ⟨a3, us3, rfl, hl3⟩ := lnS (n := 1) hl2; obtain ⟨a4, us4, rfl, hl4⟩ := lnS (n := 0) hl3;  obtain rfl := List.eq_nil_of_length_eq_zero hl4; rfl
  have F_law_split_over := fun_mk (st := s_law_split_over) l_law_split_over cc_law_split_over k_law_split_over
  have b_law_split_over := F_law_split_over.binds (ps := ["_law_pen", "_law_told", "_law_name", "_law_known", "_law_deep"]) fun _ _ _ _ _ _ us hl => by obtain ⟨a0, us0, rfl, hl0⟩ := lnS (n := 4) hl; obtain ⟨a1, us1, rfl, hl1⟩ := lnS (n := 3) hl0; obtain ⟨a2, us2, rfl, hl2⟩ := lnS (n := 2) hl1; obtain ⟨a3, us3, rfl, hl3⟩ := lnS (n := 1) hl2; obtain ⟨a4, us4, rfl, hl4⟩ := lnS (n := 0) hl3;  obtain rfl := List.eq_nil_of_length_eq_zero hl4; rfl
  have F_law_many := fun_mk (st := s_law_many) l_law_many cc_law_many k_law_many
  have b_law_many := F_law_many.binds (ps := ["_law_maker"]) fun _ _ _ _ _ _ us hl => by obtain ⟨a0, us0, rfl, hl0⟩ := lnS (n := 0) hl;  obtain rfl := List.eq_nil_of_length_eq_zero hl0; rfl
  have F_law_parts := fun_mk (st := s_law_parts) l_law_parts cc_law_parts k_law_parts
  have b_law_parts := F_law_parts.binds (ps := ["_law_maker"]) fun _ _ _ _ _ _ us hl => by obtain ⟨a0, us0, rfl, hl0⟩ := lnS (n := 0) hl;  obtain rfl := List.eq_nil_of_length_eq_zero hl0; rfl
  have F_law_small_maker := fun_mk (st := s_law_small_maker) l_law_small_maker cc_law_small_maker k_law_small_maker
  have b_law_small_maker := F_law_small_maker.binds (ps := ["_law_pen", "_law_told", "_law_name"]) fun _ _ _ _ _ _ us hl => by obtain ⟨a0, us0, rfl, hl0⟩ := lnS (n := 2) hl; obtain ⟨a1, us1, rfl, hl1⟩ := lnS (n := 1) hl0; obtain ⟨a2, us2, rfl, hl2⟩ := lnS (n := 0) hl1;  obtain rfl := List.eq_nil_of_length_eq_zero hl2; rfl
  have F_law_places := fun_mk (st := s_law_places) l_law_places cc_law_places k_law_places
  have b_law_places := F_law_places.binds (ps := ["_law_maker", "_law_place"]) fun _ _ _ _ _ _ us hl => by obtain ⟨a0, us0, rfl, hl0⟩ := lnS (n := 1) hl; obtain ⟨a1, us1, rfl, hl1⟩ := lnS (n := 0) hl0;  obtain rfl := List.eq_nil_of_length_eq_zero hl1; rfl
  have F_law := fun_mk (st := s_law) l_law cc_law k_law
  have b_law := F_law.binds (ps := ["script"]) fun _ _ _ _ _ _ us hl => by obtain ⟨a0, us0, rfl, hl0⟩ := lnS (n := 0) hl;  obtain rfl := List.eq_nil_of_length_eq_zero hl0; rfl
  exact ⟨PySem.W.mg_none_of X G z_len,
    PySem.W.mg_none_of X G z_range,
    PySem.W.mg_none_of X G z_list,
    PySem.W.mg_none_of X G z_tuple,
    PySem.W.mg_none_of X G z_dict,
    PySem.W.mg_none_of X G z_sorted,
    PySem.W.mg_none_of X G z_zip,
    PySem.W.mg_none_of X G z_sum,
    ⟨ad_PLACES, td_PLACES_0, td_PLACES_1, td_PLACES_2, td_PLACES_3, td_PLACES_4, td_PLACES_5, td_PLACES_6, td_PLACES_7, PySem.W.mg_of X G g_PLACES, fun P => ⟨_, es_PLACES, ep_PLACES, vs_PLACES, gl_PLACES, gs_PLACES, ⟨rfl, rfl, rfl⟩, rfl, gk_PLACES P, gp_PLACES P, gn_PLACES, gv_PLACES⟩, fun H => .inr ⟨_, it_PLACES_0, nn_PLACES_0, gl_PLACES_0, rfl, rfl, gz_PLACES_0, gv_PLACES_0⟩, fun H => .inr ⟨_, it_PLACES_1, nn_PLACES_1, gl_PLACES_1, rfl, rfl, gz_PLACES_1, gv_PLACES_1⟩, fun H => .inr ⟨_, it_PLACES_2, nn_PLACES_2, gl_PLACES_2, rfl, rfl, gz_PLACES_2, gv_PLACES_2⟩, fun H => .inr ⟨_, it_PLACES_3, nn_PLACES_3, gl_PLACES_3, rfl, rfl, gz_PLACES_3, gv_PLACES_3⟩, fun H => .inr ⟨_, it_PLACES_4, nn_PLACES_4, gl_PLACES_4, rfl, rfl, gz_PLACES_4, gv_PLACES_4⟩, fun H => .inr ⟨_, it_PLACES_5, nn_PLACES_5, gl_PLACES_5, rfl, rfl, gz_PLACES_5, gv_PLACES_5⟩, fun H => .inr ⟨_, it_PLACES_6, nn_PLACES_6, gl_PLACES_6, rfl, rfl, gz_PLACES_6, gv_PLACES_6⟩, fun H => .inr ⟨_, it_PLACES_7, nn_PLACES_7, gl_PLACES_7, rfl, rfl, gz_PLACES_7, gv_PLACES_7⟩⟩,
    ⟨f_maker_at, _, F_maker_at, PySem.W.mg_of X G a_maker_at, b_maker_at⟩,
    ⟨f_makers_in, _, F_makers_in, PySem.W.mg_of X G a_makers_in, b_makers_in⟩,
    ⟨f_law_fill, _, F_law_fill, PySem.W.mg_of X G a_law_fill, b_law_fill⟩,
    ⟨f_law_next, _, F_law_next, PySem.W.mg_of X G a_law_next, b_law_next⟩,
    ⟨f_law_turned, _, F_law_turned, PySem.W.mg_of X G a_law_turned, b_law_turned⟩,
    ⟨f_law_words, _, F_law_words, PySem.W.mg_of X G a_law_words, b_law_words⟩,
    ⟨f_law_head, _, F_law_head, PySem.W.mg_of X G a_law_head, b_law_head⟩,
    ⟨f_law_telling, _, F_law_telling, PySem.W.mg_of X G a_law_telling, b_law_telling⟩,
    ⟨f_law_any, _, F_law_any, PySem.W.mg_of X G a_law_any, b_law_any⟩,
    ⟨f_law_row_here, _, F_law_row_here, PySem.W.mg_of X G a_law_row_here, b_law_row_here⟩,
    ⟨f_law_head_here, _, F_law_head_here, PySem.W.mg_of X G a_law_head_here, b_law_head_here⟩,
    ⟨f_law_maker_telling, _, F_law_maker_telling, PySem.W.mg_of X G a_law_maker_telling, b_law_maker_telling⟩,
    ⟨f_law_endless, _, F_law_endless, PySem.W.mg_of X G a_law_endless, b_law_endless⟩,
    ⟨f_law_name_bound, _, F_law_name_bound, PySem.W.mg_of X G a_law_name_bound, b_law_name_bound⟩,
    ⟨f_law_for, _, F_law_for, PySem.W.mg_of X G a_law_for, b_law_for⟩,
    ⟨f_law_wrapped, _, F_law_wrapped, PySem.W.mg_of X G a_law_wrapped, b_law_wrapped⟩,
    ⟨f_law_split_over, _, F_law_split_over, PySem.W.mg_of X G a_law_split_over, b_law_split_over⟩,
    ⟨f_law_many, _, F_law_many, PySem.W.mg_of X G a_law_many, b_law_many⟩,
    ⟨f_law_parts, _, F_law_parts, PySem.W.mg_of X G a_law_parts, b_law_parts⟩,
    ⟨f_law_small_maker, _, F_law_small_maker, PySem.W.mg_of X G a_law_small_maker, b_law_small_maker⟩,
    ⟨f_law_places, _, F_law_places, PySem.W.mg_of X G a_law_places, b_law_places⟩,
    ⟨f_law, _, F_law, PySem.W.mg_of X G a_law, b_law⟩⟩
theorem walk {l : PySem.W.OpenLaw} {q : Program} {loose : List Str} {XP : (Str → Option Value) → Heap → Prop} {YP : World → Heap → Prop} {d : DefRec} {K : Params → PySem.W.Frag} (hn : l.most = some 63) (hdf : d.params.defaults = [])
    (hY : ∀ (w : World) (h : Heap), YP w h → (K w.params).In h) (hname : d.name = "law")
    (F : ∀ (w : World) (mg : Str → Option Value) (h : Heap), (K w.params).In h → h.Ns mainGlobals mg → Txt (K w.params) mg w) :
    PySem.W.WalkO q loose XP YP l.row.toRowW d [] (fun f vs => PySem.call f vs) :=
  L2.walk_of (n := 63) (k := 40) (x := "script") (CX := fun _ => CX0) (sp := fun w => spLaw (K w.params)) hn (by decide) hdf ⟨rfl, by decide, by decide, rfl⟩ hY (fun w mg fa h KX G hmg => by
    have T := F w mg h KX G
    obtain ⟨f, fd, Fu, m, b⟩ := T.t_law
    rw [hname] at hmg
    rw [m] at hmg
    cases hmg
    refine ⟨fd, fun s u => ?_, fun base kb nb => ?_⟩
    · have := Fu.ex
      obtain ⟨oc, od, kV, doc, pm, an, cdv, ct, osl, rfl, lk, hcd⟩ := this
      exact .of_eq rfl
    · obtain ⟨f', fd', G', m', k', b', oc', od', osl', lk'⟩ := (ok_law T : FnK l.prog w (K w.params) mg base 40 "law" ["script"] (spLaw (K w.params)))
      rw [m] at m'
      cases m'
      have e : fd = fd' := by
        have hx := Fu.ex
        obtain ⟨oc, od, kV, doc, pm, an, cdv, ct, osl, e1, lk, hcd⟩ := hx
        rw [lk] at lk'
        have := Option.some.inj lk'
        injection this with _ _ h3 _
        injection h3
      rw [e]; exact G') (fun _ _ a ns hl _ hS => ⟨a, ns, rfl, hS, hl, fun _ => rfl⟩) fun _ _ _ _ _ z => z
end T1
open PySem PySem.W PyProof.Rows L2
set_option maxRecDepth 100000 in
set_option maxHeartbeats 0 in
theorem PySem.Challenge.cw_coilkind_k76_makers_at_places_holds : PySem.Challenge.rw_coilkind_k76_makers_at_places.Holds := by
  w_on; o_law; k_head; (case hw => w_witness2)
  k_fill
  refine T1.walk (l := PySem.Challenge.rw_coilkind_k76_makers_at_places) rfl rfl (fun w h Y => PySem.W.kIn_of Y) rfl ?F
  case F =>
    intro w mg h KX G
    refine' T1.txt_mk KX G (a_maker_at := ?a_maker_at) (l_maker_at := ?l_maker_at) (cc_maker_at := ?cc_maker_at) (k_maker_at := ?k_maker_at) (a_makers_in := ?a_makers_in) (l_makers_in := ?l_makers_in) (cc_makers_in := ?cc_makers_in) (k_makers_in := ?k_makers_in) (a_law_fill := ?a_law_fill) (l_law_fill := ?l_law_fill) (cc_law_fill := ?cc_law_fill) (k_law_fill := ?k_law_fill) (a_law_next := ?a_law_next) (l_law_next := ?l_law_next) (cc_law_next := ?cc_law_next) (k_law_next := ?k_law_next) (a_law_turned := ?a_law_turned) (l_law_turned := ?l_law_turned) (cc_law_turned := ?cc_law_turned) (k_law_turned := ?k_law_turned) (a_law_words := ?a_law_words) (l_law_words := ?l_law_words) (cc_law_words := ?cc_law_words) (k_law_words := ?k_law_words) (a_law_head := ?a_law_head) (l_law_head := ?l_law_head) (cc_law_head := ?cc_law_head) (k_law_head := ?k_law_head) (a_law_telling := ?a_law_telling) (l_law_telling := ?l_law_telling) (cc_law_telling := ?cc_law_telling) (k_law_telling := ?k_law_telling) (a_law_any := ?a_law_any) (l_law_any := ?l_law_any) (cc_law_any := ?cc_law_any) (k_law_any := ?k_law_any) (a_law_row_here := ?a_law_row_here) (l_law_row_here := ?l_law_row_here) (cc_law_row_here := ?cc_law_row_here) (k_law_row_here := ?k_law_row_here) (a_law_head_here := ?a_law_head_here) (l_law_head_here := ?l_law_head_here) (cc_law_head_here := ?cc_law_head_here) (k_law_head_here := ?k_law_head_here) (a_law_maker_telling := ?a_law_maker_telling) (l_law_maker_telling := ?l_law_maker_telling) (cc_law_maker_telling := ?cc_law_maker_telling) (k_law_maker_telling := ?k_law_maker_telling) (a_law_endless := ?a_law_endless) (l_law_endless := ?l_law_endless) (cc_law_endless := ?cc_law_endless) (k_law_endless := ?k_law_endless) (a_law_name_bound := ?a_law_name_bound) (l_law_name_bound := ?l_law_name_bound) (cc_law_name_bound := ?cc_law_name_bound) (k_law_name_bound := ?k_law_name_bound) (a_law_for := ?a_law_for) (l_law_for := ?l_law_for) (cc_law_for := ?cc_law_for) (k_law_for := ?k_law_for) (a_law_wrapped := ?a_law_wrapped) (l_law_wrapped := ?l_law_wrapped) (cc_law_wrapped := ?cc_law_wrapped) (k_law_wrapped := ?k_law_wrapped) (a_law_split_over := ?a_law_split_over) (l_law_split_over := ?l_law_split_over) (cc_law_split_over := ?cc_law_split_over) (k_law_split_over := ?k_law_split_over) (a_law_many := ?a_law_many) (l_law_many := ?l_law_many) (cc_law_many := ?cc_law_many) (k_law_many := ?k_law_many) (a_law_parts := ?a_law_parts) (l_law_parts := ?l_law_parts) (cc_law_parts := ?cc_law_parts) (k_law_parts := ?k_law_parts) (a_law_small_maker := ?a_law_small_maker) (l_law_small_maker := ?l_law_small_maker) (cc_law_small_maker := ?cc_law_small_maker) (k_law_small_maker := ?k_law_small_maker) (a_law_places := ?a_law_places) (l_law_places := ?l_law_places) (cc_law_places := ?cc_law_places) (k_law_places := ?k_law_places) (a_law := ?a_law) (l_law := ?l_law) (cc_law := ?cc_law) (k_law := ?k_law) (z_len := ?z_len) (z_range := ?z_range) (z_list := ?z_list) (z_tuple := ?z_tuple) (z_dict := ?z_dict) (z_sorted := ?z_sorted) (z_zip := ?z_zip) (z_sum := ?z_sum) (g_PLACES := ?g_PLACES) (gl_PLACES := ?gl_PLACES) (gs_PLACES := ?gs_PLACES) (gp_PLACES := ?gp_PLACES) (gk_PLACES := ?gk_PLACES) (gn_PLACES := ?gn_PLACES) (gv_PLACES := ?gv_PLACES) (gl_PLACES_0 := ?gl_PLACES_0) (gz_PLACES_0 := ?gz_PLACES_0) (gv_PLACES_0 := ?gv_PLACES_0) (gl_PLACES_1 := ?gl_PLACES_1) (gz_PLACES_1 := ?gz_PLACES_1) (gv_PLACES_1 := ?gv_PLACES_1) (gl_PLACES_2 := ?gl_PLACES_2) (gz_PLACES_2 := ?gz_PLACES_2) (gv_PLACES_2 := ?gv_PLACES_2) (gl_PLACES_3 := ?gl_PLACES_3) (gz_PLACES_3 := ?gz_PLACES_3) (gv_PLACES_3 := ?gv_PLACES_3) (gl_PLACES_4 := ?gl_PLACES_4) (gz_PLACES_4 := ?gz_PLACES_4) (gv_PLACES_4 := ?gv_PLACES_4) (gl_PLACES_5 := ?gl_PLACES_5) (gz_PLACES_5 := ?gz_PLACES_5) (gv_PLACES_5 := ?gv_PLACES_5) (gl_PLACES_6 := ?gl_PLACES_6) (gz_PLACES_6 := ?gz_PLACES_6) (gv_PLACES_6 := ?gv_PLACES_6) (gl_PLACES_7 := ?gl_PLACES_7) (gz_PLACES_7 := ?gz_PLACES_7) (gv_PLACES_7 := ?gv_PLACES_7)
    (case a_maker_at => k_is)
    (case l_maker_at => k_is)
    (case cc_maker_at => k_is)
    (case k_maker_at => k_is)
    (case a_makers_in => k_is)
    (case l_makers_in => k_is)
    (case cc_makers_in => k_is)
    (case k_makers_in => k_is)
    (case a_law_fill => k_is)
    (case l_law_fill => k_is)
    (case cc_law_fill => k_is)
    (case k_law_fill => k_is)
    (case a_law_next => k_is)
    (case l_law_next => k_is)
    (case cc_law_next => k_is)
    (case k_law_next => k_is)
    (case a_law_turned => k_is)
    (case l_law_turned => k_is)
    (case cc_law_turned => k_is)
    (case k_law_turned => k_is)
    (case a_law_words => k_is)
    (case l_law_words => k_is)
    (case cc_law_words => k_is)
    (case k_law_words => k_is)
    (case a_law_head => k_is)
    (case l_law_head => k_is)
    (case cc_law_head => k_is)
    (case k_law_head => k_is)
    (case a_law_telling => k_is)
    (case l_law_telling => k_is)
    (case cc_law_telling => k_is)
    (case k_law_telling => k_is)
    (case a_law_any => k_is)
    (case l_law_any => k_is)
    (case cc_law_any => k_is)
    (case k_law_any => k_is)
    (case a_law_row_here => k_is)
    (case l_law_row_here => k_is)
    (case cc_law_row_here => k_is)
    (case k_law_row_here => k_is)
    (case a_law_head_here => k_is)
    (case l_law_head_here => k_is)
    (case cc_law_head_here => k_is)
    (case k_law_head_here => k_is)
    (case a_law_maker_telling => k_is)
    (case l_law_maker_telling => k_is)
    (case cc_law_maker_telling => k_is)
    (case k_law_maker_telling => k_is)
    (case a_law_endless => k_is)
    (case l_law_endless => k_is)
    (case cc_law_endless => k_is)
    (case k_law_endless => k_is)
    (case a_law_name_bound => k_is)
    (case l_law_name_bound => k_is)
    (case cc_law_name_bound => k_is)
    (case k_law_name_bound => k_is)
    (case a_law_for => k_is)
    (case l_law_for => k_is)
    (case cc_law_for => k_is)
    (case k_law_for => k_is)
    (case a_law_wrapped => k_is)
    (case l_law_wrapped => k_is)
    (case cc_law_wrapped => k_is)
    (case k_law_wrapped => k_is)
    (case a_law_split_over => k_is)
    (case l_law_split_over => k_is)
    (case cc_law_split_over => k_is)
    (case k_law_split_over => k_is)
    (case a_law_many => k_is)
    (case l_law_many => k_is)
    (case cc_law_many => k_is)
    (case k_law_many => k_is)
    (case a_law_parts => k_is)
    (case l_law_parts => k_is)
    (case cc_law_parts => k_is)
    (case k_law_parts => k_is)
    (case a_law_small_maker => k_is)
    (case l_law_small_maker => k_is)
    (case cc_law_small_maker => k_is)
    (case k_law_small_maker => k_is)
    (case a_law_places => k_is)
    (case l_law_places => k_is)
    (case cc_law_places => k_is)
    (case k_law_places => k_is)
    (case a_law => k_is)
    (case l_law => k_is)
    (case cc_law => k_is)
    (case k_law => k_is)
    (case z_len => k_is)
    (case z_range => k_is)
    (case z_list => k_is)
    (case z_tuple => k_is)
    (case z_dict => k_is)
    (case z_sorted => k_is)
    (case z_zip => k_is)
    (case z_sum => k_is)
    (case g_PLACES => k_is)
    (case gl_PLACES => k_is)
    (case gs_PLACES => decide)
    (case gp_PLACES => intro P; exact .cons (kv := ((Sum.inr "get", _) : Key × Value)) (mixKind_str _ _ _ _) rfl (.cons (kv := ((Sum.inr "fn", _) : Key × Value)) (mixKind_str _ _ _ _) rfl (.cons (kv := ((Sum.inr "call", _) : Key × Value)) (mixKind_str _ _ _ _) rfl (.cons (kv := ((Sum.inr "box", _) : Key × Value)) (mixKind_str _ _ _ _) rfl (.cons (kv := ((Sum.inr "part", _) : Key × Value)) (mixKind_str _ _ _ _) rfl (.cons (kv := ((Sum.inr "pick", _) : Key × Value)) (mixKind_str _ _ _ _) rfl (.cons (kv := ((Sum.inr "split", _) : Key × Value)) (mixKind_str _ _ _ _) rfl (.cons (kv := ((Sum.inr "hold", _) : Key × Value)) (mixKind_str _ _ _ _) rfl (.nil)))))))))
    (case gk_PLACES => intro P e he; simp only [List.mem_toArray, Array.mem_toArray, List.mem_cons, List.mem_nil_iff, or_false] at he; rcases he with rfl | rfl | rfl | rfl | rfl | rfl | rfl | rfl <;> exact ⟨.inr _, mixKind_str _ _ _ _, rfl⟩)
    (case gn_PLACES => decide)
    (case gv_PLACES => exact .cons ⟨rfl, rfl⟩ (.cons ⟨rfl, rfl⟩ (.cons ⟨rfl, rfl⟩ (.cons ⟨rfl, rfl⟩ (.cons ⟨rfl, rfl⟩ (.cons ⟨rfl, rfl⟩ (.cons ⟨rfl, rfl⟩ (.cons ⟨rfl, rfl⟩ (.nil)))))))))
    (case gl_PLACES_0 => k_is)
    (case gz_PLACES_0 => decide)
    (case gv_PLACES_0 => exact .cons ⟨_, rfl⟩ (.nil))
    (case gl_PLACES_1 => k_is)
    (case gz_PLACES_1 => decide)
    (case gv_PLACES_1 => exact .cons ⟨_, rfl⟩ (.cons ⟨_, rfl⟩ (.cons ⟨_, rfl⟩ (.nil))))
    (case gl_PLACES_2 => k_is)
    (case gz_PLACES_2 => decide)
    (case gv_PLACES_2 => exact .cons ⟨_, rfl⟩ (.cons ⟨_, rfl⟩ (.nil)))
    (case gl_PLACES_3 => k_is)
    (case gz_PLACES_3 => decide)
    (case gv_PLACES_3 => exact .cons ⟨_, rfl⟩ (.nil))
    (case gl_PLACES_4 => k_is)
    (case gz_PLACES_4 => decide)
    (case gv_PLACES_4 => exact .cons ⟨_, rfl⟩ (.cons ⟨_, rfl⟩ (.nil)))
    (case gl_PLACES_5 => k_is)
    (case gz_PLACES_5 => decide)
    (case gv_PLACES_5 => exact .cons ⟨_, rfl⟩ (.cons ⟨_, rfl⟩ (.nil)))
    (case gl_PLACES_6 => k_is)
    (case gz_PLACES_6 => decide)
    (case gv_PLACES_6 => exact .cons ⟨_, rfl⟩ (.cons ⟨_, rfl⟩ (.nil)))
    (case gl_PLACES_7 => k_is)
    (case gz_PLACES_7 => decide)
    (case gv_PLACES_7 => exact .cons ⟨_, rfl⟩ (.cons ⟨_, rfl⟩ (.nil)))

