import PyProof.Rows.All
import Wide.All
import OpenK.AllK
import Wide.FinOn
import Lean
import PyProof.EqAt
import PyProof.EqKinds
import PyProof.TupleCall
import PyProof.DictCompW
import PyProof.AutoListH
import PyProof.EnumMake
import PyProof.ZipIter
import PyProof.AttrMissSeq
import KE.KDictOf
import PyProof.ReprLen
import PyProof.StrLawsRepr
import KE.KUnpackStar
import PyProof.DictWalks
import PyProof.Rows.DictUnroll
import PyProof.Rows.Range3
import PyProof.Rows.ChunkEnd
import PyProof.Rows.ChunkLeaf
import PyProof.StrCalls2
import PyProof.StrLawsTight
import PyProof.StrLawsChain
import PyProof.Rows.StrSplitJoin
import PyProof.Conv_int_bool
import PyProof.Rows.TupMore
import KE.KItemsList
import PyProof.NeKinds
import PyProof.Rows.SetFrom
import PyProof.SetRoads
import KE.KRevIter
import PyProof.CollectIter
import PyProof.TupleOfGen
import PyProof.StrLawsIn
import PyProof.Rows.StrCut
import PyProof.StrCalls
import PyProof.CallFns
import PyProof.FString5
import PyProof.NsCount
import PyProof.DictItems
import KE.KPairComp
import PyProof.DictValues
import PyProof.SumWalk
import PyProof.ConsumeWalk
import PyProof.SumAny
import PyProof.FactsAll.range_2
import PyProof.WalksMore
import PyProof.MinMaxWalk
import PyProof.SeqI3
import KE.KDictList
import KE.KStrOpen
import PySem.Challenge.RW_coilkind_k64_holed_tellings_known
set_option Elab.async false
set_option linter.all false
set_option maxRecDepth 100000
namespace L2
open PySem PySem.Spec PyProof.Rows
abbrev Key := Sum Int Str
def keyIs : Key → Value → Bool
  | .inl k, v => Value.isInt k v
  | .inr x, v => Value.isStrOf x v
def keyH (w : World) : Key → Int
  | .inl k => hashInt k
  | .inr x => hashStr w x
theorem keyIs_shape : ∀ {k : Key} {v : Value}, keyIs k v = true → (∃ i t, k = Sum.inl i ∧ v = Value.int i t) ∨ (∃ x t, k = Sum.inr x ∧ v = Value.str x t)
  | .inl i, v, h => by
    obtain ⟨t, e⟩ := Value.isInt_shape (k := i) (v := v) h
    exact .inl ⟨i, t, rfl, e⟩
  | .inr x, v, h => by
    obtain ⟨t, e⟩ := Value.isStrOf_shape (x := x) (v := v) h
    exact .inr ⟨x, t, rfl, e⟩
theorem keyIs_int (i : Int) (t : Tok) : keyIs (.inl i) (.int i t) = true := by simp [keyIs, Value.isInt]
theorem keyIs_str (x : Str) (t : Tok) : keyIs (.inr x) (.str x t) = true := by simp [keyIs, Value.isStrOf]
theorem key_ll (a b : Int) : decide ((Sum.inl a : Key) = Sum.inl b) = (a == b) := by
  by_cases e : a = b
  · subst e; simp
  · have h : ¬ (Sum.inl a : Key) = Sum.inl b := fun q => e (Sum.inl.inj q)
    rw [decide_eq_false h]
    exact (beq_eq_false_iff_ne.mpr e).symm
theorem key_rr (a b : Str) : decide ((Sum.inr a : Key) = Sum.inr b) = decide (a = b) := by
  by_cases e : a = b
  · subst e; simp
  · have h : ¬ (Sum.inr a : Key) = Sum.inr b := fun q => e (Sum.inr.inj q)
    rw [decide_eq_false h, decide_eq_false e]
theorem key_lr (a : Int) (b : Str) : decide ((Sum.inl a : Key) = Sum.inr b) = false := decide_eq_false (fun q => nomatch q)
theorem key_rl (a : Str) (b : Int) : decide ((Sum.inr a : Key) = Sum.inl b) = false := decide_eq_false (fun q => nomatch q)
def mixKind (prog : Program) (w : World) : PySem.KeyKind prog w Key where
  is := keyIs
  hash := keyH w
  inj := fun v a b ha hb => by
    rcases keyIs_shape ha with ⟨i, t, rfl, rfl⟩ | ⟨x, t, rfl, rfl⟩
    · rcases keyIs_shape hb with ⟨j, u, rfl, e⟩ | ⟨y, u, rfl, e⟩
      · injection e with e1 _; rw [e1]
      · exact nomatch e
    · rcases keyIs_shape hb with ⟨j, u, rfl, e⟩ | ⟨y, u, rfl, e⟩
      · exact nomatch e
      · injection e with e1 _; rw [e1]
  byValue := fun k v h => by
    rcases keyIs_shape h with ⟨i, t, rfl, rfl⟩ | ⟨x, t, rfl, rfl⟩ <;> rfl
  pyHash := fun hv h => by
    rcases keyIs_shape hv with ⟨i, t, rfl, rfl⟩ | ⟨x, t, rfl, rfl⟩
    · exact wpAny_pyHash_int h
    · exact wpAny_pyHash_str h
  eqBool := fun hu hv h => by
    rcases keyIs_shape hu with ⟨i, t, rfl, rfl⟩ | ⟨x, t, rfl, rfl⟩
    · rcases keyIs_shape hv with ⟨j, u, rfl, rfl⟩ | ⟨y, u, rfl, rfl⟩
      · rw [key_ll] at h; exact wpAny_eqBool_int h
      · rw [key_lr] at h; exact SeqAt.EqAt.int_str i t y u _ _ _ _ h
    · rcases keyIs_shape hv with ⟨j, u, rfl, rfl⟩ | ⟨y, u, rfl, rfl⟩
      · rw [key_rl] at h; exact SeqAt.EqAt.str_int x t j u _ _ _ _ h
      · rw [key_rr] at h; exact wpAny_eqBool_str h
  «strs» := fun k x t v h => by
    rcases keyIs_shape h with ⟨i, u, rfl, e⟩ | ⟨y, u, rfl, e⟩
    · exact nomatch e
    · injection e with e1 _
      subst e1
      cases v <;> rfl
theorem mixKind_int (prog : Program) (w : World) (i : Int) (t : Tok) : (mixKind prog w).is (.inl i) (.int i t) = true := keyIs_int i t
theorem mixKind_str (prog : Program) (w : World) (x : Str) (t : Tok) : (mixKind prog w).is (.inr x) (.str x t) = true := keyIs_str x t
end L2
namespace L2
open PySem PySem.Spec PyProof.Rows
inductive V where
  | non | bl (b : Bool) | int (i : Int) | str (x : Str) | byt (b : Array UInt8) | flt (b : UInt64) | ref (a : Addr) | ty (n : String)
  deriving DecidableEq
def RelV : V → Value → Prop
  | .non, u => u = Value.none
  | .bl b, u => u = Value.bool b
  | .int i, u => ∃ t, u = Value.int i t
  | .str x, u => ∃ t, u = Value.str x t
  | .byt b, u => ∃ t, u = Value.bytes b t
  | .flt b, u => ∃ t, u = Value.float b t
  | .ref a, u => u = Value.ref a
  | .ty n, u => u = Value.type n
abbrev Vals : List V → List Value → Prop := Paired RelV
theorem Vals.length {xs : List V} {us : List Value} (r : Vals xs us) : xs.length = us.length := Paired.length r
theorem Vals.get : ∀ {xs : List V} {us : List Value} {i : Nat} {x : V}, Vals xs us → xs[i]? = some x → ∃ u, us[i]? = some u ∧ RelV x u
  | _, _, _, _, .nil, e => by simp at e
  | _, _, 0, _, .cons r _, e => by simp at e; subst e; exact ⟨_, rfl, r⟩
  | _, _, i + 1, x, .cons _ t, e => by
    obtain ⟨u, h1, h2⟩ := Vals.get (i := i) (x := x) t (by simpa using e)
    exact ⟨u, by simpa using h1, h2⟩
theorem Vals.set {x : V} {u : Value} (r : RelV x u) : ∀ {xs : List V} {us : List Value} (i : Nat), Vals xs us → Vals (xs.set i x) (us.set i u)
  | _, _, _, .nil => .nil
  | _, _, 0, .cons _ t => .cons r t
  | _, _, i + 1, .cons q t => .cons q (Vals.set r i t)
theorem Vals.append : ∀ {xs ys : List V} {us ws : List Value}, Vals xs us → Vals ys ws → Vals (xs ++ ys) (us ++ ws)
  | _, _, _, _, .nil, s => s
  | _, _, _, _, .cons r t, s => .cons r (Vals.append t s)
theorem Vals.take : ∀ {xs : List V} {us : List Value} (n : Nat), Vals xs us → Vals (xs.take n) (us.take n)
  | _, _, 0, _ => .nil
  | _, _, _ + 1, .nil => .nil
  | _, _, n + 1, .cons r t => .cons r (Vals.take n t)
theorem Vals.drop : ∀ {xs : List V} {us : List Value} (n : Nat), Vals xs us → Vals (xs.drop n) (us.drop n)
  | _, _, 0, r => r
  | _, _, _ + 1, .nil => .nil
  | _, _, n + 1, .cons _ t => Vals.drop n t
def RelO : Option V → Option Value → Prop
  | some v, some u => RelV v u
  | none, none => True
  | _, _ => False
def KV {κ : Type} : List (κ × V) → List (κ × Value) → Prop := Paired fun (p : κ × V) (q : κ × Value) => p.1 = q.1 ∧ RelV p.2 q.2
def kV : Key → V
  | .inl i => .int i
  | .inr x => .str x
inductive HO where
    | lst (xs : List V)
    | tup (xs : List V)
    | dK (kvs : List (Key × V)) | dT (kvs : List (List Key × V))
    | set (S : Int → Bool) (n : Nat)
    | ins (C dx : Addr) (fs : List (Str × V))
    | own (x : Addr)
    | xd (fs : List (Str × V))
    | met (f x : Addr)
    | rng (lo hi : Int)
    | frz (o : Obj) (u : HO)
    | tbl (ps : Array Value)
    | ext (φ : Heap → Prop)
abbrev Hp := Addr → Option HO
def upd (H : Hp) (a : Addr) (o : HO) : Hp := fun b => if b = a then some o else H b
theorem upd_same {H : Hp} {a : Addr} {o : HO} : upd H a o a = some o := by unfold upd; rw [if_pos rfl]
theorem upd_ne {H : Hp} {a b : Addr} {o : HO} (h : b ≠ a) : upd H a o b = H b := by unfold upd; rw [if_neg h]
theorem upd_upd {H : Hp} {a : Addr} {o u : HO} : upd (upd H a o) a u = upd H a u := by
  funext b; unfold upd; split <;> rfl
theorem ne_of {H : Hp} {a b : Addr} {o u : HO} (h : H a = some o) (h' : H b = some u) (d : o ≠ u) : a ≠ b := by
  intro e; subst e; rw [h] at h'; exact d (Option.some.inj h')
theorem ne_of_none {H : Hp} {a b : Addr} {o : HO} (h : H a = some o) (h' : H b = none) : a ≠ b := by
  intro e; subst e; rw [h] at h'; cases h'
def NoDct (h : Heap) (a : Addr) : Prop := ∀ o, h.get? a = some o → o.dict = none
theorem NoDct.new {h : Heap} {ob : Obj} (h0 : ob.isFreed = false) (hd : ob.dict = none) : NoDct (h.push ob) h.objs.size := fun o q => by rw [Heap.get?_push_size _ h0] at q; cases q; exact hd
def RdT (H : Hp) (b : Addr) (ys : List V) : Prop := H b = some (.tup ys) ∨ ∃ o, H b = some (.frz o (.tup ys))
theorem RdT.upd {H : Hp} {b a : Addr} {ys : List V} {o : HO} (r : RdT H b ys) (ne : ∀ u, H b = some u → b ≠ a) : RdT (L2.upd H a o) b ys := by
  rcases r with r | ⟨ob, r⟩
  · exact .inl (by rw [upd_ne (ne _ r)]; exact r)
  · exact .inr ⟨ob, by rw [upd_ne (ne _ r)]; exact r⟩
section
variable (P : Program) (w : World)
def ObjOk (H : Hp) (h : Heap) (a : Addr) : HO → Prop
  | .lst xs => xs.length ≤ sizeLine ∧ ∃ (its : List Value) (n : Nat), Vals xs its ∧ h.get? a = some { cls := .type "list", data := .seq its.toArray n }
  | .tup xs => (xs.length ≤ sizeLine ∧ NoDct h a) ∧ ∃ its : List Value, Vals xs its ∧ IsTup h a its.toArray
  | .dK kvs => kvs.length ≤ sizeLine ∧ (a == sysModules) = false ∧ ∃ vs, KV kvs vs ∧ h.DictOf (mixKind P w) a vs
  | .dT kvs => kvs.length ≤ sizeLine ∧ (a == sysModules) = false ∧ ∃ xs : List (List Key × Addr × Value),
      Paired (fun (p : List Key × V) (q : List Key × Addr × Value) => p.1 = q.1 ∧ RdT H q.2.1 (p.1.map kV) ∧ RelV p.2 q.2.2) kvs xs ∧
      ∃ o es ep, h.get? a = some o ∧ o.ExactDict ∧ o.data = .dict es ep ∧ es.toList = xs.map (entryOfKey (tupleKind (mixKind P w))) ∧ (xs.map (·.1)).Nodup
  | .set S n => h.SetOf (intKind P w) a S n
  | .ins C dx fs => H dx = some (.own a) ∧ fs.length ≤ 1000 ∧ dx ≠ a ∧ h.get? a = some (PySem.W.instObj C dx) ∧
      ∃ mA, h.Ns1 dx mA ∧ (∀ f, RelO (fs.lookup f) (mA f)) ∧ PySem.Within mA (fs.map (·.1))
  | .own _ => ∃ o, h.get? a = some o
  | .xd fs => ∃ mA, h.Ns1 a mA ∧ ∀ f, RelO (fs.lookup f) (mA f)
  | .rng lo hi => ∃ t u v, h.get? a = some { cls := .type "range", data := .fields #[.int lo t, .int hi u, .int 1 v] }
  | .frz o u => h.get? a = some o ∧ ObjOk H h a u
  | .tbl ps => h.get? a = some { cls := .none, data := .fields ps }
  | .met f x => h.get? a = some (PySem.W.methodObj (.ref f) (.ref x))
  | .ext φ => φ h ∧ (∃ o, h.get? a = some o) ∧ ∀ h1 h2 : Heap, φ h1 → (∀ o, h1.get? a = some o → h2.get? a = some o) → φ h2
def HOk (H : Hp) (h : Heap) : Prop := ∀ a o, H a = some o → ObjOk P w H h a o
end
section
variable {P : Program} {w : World} {H H' : Hp} {h h' : Heap} {a : Addr} {o : HO}
theorem ObjOk.lt (x : ObjOk P w H h a o) : a < h.objs.size := by
  cases o with
  | lst xs => obtain ⟨_, _, _, _, e⟩ := x; exact Heap.lt_size e
  | tup xs => obtain ⟨_, _, _, p⟩ := x; exact p.lt
  | dK kvs => obtain ⟨_, _, _, _, o, _, _, e, _⟩ := x; exact Heap.lt_size e
  | dT kvs => obtain ⟨_, _, _, _, o, _, _, e, _⟩ := x; exact Heap.lt_size e
  | set S n => obtain ⟨o, _, _, _, e, _⟩ := x; exact Heap.lt_size e
  | ins C dx fs => obtain ⟨_, _, _, e, _⟩ := x; exact Heap.lt_size e
  | own y => obtain ⟨_, e⟩ := x; exact Heap.lt_size e
  | xd fs => obtain ⟨_, ⟨_, _, _, e, _⟩, _⟩ := x; exact Heap.lt_size e
  | rng lo hi => obtain ⟨_, _, _, e⟩ := x; exact Heap.lt_size e
  | frz ob u => obtain ⟨e, _⟩ := x; exact Heap.lt_size e
  | tbl ps => exact Heap.lt_size (show h.get? a = some _ from x)
  | met f y => exact Heap.lt_size (show h.get? a = some _ from x)
  | ext φ => obtain ⟨_, ⟨_, e⟩, _⟩ := x; exact Heap.lt_size e
theorem Paired.mapP {α β : Type} {F G : α → β → Prop} : ∀ {l₁ : List α} {l₂ : List β}, Paired F l₁ l₂ → (∀ a b, F a b → G a b) → Paired G l₁ l₂
  | _, _, .nil, _ => .nil
  | _, _, .cons r t, f => .cons (f _ _ r) (Paired.mapP t f)
theorem ObjOk.stay (x : ObjOk P w H h a o) (k : ∀ b u, (b = a ∨ H b = some (.own a)) → h.get? b = some u → h'.get? b = some u)
    (ho : ∀ b, H b = some (.own a) → H' b = some (.own a)) (ht : ∀ b xs, RdT H b xs → RdT H' b xs) : ObjOk P w H' h' a o := by
  induction o with
  | lst xs => obtain ⟨z, its, n, r, e⟩ := x; exact ⟨z, its, n, r, k _ _ (.inl rfl) e⟩
  | tup xs => obtain ⟨⟨z, nd⟩, its, r, ob, e, c⟩ := x; exact ⟨⟨z, fun o q => by rw [k _ _ (.inl rfl) e] at q; cases q; exact nd _ e⟩, its, r, ob, k _ _ (.inl rfl) e, c⟩
  | dK kvs => obtain ⟨z, y, vs, r, ob, es, ep, e, c⟩ := x; exact ⟨z, y, vs, r, ob, es, ep, k _ _ (.inl rfl) e, c⟩
  | dT kvs =>
    obtain ⟨z, y, xs, r, ob, es, ep, e, c⟩ := x
    exact ⟨z, y, xs, Paired.mapP r fun p q z => ⟨z.1, ht _ _ z.2.1, z.2.2⟩, ob, es, ep, k _ _ (.inl rfl) e, c⟩
  | set S n => obtain ⟨ob, es, ep, t, e, c⟩ := x; exact ⟨ob, es, ep, t, k _ _ (.inl rfl) e, c⟩
  | ins C dx fs =>
    obtain ⟨d, z, ne, e, mA, ⟨od, es, ep, e2, c⟩, r⟩ := x
    exact ⟨ho _ d, z, ne, k _ _ (.inl rfl) e, mA, ⟨od, es, ep, k _ _ (.inr d) e2, c⟩, r⟩
  | own y => obtain ⟨ob, e⟩ := x; exact ⟨ob, k _ _ (.inl rfl) e⟩
  | xd fs => obtain ⟨mA, ⟨od, es, ep, e, c⟩, r⟩ := x; exact ⟨mA, ⟨od, es, ep, k _ _ (.inl rfl) e, c⟩, r⟩
  | rng lo hi => obtain ⟨t, u, v, e⟩ := x; exact ⟨t, u, v, k _ _ (.inl rfl) e⟩
  | frz ob u ih => obtain ⟨e, q⟩ := x; exact ⟨k _ _ (.inl rfl) e, ih q⟩
  | tbl ps =>
    have e : h.get? a = some { cls := .none, data := .fields ps } := x
    show h'.get? a = some { cls := .none, data := .fields ps }
    exact k a _ (.inl rfl) e
  | met f y =>
    have e : h.get? a = some (PySem.W.methodObj (.ref f) (.ref y)) := x
    show h'.get? a = some (PySem.W.methodObj (.ref f) (.ref y))
    exact k a _ (.inl rfl) e
  | ext φ => obtain ⟨p, ⟨o, e⟩, st⟩ := x; exact ⟨st _ _ p fun o q => k _ _ (.inl rfl) q, ⟨o, k _ _ (.inl rfl) e⟩, st⟩
theorem HOk.lt (x : HOk P w H h) (e : H a = some o) : a < h.objs.size := (x a o e).lt
theorem HOk.fresh (x : HOk P w H h) (e : h.objs.size ≤ a) : H a = none := by
  cases q : H a with
  | none => rfl
  | some u => exact absurd (Nat.lt_of_lt_of_le (x.lt q) e) (Nat.lt_irrefl _)
theorem HOk.kept (x : HOk P w H h) (k : ∀ b u, h.get? b = some u → h'.get? b = some u) : HOk P w H h' := fun a o e =>
  (x a o e).stay (fun b u _ q => k b u q) (fun _ q => q) fun _ _ q => q
theorem HOk.laid (x : HOk P w H h) (k : ∀ b u, h.get? b = some u → h'.get? b = some u) (hp : h.objs.size ≤ a) (new : ObjOk P w (upd H a o) h' a o) : HOk P w (upd H a o) h' := fun b u e => by
  have hn := x.fresh hp
  by_cases hb : b = a
  · subst hb; rw [upd_same] at e; cases e; exact new
  · rw [upd_ne hb] at e
    exact (x b u e).stay (fun c v _ q => k c v q) (fun c q => by rw [upd_ne (ne_of_none q hn)]; exact q) fun c xs q => q.upd fun u hu => ne_of_none hu hn
end
def Rd (H : Hp) (a : Addr) (u : HO) : Prop := H a = some u ∨ ∃ o, H a = some (.frz o u)
theorem Rd.ok {P : Program} {w : World} {H : Hp} {h : Heap} {a : Addr} {u : HO} (r : Rd H a u) (x : HOk P w H h) : ObjOk P w H h a u := by
  rcases r with r | ⟨o, r⟩
  · exact x a u r
  · obtain ⟨_, q⟩ := x a _ r
    exact q
def Mut : Option HO → Prop
  | some (.lst _) => True
  | some (.dK _) => True
  | some (.dT _) => True
  | some (.set _ _) => True
  | some (.ins _ _ _) => True
  | some (.ext _) => True
  | _ => False
section
variable {P : Program} {w : World} {H : Hp} {h h' : Heap} {x e : Addr} {o' : HO}
theorem HOk.write (ok : HOk P w H h) (mu : Mut (H x)) (he : e = x ∨ H e = some (.own x)) (k : ∀ b u, b ≠ e → h.get? b = some u → h'.get? b = some u) (heo : ∃ u, h'.get? e = some u)
    (new : ObjOk P w (upd H x o') h' x o') : HOk P w (upd H x o') h' := fun b u q => by
  have nown : ∀ c y, H c = some (.own y) → c ≠ x := fun c y r z => by subst z; rw [r] at mu; exact mu
  have ntup : ∀ c xs, H c = some (.tup xs) → c ≠ x := fun c xs r z => by subst z; rw [r] at mu; exact mu
  by_cases hb : b = x
  · subst hb; rw [upd_same] at q; cases q; exact new
  · rw [upd_ne hb] at q
    by_cases hbe : b = e
    · have q' : H b = some (.own x) := by
        rcases he with z | z
        · exact absurd (hbe.trans z) hb
        · rw [hbe]; exact z
      rw [q] at q'; cases q'
      obtain ⟨v, hv⟩ := heo
      exact ⟨v, by rw [hbe]; exact hv⟩
    · refine (ok b u q).stay (fun c v hc r => k c v ?_ r) (fun c r => by rw [upd_ne (nown c b r)]; exact r) fun c xs r => r.upd fun _ _ z => by
        subst z
        rcases r with r | ⟨_, r⟩ <;> (rw [r] at mu; exact mu)
      rcases hc with rfl | hc
      · exact hbe
      · rintro rfl
        rcases he with z | z
        · exact nown c b hc z
        · rw [hc] at z; cases z; exact hb rfl
end
structure Un (fs ex : List Addr) (H H' : Hp) (h h' : Heap) : Prop where
  keep : ∀ b o, h.get? b = some o → H b = none → b ∉ fs → b ∉ ex → h'.get? b = some o
  slot : ∀ b o, h.get? b = some o → H b = none → b ∈ fs → b ∉ ex → ∃ sl, h'.get? b = some { o with slots := sl }
  free : ∀ b o, h.get? b = some o → H b = none → b ∉ ex → H' b = none
  there : ∀ b o, h.get? b = some o → b ∉ ex → ∃ o', h'.get? b = some o'
  tups : ∀ b xs, H b = some (.tup xs) → H' b = some (.tup xs)
  frzs : ∀ b o u, H b = some (.frz o u) → H' b = some (.frz o u)
  tbls : ∀ b ps, H b = some (.tbl ps) → ∃ more, H' b = some (.tbl (ps ++ more))
section
variable {fs fs' ex ex' : List Addr} {H H1 H2 : Hp} {h h1 h2 h' : Heap} {a x e : Addr} {o : HO}
theorem Un.any (u : Un fs ex H H1 h h1) {b : Addr} {ob : Obj} (q : h.get? b = some ob) (n : H b = none) (hx : b ∉ ex) : ∃ sl, h1.get? b = some { ob with slots := sl } := by
  by_cases hb : b ∈ fs
  · exact u.slot b ob q n hb hx
  · exact ⟨ob.slots, u.keep b ob q n hb hx⟩
theorem Un.trans (a : Un fs ex H H1 h h1) (b : Un fs ex H1 H2 h1 h2) : Un fs ex H H2 h h2 where
  keep := fun c ob q n hc hx => b.keep c ob (a.keep c ob q n hc hx) (a.free c ob q n hx) hc hx
  slot := fun c ob q n hc hx => by
    obtain ⟨sl, e1⟩ := a.slot c ob q n hc hx
    obtain ⟨sl', e2⟩ := b.slot c _ e1 (a.free c ob q n hx) hc hx
    exact ⟨sl', e2⟩
  free := fun c ob q n hx => by
    obtain ⟨o', e1⟩ := a.there c ob q hx
    exact b.free c o' e1 (a.free c ob q n hx) hx
  there := fun c ob q hx => by
    obtain ⟨o', e1⟩ := a.there c ob q hx
    exact b.there c o' e1 hx
  tups := fun c xs q => b.tups c xs (a.tups c xs q)
  frzs := fun c ob xs q => b.frzs c ob xs (a.frzs c ob xs q)
  tbls := fun c ps q => by
    obtain ⟨m1, e1⟩ := a.tbls c ps q
    obtain ⟨m2, e2⟩ := b.tbls c _ e1
    exact ⟨m1 ++ m2, by rw [e2, Array.append_assoc]⟩
theorem Un.kept (k : ∀ b u, h.get? b = some u → h'.get? b = some u) : Un fs ex H H h h' :=
  ⟨fun b ob q _ _ _ => k b ob q, fun b ob q _ _ _ => ⟨ob.slots, k b ob q⟩, fun _ _ _ n _ => n, fun b ob q _ => ⟨ob, k b ob q⟩, fun _ _ q => q, fun _ _ _ q => q, fun _ ps q => ⟨#[], by rw [q]; simp⟩⟩
theorem Un.refl : Un fs ex H H h h := Un.kept fun _ _ q => q
theorem Un.laid (k : ∀ b u, h.get? b = some u → h'.get? b = some u) (hp : h.objs.size ≤ a) (hn : H a = none) : Un fs ex H (upd H a o) h h' where
  keep := fun b u q _ _ _ => k b u q
  slot := fun b u q _ _ _ => ⟨u.slots, k b u q⟩
  free := fun b u q n _ => by rw [upd_ne (Nat.ne_of_lt (Nat.lt_of_lt_of_le (Heap.lt_size q) hp))]; exact n
  there := fun b u q _ => ⟨u, k b u q⟩
  tups := fun b xs q => by rw [upd_ne (ne_of_none q hn)]; exact q
  frzs := fun b u xs q => by rw [upd_ne (ne_of_none q hn)]; exact q
  tbls := fun b ps q => ⟨#[], by rw [upd_ne (ne_of_none q hn), q]; simp⟩
theorem Un.write (mu : Mut (H x)) (he : e = x ∨ H e = some (.own x)) (k : ∀ b u, b ≠ e → h.get? b = some u → h'.get? b = some u) (heo : ∃ u, h'.get? e = some u) : Un fs ex H (upd H x o) h h' := by
  have hx : ∀ b, H b = none → b ≠ x := fun b n z => by subst z; rw [n] at mu; exact mu
  have hb : ∀ b, H b = none → b ≠ e := fun b n z => by
    subst z
    rcases he with r | r
    · exact hx b n r
    · rw [n] at r; cases r
  have hm : ∀ b u, H b = some u → ¬ Mut (some u) → b ≠ x := fun b u q nm z => by subst z; rw [q] at mu; exact nm mu
  refine ⟨fun b u q n _ _ => k b u (hb b n) q, fun b u q n _ _ => ⟨u.slots, k b u (hb b n) q⟩, fun b u q n _ => by rw [upd_ne (hx b n)]; exact n, fun b u q _ => ?_,
    fun b xs q => by rw [upd_ne (hm b _ q fun z => z)]; exact q, fun b u xs q => by rw [upd_ne (hm b _ q fun z => z)]; exact q, fun b ps q => ⟨#[], by rw [upd_ne (hm b _ q fun z => z), q]; simp⟩⟩
  by_cases hbe : b = e
  · subst hbe; exact heo
  · exact ⟨u, k b u hbe q⟩
end
def trk (h : Heap) (H : Hp) : List Addr := (List.range h.objs.size).filter fun a => (H a).isSome
def hidT (h : Heap) (H : Hp) : Heap := PySem.W.hideAll h (trk h H)
theorem hidT_size (h : Heap) (H : Hp) : (hidT h H).objs.size = h.objs.size := PySem.W.hideAll_size _ _
theorem hidT_get {h : Heap} {H : Hp} {b : Addr} {o : Obj} (e : h.get? b = some o) (n : H b = none) : (hidT h H).get? b = some o :=
  PySem.W.hideAll_get _ e fun hm => by
    have q : (H b).isSome = true := (List.mem_filter.mp hm).2
    rw [n] at q; simp at q
theorem of_hidT {h : Heap} {H : Hp} {b : Addr} {o : Obj} (e : (hidT h H).get? b = some o) : h.get? b = some o ∧ H b = none := by
  have e' : h.get? b = some o := PySem.W.of_hideAll (trk h H) e
  refine ⟨e', ?_⟩
  cases q : H b with
  | none => rfl
  | some x =>
    have hm : b ∈ trk h H := List.mem_filter.mpr ⟨List.mem_range.mpr (Heap.lt_size e'), by simp [q]⟩
    have z : (hidT h H).get? b = none := PySem.W.hideAll_none (trk h H) hm
    rw [z] at e; cases e
end L2
namespace L2
open PySem PySem.Spec PyProof.Rows
structure Mod (K : PySem.W.Frag) (mg : Str → Option Value) (base : Heap) : Prop where
  kin : K.In base
  glob : base.Ns mainGlobals mg
  blt : ∃ mb, base.Ns builtinsNs mb ∧ ∀ x : Str, x ≠ "__name__" → mb x = bootBuiltins x
  nolimit : base.NoLimit
structure Cx where
  prog : Program
  w : World
  K : PySem.W.Frag
  mg : Str → Option Value
  base : Heap
  A : Around
  N : List Str
  s₀ : Shared
  H₀ : Hp
  env : Env
  outer : List Env
  stack : List Env
  ex : List Addr
  fn : Str → Bool
  calm : Bool
  pn : List (Addr × Obj)
  xe : Value → Shared → Prop
def frs (l : List Env) : List Addr := l.filterMap (·.frame)
abbrev Cx.fs (X : Cx) : List Addr := frs X.outer
def Vis (sc : Scope) (x : Str) : Prop := sc.names.lookup x = some .local ∨ sc.names.lookup x = some .cell ∨ sc.names.lookup x = some .free
def Loc (sc : Scope) (x : Str) : Prop := sc.names.lookup x = some .local ∨ sc.names.lookup x = some .cell
def Look (env : Env) (h : Heap) (m : Str → Option Value) (x : Str) (u : Value) : Prop :=
  (env.kindOf x = some .local ∧ m x = some u) ∨ ((env.kindOf x = some .cell ∨ env.kindOf x = some .free) ∧ ∃ c, env.cells.lookup x = some c ∧ h.IsCell c (some u))
structure Cx.Ok (X : Cx) : Prop where
  mod : Mod X.K X.mg X.base
  kind : X.env.scope.kind = .function
  glob : X.env.globals = mainGlobals
  blt : X.env.builtins = builtinsNs
  above : X.s₀.heap.objs.size ≤ X.env.locals
  inj : ∀ x y c, X.env.cells.lookup x = some c → X.env.cells.lookup y = some c → x = y
  has : ∀ x, (X.env.kindOf x = some .cell ∨ X.env.kindOf x = some .free) → ∃ c, X.env.cells.lookup x = some c
  cab : ∀ x c, X.fn x = true → X.env.cells.lookup x = some c → X.s₀.heap.objs.size ≤ c
  hd : X.calm = true → X.A.handled = none
  frames : X.A.frames = some X.stack
  stk : X.stack = X.outer ∨ (X.stack = X.env :: X.outer ∧ X.env.frame = some X.env.locals)
  exf : ∀ b ∈ X.ex, b ≠ X.env.locals ∧ ∀ x c, X.env.cells.lookup x = some c → c ≠ b
  bs : ∀ b o, X.base.get? b = some o → X.s₀.heap.get? b = some o ∧ X.H₀ b = none
  bsz : X.base.objs.size ≤ X.s₀.heap.objs.size
  noex : ∀ b o, X.base.get? b = some o → b ∉ X.ex
  exfs : ∀ b ∈ X.ex, b ∉ X.fs
  funs : X.s₀.heap.FunFrames X.base X.outer
  frf : ∀ b ∈ X.fs, X.H₀ b = none
structure Inv (X : Cx) (pins : List (Addr × Obj)) (σ : List (Option V)) (H : Hp) (s : Shared) : Prop where
  ok : X.Ok
  os : s.os = X.s₀.os
  bare : AllBare s.gens
  base : Un X.fs X.ex X.H₀ H X.s₀.heap s.heap
  loc : ∃ m, s.heap.Ns X.env.locals m ∧ ∀ (i : Nat) (x : Str) (v : V), X.N[i]? = some x → σ[i]? = some (some v) → Vis X.env.scope x → ∃ u, RelV v u ∧ Look X.env s.heap m x u
  cell : ∀ x c, X.env.cells.lookup x = some c → ∃ v, s.heap.IsCell c v
  free : H X.env.locals = none
  freeC : ∀ x c, X.env.cells.lookup x = some c → H c = none
  pin : ∀ p ∈ X.pn ++ pins, s.heap.get? p.1 = some p.2 ∧ H p.1 = none ∧ p.1 ≠ X.env.locals ∧ p.1 ∉ X.fs ∧ ∀ v, p.2.data ≠ .cell v
  hok : HOk X.prog X.w H s.heap
  len : σ.length = X.N.length
section
variable {X : Cx} {pins : List (Addr × Obj)} {σ : List (Option V)} {H H' : Hp} {s : Shared} {h' : Heap}
theorem Cx.Ok.nofr (ok : X.Ok) {b : Addr} {o : Obj} (e : X.base.get? b = some o) : b ∉ X.fs := fun hb => by
  have := (ok.funs.mem hb).1
  rw [e] at this; cases this
theorem Inv.bs (I : Inv X pins σ H s) : ∀ b o, X.base.get? b = some o → s.heap.get? b = some o ∧ H b = none := fun b o e =>
  ⟨I.base.keep b o (I.ok.bs b o e).1 (I.ok.bs b o e).2 (I.ok.nofr e) (I.ok.noex b o e), I.base.free b o (I.ok.bs b o e).1 (I.ok.bs b o e).2 (I.ok.noex b o e)⟩
theorem Inv.bk (I : Inv X pins σ H s) : ∀ b o, X.base.get? b = some o → s.heap.get? b = some o := fun b o e => (I.bs b o e).1
theorem Inv.mod (I : Inv X pins σ H s) : Mod X.K X.mg X.base := I.ok.mod
theorem Inv.kIn (I : Inv X pins σ H s) : X.K.In s.heap := I.ok.mod.kin.keeps I.bk
theorem Inv.lt (I : Inv X pins σ H s) : X.env.locals < s.heap.objs.size := let ⟨_, hn, _⟩ := I.loc; hn.lt
theorem Inv.sz (I : Inv X pins σ H s) : X.s₀.heap.objs.size ≤ s.heap.objs.size := Nat.le_trans I.ok.above (Nat.le_of_lt I.lt)
theorem Inv.nofs (I : Inv X pins σ H s) {a : Addr} (h : s.heap.objs.size ≤ a) : a ∉ X.fs := fun hb => by
  obtain ⟨_, o, ho, _⟩ := I.ok.funs.mem hb
  exact absurd (Nat.lt_of_lt_of_le (Heap.lt_size ho) (Nat.le_trans I.sz h)) (Nat.lt_irrefl _)
theorem Inv.cne (I : Inv X pins σ H s) : ∀ x c, X.env.cells.lookup x = some c → c ≠ X.env.locals := fun x c e z => by
  obtain ⟨v, o, ho, hd⟩ := I.cell x c e
  obtain ⟨m, ⟨o', es, ep, ho', hd', _⟩, _⟩ := I.loc
  rw [z, ho'] at ho; cases ho; rw [hd'] at hd; cases hd
theorem Inv.funs (I : Inv X pins σ H s) : s.heap.FunFrames X.base X.outer := by
  have all : ∀ (l : List Env), (∀ b ∈ frs l, b ∈ X.fs) → X.s₀.heap.FunFrames X.base l → s.heap.FunFrames X.base l := by
    intro l
    induction l with
    | nil => intro _ _; trivial
    | cons env r ih =>
      intro hs hl
      obtain ⟨hk, ⟨L, o, hf, hn, ho, hd⟩, hr⟩ := hl
      have hL : L ∈ X.fs := hs L (by unfold frs; rw [List.filterMap_cons, hf]; exact List.mem_cons_self)
      obtain ⟨sl, e⟩ := I.base.slot L o ho (I.ok.frf L hL) hL fun z => I.ok.exfs L z hL
      exact ⟨hk, ⟨L, _, hf, hn, e, hd⟩, ih (fun b hb => hs b (by unfold frs; rw [List.filterMap_cons, hf]; exact List.mem_cons_of_mem _ hb)) hr⟩
  exact all X.outer (fun _ hb => hb) I.ok.funs
theorem Inv.stack (I : Inv X pins σ H s) : s.heap.FunFrames X.base X.stack := by
  rcases I.ok.stk with e | ⟨e, hf⟩
  · rw [e]; exact I.funs
  · rw [e]
    obtain ⟨m, hn, _⟩ := I.loc
    refine .cons (by rw [I.ok.kind]; decide) hf hn ?_ I.funs
    exact Heap.get?_none_of_le (Nat.le_trans I.ok.bsz I.ok.above)
theorem Inv.stkSub (I : Inv X pins σ H s) : ∀ b ∈ frs X.stack, b ∈ X.env.locals :: X.fs := fun b hb => by
  rcases I.ok.stk with e | ⟨e, hf⟩
  · rw [e] at hb; exact List.mem_cons_of_mem _ hb
  · rw [e] at hb
    unfold frs at hb
    rw [List.filterMap_cons, hf] at hb
    exact hb
theorem Inv.stkFree (I : Inv X pins σ H s) : ∀ b ∈ frs X.stack, H b = none := fun b hb => by
  rcases List.mem_cons.mp (I.stkSub b hb) with e | hb
  · rw [e]; exact I.free
  · obtain ⟨_, o, ho, _⟩ := I.ok.funs.mem hb
    exact I.base.free b o ho (I.ok.frf b hb) fun z => I.ok.exfs b z hb
theorem Inv.step {g' : Array GenState} {t' : Nat} {d' : Drawn} {ch : List Addr} (I : Inv X pins σ H s)
    (hch : ∀ b ∈ ch, (b ∈ X.ex ∨ X.s₀.heap.objs.size ≤ b) ∧ b ≠ X.env.locals ∧ (∀ x c, X.env.cells.lookup x = some c → c ≠ b) ∧ ∀ p ∈ X.pn ++ pins, p.1 ≠ b)
    (keep : ∀ b o, b ≠ X.env.locals → b ∉ X.fs → b ∉ ch → s.heap.get? b = some o → H b = none → h'.get? b = some o)
    (slot : ∀ b o, b ≠ X.env.locals → b ∈ X.fs → b ∉ ch → s.heap.get? b = some o → H b = none → ∃ sl, h'.get? b = some { o with slots := sl }) (free : ∀ b o, b ∉ ch → s.heap.get? b = some o → H b = none → H' b = none)
    (there : ∀ b o, b ∉ ch → s.heap.get? b = some o → ∃ o', h'.get? b = some o')
    (tups : ∀ b xs, H b = some (.tup xs) → H' b = some (.tup xs)) (frzs : ∀ b o u, H b = some (.frz o u) → H' b = some (.frz o u)) (tbls : ∀ b ps, H b = some (.tbl ps) → ∃ more, H' b = some (.tbl (ps ++ more)))
    (ns : ∀ m, s.heap.Ns X.env.locals m → h'.Ns X.env.locals m) (hok : HOk X.prog X.w H' h') (hg : AllBare g') :
    Inv X pins σ H' { s with heap := h', gens := g', drawn := d', toks := t' } := by
  have neL : ∀ b o, X.s₀.heap.get? b = some o → b ≠ X.env.locals := fun b o e => Nat.ne_of_lt (Nat.lt_of_lt_of_le (Heap.lt_size e) I.ok.above)
  have neC : ∀ b o, X.s₀.heap.get? b = some o → b ∉ X.ex → b ∉ ch := fun b o e hx hb => by
    rcases (hch b hb).1 with z | z
    · exact hx z
    · exact absurd (Nat.lt_of_lt_of_le (Heap.lt_size e) z) (Nat.lt_irrefl _)
  have cellK : ∀ x c, X.env.cells.lookup x = some c → ∀ v, s.heap.IsCell c v → h'.IsCell c v := fun x c e v ⟨o, ho, hd⟩ => by
    have nch : c ∉ ch := fun z => (hch c z).2.2.1 x c e rfl
    by_cases hc : c ∈ X.fs
    · obtain ⟨sl, q⟩ := slot c o (I.cne x c e) hc nch ho (I.freeC x c e)
      exact ⟨_, q, hd⟩
    · exact ⟨o, keep c o (I.cne x c e) hc nch ho (I.freeC x c e), hd⟩
  refine ⟨I.ok, I.os, hg, ⟨fun b o e n hb hx => ?_, fun b o e n hb hx => ?_, fun b o e n hx => ?_, fun b o e hx => ?_, fun b xs e => tups b xs (I.base.tups b xs e), fun b o xs e => frzs b o xs (I.base.frzs b o xs e), fun b ps e => ?_⟩, ?_, fun x c e => ?_, ?_, fun x c e => ?_, fun p hp => ?_, hok, I.len⟩
  · exact keep b o (neL b o e) hb (neC b o e hx) (I.base.keep b o e n hb hx) (I.base.free b o e n hx)
  · obtain ⟨sl, e1⟩ := I.base.slot b o e n hb hx
    obtain ⟨sl', e2⟩ := slot b _ (neL b o e) hb (neC b o e hx) e1 (I.base.free b o e n hx)
    exact ⟨sl', e2⟩
  · obtain ⟨o', e1⟩ := I.base.there b o e hx
    exact free b o' (neC b o e hx) e1 (I.base.free b o e n hx)
  · obtain ⟨o', e1⟩ := I.base.there b o e hx
    exact there b o' (neC b o e hx) e1
  · obtain ⟨m1, e1⟩ := I.base.tbls b ps e
    obtain ⟨m2, e2⟩ := tbls b _ e1
    exact ⟨m1 ++ m2, by rw [e2, Array.append_assoc]⟩
  · obtain ⟨m, hn, hl⟩ := I.loc
    refine ⟨m, ns m hn, fun i x v e1 e2 e3 => ?_⟩
    obtain ⟨u, r, l⟩ := hl i x v e1 e2 e3
    refine ⟨u, r, ?_⟩
    rcases l with l | ⟨k, c, e, z⟩
    · exact .inl l
    · exact .inr ⟨k, c, e, cellK x c e _ z⟩
  · obtain ⟨v, z⟩ := I.cell x c e
    exact ⟨v, cellK x c e v z⟩
  · obtain ⟨m, ⟨o, _, _, ho, _⟩, _⟩ := I.loc
    exact free _ o (fun z => (hch _ z).2.1 rfl) ho I.free
  · obtain ⟨v, o, ho, hd⟩ := I.cell x c e
    exact free c o (fun z => (hch c z).2.2.1 x c e rfl) ho (I.freeC x c e)
  · obtain ⟨e, n, ne, nf, d⟩ := I.pin p hp
    have nch : p.1 ∉ ch := fun z => (hch p.1 z).2.2.2 p hp rfl
    exact ⟨keep p.1 p.2 ne nf nch e n, free p.1 p.2 nch e n, ne, nf, d⟩
theorem Inv.un {t' : Nat} (I : Inv X pins σ H s) (u : Un X.fs [] H H' s.heap h') (hok : HOk X.prog X.w H' h') : Inv X pins σ H' { s with heap := h', toks := t' } := by
  obtain ⟨m, ⟨o, es, ep, ho, r⟩, _⟩ := id I.loc
  obtain ⟨sl, hL⟩ := u.any ho I.free (by simp)
  exact I.step (g' := s.gens) (d' := s.drawn) (ch := []) (fun _ z => nomatch z) (fun b o _ hb _ e n => u.keep b o e n hb (by simp)) (fun b o _ hb _ e n => u.slot b o e n hb (by simp)) (fun b o _ e n => u.free b o e n (by simp)) (fun b o _ e => u.there b o e (by simp)) u.tups u.frzs u.tbls (fun m' hm => by
    obtain ⟨o', es', ep', ho', r'⟩ := hm
    rw [ho] at ho'; cases ho'
    exact ⟨_, es', ep', hL, r'⟩) hok I.bare
theorem Inv.call {g' : Array GenState} {t' : Nat} {d' : Drawn} {ch : List Addr} (I : Inv X pins σ H s) (u : Un (frs X.stack) ch H H' s.heap h') (hok : HOk X.prog X.w H' h') (hg : AllBare g')
    (hch : ∀ b ∈ ch, (b ∈ X.ex ∨ X.s₀.heap.objs.size ≤ b) ∧ b ≠ X.env.locals ∧ (∀ x c, X.env.cells.lookup x = some c → c ≠ b) ∧ ∀ p ∈ X.pn ++ pins, p.1 ≠ b) :
    Inv X pins σ H' { s with heap := h', gens := g', drawn := d', toks := t' } := by
  obtain ⟨m, ⟨o, es, ep, ho, r⟩, _⟩ := id I.loc
  obtain ⟨sl, hL⟩ := u.any ho I.free fun z => (hch _ z).2.1 rfl
  exact I.step (ch := ch) hch (fun b o hL hb hc e n => u.keep b o e n (fun z => (List.mem_cons.mp (I.stkSub b z)).elim hL hb) hc) (fun b o _ _ hc e n => u.any e n hc) (fun b o hc e n => u.free b o e n hc) (fun b o hc e => u.there b o e hc) u.tups u.frzs u.tbls (fun m' hm => by
    obtain ⟨o', es', ep', ho', r'⟩ := hm
    rw [ho] at ho'; cases ho'
    exact ⟨_, es', ep', hL, r'⟩) hok hg
theorem Inv.turned {t' : Nat} {it : Addr} (I : Inv X pins σ H s) (k : ∀ b o, b ≠ it → s.heap.get? b = some o → h'.get? b = some o) (hn : H it = none) (hL : it ≠ X.env.locals)
    (h1 : it ∈ X.ex ∨ X.s₀.heap.objs.size ≤ it) (h2 : ∀ x c, X.env.cells.lookup x = some c → c ≠ it) (h3 : ∀ p ∈ X.pn ++ pins, p.1 ≠ it) : Inv X pins σ H { s with heap := h', toks := t' } := by
  have nit : ∀ b u, H b = some u → b ≠ it := fun b u e z => by rw [z, hn] at e; cases e
  refine I.step (g' := s.gens) (d' := s.drawn) (ch := [it]) (fun b hb => ?_) (fun b o _ _ hc e _ => k b o (fun z => hc (by simp [z])) e) (fun b o _ _ hc e _ => ⟨o.slots, k b o (fun z => hc (by simp [z])) e⟩) (fun _ _ _ _ n => n)
    (fun b o hc e => ⟨o, k b o (fun z => hc (by simp [z])) e⟩) (fun _ _ e => e) (fun _ _ _ e => e) (fun b ps e => ⟨#[], by rw [e]; simp⟩) (fun m hm => ?_) (fun b u e => ?_) I.bare
  · have e : b = it := by simpa using hb
    subst e
    exact ⟨h1, hL, h2, h3⟩
  · obtain ⟨o, es, ep, ho, r⟩ := hm
    exact ⟨o, es, ep, k _ o (Ne.symm hL) ho, r⟩
  · refine (I.hok b u e).stay (fun c v hc q => k c v ?_ q) (fun _ q => q) fun _ _ q => q
    rcases hc with z | z
    · rw [z]; exact nit b u e
    · exact nit c _ z
theorem Inv.tok (I : Inv X pins σ H s) (t : Nat) : Inv X pins σ H { s with toks := t } := I.un (h' := s.heap) (t' := t) Un.refl I.hok
theorem Inv.kept {t' : Nat} (I : Inv X pins σ H s) (k : ∀ b u, s.heap.get? b = some u → h'.get? b = some u) : Inv X pins σ H { s with heap := h', toks := t' } := I.un (Un.kept k) (I.hok.kept k)
theorem Inv.laid {a : Addr} {o : HO} {t' : Nat} (I : Inv X pins σ H s) (k : ∀ b u, s.heap.get? b = some u → h'.get? b = some u) (hp : s.heap.objs.size ≤ a) (new : ObjOk X.prog X.w (upd H a o) h' a o) :
    Inv X pins σ (upd H a o) { s with heap := h', toks := t' } := I.un (Un.laid k hp (I.hok.fresh hp)) (I.hok.laid k hp new)
theorem Inv.write {x e : Addr} {o : HO} {t' : Nat} (I : Inv X pins σ H s) (mu : Mut (H x)) (he : e = x ∨ H e = some (.own x)) (k : ∀ b u, b ≠ e → s.heap.get? b = some u → h'.get? b = some u) (heo : ∃ u, h'.get? e = some u)
    (new : ObjOk X.prog X.w (upd H x o) h' x o) : Inv X pins σ (upd H x o) { s with heap := h', toks := t' } := I.un (Un.write mu he k heo) (I.hok.write mu he k heo new)
theorem Inv.pins_of {pins' : List (Addr × Obj)} (I : Inv X pins σ H s) (h : ∀ p ∈ pins', s.heap.get? p.1 = some p.2 ∧ H p.1 = none ∧ p.1 ≠ X.env.locals ∧ p.1 ∉ X.fs ∧ ∀ v, p.2.data ≠ .cell v) : Inv X pins' σ H s :=
  ⟨I.ok, I.os, I.bare, I.base, I.loc, I.cell, I.free, I.freeC, fun p hp => (List.mem_append.mp hp).elim (fun z => I.pin p (List.mem_append_left _ z)) (h p), I.hok, I.len⟩
theorem nodup_ix {N : List Str} (hN : N.Nodup) {i j : Nat} {x : Str} (a : N[i]? = some x) (b : N[j]? = some x) : i = j := by
  obtain ⟨h1, e1⟩ := List.getElem?_eq_some_iff.mp a
  obtain ⟨h2, e2⟩ := List.getElem?_eq_some_iff.mp b
  exact (List.getElem_inj hN).mp (e1.trans e2.symm)
theorem store_ok2 {M : Model} {A : Around} {E : Value → Shared → Prop} {i : Nat} {x : Str} {v : V} {u : Value} {Q : Unit → Shared → Prop} (I : Inv X pins σ H s) (hN : X.N.Nodup) (hi : X.N[i]? = some x) (hx : Loc X.env.scope x) (r : RelV v u)
    (h : ∀ s', Inv X pins (σ.set i (some v)) H s' → (∃ a, Heap.SameBut a s.heap s'.heap ∧ (a = X.env.locals ∨ X.env.cells.lookup x = some a)) → Q () s') (hf : X.fn x = true ∨ X.env.scope.names.lookup x = some .local := by first | exact .inl rfl | exact .inr rfl | assumption) : wpAny M A (storeName X.env x u) Q E s := by
  obtain ⟨m, hn, hl⟩ := id I.loc
  have hcls : (X.env.scope.kind == .class || (X.env.scope.kind == .module && X.env.locals != X.env.globals)) = false := by rw [I.ok.kind]; rfl
  have hiσ : i < σ.length := by rw [I.len]; exact (List.getElem?_eq_some_iff.mp hi).1
  have cne := I.cne
  have tracked : ∀ {a : Addr} {h' : Heap}, (∃ o, s.heap.get? a = some o ∧ H a = none) → Heap.SameBut a s.heap h' → HOk X.prog X.w H h' := fun {a h'} ha hs b ob e => by
    obtain ⟨_, _, hfree⟩ := ha
    refine (I.hok b ob e).stay (fun c w' hc q => (hs.2 c ?_).trans q) (fun _ q => q) fun _ _ q => q
    rintro rfl
    rcases hc with rfl | hc
    · rw [hfree] at e; cases e
    · rw [hfree] at hc; cases hc
  rcases hx with hk | hk
  · refine wpAny_storeName_local hk hn (fun h' hn' hs => ?_) hcls
    obtain ⟨oL, _, _, hoL, _⟩ := id hn
    refine h _ ⟨I.ok, I.os, I.bare, ⟨fun b o e n hb hx => ?_, fun b o e n hb hx => ?_, I.base.free, fun b o e hx => ?_, I.base.tups, I.base.frzs, I.base.tbls⟩, ⟨_, hn', fun j y v' e1 e2 e3 => ?_⟩, fun y c e => ?_, I.free, I.freeC, fun p hp => ?_, tracked ⟨oL, hoL, I.free⟩ hs, by simpa using I.len⟩ ⟨_, hs, .inl rfl⟩
    · exact (hs.2 b (Nat.ne_of_lt (Nat.lt_of_lt_of_le (Heap.lt_size e) I.ok.above))).trans (I.base.keep b o e n hb hx)
    · obtain ⟨sl, e1⟩ := I.base.slot b o e n hb hx
      exact ⟨sl, (hs.2 b (Nat.ne_of_lt (Nat.lt_of_lt_of_le (Heap.lt_size e) I.ok.above))).trans e1⟩
    · obtain ⟨o', e1⟩ := I.base.there b o e hx
      exact ⟨o', (hs.2 b (Nat.ne_of_lt (Nat.lt_of_lt_of_le (Heap.lt_size e) I.ok.above))).trans e1⟩
    · by_cases hj : j = i
      · subst hj
        rw [hi] at e1; cases e1
        rw [List.getElem?_set_self hiσ] at e2
        cases e2
        exact ⟨u, r, .inl ⟨hk, by simp⟩⟩
      · rw [List.getElem?_set_ne (Ne.symm hj)] at e2
        obtain ⟨u', r', q⟩ := hl j y v' e1 e2 e3
        refine ⟨u', r', ?_⟩
        rcases q with ⟨k, e⟩ | ⟨k, c, e, z⟩
        · refine .inl ⟨k, ?_⟩
          have : y ≠ x := fun e => hj (nodup_ix hN e1 (e ▸ hi))
          simp [this, e]
        · exact .inr ⟨k, c, e, z.sameBut hs (cne y c e)⟩
    · obtain ⟨w', z⟩ := I.cell y c e
      exact ⟨w', z.sameBut hs (cne y c e)⟩
    · obtain ⟨e, n, ne, nf, d⟩ := I.pin p hp
      exact ⟨(hs.2 p.1 ne).trans e, n, ne, nf, d⟩
  · have hfn : X.fn x = true := by
      rcases hf with z | z
      · exact z
      · rw [z] at hk; cases hk
    obtain ⟨c, hc⟩ := I.ok.has x (.inl hk)
    obtain ⟨w', z⟩ := I.cell x c hc
    refine wpAny_storeName_cell I.ok.kind hk hc z (fun h' hc' hs => ?_)
    obtain ⟨oc, hoc, hocd⟩ := id z
    refine h { s with heap := h' } ⟨I.ok, I.os, I.bare, ⟨fun b o e n hb hx => ?_, fun b o e n hb hx => ?_, I.base.free, fun b o e hx => ?_, I.base.tups, I.base.frzs, I.base.tbls⟩, ⟨m, hn.sameBut hs (Ne.symm (cne x c hc)), fun j y v' e1 e2 e3 => ?_⟩, fun y c' e => ?_, I.free, I.freeC, fun p hp => ?_, tracked ⟨oc, hoc, I.freeC x c hc⟩ hs, by simpa using I.len⟩ ⟨c, hs, .inr hc⟩
    · exact (hs.2 b (Nat.ne_of_lt (Nat.lt_of_lt_of_le (Heap.lt_size e) (I.ok.cab x c hfn hc)))).trans (I.base.keep b o e n hb hx)
    · obtain ⟨sl, e1⟩ := I.base.slot b o e n hb hx
      exact ⟨sl, (hs.2 b (Nat.ne_of_lt (Nat.lt_of_lt_of_le (Heap.lt_size e) (I.ok.cab x c hfn hc)))).trans e1⟩
    · obtain ⟨o', e1⟩ := I.base.there b o e hx
      exact ⟨o', (hs.2 b (Nat.ne_of_lt (Nat.lt_of_lt_of_le (Heap.lt_size e) (I.ok.cab x c hfn hc)))).trans e1⟩
    · by_cases hj : j = i
      · subst hj
        rw [hi] at e1; cases e1
        rw [List.getElem?_set_self hiσ] at e2
        cases e2
        exact ⟨u, r, .inr ⟨.inl hk, c, hc, hc'⟩⟩
      · rw [List.getElem?_set_ne (Ne.symm hj)] at e2
        obtain ⟨u', r', q⟩ := hl j y v' e1 e2 e3
        refine ⟨u', r', ?_⟩
        rcases q with q | ⟨k, c', e, z'⟩
        · exact .inl q
        · refine .inr ⟨k, c', e, z'.sameBut hs ?_⟩
          rintro rfl
          exact hj (nodup_ix hN e1 (I.ok.inj _ _ _ e hc ▸ hi))
    · by_cases hcc : c' = c
      · subst hcc; exact ⟨_, hc'⟩
      · obtain ⟨w2, z2⟩ := I.cell y c' e
        exact ⟨w2, z2.sameBut hs hcc⟩
    · obtain ⟨e, n, ne, nf, d⟩ := I.pin p hp
      refine ⟨(hs.2 p.1 ?_).trans e, n, ne, nf, d⟩
      intro q
      rw [q, hoc] at e
      have q' : oc = p.2 := Option.some.inj e
      exact d w' (by rw [← q']; exact hocd)
theorem store_ok {M : Model} {A : Around} {E : Value → Shared → Prop} {i : Nat} {x : Str} {v : V} {u : Value} {Q : Unit → Shared → Prop} (I : Inv X pins σ H s) (hN : X.N.Nodup) (hi : X.N[i]? = some x) (hx : Loc X.env.scope x) (r : RelV v u)
    (h : ∀ s', Inv X pins (σ.set i (some v)) H s' → Q () s') (hf : X.fn x = true ∨ X.env.scope.names.lookup x = some .local := by first | exact .inl rfl | exact .inr rfl | assumption) : wpAny M A (storeName X.env x u) Q E s :=
  store_ok2 I hN hi hx r (fun s' I' _ => h s' I') hf
theorem Inv.call' {s' : Shared} {ch : List Addr} (I : Inv X pins σ H s) (ho : s'.os = s.os) (u : Un (frs X.stack) ch H H' s.heap s'.heap) (hok : HOk X.prog X.w H' s'.heap) (hg : AllBare s'.gens)
    (hch : ∀ b ∈ ch, (b ∈ X.ex ∨ X.s₀.heap.objs.size ≤ b) ∧ b ≠ X.env.locals ∧ (∀ x c, X.env.cells.lookup x = some c → c ≠ b) ∧ ∀ p ∈ X.pn ++ pins, p.1 ≠ b) : Inv X pins σ H' s' := by
  obtain ⟨h', g', d', t', o'⟩ := s'
  have e : o' = s.os := ho
  subst e
  exact I.call (g' := g') (t' := t') (d' := d') u hok hg hch
end
abbrev XK := Value → Option Addr → Hp → Prop
abbrev St := List (Option V)
abbrev VK := V → Hp → Prop
abbrev TE := St → Hp → VK → Prop
abbrev TT := St → Hp → (Bool → Hp → Prop) → Prop
abbrev TA := St → Hp → (List V → Hp → Prop) → Prop
structure Ends where
  nx : St → Hp → Prop
  rt : VK
  bk : St → Hp → Prop := fun _ _ => False
  ct : St → Hp → Prop := fun _ _ => False
abbrev TS := Ends → St → Hp → Prop
def EP (X : Cx) (pins : List (Addr × Obj)) (σ : St) (Q : VK) (u : Value) (s' : Shared) : Prop := ∃ v H', Inv X pins σ H' s' ∧ RelV v u ∧ Q v H'
def TP (X : Cx) (pins : List (Addr × Obj)) (σ : St) (Q : Bool → Hp → Prop) (b : Bool) (s' : Shared) : Prop := ∃ H', Inv X pins σ H' s' ∧ Q b H'
def AP (X : Cx) (pins : List (Addr × Obj)) (σ : St) (Q : List V → Hp → Prop) (us : List Value) (s' : Shared) : Prop := ∃ vs H', Inv X pins σ H' s' ∧ Vals vs us ∧ Q vs H'
def SP (X : Cx) (pins : List (Addr × Obj)) (D : Ends) (f : Flow) (s' : Shared) : Prop :=
  match f with
  | .next => ∃ σ' H', Inv X pins σ' H' s' ∧ D.nx σ' H'
  | .brk => ∃ σ' H', Inv X pins σ' H' s' ∧ D.bk σ' H'
  | .cont => ∃ σ' H', Inv X pins σ' H' s' ∧ D.ct σ' H'
  | .ret u => ∃ v σ' H', Inv X pins σ' H' s' ∧ RelV v u ∧ D.rt v H'
def PE (X : Cx) (e : Expr) (t : TE) : Prop :=
  ∀ (pins : List (Addr × Obj)) (s : Shared) (σ : St) (H : Hp) (Q : VK), Inv X pins σ H s → t σ H Q → wpAny (model X.prog X.w) X.A (eval e X.env) (EP X pins σ Q) X.xe s
def PT (X : Cx) (e : Expr) (t : TT) : Prop :=
  ∀ (pins : List (Addr × Obj)) (s : Shared) (σ : St) (H : Hp) (Q : Bool → Hp → Prop), Inv X pins σ H s → t σ H Q → wpAny (model X.prog X.w) X.A (isTrue e X.env (eval e X.env)) (TP X pins σ Q) X.xe s
def PW (X : Cx) (e : Expr) (t : TT) : Prop :=
  ∀ (whole : Sem Value) (pins : List (Addr × Obj)) (s : Shared) (σ : St) (H : Hp) (Q : Bool → Hp → Prop), Inv X pins σ H s → t σ H Q → wpAny (model X.prog X.w) X.A (isTrue e X.env whole) (TP X pins σ Q) X.xe s
theorem PW.pt {X : Cx} {e : Expr} {t : TT} (h : PW X e t) : PT X e t := h _
def PA (X : Cx) (es : List Expr) (t : TA) : Prop :=
  ∀ (pos : Pos) (pins : List (Addr × Obj)) (s : Shared) (σ : St) (H : Hp) (Q : List V → Hp → Prop), Inv X pins σ H s → t σ H Q → wpAny (model X.prog X.w) X.A (spliced (backTo pos (starEach es X.env))) (AP X pins σ Q) X.xe s
def PS (X : Cx) (st : Stmt) (t : TS) : Prop :=
  ∀ (pins : List (Addr × Obj)) (s : Shared) (σ : St) (H : Hp) (D : Ends), Inv X pins σ H s → t D σ H → wpAny (model X.prog X.w) X.A (exec st X.env) (SP X pins D) X.xe s
def PSs (X : Cx) (st : List Stmt) (t : TS) : Prop :=
  ∀ (pins : List (Addr × Obj)) (s : Shared) (σ : St) (H : Hp) (D : Ends), Inv X pins σ H s → t D σ H → wpAny (model X.prog X.w) X.A (execs st X.env) (SP X pins D) X.xe s
theorem thn {α : Type} {t : Sem α} {Q Q' : α → Shared → Prop} {M : Model} {A : Around} {E : Value → Shared → Prop} {s : Shared} (h : wpAny M A t Q E s) (hQ : ∀ a s, Q a s → Q' a s) : wpAny M A t Q' E s := wpAny_mono h hQ fun _ _ x => x
end L2
namespace L2
open PySem PySem.Spec PyProof.Rows
section
variable {X : Cx}
def tVar (i : Nat) : TE := fun σ H Q => ∃ v, σ[i]? = some (some v) ∧ Q v H
def tC (v : V) : TE := fun _ H Q => Q v H
theorem pe_var {i : Nat} {x : Str} {pos : Pos} (hN : X.N[i]? = some x) (hv : Vis X.env.scope x) (hd : (x == ("__debug__" : Str)) = false := by decide) (hcd : (x == ("__classdict__" : Str)) = false := by decide) : PE X (.Name x pos) (tVar i) := by
  intro pins s σ H Q I h
  obtain ⟨v, e, h⟩ := h
  obtain ⟨m, hn, hl⟩ := I.loc
  obtain ⟨u, r, l⟩ := hl i x v hN e hv
  have fin : EP X pins σ Q u s := ⟨v, H, I, r, h⟩
  rcases l with ⟨hk, hm⟩ | ⟨hk, c, hc, hcell⟩
  · exact wpAny_Name (wpAny_loadName_local I.ok.kind hk hn hm fin) hd
  · rcases hk with hk | hk
    · exact wpAny_Name (wpAny_loadName_cell I.ok.kind hk hc hcell fin) hd
    · exact wpAny_Name (wpAny_loadName_free I.ok.kind hk hc hcell fin hcd) hd
theorem pe_int {i j pos} : PE X (.Constant (.int i) j pos) (tC (.int i)) := fun _ _ _ H _ I h => wpAny_Constant_int ⟨.int i, H, I.tok _, ⟨_, rfl⟩, h⟩
theorem pe_bl {b j pos} : PE X (.Constant (.bool b) j pos) (tC (.bl b)) := fun _ _ _ H _ I h => Constant_bool ⟨.bl b, H, I, rfl, h⟩
theorem pe_non {j pos} : PE X (.Constant .none j pos) (tC .non) := fun _ _ _ H _ I h => Constant_none ⟨.non, H, I, rfl, h⟩
theorem pe_str {x j pos} : PE X (.Constant (.str x) j pos) (tC (.str x)) := fun _ _ _ H _ I h => Calls.Constant_str ⟨.str x, H, I.tok _, ⟨_, rfl⟩, h⟩
def Gl (X : Cx) (x : Str) : Prop := X.env.kindOf x = some .globalImplicit
theorem ld_glob {E : Value → Shared → Prop} {pins : List (Addr × Obj)} {s : Shared} {σ : St} {H : Hp} {x : Str} {u : Value} {pos : Pos} {Q : Value → Shared → Prop} (I : Inv X pins σ H s) (hg : Gl X x) (hm : X.mg x = some u) (h : Q u s)
    (hd : (x == ("__debug__" : Str)) = false := by decide) : wpAny (model X.prog X.w) X.A (eval (.Name x pos) X.env) Q E s :=
  Calls.Name_function_global I.ok.kind hg (Calls.loadGlobal_global (by rw [I.ok.glob]; exact I.mod.glob.keeps I.bk) hm h) hd
theorem ld_blt {E : Value → Shared → Prop} {pins : List (Addr × Obj)} {s : Shared} {σ : St} {H : Hp} {x : Str} {u : Value} {pos : Pos} {Q : Value → Shared → Prop} (I : Inv X pins σ H s) (hg : Gl X x) (hm : X.mg x = none) (hv : bootBuiltins x = some u) (h : Q u s)
    (hn : x ≠ "__name__" := by decide) (hd : (x == ("__debug__" : Str)) = false := by decide) : wpAny (model X.prog X.w) X.A (eval (.Name x pos) X.env) Q E s := by
  obtain ⟨mb, h1, h2⟩ := I.mod.blt
  exact Calls.Name_function_global I.ok.kind hg (Calls.loadGlobal_builtin (by rw [I.ok.glob]; exact I.mod.glob.keeps I.bk) hm (by rw [I.ok.blt]; exact h1.keeps I.bk) ((h2 x hn).trans hv) h) hd
theorem pe_glob {x : Str} {v : V} {u : Value} {pos : Pos} (hg : Gl X x) (hm : X.mg x = some u) (r : RelV v u) (hd : (x == ("__debug__" : Str)) = false := by decide) : PE X (.Name x pos) (tC v) :=
  fun _ _ _ H _ I h => ld_glob I hg hm ⟨v, H, I, r, h⟩ hd
theorem pe_bltn {x : Str} {v : V} {u : Value} {pos : Pos} (hg : Gl X x) (hm : X.mg x = none) (hv : bootBuiltins x = some u) (r : RelV v u) (hn : x ≠ "__name__" := by decide) (hd : (x == ("__debug__" : Str)) = false := by decide) : PE X (.Name x pos) (tC v) :=
  fun _ _ _ H _ I h => ld_blt I hg hm hv ⟨v, H, I, r, h⟩ hn hd
variable {a b : Expr} {ta tb : TE} {pos : Pos}
def PC (X : Cx) (op : CmpOp) (a b : Expr) (t : TE) : Prop :=
  ∀ (pins : List (Addr × Obj)) (s : Shared) (σ : St) (H : Hp) (Q : VK), Inv X pins σ H s → t σ H Q →
    wpAny (model X.prog X.w) X.A (eval a X.env) (fun v s₁ => wpAny (model X.prog X.w) X.A (eval b X.env) (fun u s₂ => wpAny (model X.prog X.w) X.A (compareOp op v u) (EP X pins σ Q) X.xe s₂) X.xe s₁) X.xe s
def tB (t : TE) : TT := fun σ H Q => t σ H fun x H1 => ∃ c, x = .bl c ∧ Q c H1
theorem pt_cmp {op : CmpOp} {t : TE} (h : PC X op a b t) (h1 : behindInMarks op b = false := by first | exact nobehind _ (by decide) (by decide) | rfl) : PT X (.Compare a [op] [b] pos) (tB t) := by
  intro pins s σ H Q I hw
  refine wpAny_isTrue_Compare1 (thn (h pins s σ H _ I hw) fun v s1 h1 => thn h1 fun u s2 h2 => thn h2 fun c s3 ⟨x, H1, I1, r1, q1⟩ => ?_) h1
  obtain ⟨d, rfl, q⟩ := q1
  cases r1
  exact wpAny_truthy_bool ⟨H1, I1, q⟩
theorem pt_val {e : Expr} {t : TE} (h : PE X e t) (he : ∀ whole, isTrue e X.env whole = (do let v ← whole; standAt e.pos; holding [v] (truthy v)) := by intro _; rfl) : PT X e (tB t) := by
  intro pins s σ H Q I hw
  refine isTrue_plain (thn (h pins s σ H _ I hw) fun v s1 ⟨x, H1, I1, r1, q1⟩ => ?_) (he _)
  obtain ⟨d, rfl, q⟩ := q1
  cases r1
  exact wpAny_truthy_bool ⟨H1, I1, q⟩
variable {tA tB' : TT} {rest : List Expr}
def tAnd (t u : TT) : TT := fun σ H Q => t σ H fun c H1 => if c = true then u σ H1 Q else Q false H1
def tOr (t u : TT) : TT := fun σ H Q => t σ H fun c H1 => if c = true then Q true H1 else u σ H1 Q
def tNot (t : TT) : TT := fun σ H Q => t σ H fun c H1 => Q (!c) H1
theorem pw_and1 (ha : PT X a tA) : PW X (.BoolOp .And [a] pos) tA := by
  intro wh pins s σ H Q I h
  refine isTrue_and (thn (ha pins s σ H Q I h) fun c s1 e => ?_)
  cases c with
  | true => exact isTrue_and_nil e
  | false => exact e
theorem pw_or1 (ha : PT X a tA) : PW X (.BoolOp .Or [a] pos) tA := by
  intro wh pins s σ H Q I h
  refine isTrue_or (thn (ha pins s σ H Q I h) fun c s1 e => ?_)
  cases c with
  | false => exact isTrue_or_nil e
  | true => exact e
theorem pw_and (ha : PT X a tA) (hb : PW X (.BoolOp .And (b :: rest) pos) tB') : PW X (.BoolOp .And (a :: b :: rest) pos) (tAnd tA tB') := by
  intro wh pins s σ H Q I h
  refine isTrue_and (thn (ha pins s σ H _ I h) ?_)
  rintro c s1 ⟨H1, I1, q1⟩
  cases c with
  | true => exact hb wh pins s1 σ H1 Q I1 q1
  | false => exact ⟨H1, I1, q1⟩
theorem pw_or (ha : PT X a tA) (hb : PW X (.BoolOp .Or (b :: rest) pos) tB') : PW X (.BoolOp .Or (a :: b :: rest) pos) (tOr tA tB') := by
  intro wh pins s σ H Q I h
  refine isTrue_or (thn (ha pins s σ H _ I h) ?_)
  rintro c s1 ⟨H1, I1, q1⟩
  cases c with
  | true => exact ⟨H1, I1, q1⟩
  | false => exact hb wh pins s1 σ H1 Q I1 q1
theorem pt_not (ha : PT X a tA) : PT X (.UnaryOp .Not a pos) (tNot tA) := by
  intro pins s σ H Q I h
  exact isTrue_not (ha pins s σ H (fun c H1 => Q (!c) H1) I h)
def tAndV (ta tb : TE) : TE := fun σ H Q => ta σ H fun x H1 => ∃ c, x = .bl c ∧ if c = true then tb σ H1 Q else Q (.bl false) H1
theorem pe_one {op} {t : TE} (h : PE X a t) : PE X (.BoolOp op [a] pos) t := fun pins s σ H Q I hw => BoolOp_one (h pins s σ H Q I hw)
theorem pe_and (ha : PE X a ta) (hb : PE X (.BoolOp .And (b :: rest) pos) tb) : PE X (.BoolOp .And (a :: b :: rest) pos) (tAndV ta tb) := by
  intro pins s σ H Q I h
  refine BoolOp_and (thn (ha pins s σ H _ I h) ?_)
  rintro v s1 ⟨x, H1, I1, r1, q1⟩
  obtain ⟨c, rfl, q1⟩ := q1
  cases r1
  refine wpAny_truthy_bool ?_
  cases c with
  | true => exact hb pins s1 σ H1 Q I1 q1
  | false => exact ⟨.bl false, H1, I1, rfl, q1⟩
def tIf (t : TT) (ta tb : TE) : TE := fun σ H Q => t σ H fun c H1 => if c = true then ta σ H1 Q else tb σ H1 Q
theorem pe_ifExp {c : Expr} (hc : PT X c tA) (ha : PE X a ta) (hb : PE X b tb) : PE X (.IfExp c a b pos) (tIf tA ta tb) := by
  intro pins s σ H Q I h
  refine wpAny_IfExp (thn (hc pins s σ H _ I h) ?_)
  rintro d s1 ⟨H1, I1, q1⟩
  cases d with
  | true => exact ha pins s1 σ H1 Q I1 q1
  | false => exact hb pins s1 σ H1 Q I1 q1
end
end L2
namespace L2
open PySem PySem.Spec PyProof.Rows
def SqL (K : PySem.W.Frag) (H : Hp) (a : Addr) (xs : List V) : Prop :=
  Rd H a (.lst xs) ∨
    ∃ (o : Obj) (its : Array Value) (n : Nat), K.lookup a = some o ∧ o.cls = .type "list" ∧ o.dict = none ∧ o.data = .seq its n ∧ its.size ≤ sizeLine ∧ Vals xs its.toList
def SqT (K : PySem.W.Frag) (H : Hp) (a : Addr) (xs : List V) : Prop :=
  Rd H a (.tup xs) ∨
    ∃ (o : Obj) (its : Array Value) (n : Nat), K.lookup a = some o ∧ o.cls = .type "tuple" ∧ o.data = .seq its n ∧ its.size ≤ sizeLine ∧ Vals xs its.toList
def absV : Value → Option V
  | .none => some .non
  | .bool b => some (.bl b)
  | .int i _ => some (.int i)
  | .str x _ => some (.str x)
  | .bytes b _ => some (.byt b)
  | .float b _ => some (.flt b)
  | .ref a => some (.ref a)
  | .type n => some (.ty n)
  | _ => none
theorem RelV.abs {x : V} {u : Value} (r : RelV x u) : absV u = some x := by
  cases x with
  | non => cases r; rfl
  | bl _ => cases r; rfl
  | int _ => obtain ⟨t, rfl⟩ := r; rfl
  | str _ => obtain ⟨t, rfl⟩ := r; rfl
  | byt _ => obtain ⟨t, rfl⟩ := r; rfl
  | flt _ => obtain ⟨t, rfl⟩ := r; rfl
  | ref _ => cases r; rfl
  | ty _ => cases r; rfl
theorem RelV.inj {x y : V} {u : Value} (r : RelV x u) (q : RelV y u) : x = y := Option.some.inj (r.abs.symm.trans q.abs)
theorem Vals.inj : ∀ {xs ys : List V} {us : List Value}, Vals xs us → Vals ys us → xs = ys
  | _, _, _, .nil, .nil => rfl
  | _, _, _, .cons r t, .cons r' t' => by rw [r.inj r', Vals.inj t t']
section
variable {X : Cx} {pins : List (Addr × Obj)} {σ : St} {H : Hp} {s : Shared} {a : Addr} {xs ys : List V}
theorem SqL.of {K : PySem.W.Frag} (h : H a = some (.lst xs)) : SqL K H a xs := .inl (.inl h)
theorem SqT.of {K : PySem.W.Frag} (h : H a = some (.tup xs)) : SqT K H a xs := .inl (.inl h)
theorem Inv.list (I : Inv X pins σ H s) (h : SqL X.K H a xs) : ∃ its : List Value, Vals xs its ∧ PlainL s.heap a its.toArray ∧ xs.length ≤ sizeLine := by
  rcases h with h | ⟨o, its, n, hk, hc, hd, hs, hz, r⟩
  · obtain ⟨z, its, n, r, e⟩ := h.ok I.hok
    exact ⟨its, r, ⟨_, n, e, rfl, rfl, rfl⟩, z⟩
  · refine ⟨its.toList, r, ⟨o, n, I.kIn a o hk, hc, hd, by simpa using hs⟩, ?_⟩
    have e := r.length
    simp only [Array.length_toList] at e
    omega
theorem Inv.tuple (I : Inv X pins σ H s) (h : SqT X.K H a xs) : ∃ its : List Value, Vals xs its ∧ IsTup s.heap a its.toArray ∧ xs.length ≤ sizeLine := by
  rcases h with h | ⟨o, its, n, hk, hc, hs, hz, r⟩
  · obtain ⟨⟨z, _⟩, its, r, p⟩ := h.ok I.hok
    exact ⟨its, r, p, z⟩
  · refine ⟨its.toList, r, ⟨o, I.kIn a o hk, hc, n, by simpa using hs⟩, ?_⟩
    have e := r.length
    simp only [Array.length_toList] at e
    omega
theorem Inv.list_inj (I : Inv X pins σ H s) (h : SqL X.K H a xs) (h' : SqL X.K H a ys) : xs = ys := by
  obtain ⟨its, r, ⟨o, n, e, _, _, d⟩, _⟩ := I.list h
  obtain ⟨its', r', ⟨o', n', e', _, _, d'⟩, _⟩ := I.list h'
  rw [e] at e'; cases e'
  rw [d] at d'
  injection d' with d1 _
  have : its = its' := by simpa using congrArg Array.toList d1
  subst this
  exact r.inj r'
theorem Inv.tuple_inj (I : Inv X pins σ H s) (h : SqT X.K H a xs) (h' : SqT X.K H a ys) : xs = ys := by
  obtain ⟨its, r, ⟨o, e, _, n, d⟩, _⟩ := I.tuple h
  obtain ⟨its', r', ⟨o', e', _, n', d'⟩, _⟩ := I.tuple h'
  rw [e] at e'; cases e'
  rw [d] at d'
  injection d' with d1 _
  have : its = its' := by simpa using congrArg Array.toList d1
  subst this
  exact r.inj r'
end
abbrev Cx.wish (X : Cx) (E : Value → Shared → Prop) : Cx := { X with xe := E }
abbrev Cx.nox (X : Cx) : Cx := X.wish fun _ _ => False
theorem Cx.Ok.wish {X : Cx} (ok : X.Ok) (E : Value → Shared → Prop) : (X.wish E).Ok :=
  ⟨ok.mod, ok.kind, ok.glob, ok.blt, ok.above, ok.inj, ok.has, ok.cab, ok.hd, ok.frames, ok.stk, ok.exf, ok.bs, ok.bsz, ok.noex, ok.exfs, ok.funs, ok.frf⟩
theorem Cx.Ok.unwish {X : Cx} {E : Value → Shared → Prop} (ok : (X.wish E).Ok) : X.Ok :=
  ⟨ok.mod, ok.kind, ok.glob, ok.blt, ok.above, ok.inj, ok.has, ok.cab, ok.hd, ok.frames, ok.stk, ok.exf, ok.bs, ok.bsz, ok.noex, ok.exfs, ok.funs, ok.frf⟩
section
variable {X : Cx} {pins : List (Addr × Obj)} {σ : St} {H : Hp} {s : Shared} {E : Value → Shared → Prop}
theorem Inv.wish (I : Inv X pins σ H s) (E : Value → Shared → Prop) : Inv (X.wish E) pins σ H s := ⟨I.ok.wish E, I.os, I.bare, I.base, I.loc, I.cell, I.free, I.freeC, I.pin, I.hok, I.len⟩
theorem Inv.unwish (I : Inv (X.wish E) pins σ H s) : Inv X pins σ H s := ⟨I.ok.unwish, I.os, I.bare, I.base, I.loc, I.cell, I.free, I.freeC, I.pin, I.hok, I.len⟩
theorem SP.unwish {D : Ends} {f : Flow} {s' : Shared} (h : SP (X.wish E) pins D f s') : SP X pins D f s' := by
  cases f with
  | next => obtain ⟨σ', H', I, q⟩ := h; exact ⟨σ', H', I.unwish, q⟩
  | brk => obtain ⟨σ', H', I, q⟩ := h; exact ⟨σ', H', I.unwish, q⟩
  | cont => obtain ⟨σ', H', I, q⟩ := h; exact ⟨σ', H', I.unwish, q⟩
  | ret u => obtain ⟨v, σ', H', I, r, q⟩ := h; exact ⟨v, σ', H', I.unwish, r, q⟩
theorem PSs.nox {st : List Stmt} {t : TS} (h : PSs X.nox st t) : PSs X st t := fun pins s σ H D I hw =>
  wpAny_mono (h pins s σ H D (I.wish _) hw) (fun _ _ q => q.unwish) fun _ _ z => False.elim z
end
section
variable {X : Cx} {st : Stmt} {rest : List Stmt} {t u : TS} {e : Expr} {te : TE} {pos : Pos}
def tNext : TS := fun D σ H => D.nx σ H
def tSeq (t u : TS) : TS := fun D σ H => t { D with nx := u D } σ H
theorem pss_nil : PSs X [] tNext := fun _ _ σ H _ I h => wpAny_execs_nil ⟨σ, H, I, h⟩
theorem pss_cons (h1 : PS X st t) (h2 : PSs X rest u) : PSs X (st :: rest) (tSeq t u) := by
  intro pins s σ H D I h
  refine wpAny_execs_cons (thn (h1 pins s σ H { D with nx := u D } I h) fun f s1 q => ?_)
  cases f with
  | next =>
    obtain ⟨σ', H', I', q⟩ := q
    exact h2 pins s1 σ' H' D I' q
  | ret v => exact q
  | brk => exact q
  | cont => exact q
theorem pss_one (h1 : PS X st t) : PSs X [st] t := by
  intro pins s σ H D I h
  refine wpAny_execs_cons (thn (h1 pins s σ H D I h) fun f s1 q => ?_)
  cases f with
  | next => exact wpAny_execs_nil q
  | ret v => exact q
  | brk => exact q
  | cont => exact q
theorem Inv.quiet {pins : List (Addr × Obj)} {σ : St} {H : Hp} {s : Shared} (I : Inv X pins σ H s) : interactive X.env = false := by simp [interactive, I.ok.kind]
def tDrop (te : TE) : TS := fun D σ H => te σ H fun _ H1 => D.nx σ H1
theorem ps_expr (he : PE X e te) (hs : swapsWith e none pos.line X.env = pure false := by rfl) : PS X (.Expr e pos) (tDrop te) := by
  intro pins s σ H D I h
  exact wpAny_Expr_any (thn (he pins s σ H _ I h) fun v s1 ⟨x, H1, I1, r1, q1⟩ => ⟨σ, H1, I1, q1⟩) I.quiet hs
def tRet (te : TE) : TS := fun D σ H => te σ H D.rt
theorem ps_ret (he : PE X e te) : PS X (.Return (some e) pos) (tRet te) := by
  intro pins s σ H D I h
  exact wpAny_Return_some (thn (he pins s σ H _ I h) fun v s1 ⟨x, H1, I1, r1, q1⟩ => ⟨x, σ, H1, I1, r1, q1⟩)
def tIfS (c : TT) (t u : TS) : TS := fun D σ H => c σ H fun b H1 => if b = true then t D σ H1 else u D σ H1
theorem ps_if {c : Expr} {a b : List Stmt} {tc : TT} (hc : PT X c tc) (ha : PSs X a t) (hb : PSs X b u) : PS X (.If c a b pos) (tIfS tc t u) := by
  intro pins s σ H D I h
  refine wpAny_If (thn (hc pins s σ H _ I h) ?_)
  rintro d s1 ⟨H1, I1, q1⟩
  cases d with
  | true => exact ha pins s1 σ H1 D I1 q1
  | false => exact hb pins s1 σ H1 D I1 q1
end
abbrev TG := V → St → Hp → (St → Hp → Prop) → Prop
abbrev TGs := List V → St → Hp → (St → Hp → Prop) → Prop
def PG (X : Cx) (target : Expr) (t : TG) : Prop :=
  ∀ (pins : List (Addr × Obj)) (s : Shared) (σ : St) (H : Hp) (v : V) (u : Value) (Q : St → Hp → Prop), Inv X pins σ H s → RelV v u → t v σ H Q →
    wpAny (model X.prog X.w) X.A (assign target X.env u) (fun _ s' => ∃ σ' H', Inv X pins σ' H' s' ∧ Q σ' H') X.xe s
def PGs (X : Cx) (ts : List Expr) (t : TGs) : Prop :=
  ∀ (pins : List (Addr × Obj)) (s : Shared) (σ : St) (H : Hp) (vs : List V) (us : List Value) (Q : St → Hp → Prop), Inv X pins σ H s → Vals vs us → t vs σ H Q →
    wpAny (model X.prog X.w) X.A (assignInOrder ((assignEach ts X.env).map (·.2)) us) (fun _ s' => ∃ σ' H', Inv X pins σ' H' s' ∧ Q σ' H') X.xe s
abbrev TSet := V → V → V → Hp → (Hp → Prop) → Prop
def PSet (X : Cx) (t : TSet) : Prop :=
  ∀ (pins : List (Addr × Obj)) (s : Shared) (σ : St) (H : Hp) (o i v : V) (ov iv u : Value) (Q : Hp → Prop), Inv X pins σ H s → RelV o ov → RelV i iv → RelV v u → t o i v H Q →
    wpAny (model X.prog X.w) X.A (setItem ov iv u) (fun _ s' => ∃ H', Inv X pins σ H' s' ∧ Q H') X.xe s
section
variable {X : Cx} {pos : Pos}
def gName (i : Nat) : TG := fun v σ H Q => Q (σ.set i (some v)) H
theorem pg_name {i : Nat} {x : Str} (hN : X.N.Nodup) (hi : X.N[i]? = some x) (hx : Loc X.env.scope x) (hf : X.fn x = true ∨ X.env.scope.names.lookup x = some .local := by first | exact .inl rfl | exact .inr rfl | assumption) : PG X (.Name x pos) (gName i) := by
  intro pins s σ H v u Q I r h
  exact wpAny_assign_Name (store_ok I hN hi hx r (fun s' I' => ⟨_, H, I', h⟩) hf)
def gNil : TGs := fun vs σ H Q => vs = [] ∧ Q σ H
def gCons (t : TG) (u : TGs) : TGs := fun vs σ H Q => ∃ v r, vs = v :: r ∧ t v σ H fun σ' H' => u r σ' H' Q
theorem pgs_nil : PGs X [] gNil := by
  intro pins s σ H vs us Q I r h
  obtain ⟨e, h⟩ := h
  subst e
  cases r
  exact assignInOrder_nil ⟨σ, H, I, h⟩
theorem pgs_cons {e : Expr} {es : List Expr} {t : TG} {u : TGs} (h1 : PG X e t) (h2 : PGs X es u)
    (hs : (assignEach (e :: es) X.env).map (·.2) = assign e X.env :: (assignEach es X.env).map (·.2) := by rfl) : PGs X (e :: es) (gCons t u) := by
  intro pins s σ H vs us Q I r h
  obtain ⟨v, vr, e1, h⟩ := h
  subst e1
  cases r with
  | cons r rr =>
    rw [hs]
    refine assignInOrder_cons (thn (h1 pins s σ H _ _ _ I r h) ?_)
    rintro _ s1 ⟨σ1, H1, I1, q1⟩
    exact h2 pins s1 σ1 H1 _ _ Q I1 rr q1
def gTup (K : PySem.W.Frag) (n : Nat) (t : TGs) : TG := fun v σ H Q => ∃ a xs, v = .ref a ∧ SqT K H a xs ∧ xs.length = n ∧ t xs σ H Q
theorem pg_tup {es : List Expr} {k : Nat} {t : TGs} {n : Nat} (hc : X.calm = true) (h : PGs X es t)
    (hn : (assignEach es X.env).length = n := by rfl) (hst : (assignEach es X.env).findIdx? (·.1) = none := by rfl) : PG X (.Tuple es k pos) (gTup X.K n t) := by
  intro pins s σ H v u Q I r hw
  obtain ⟨a, xs, e1, hq, hl, hw⟩ := hw
  subst e1
  cases r
  obtain ⟨its, rv, ht, hz⟩ := I.tuple hq
  refine assign_Tuple_tuple (I.ok.hd hc) ht (by simp [hn, ← hl, rv.length]) hst fun h' hx => ?_
  have I1 : Inv X pins σ H { s with heap := h' } := I.kept (t' := s.toks) fun b o e => hx b o (Nat.ne_of_lt (Heap.lt_size e)) e
  exact h pins _ σ H xs _ Q I1 (by simpa using rv) hw
def gSub (to ti : TE) (t : TSet) : TG := fun v σ H Q => to σ H fun o H1 => ti σ H1 fun i H2 => t o i v H2 fun H3 => Q σ H3
theorem pg_sub {o i : Expr} {to ti : TE} {t : TSet} (ho : PE X o to) (hi : PE X i ti) (hs : PSet X t)
    (ha : ∀ v, assign (.Subscript o i pos) X.env v = (do
      let ov ← holding [v] (eval o X.env)
      let iv ← holding [v, ov] (eval i X.env)
      standAt pos
      holding [v, ov, iv] (setItem ov iv v)
      release [v, ov, iv] []) := by intro _; rfl) : PG X (.Subscript o i pos) (gSub to ti t) := by
  intro pins s σ H v u Q I r h
  rw [ha]
  refine wpAny_bind (wpAny_holding (thn (ho pins s σ H _ I h) ?_))
  rintro ov s1 ⟨x, H1, I1, r1, q1⟩
  refine wpAny_bind (wpAny_holding (thn (hi pins s1 σ H1 _ I1 q1) ?_))
  rintro iv s2 ⟨y, H2, I2, r2, q2⟩
  refine wpAny_bind (wpAny_standAt (wpAny_bind (wpAny_holding (thn (hs pins s2 σ H2 x y v ov iv u _ I2 r1 r2 r q2) ?_))))
  rintro _ s3 ⟨H3, I3, q3⟩
  exact wpAny_release ⟨σ, H3, I3, q3⟩
def tAsg (te : TE) (g : TG) : TS := fun D σ H => te σ H fun x H1 => g x σ H1 D.nx
theorem ps_asg {tg e : Expr} {te : TE} {g : TG} (he : PE X e te) (hg : PG X tg g) (hs : swapsWithSole [tg] e pos.line X.env = pure false := by rfl) (hw : swappedStores [tg] e X.env = pure none := by rfl)
    (h1 : (assignEach [tg] X.env).map (·.2) = [assign tg X.env] := by rfl) : PS X (.Assign [tg] e pos) (tAsg te g) := by
  intro pins s σ H D I h
  refine wpAny_Assign_stores (thn (he pins s σ H _ I h) fun v s1 ⟨x, H1, I1, r1, q1⟩ => ?_) hs hw
  rw [h1]
  exact thn (hg pins s1 σ H1 x v _ I1 r1 q1) fun _ s2 q => q
theorem ps_set {i : Nat} {x : Str} {e : Expr} {te : TE} {pos' : Pos} (hN : X.N.Nodup) (hi : X.N[i]? = some x) (hx : Loc X.env.scope x) (he : PE X e te) (hs : swapsWith e (some (.Name x pos')) pos.line X.env = pure false := by rfl) (hf : X.fn x = true ∨ X.env.scope.names.lookup x = some .local := by first | exact .inl rfl | exact .inr rfl | assumption) :
    PS X (.Assign [.Name x pos'] e pos) (tAsg te (gName i)) := by
  intro pins s σ H D I h
  refine wpAny_Assign_Name (thn (he pins s σ H _ I h) fun v s1 ⟨y, H1, I1, r1, q1⟩ => ?_) hs
  exact store_ok I1 hN hi hx r1 (fun s2 I2 => ⟨_, H1, I2, q1⟩) hf
end
section
variable {X : Cx} {pos : Pos}
end
structure It where
  go : Nat → Hp → Prop
  yld : Nat → Hp → V → Hp → Prop
  stop : Nat → Hp → Prop
def FpOk (X : Cx) (pins : List (Addr × Obj)) (H : Hp) (b : Addr) : Prop :=
  H b = none ∧ b ≠ X.env.locals ∧ b ∉ X.fs ∧ (b ∈ X.ex ∨ X.s₀.heap.objs.size ≤ b) ∧ (∀ x c, X.env.cells.lookup x = some c → c ≠ b) ∧ ∀ p ∈ X.pn ++ pins, p.1 ≠ b
theorem Inv.fpOk {X : Cx} {pins : List (Addr × Obj)} {σ : St} {H H' : Hp} {s : Shared} {b : Addr} (I : Inv X pins σ H s) (hb : s.heap.objs.size ≤ b) (hn : H' b = none) : FpOk X pins H' b := by
  refine ⟨hn, Nat.ne_of_gt (Nat.lt_of_lt_of_le I.lt hb), I.nofs hb, .inr (Nat.le_trans I.sz hb), fun x c e z => ?_, fun p hp z => ?_⟩
  · obtain ⟨v, q⟩ := I.cell x c e
    exact absurd (Nat.lt_of_lt_of_le q.lt (by rw [z]; exact hb)) (Nat.lt_irrefl _)
  · exact absurd (Nat.lt_of_lt_of_le (Heap.lt_size (I.pin p hp).1) (by rw [z]; exact hb)) (Nat.lt_irrefl _)
structure Turn (P : Program) (w : World) (K : PySem.W.Frag) (tg : Expr) (J : It) (fp : List Addr) (it : Addr) (tn : Nat → Heap → Prop) : Prop where
  mem : it ∈ fp
  obj : ∀ i h, tn i h → ∀ b ∈ fp, ∃ o, h.get? b = some o ∧ ∀ v, o.data ≠ .cell v
  keep : ∀ i h h', tn i h → (∀ b ∈ fp, ∀ o, h.get? b = some o → h'.get? b = some o) → tn i h'
  item : ∀ (X : Cx), X.prog = P → X.w = w → X.K = K → X.calm = true → ∀ (i : Nat) (pins : List (Addr × Obj)) (s : Shared) (σ : St) (H : Hp) (E : Value → Shared → Prop), Inv X pins σ H s → (∀ b ∈ fp, FpOk X pins H b) → tn i s.heap → J.go i H →
    wpAny (model P w) X.A (pyNext (.ref it)) (fun r s1 => ∃ u, r = some u ∧
      wpAny (model P w) X.A (letOwnedTupleGo tg (.ref it) u) (fun _ s2 => ∃ x H', Inv X pins σ H' s2 ∧ RelV x u ∧ J.yld i H x H' ∧ tn (i + 1) s2.heap ∧ ∀ b ∈ fp, H' b = none) E s1) E s
  done : ∀ (X : Cx), X.prog = P → X.w = w → X.K = K → X.calm = true → ∀ (i : Nat) (pins : List (Addr × Obj)) (s : Shared) (σ : St) (H : Hp) (E : Value → Shared → Prop), Inv X pins σ H s → (∀ b ∈ fp, FpOk X pins H b) → tn i s.heap → J.stop i H →
    wpAny (model P w) X.A (pyNext (.ref it)) (fun r s1 => r = none ∧ Inv X pins σ H s1) E s
  self : ∀ (A : Around) (i : Nat) (s : Shared) (Q : Value → Shared → Prop) (E : Value → Shared → Prop), tn i s.heap → Q (.ref it) s → wpAny (model P w) A (pyIter (.ref it)) Q E s
abbrev TI := St → Hp → (It → Hp → Prop) → Prop
def PIE (X : Cx) (pins : List (Addr × Obj)) (σ : St) (tg : Expr) (R : It → Hp → Prop) (itv : Value) (s2 : Shared) : Prop :=
  ∃ (it : Addr) (fp : List Addr) (tn : Nat → Heap → Prop) (J : It) (H' : Hp), itv = .ref it ∧ Inv X pins σ H' s2 ∧ Turn X.prog X.w X.K tg J fp it tn ∧ tn 0 s2.heap ∧ (∀ b ∈ fp, FpOk X pins H' b) ∧ R J H'
def PI (X : Cx) (tg iter : Expr) (wi : TI) : Prop :=
  ∀ (pins : List (Addr × Obj)) (s : Shared) (σ : St) (H : Hp) (R : It → Hp → Prop), Inv X pins σ H s → wi σ H R →
    wpAny (model X.prog X.w) X.A (eval iter X.env) (fun v s1 => wpAny (model X.prog X.w) X.A (pyIter v) (PIE X pins σ tg R) X.xe s1) X.xe s
theorem go_of {M : Model} {A : Around} {E : Value → Shared → Prop} {s : Shared} {tg : Expr} {it : Addr} {u : Value} {o : Obj} {n : String} {vs : Array Value} {Q : Unit → Shared → Prop} (ho : s.heap.get? it = some o) (hc : o.cls = .type n) (hd : o.data = .fields vs)
    (hn : ["enumerate", "zip", "dict_itemiterator", "dict_reverseitemiterator", "odict_iterator", "itertools.zip_longest", "itertools.pairwise"].contains n = false) (hQ : Q () s) : wpAny M A (letOwnedTupleGo tg (.ref it) u) Q E s := by
  unfold letOwnedTupleGo
  cases tg <;> first
    | exact wpAny_pure hQ
    | (cases u <;> first
        | exact wpAny_pure hQ
        | (refine wpAny_bind (wpAny_load ho ?_)
           rw [hc, hd]
           show wpAny M A (if (["enumerate", "zip", "dict_itemiterator", "dict_reverseitemiterator", "odict_iterator", "itertools.zip_longest", "itertools.pairwise"].contains n && vs[0]? == some (rawInt _)) = true then _ else _) Q E s
           rw [if_neg (by intro h; rw [hn, Bool.false_and] at h; cases h)]
           exact wpAny_pure hQ))
def Itl (K : PySem.W.Frag) (a : Addr) : It :=
  ⟨fun i H => ∃ xs x, SqL K H a xs ∧ xs[i]? = some x, fun i H x H' => H' = H ∧ ∀ xs, SqL K H a xs → xs[i]? = some x, fun i H => ∃ xs, SqL K H a xs ∧ xs.length ≤ i⟩
def Itt (K : PySem.W.Frag) (a : Addr) : It :=
  ⟨fun i H => ∃ xs x, SqT K H a xs ∧ xs[i]? = some x, fun i H x H' => H' = H ∧ ∀ xs, SqT K H a xs → xs[i]? = some x, fun i H => ∃ xs, SqT K H a xs ∧ xs.length ≤ i⟩
def Itr (lo : Int) (n : Nat) : It := ⟨fun i _ => i < n, fun i H x H' => H' = H ∧ x = .int (lo + i), fun i _ => n ≤ i⟩
theorem turn_list {P : Program} {w : World} {K : PySem.W.Frag} {tg : Expr} (a it : Addr) : Turn P w K tg (Itl K a) [it] it (fun i h => h.IsListIter it a i) where
  mem := by simp
  obj := fun i h st b hb => by
    have e : b = it := by simpa using hb
    subst e
    obtain ⟨o, e, c, d⟩ := st
    exact ⟨o, e, fun v z => by rw [d] at z; cases z⟩
  keep := fun i h h' st k => st.at fun o e => k it (by simp) o e
  item := by
    intro X hP hw hK hc i pins s σ H E I hf st hg
    subst hP hw hK
    obtain ⟨xs, x, hq, hx⟩ := hg
    obtain ⟨its, rv, p, hz⟩ := I.list hq
    obtain ⟨u, hu, ru⟩ := rv.get hx
    obtain ⟨f0, f1, f2, f3, f4, f5⟩ := hf it (by simp)
    refine wpAny_pyNext_list_item st p.isList (x := u) (by simpa using hu) fun h' st' sb => ?_
    have I1 : Inv X pins σ H { s with heap := h' } := I.turned (t' := s.toks) (fun b o hb e => (sb.2 b hb).trans e) f0 f1 f3 f4 f5
    obtain ⟨o, e, c, d⟩ := id st'
    exact ⟨u, rfl, go_of (s := { s with heap := h' }) e c d (by decide) ⟨x, H, I1, ru, ⟨rfl, fun ys hy => by rw [I.list_inj hy hq]; exact hx⟩, st', fun b hb => (hf b hb).1⟩⟩
  done := by
    intro X hP hw hK hc i pins s σ H E I hf st hg
    subst hP hw hK
    obtain ⟨xs, hq, hx⟩ := hg
    obtain ⟨its, rv, p, hz⟩ := I.list hq
    obtain ⟨f0, f1, f2, f3, f4, f5⟩ := hf it (by simp)
    have hl := rv.length
    exact wpAny_pyNext_list_end (I.ok.hd hc) st p.isList (by simp; omega) fun h' eb => ⟨rfl, I.turned (t' := s.toks) (fun b o hb e => eb b o hb e) f0 f1 f3 f4 f5⟩
  self := fun _ _ _ _ _ st h => wpAny_pyIter_listiter st h
theorem turn_tuple {P : Program} {w : World} {K : PySem.W.Frag} {tg : Expr} (a it : Addr) : Turn P w K tg (Itt K a) [it] it (fun i h => h.IsTupleIter it a i) where
  mem := by simp
  obj := fun i h st b hb => by
    have e : b = it := by simpa using hb
    subst e
    obtain ⟨o, e, c, d⟩ := st
    exact ⟨o, e, fun v z => by rw [d] at z; cases z⟩
  keep := fun i h h' st k => st.at fun o e => k it (by simp) o e
  item := by
    intro X hP hw hK hc i pins s σ H E I hf st hg
    subst hP hw hK
    obtain ⟨xs, x, hq, hx⟩ := hg
    obtain ⟨its, rv, p, hz⟩ := I.tuple hq
    obtain ⟨u, hu, ru⟩ := rv.get hx
    obtain ⟨f0, f1, f2, f3, f4, f5⟩ := hf it (by simp)
    refine wpAny_pyNext_tuple_item st (show s.heap.IsTuple a its.toArray from p) (x := u) (by simpa using hu) fun h' st' sb => ?_
    have I1 : Inv X pins σ H { s with heap := h' } := I.turned (t' := s.toks) (fun b o hb e => (sb.2 b hb).trans e) f0 f1 f3 f4 f5
    obtain ⟨o, e, c, d⟩ := id st'
    exact ⟨u, rfl, go_of (s := { s with heap := h' }) e c d (by decide) ⟨x, H, I1, ru, ⟨rfl, fun ys hy => by rw [I.tuple_inj hy hq]; exact hx⟩, st', fun b hb => (hf b hb).1⟩⟩
  done := by
    intro X hP hw hK hc i pins s σ H E I hf st hg
    subst hP hw hK
    obtain ⟨xs, hq, hx⟩ := hg
    obtain ⟨its, rv, p, hz⟩ := I.tuple hq
    obtain ⟨f0, f1, f2, f3, f4, f5⟩ := hf it (by simp)
    have hl := rv.length
    exact wpAny_pyNext_tuple_end (I.ok.hd hc) st (show s.heap.IsTuple a its.toArray from p) (by simp; omega) fun h' eb => ⟨rfl, I.turned (t' := s.toks) (fun b o hb e => eb b o hb e) f0 f1 f3 f4 f5⟩
  self := fun _ _ _ _ _ st h => wpAny_pyIter_tupleiter st h
theorem turn_range {P : Program} {w : World} {K : PySem.W.Frag} {tg : Expr} (it : Addr) (lo : Int) (n : Nat) : Turn P w K tg (Itr lo n) [it] it (fun i h => IsRangeIter h it (lo + (i : Nat) * 1) ((n : Int) - (i : Nat)) 1) where
  mem := by simp
  obj := fun i h st b hb => by
    have e : b = it := by simpa using hb
    subst e
    exact ⟨_, st, fun v z => by
      have z' : Data.fields _ = Data.cell v := z
      cases z'⟩
  keep := fun i h h' st k => k it (by simp) _ st
  item := by
    intro X hP hw hK hc i pins s σ H E I hf st hg
    subst hP hw hK
    obtain ⟨f0, f1, f2, f3, f4, f5⟩ := hf it (by simp)
    have W := Walks.range (prog := X.prog) (w := X.w) (I.ok.hd hc) it lo 1 n
    refine W.item i s _ _ hg st fun v h' tk hv st' kk => ?_
    obtain ⟨t, rfl⟩ := hv
    have I1 : Inv X pins σ H { s with heap := h', toks := tk } := I.turned (fun b o hb e => kk b o (by simpa using hb) e) f0 f1 f3 f4 f5
    refine ⟨_, rfl, go_of (s := { s with heap := h', toks := tk }) (n := "range_iterator") st' rfl rfl (by decide) ⟨.int (lo + i), H, I1, ⟨t, ?_⟩, ⟨rfl, rfl⟩, st', fun b hb => (hf b hb).1⟩⟩
    rw [Int.mul_one]
  done := by
    intro X hP hw hK hc i pins s σ H E I hf st hg
    subst hP hw hK
    obtain ⟨f0, f1, f2, f3, f4, f5⟩ := hf it (by simp)
    exact wpAny_pyNext_range_end (I.ok.hd hc) st (by have : n ≤ i := hg; omega) fun h' eb => ⟨rfl, I.turned (t' := s.toks) (fun b o hb e => eb b o hb e) f0 f1 f3 f4 f5⟩
  self := fun _ _ _ _ _ st h => wpAny_pyIter_rangeiter st h
end L2
namespace L2
open PySem PySem.Spec PyProof.Rows
section
variable {X : Cx} {tg : Expr}
theorem range_it {pins : List (Addr × Obj)} {σ : St} {H : Hp} {s : Shared} {R : It → Hp → Prop} {E : Value → Shared → Prop} {lo hi : Int} {t u v : Tok} {tk : Nat} (I : Inv X pins σ H s) (h1 : -(2 ^ 62) ≤ lo) (h2 : lo < 2 ^ 62) (h3 : -(2 ^ 62) ≤ hi) (h4 : hi < 2 ^ 62)
    (q : R (Itr lo (hi - lo).toNat) H) : wpAny (model X.prog X.w) X.A (pyIter (.ref s.heap.objs.size)) (PIE X pins σ tg R) E { s with heap := s.heap.push { cls := .type "range", data := .fields #[.int lo t, .int hi u, .int 1 v] }, toks := tk } := by
  refine wpAny_pyIter_range (IsRange.new ..) (small_one h1 h2 h3 h4) ?_
  have I1 : Inv X pins σ H { s with heap := s.heap.push { cls := .type "range", data := .fields #[.int lo t, .int hi u, .int 1 v] }, toks := tk } := I.kept fun b o e => Heap.get?_push_of_some _ e
  refine ⟨(s.heap.push { cls := .type "range", data := .fields #[.int lo t, .int hi u, .int 1 v] }).objs.size, [(s.heap.push { cls := .type "range", data := .fields #[.int lo t, .int hi u, .int 1 v] }).objs.size], _, _, H, rfl,
    I1.kept (t' := tk) fun b o e => Heap.get?_push_of_some _ e, turn_range _ lo (hi - lo).toNat, ?_, fun b hb => ?_, q⟩
  · have e1 : lo + ((0 : Nat) : Int) * 1 = lo := by simp
    have e2 : (((hi - lo).toNat : Nat) : Int) - ((0 : Nat) : Int) = Builtin.Range.rangeSize lo hi 1 := by rw [rangeSize_one]; split <;> omega
    show IsRangeIter _ _ (lo + ((0 : Nat) : Int) * 1) ((((hi - lo).toNat : Nat) : Int) - ((0 : Nat) : Int)) 1
    rw [e1, e2]
    exact Heap.get?_push_size _ rfl
  · have e : b = (s.heap.push { cls := .type "range", data := .fields #[.int lo t, .int hi u, .int 1 v] }).objs.size := by simpa using hb
    subst e
    exact I1.fpOk (Nat.le_refl _) (I1.hok.fresh (Nat.le_refl _))
def iRng1 (ta : TA) : TI := fun σ H R => ta σ H fun vs H1 => ∃ j : Int, vs = [.int j] ∧ -(2 ^ 62) ≤ j ∧ j < 2 ^ 62 ∧ R (Itr 0 j.toNat) H1
theorem pi_range1 {a : Expr} {ta : TA} {p pos : Pos} (hg : Gl X "range") (hm : X.mg "range" = none) (ha : PA X [a] ta) (hs : starEach [a] X.env = [(false, eval a X.env)] := by rfl) : PI X tg (.Call (.Name "range" p) [a] [] pos) (iRng1 ta) := by
  intro pins s σ H R I h
  refine Call_ (ld_blt I hg hm boot_range (PyProof.Rows.callWith_type1 (thn (ha pos pins s σ H _ I h) fun us s1 ⟨vs, H1, I1, r1, q1⟩ => ?_) hs rfl))
  obtain ⟨j, e, q1, q2, q⟩ := q1
  subst e
  cases r1 with
  | cons r rr =>
    cases rr
    obtain ⟨t, rfl⟩ := r
    exact call_range_1 (range_it I1 (by omega) (by omega) q1 q2 (by simpa using q))
def tFor (wi : TI) (g : TG) (tb : TS) : TS := fun D σ H => wi σ H fun J H1 => ∃ W : Nat → Nat → St → Hp → Prop, (∃ m, W 0 m σ H1) ∧ ∀ i m σ H, W i m σ H →
  (J.stop i H ∧ D.nx σ H) ∨ (J.go i H ∧ ∃ N : St → Hp → Prop, (∀ σ' H', N σ' H' → ∃ m', m' < m ∧ W (i + 1) m' σ' H') ∧ ∀ x H', J.yld i H x H' → g x σ H' fun σ2 H2 => tb { D with nx := N, ct := N, bk := D.nx } σ2 H2)
def pinsAt (fp : List Addr) (h : Heap) : List (Addr × Obj) := fp.filterMap fun b => (h.get? b).map fun o => (b, o)
theorem mem_pinsAt {fp : List Addr} {h : Heap} {b : Addr} {o : Obj} (hb : b ∈ fp) (e : h.get? b = some o) : (b, o) ∈ pinsAt fp h := List.mem_filterMap.mpr ⟨b, hb, by rw [e]; rfl⟩
theorem of_pinsAt {fp : List Addr} {h : Heap} {p : Addr × Obj} (hp : p ∈ pinsAt fp h) : p.1 ∈ fp ∧ h.get? p.1 = some p.2 := by
  obtain ⟨b, hb, e⟩ := List.mem_filterMap.mp hp
  cases q : h.get? b with
  | none => rw [q] at e; cases e
  | some o =>
    rw [q] at e
    have e' : (b, o) = p := Option.some.inj e
    subst e'
    exact ⟨hb, q⟩
theorem Inv.pinned {pins : List (Addr × Obj)} {σ : St} {H : Hp} {s : Shared} {fp : List Addr} (I : Inv X pins σ H s) (hf : ∀ b ∈ fp, FpOk X pins H b) (ho : ∀ b ∈ fp, ∃ o, s.heap.get? b = some o ∧ ∀ v, o.data ≠ .cell v) : Inv X (pins ++ pinsAt fp s.heap) σ H s :=
  I.pins_of fun p hp => (List.mem_append.mp hp).elim (fun z => I.pin p (List.mem_append_right _ z)) fun z => by
    obtain ⟨hb, e⟩ := of_pinsAt z
    obtain ⟨f0, f1, f2, _⟩ := hf p.1 hb
    obtain ⟨o, e', d⟩ := ho p.1 hb
    rw [e] at e'; cases e'
    exact ⟨e, f0, f1, f2, d⟩
theorem Inv.unpinned {pins pl : List (Addr × Obj)} {σ : St} {H : Hp} {s : Shared} (I : Inv X (pins ++ pl) σ H s) : Inv X pins σ H s := I.pins_of fun p hp => I.pin p (List.mem_append_right _ (List.mem_append_left _ hp))
theorem ps_for {iter : Expr} {body : List Stmt} {wi : TI} {g : TG} {tb : TS} {pos : Pos} (hp : PassesOwn (model X.prog X.w) X.A X.env X.xe) (hc : X.calm = true) (hi : PI X tg iter wi) (hg : PG X tg g) (hb : PSs X body tb)
    (hs : ∀ x, foldedSetIterable iter X.env x = pure x := by intro _; rfl) : PS X (.For tg iter body [] pos) (tFor wi g tb) := by
  intro pins s σ H D I h
  refine wpAny_For (thn (hi pins s σ H _ I h) fun v s1 h1 => thn h1 fun itv s2 h2 => ?_) hs
  obtain ⟨it, fp, tn, J, H2, e, I2, T, st2, f2, W, ⟨m0, w0⟩, turn⟩ := h2
  subst e
  -- what stays true of the iterator's objects through the loop
  have stat : ∀ {H' : Hp}, (∀ b ∈ fp, H' b = none) → ∀ b ∈ fp, FpOk X pins H' b := fun hn b hb => ⟨hn b hb, (f2 b hb).2⟩
  refine codeAny_forLoop_any (fun n s' => ∃ i σ' H', Inv X pins σ' H' s' ∧ tn i s'.heap ∧ (∀ b ∈ fp, H' b = none) ∧ W i n σ' H') ?_ m0 ⟨0, σ, H2, I2, st2, fun b hb => (f2 b hb).1, w0⟩
  rintro n s3 ⟨i, σ3, H3, I3, st3, fr3, w3⟩
  rcases turn i n σ3 H3 w3 with ⟨stop, qn⟩ | ⟨go, N, hN, step⟩
  · refine wpAny_passesOwn hp (thn (T.done X rfl rfl rfl hc i pins s3 σ3 H3 X.xe I3 (stat fr3) st3 stop) ?_)
    rintro r s4 ⟨hr, I4⟩
    subst hr
    exact wpAny_execs_nil ⟨σ3, H3, I4, qn⟩
  · refine wpAny_passesOwn hp (thn (T.item X rfl rfl rfl hc i pins s3 σ3 H3 X.xe I3 (stat fr3) st3 go) ?_)
    rintro r s4 ⟨u, hr, h4⟩
    subst hr
    refine wpAny_passesOwn hp (thn h4 ?_)
    rintro _ s5 ⟨x, H5, I5, r5, y5, st5, fr5⟩
    have I5' := I5.pinned (stat fr5) (T.obj _ _ st5)
    refine wpAny_passesOwn hp (thn (hg _ s5 σ3 H5 x u _ I5' r5 (step x H5 y5)) ?_)
    rintro _ s6 ⟨σ6, H6, I6, q6⟩
    refine wpAny_passesOwn hp (thn (hb _ s6 σ6 H6 _ I6 q6) fun f s7 q7 => ?_)
    have again : ∀ {σ7 : St} {H7 : Hp}, Inv X (pins ++ pinsAt fp s5.heap) σ7 H7 s7 → N σ7 H7 → ∃ m, m < n ∧ ∃ i σ' H', Inv X pins σ' H' s7 ∧ tn i s7.heap ∧ (∀ b ∈ fp, H' b = none) ∧ W i m σ' H' := fun {σ7 H7} I7 n7 => by
      obtain ⟨m', hm, w7⟩ := hN σ7 H7 n7
      refine ⟨m', hm, i + 1, σ7, H7, I7.unpinned, T.keep _ _ _ st5 fun b hb o e => (I7.pin (b, o) (List.mem_append_right _ (List.mem_append_right _ (mem_pinsAt hb e)))).1, fun b hb => ?_, w7⟩
      obtain ⟨o, e, d⟩ := T.obj _ _ st5 b hb
      exact (I7.pin (b, o) (List.mem_append_right _ (List.mem_append_right _ (mem_pinsAt hb e)))).2.1
    cases f with
    | next => obtain ⟨σ7, H7, I7, n7⟩ := q7; exact again I7 n7
    | cont => obtain ⟨σ7, H7, I7, n7⟩ := q7; exact again I7 n7
    | brk => obtain ⟨σ7, H7, I7, q7⟩ := q7; exact ⟨σ7, H7, I7.unpinned, q7⟩
    | ret v => obtain ⟨x7, σ7, H7, I7, r7, q7⟩ := q7; exact ⟨x7, σ7, H7, I7.unpinned, r7, q7⟩
end
end L2
namespace L2
open PySem PySem.Spec PyProof.Rows
abbrev R2 := V → V → Hp → VK → Prop
def OpR (X : Cx) (f : Value → Value → Sem Value) (r : R2) : Prop :=
  ∀ (pins : List (Addr × Obj)) (s : Shared) (σ : St) (H : Hp) (x y : V) (v u : Value) (Q : VK), Inv X pins σ H s → RelV x v → RelV y u → r x y H Q →
    wpAny (model X.prog X.w) X.A (f v u) (EP X pins σ Q) X.xe s
def CallR (X : Cx) (f : Value) (r : List V → Hp → VK → Prop) : Prop :=
  ∀ (pins : List (Addr × Obj)) (s : Shared) (σ : St) (H : Hp) (xs : List V) (us : List Value) (Q : VK), Inv X pins σ H s → Vals xs us → r xs H Q →
    wpAny (model X.prog X.w) X.A (call f us) (EP X pins σ Q) X.xe s
def tOp (r : R2) (ta tb : TE) : TE := fun σ H Q => ta σ H fun x H1 => tb σ H1 fun y H2 => r x y H2 Q
def rI (C : Int → Int → Prop) (g : Int → Int → V) : R2 := fun x y H Q => ∃ i j, x = .int i ∧ y = .int j ∧ C i j ∧ Q (g i j) H
def rI0 (g : Int → Int → V) : R2 := fun x y H Q => ∃ i j, x = .int i ∧ y = .int j ∧ Q (g i j) H
section
variable {X : Cx} {a b c : Expr} {ta tb tc : TE} {pos : Pos}
theorem binT (ha : PE X a ta) (hb : PE X b tb) {pins : List (Addr × Obj)} {s : Shared} {σ : St} {H : Hp} {R : V → V → Hp → Prop} (I : Inv X pins σ H s)
    (h : ta σ H fun x H1 => tb σ H1 fun y H2 => R x y H2) {Q : Value → Shared → Prop} {f : Value → Value → Sem Value}
    (hf : ∀ v u s2 x y H2, Inv X pins σ H2 s2 → RelV x v → RelV y u → R x y H2 → wpAny (model X.prog X.w) X.A (f v u) Q X.xe s2) :
    wpAny (model X.prog X.w) X.A (eval a X.env) (fun v s₁ => wpAny (model X.prog X.w) X.A (eval b X.env) (fun u s₂ => wpAny (model X.prog X.w) X.A (f v u) Q X.xe s₂) X.xe s₁) X.xe s := by
  refine thn (ha pins s σ H _ I h) ?_
  rintro v s1 ⟨x, H1, I1, r1, q1⟩
  refine thn (hb pins s1 σ H1 _ I1 q1) ?_
  rintro u s2 ⟨y, H2, I2, r2, q2⟩
  exact hf v u s2 x y H2 I2 r1 r2 q2
theorem pe_op {op : Operator} {r : R2} (ho : OpR X (binaryOp op) r) (ha : PE X a ta) (hb : PE X b tb) : PE X (.BinOp a op b pos) (tOp r ta tb) := by
  intro pins s σ H Q I h
  exact wpAny_BinOp (binT ha hb I h fun v u s2 x y H2 I2 rx ry q => ho pins s2 σ H2 x y v u Q I2 rx ry q)
theorem opI {f : Value → Value → Sem Value} {C : Int → Int → Prop} {g : Int → Int → Int}
    (rule : ∀ (i j : Int) (t u : Tok) (s : Shared) (Q : Value → Shared → Prop) (E : Value → Shared → Prop), C i j → Q (.int (g i j) s.toks) { s with toks := s.toks + 1 } → wpAny (model X.prog X.w) X.A (f (.int i t) (.int j u)) Q E s) :
    OpR X f (rI C fun i j => .int (g i j)) := by
  intro pins s σ H x y v u Q I rx ry h
  obtain ⟨i, j, rfl, rfl, hc, q⟩ := h
  obtain ⟨t, rfl⟩ := rx
  obtain ⟨t', rfl⟩ := ry
  exact rule i j t t' s _ _ hc ⟨.int (g i j), H, I.tok _, ⟨_, rfl⟩, q⟩
theorem opI0 {f : Value → Value → Sem Value} {g : Int → Int → Int}
    (rule : ∀ (i j : Int) (t u : Tok) (s : Shared) (Q : Value → Shared → Prop) (E : Value → Shared → Prop), Q (.int (g i j) s.toks) { s with toks := s.toks + 1 } → wpAny (model X.prog X.w) X.A (f (.int i t) (.int j u)) Q E s) :
    OpR X f (rI0 fun i j => .int (g i j)) := by
  intro pins s σ H x y v u Q I rx ry h
  obtain ⟨i, j, rfl, rfl, q⟩ := h
  obtain ⟨t, rfl⟩ := rx
  obtain ⟨t', rfl⟩ := ry
  exact rule i j t t' s _ _ ⟨.int (g i j), H, I.tok _, ⟨_, rfl⟩, q⟩
theorem opB0 {f : Value → Value → Sem Value} {g : Int → Int → Bool}
    (rule : ∀ (i j : Int) (t u : Tok) (s : Shared) (Q : Value → Shared → Prop) (E : Value → Shared → Prop), Q (.bool (g i j)) s → wpAny (model X.prog X.w) X.A (f (.int i t) (.int j u)) Q E s) :
    OpR X f (rI0 fun i j => .bl (g i j)) := by
  intro pins s σ H x y v u Q I rx ry h
  obtain ⟨i, j, rfl, rfl, q⟩ := h
  obtain ⟨t, rfl⟩ := rx
  obtain ⟨t', rfl⟩ := ry
  exact rule i j t t' s _ _ ⟨.bl (g i j), H, I, rfl, q⟩
def CDiv (i j : Int) : Prop := 0 < j ∧ j < 1073741824
def CPow (i j : Int) : Prop := 0 ≤ j ∧ j ≤ 1000000 ∧ i.natAbs < 2 ^ 64
def CMul (i j : Int) : Prop := (-(2 ^ 64) < i ∧ i < 2 ^ 64) ∨ (-(2 ^ 64) < j ∧ j < 2 ^ 64)
theorem CMul.ok {i j : Int} (h : CMul i j) : IntMulOk i j := by
  rcases h with ⟨h1, h2⟩ | ⟨h1, h2⟩
  · exact .of_left (intBits_le_64 h1 h2)
  · exact .of_right (intBits_le_64 h1 h2)
theorem op_add : OpR X (binaryOp .Add) (rI0 fun i j => .int (i + j)) := opI0 fun _ _ _ _ _ _ _ q => add_int q
theorem op_sub : OpR X (binaryOp .Sub) (rI0 fun i j => .int (i - j)) := opI0 fun _ _ _ _ _ _ _ q => sub_int q
theorem op_mul : OpR X (binaryOp .Mult) (rI CMul fun i j => .int (i * j)) := opI fun _ _ _ _ _ _ _ hc q => mul_int q hc.ok
theorem op_fdiv : OpR X (binaryOp .FloorDiv) (rI CDiv fun i j => .int (i / j)) := opI fun i j _ _ _ _ _ hc q => by
  have h1 : (0 : Int) < j := hc.1
  have h2 : j < 1073741824 := hc.2
  exact floordiv_int (by omega) (by rw [Int.fdiv_eq_ediv_of_nonneg i (by omega)]; exact q) (.inl (PyProof.noPylong_small (by omega)))
theorem op_mod : OpR X (binaryOp .Mod) (rI (fun _ j => 0 < j) fun i j => .int (i % j)) := opI fun i j _ _ _ _ _ hc q => by
  have h1 : (0 : Int) < j := hc
  exact mod_int' (by omega) (by rw [Int.fmod_eq_emod_of_nonneg i (by omega)]; exact q)
theorem op_pow : OpR X (binaryOp .Pow) (rI CPow fun i j => .int (i ^ j.toNat)) := opI fun _ _ _ _ _ _ _ hc q => pow_int_small hc.1 hc.2.1 hc.2.2 q
end
def scal : V → V → Bool
  | .non, .non => true | .non, .int _ => true | .int _, .non => true | .non, .bl _ => true | .bl _, .non => true | .non, .str _ => true | .str _, .non => true
  | .int _, .int _ => true | .bl _, .bl _ => true | .str _, .str _ => true | .byt _, .byt _ => true
  | .int _, .str _ => true | .str _, .int _ => true | .bl _, .str _ => true | .str _, .bl _ => true
  | _, _ => false
def rEq : R2 := fun x y H Q => scal x y = true ∧ Q (.bl (decide (x = y))) H
def rNe : R2 := fun x y H Q => scal x y = true ∧ Q (.bl (!decide (x = y))) H
theorem dec_int {i j : Int} : decide (V.int i = V.int j) = (i == j) := by
  rw [Bool.eq_iff_iff]
  simp
theorem dec_bl {i j : Bool} : decide (V.bl i = V.bl j) = (i == j) := by
  rw [Bool.eq_iff_iff]
  simp
theorem dec_str {i j : Str} : decide (V.str i = V.str j) = (i == j) := by
  rw [Bool.eq_iff_iff]
  simp
theorem dec_byt {i j : Array UInt8} : decide (V.byt i = V.byt j) = (i.toList == j.toList) := by
  rw [Bool.eq_iff_iff]
  cases i
  cases j
  simp
section
variable {X : Cx} {a b c : Expr} {ta tb tc : TE} {pos : Pos}
theorem fin_bl {pins : List (Addr × Obj)} {σ : St} {H : Hp} {s : Shared} {Q : VK} {k k' : Bool} (I : Inv X pins σ H s) (q : Q (.bl k) H) (e : k = k') : EP X pins σ Q (.bool k') s := by
  subst e
  exact ⟨.bl k, H, I, rfl, q⟩
theorem op_eq : OpR X (compareOp .Eq) rEq := by
  intro pins s σ H x y v u Q I rx ry h
  obtain ⟨hs, q⟩ := h
  cases x with
  | non =>
    cases rx
    cases y with
    | non => cases ry; exact PySem.EqNone.eq_none_none (fin_bl I q (by simp))
    | bl j => cases ry; exact PySem.EqNone.eq_none_bool (fin_bl I q (by simp))
    | int j => obtain ⟨t', rfl⟩ := ry; exact PySem.EqNone.eq_none_int (fin_bl I q (by simp))
    | str j => obtain ⟨t', rfl⟩ := ry; exact PySem.EqNone.eq_none_str (fin_bl I q (by simp))
    | _ => exact absurd (show false = true from hs) Bool.false_ne_true
  | bl i =>
    cases rx
    cases y with
    | non => cases ry; exact PySem.EqNone.eq_bool_none (fin_bl I q (by simp))
    | bl j => cases ry; exact eq_bool (fin_bl I q dec_bl)
    | str j => obtain ⟨t', rfl⟩ := ry; exact PySem.EqMixed.eq_bool_str (fin_bl I q (by simp))
    | _ => exact absurd (show false = true from hs) Bool.false_ne_true
  | int i =>
    obtain ⟨t, rfl⟩ := rx
    cases y with
    | non => cases ry; exact PySem.EqNone.eq_int_none (fin_bl I q (by simp))
    | int j => obtain ⟨t', rfl⟩ := ry; exact eq_int (fin_bl I q dec_int)
    | str j => obtain ⟨t', rfl⟩ := ry; exact PySem.EqMixed.eq_int_str (fin_bl I q (by simp))
    | _ => exact absurd (show false = true from hs) Bool.false_ne_true
  | str i =>
    obtain ⟨t, rfl⟩ := rx
    cases y with
    | non => cases ry; exact PySem.EqNone.eq_str_none (fin_bl I q (by simp))
    | bl j => cases ry; exact PySem.EqMixed.eq_str_bool (fin_bl I q (by simp))
    | int j => obtain ⟨t', rfl⟩ := ry; exact PySem.EqMixed.eq_str_int (fin_bl I q (by simp))
    | str j => obtain ⟨t', rfl⟩ := ry; exact eq_str (fin_bl I q dec_str)
    | _ => exact absurd (show false = true from hs) Bool.false_ne_true
  | byt i =>
    obtain ⟨t, rfl⟩ := rx
    cases y with
    | byt j => obtain ⟨t', rfl⟩ := ry; exact PySem.W.eq_bytes (fin_bl I q dec_byt)
    | _ => exact absurd (show false = true from hs) Bool.false_ne_true
  | _ => cases y <;> exact absurd (show false = true from hs) Bool.false_ne_true
theorem op_ne : OpR X (compareOp .NotEq) rNe := by
  intro pins s σ H x y v u Q I rx ry h
  obtain ⟨hs, q⟩ := h
  cases x with
  | non =>
    cases rx
    cases y with
    | non => cases ry; exact PySem.EqNone.ne_none_none (fin_bl I q (by simp))
    | bl j => cases ry; exact PySem.EqNone.ne_none_bool (fin_bl I q (by simp))
    | int j => obtain ⟨t', rfl⟩ := ry; exact PySem.EqNone.ne_none_int (fin_bl I q (by simp))
    | str j => obtain ⟨t', rfl⟩ := ry; exact PySem.EqNone.ne_none_str (fin_bl I q (by simp))
    | _ => exact absurd (show false = true from hs) Bool.false_ne_true
  | bl i =>
    cases rx
    cases y with
    | non => cases ry; exact PySem.EqNone.ne_bool_none (fin_bl I q (by simp))
    | bl j => cases ry; exact ne_bool (fin_bl I q (congrArg not dec_bl))
    | str j => obtain ⟨t', rfl⟩ := ry; exact PySem.EqMixed.ne_bool_str (fin_bl I q (by simp))
    | _ => exact absurd (show false = true from hs) Bool.false_ne_true
  | int i =>
    obtain ⟨t, rfl⟩ := rx
    cases y with
    | non => cases ry; exact PySem.EqNone.ne_int_none (fin_bl I q (by simp))
    | int j => obtain ⟨t', rfl⟩ := ry; exact ne_int (fin_bl I q (congrArg not dec_int))
    | str j => obtain ⟨t', rfl⟩ := ry; exact PySem.EqMixed.ne_int_str (fin_bl I q (by simp))
    | _ => exact absurd (show false = true from hs) Bool.false_ne_true
  | str i =>
    obtain ⟨t, rfl⟩ := rx
    cases y with
    | non => cases ry; exact PySem.EqNone.ne_str_none (fin_bl I q (by simp))
    | bl j => cases ry; exact PySem.EqMixed.ne_str_bool (fin_bl I q (by simp))
    | int j => obtain ⟨t', rfl⟩ := ry; exact PySem.EqMixed.ne_str_int (fin_bl I q (by simp))
    | str j => obtain ⟨t', rfl⟩ := ry; exact ne_str (fin_bl I q (congrArg not dec_str))
    | _ => exact absurd (show false = true from hs) Bool.false_ne_true
  | byt i =>
    obtain ⟨t, rfl⟩ := rx
    cases y with
    | byt j => obtain ⟨t', rfl⟩ := ry; exact PySem.W.ne_bytes (fin_bl I q (congrArg not dec_byt))
    | _ => exact absurd (show false = true from hs) Bool.false_ne_true
  | _ => cases y <;> exact absurd (show false = true from hs) Bool.false_ne_true
theorem op_lt : OpR X (compareOp .Lt) (rI0 fun i j => .bl (decide (i < j))) := opB0 fun _ _ _ _ _ _ _ q => lt_int q
theorem op_le : OpR X (compareOp .LtE) (rI0 fun i j => .bl (decide (i ≤ j))) := opB0 fun _ _ _ _ _ _ _ q => le_int q
theorem op_gt : OpR X (compareOp .Gt) (rI0 fun i j => .bl (decide (j < i))) := opB0 fun _ _ _ _ _ _ _ q => gt_int q
theorem op_ge : OpR X (compareOp .GtE) (rI0 fun i j => .bl (decide (j ≤ i))) := opB0 fun _ _ _ _ _ _ _ q => ge_int q
theorem op_lt_str : OpR X (compareOp .Lt) (fun x y H Q => ∃ i j, x = .str i ∧ y = .str j ∧ Q (.bl (decide (i.cps.toList < j.cps.toList))) H) := by
  intro pins s σ H x y v u Q I rx ry h
  obtain ⟨i, j, rfl, rfl, q⟩ := h
  obtain ⟨t, rfl⟩ := rx
  obtain ⟨t', rfl⟩ := ry
  exact lt_str (fin_bl I q rfl)
theorem op_in_str : OpR X (compareOp .In) (fun x y H Q => ∃ i j, x = .str i ∧ y = .str j ∧ Q (.bl (!(Builtin.Str.occurrences j i 0 j.length 1).isEmpty)) H) := by
  intro pins s σ H x y v u Q I rx ry h
  obtain ⟨i, j, rfl, rfl, q⟩ := h
  obtain ⟨t, rfl⟩ := rx
  obtain ⟨t', rfl⟩ := ry
  exact in_str (fin_bl I q rfl)
theorem op_isN : OpR X (compareOp .Is) (fun x y H Q => y = .non ∧ Q (.bl (decide (x = .non))) H) := by
  intro pins s σ H x y v u Q I rx ry h
  obtain ⟨rfl, q⟩ := h
  cases ry
  refine is_none_gen (fin_bl I q ?_)
  cases x <;> first
    | (cases rx; rfl)
    | (obtain ⟨t, rfl⟩ := rx; rfl)
theorem op_notN : OpR X (compareOp .IsNot) (fun x y H Q => y = .non ∧ Q (.bl (!decide (x = .non))) H) := by
  intro pins s σ H x y v u Q I rx ry h
  obtain ⟨rfl, q⟩ := h
  cases ry
  refine isnot_none_gen (fin_bl I q ?_)
  cases x <;> first
    | (cases rx; rfl)
    | (obtain ⟨t, rfl⟩ := rx; rfl)
theorem op_notin_str : OpR X (compareOp .NotIn) (fun x y H Q => ∃ i j, x = .str i ∧ y = .str j ∧ Q (.bl (!(!(Builtin.Str.occurrences j i 0 j.length 1).isEmpty))) H) := by
  intro pins s σ H x y v u Q I rx ry h
  obtain ⟨i, j, rfl, rfl, q⟩ := h
  obtain ⟨t, rfl⟩ := rx
  obtain ⟨t', rfl⟩ := ry
  exact notIn_str (fin_bl I q rfl)
theorem nomark (b : Expr) {op : CmpOp} (h : op ≠ .In := by decide) (h2 : op ≠ .NotIn := by decide) : behindInMarks op b = false := by
  have e1 : (op == CmpOp.In) = false := by cases op <;> first | rfl | exact absurd rfl h
  have e2 : (op == CmpOp.NotIn) = false := by cases op <;> first | rfl | exact absurd rfl h2
  cases b <;> simp [behindInMarks, e1, e2]
theorem pe_cmpR {op : CmpOp} {r : R2} (ho : OpR X (compareOp op) r) (ha : PE X a ta) (hb : PE X b tb) (hm : behindInMarks op b = false) : PE X (.Compare a [op] [b] pos) (tOp r ta tb) := by
  intro pins s σ H Q I h
  exact wpAny_Compare1 (binT ha hb I h fun v u s2 x y H2 I2 rx ry q => ho pins s2 σ H2 x y v u Q I2 rx ry q) hm
def tTest (t : TE) : TT := fun σ H Q => t σ H fun x H' => ∃ k, x = .bl k ∧ Q k H'
theorem pt_cmpR {op : CmpOp} {r : R2} (ho : OpR X (compareOp op) r) (ha : PE X a ta) (hb : PE X b tb) (hm : behindInMarks op b = false) : PT X (.Compare a [op] [b] pos) (tTest (tOp r ta tb)) := by
  intro pins s σ H Q I h
  refine wpAny_isTrue_Compare1 (thn (ha pins s σ H _ I h) fun v s1 ⟨x, H1, I1, r1, q1⟩ => thn (hb pins s1 σ H1 _ I1 q1) fun u s2 ⟨y, H2, I2, r2, q2⟩ =>
    thn (ho pins s2 σ H2 x y v u _ I2 r1 r2 q2) fun c s3 ⟨z, H3, I3, r3, k, e, q3⟩ => ?_) hm
  subst e
  cases r3
  exact wpAny_truthy_bool ⟨H3, I3, q3⟩
def tChain (r r' : R2) (ta tb tc : TE) : TE := fun σ H Q => ta σ H fun x H1 => tb σ H1 fun y H2 => r x y H2 fun z H3 => ∃ k, z = .bl k ∧
  (if k = true then tc σ H3 fun w' H4 => r' y w' H4 Q else Q (.bl false) H3)
theorem pt_chain {op op' : CmpOp} {r r' : R2} (ho : OpR X (compareOp op) r) (ho' : OpR X (compareOp op') r') (ha : PE X a ta) (hb : PE X b tb) (hc : PE X c tc)
    (hm : lastMarks [op, op'] [b, c] = false := by with_unfolding_all rfl) : PT X (.Compare a [op, op'] [b, c] pos) (tTest (tChain r r' ta tb tc)) := by
  intro pins s σ H Q I h
  refine isTrue_chain (thn (ha pins s σ H _ I h) fun v s1 ⟨x, H1, I1, r1, q1⟩ => test_link (thn (hb pins s1 σ H1 _ I1 q1) fun u s2 ⟨y, H2, I2, r2, q2⟩ =>
    thn (ho pins s2 σ H2 x y v u _ I2 r1 r2 q2) fun d s3 ⟨z, H3, I3, r3, k, e, q3⟩ => ?_)) hm
  subst e
  cases r3
  refine wpAny_truthy_bool ?_
  cases k with
  | false =>
    obtain ⟨k', e', q'⟩ := q3
    cases e'
    exact ite_ff ⟨H3, I3, q'⟩
  | true =>
    refine ite_tt (test_last (thn (hc pins s3 σ H3 _ I3 q3) fun w' s4 ⟨z', H4, I4, r4, q4⟩ => thn (ho' pins s4 σ H4 y z' u w' _ I4 r2 r4 q4) fun d' s5 ⟨z2, H5, I5, r5, k2, e2, q5⟩ => ?_))
    subst e2
    cases r5
    exact wpAny_truthy_bool ⟨H5, I5, q5⟩
theorem line63 : (sizeLine : Nat) < 2 ^ 63 := by rw [sizeLine_eq]; decide
theorem op_add_str : OpR X (binaryOp .Add) (fun x y H Q => ∃ i j, x = .str i ∧ y = .str j ∧ i.length + j.length ≤ sizeLine ∧ Q (.str (i ++ j)) H) := by
  intro pins s σ H x y v u Q I rx ry h
  obtain ⟨i, j, rfl, rfl, hz, q⟩ := h
  obtain ⟨t, rfl⟩ := rx
  obtain ⟨t', rfl⟩ := ry
  exact add_str (fun t' tk => ⟨.str (i ++ j), H, I.tok _, ⟨_, rfl⟩, q⟩) hz
theorem vals1 {x : V} {us : List Value} (r : Vals [x] us) : ∃ u, us = [u] ∧ RelV x u := by
  cases r with
  | cons r1 r2 => cases r2; exact ⟨_, rfl, r1⟩
def LenV (K : PySem.W.Frag) (x : V) (H : Hp) (n : Nat) : Prop :=
  match x with
  | .str y => y.length ≤ sizeLine ∧ n = y.length
  | .byt y => y.size ≤ sizeLine ∧ n = y.size
  | .ref p => (∃ xs, SqL K H p xs ∧ n = xs.length) ∨ ∃ xs, SqT K H p xs ∧ n = xs.length
  | _ => False
theorem call_len : CallR X (.builtin "len") (fun xs H Q => ∃ x n, xs = [x] ∧ LenV X.K x H n ∧ Q (.int n) H) := by
  intro pins s σ H xs us Q I r h
  obtain ⟨x, n, rfl, e, q⟩ := h
  obtain ⟨u, rfl, rx⟩ := vals1 r
  have hl := line63
  have hs : sizeLine = 16777216 := sizeLine_eq
  cases x with
  | str y =>
    obtain ⟨t, rfl⟩ := rx
    obtain ⟨hy, e'⟩ : y.length ≤ sizeLine ∧ n = y.length := e
    subst e'
    exact len_str (by omega) ⟨.int _, H, I.tok _, ⟨_, rfl⟩, q⟩
  | byt y =>
    obtain ⟨t, rfl⟩ := rx
    obtain ⟨hy, e'⟩ : y.size ≤ sizeLine ∧ n = y.size := e
    subst e'
    exact PySem.W.len_bytes (by omega) ⟨.int _, H, I.tok _, ⟨_, rfl⟩, q⟩
  | ref p =>
    cases rx
    have e' : (∃ xs, SqL X.K H p xs ∧ n = xs.length) ∨ ∃ xs, SqT X.K H p xs ∧ n = xs.length := e
    rcases e' with ⟨xs, hx, e'⟩ | ⟨xs, hx, e'⟩
    · subst e'
      obtain ⟨its, r', pl, hz⟩ := I.list hx
      have hlen := r'.length
      exact Calls.call_len_list pl.isList (by simp only [List.size_toArray]; omega) ⟨.int xs.length, H, I.tok _, ⟨_, by simp only [List.size_toArray]; rw [hlen]⟩, q⟩
    · subst e'
      obtain ⟨its, r', pl, hz⟩ := I.tuple hx
      have hlen := r'.length
      exact len_tuple pl (by simp only [List.size_toArray]; omega) ⟨.int xs.length, H, I.tok _, ⟨_, by simp only [List.size_toArray]; rw [hlen]⟩, q⟩
  | _ => exact (show False from e).elim
end
end L2
namespace L2
open PySem PySem.Spec PyProof.Rows
structure ObjM (h : Heap) (x dx C : Addr) (mA : Str → Option Value) : Prop where
  obj : h.get? x = some (PySem.W.instObj C dx)
  ns : h.Ns1 dx mA
  ne : dx ≠ x
theorem lookIn_ns {h : Heap} {dx : Addr} {mA : Str → Option Value} (n : h.Ns1 dx mA) : ∃ od, h.get? dx = some od ∧ ∀ name, PySem.W.lookIn name od = some (mA name) := by
  obtain ⟨o, es, ep, ho, hd, hk, _, hm⟩ := n
  refine ⟨o, ho, fun name => ?_⟩
  have e := hm name
  unfold nsFind findBy at e
  rw [← Array.find?_toList] at e
  unfold PySem.W.lookIn
  rw [hd]
  dsimp only
  split
  · rename_i y q
    rw [q] at e
    exact congrArg some e
  · rename_i q
    rw [q] at e
    have a : es.toList.any (·.refKey) = false := by
      rw [List.any_eq_false]
      intro y hy
      obtain ⟨z, t, hkey⟩ := hk y (Array.mem_toList_iff.mp hy)
      simp [DictEntry.refKey, hkey]
    have a' : ¬ es.toList.any (·.refKey) = true := by rw [a]; exact Bool.false_ne_true
    rw [if_neg a']
    exact congrArg some e
theorem ObjM.look {h : Heap} {x dx C : Addr} {mA : Str → Option Value} (I : ObjM h x dx C mA) : ∃ od, PySem.W.InstAt h x (PySem.W.instObj C dx) C (some od) ∧ ∀ name, PySem.W.lookIn name od = some (mA name) :=
  let ⟨od, ho, hl⟩ := lookIn_ns I.ns
  ⟨od, ⟨I.obj, rfl, rfl, ho⟩, hl⟩
section
variable {prog : Program} {w : World} {A : Around} {E : Value → Shared → Prop} {s : Shared} {K : PySem.W.Frag} {x dx C f : Addr} {mA : Str → Option Value} {name : Str} {v : Value}
end
theorem RelO.some_of {v : V} {o : Option Value} (r : RelO (some v) o) : ∃ u, o = some u ∧ RelV v u := by
  cases o with
  | none => exact (show False from r).elim
  | some u => exact ⟨u, rfl, r⟩
section
variable {P : Program} {w : World} {H H' : Hp} {h h' : Heap} {a C dx : Addr} {fs fs' : List (Str × V)}
theorem ins_get (hok : HOk P w H h) (e : H a = some (.ins C dx fs)) : ∃ mA, ObjM h a dx C mA ∧ (∀ f, RelO (fs.lookup f) (mA f)) ∧ PySem.Within mA (fs.map (·.1)) ∧ fs.length ≤ 1000 ∧ H dx = some (.own a) := by
  obtain ⟨d, z, ne, ob, mA, n, r, q⟩ := (show ObjOk P w H h a (.ins C dx fs) from hok a _ e)
  exact ⟨mA, ⟨ob, n, ne⟩, r, q, z, d⟩
end
structure Cls (K : PySem.W.Frag) (C : Addr) : Prop where
  pg : PySem.W.plainGet K C Str.empty = true
  hd : PySem.W.hasDictIn K C = true
  po : PySem.W.plainOver K C = true
  sa : PySem.W.findIn K (.ref C) "__setattr__" = some (some (.builtin "object.__setattr__"))
theorem Cls.get {K : PySem.W.Frag} {C : Addr} (c : Cls K C) (f : Str) : PySem.W.plainGet K C f = true := c.pg
section
variable {X : Cx} {pins : List (Addr × Obj)} {σ : St} {H : Hp} {s : Shared} {a C dx : Addr} {fs : List (Str × V)} {f : Str} {v : V} {A : Around} {E : Value → Shared → Prop}
end
section
variable {X : Cx} {o e value : Expr} {f : Str} {pos pos' tpos : Pos} {ta tv : TE}
end
section
variable {X : Cx} {pins : List (Addr × Obj)} {σ : St} {H : Hp} {s : Shared} {A : Around} {E : Value → Shared → Prop} {Q : Value → Shared → Prop} {c : Value} {b : Bool}
inductive TyOf (K : PySem.W.Frag) (H : Hp) : V → Value → Prop where
  | non : TyOf K H .non (.type "NoneType")
  | bl (x : Bool) : TyOf K H (.bl x) (.type "bool")
  | int (i : Int) : TyOf K H (.int i) (.type "int")
  | str (x : Str) : TyOf K H (.str x) (.type "str")
  | flt (x : UInt64) : TyOf K H (.flt x) (.type "float")
  | lst {a : Addr} {xs : List V} (e : H a = some (.lst xs)) : TyOf K H (.ref a) (.type "list")
  | frz {a : Addr} {o : Obj} {xs : List V} (e : H a = some (.frz o (.lst xs))) : TyOf K H (.ref a) (.type "list")
  | tup {a : Addr} {xs : List V} (e : H a = some (.tup xs)) : TyOf K H (.ref a) (.type "tuple")
  | dK {a : Addr} {kvs : List (Key × V)} (e : H a = some (.dK kvs)) : TyOf K H (.ref a) (.type "dict")
  | dT {a : Addr} {kvs : List (List Key × V)} (e : H a = some (.dT kvs)) : TyOf K H (.ref a) (.type "dict")
  | ins {a C dx : Addr} {fs : List (Str × V)} (e : H a = some (.ins C dx fs)) (cl : Cls K C) (ha : PySem.W.findIn K (.ref C) "__class__" = some (some (.builtin "object.__class__")))
      (hn : PySem.W.specialIn K (.builtin "object.__class__") "__get__" = some (some (.builtin "getset_descriptor.__get__"))) (htk : PySem.W.takesIn K (.builtin "object.__class__") = some true)
      (hm : PySem.W.mroIn K C (.type "object") = some true) : TyOf K H (.ref a) (.ref C)
theorem isinst_ok {x : V} {u t : Value} (I : Inv X pins σ H s) (rx : RelV x u) (ty : TyOf X.K H x t) (e : PySem.W.kitOne X.K t c = some b) (h : ∀ tk, Q (.bool b) { s with toks := tk }) :
    wpAny (model X.prog X.w) A (call (.builtin "isinstance") [u, c]) Q E s := by
  cases ty with
  | non => cases (show u = Value.none from rx); exact PySem.W.kia_one PySem.W.kitx_none I.kIn True.intro e (fun z => nomatch z) h
  | bl y => cases (show u = Value.bool y from rx); exact PySem.W.kia_one PySem.W.kitx_bool I.kIn True.intro e (fun z => nomatch z) h
  | int i => obtain ⟨t, q⟩ := (show ∃ t, u = Value.int i t from rx); cases q; exact PySem.W.kia_one PySem.W.kitx_int I.kIn True.intro e (fun z => nomatch z) h
  | str y => obtain ⟨t, q⟩ := (show ∃ t, u = Value.str y t from rx); cases q; exact PySem.W.kia_one PySem.W.kitx_str I.kIn True.intro e (fun z => nomatch z) h
  | flt y => obtain ⟨t, q⟩ := (show ∃ t, u = Value.float y t from rx); cases q; exact PySem.W.kia_one PySem.W.kitx_float I.kIn True.intro e (fun z => nomatch z) h
  | @lst a xs ea =>
    cases (show u = Value.ref a from rx)
    obtain ⟨_, _, n, _, h1⟩ := (show ObjOk X.prog X.w H s.heap a (.lst xs) from I.hok a _ ea)
    exact PySem.W.kia_one PySem.W.kitx_list I.kIn ⟨_, h1, rfl⟩ e (fun z => nomatch z) h
  | @frz a ob xs ea =>
    cases (show u = Value.ref a from rx)
    obtain ⟨_, _, _, n, _, h1⟩ := (show ObjOk X.prog X.w H s.heap a (.frz ob (.lst xs)) from I.hok a _ ea)
    exact PySem.W.kia_one PySem.W.kitx_list I.kIn ⟨_, h1, rfl⟩ e (fun z => nomatch z) h
  | @tup a xs ea =>
    cases (show u = Value.ref a from rx)
    obtain ⟨_, _, _, p⟩ := (show ObjOk X.prog X.w H s.heap a (.tup xs) from I.hok a _ ea)
    obtain ⟨o, h1, h2, _⟩ := p
    exact PySem.W.kia_one PySem.W.kitx_tuple I.kIn ⟨o, h1, h2⟩ e (fun z => nomatch z) h
  | @dK a kvs ea =>
    cases (show u = Value.ref a from rx)
    obtain ⟨_, _, vs, _, p⟩ := (show ObjOk X.prog X.w H s.heap a (.dK kvs) from I.hok a _ ea)
    obtain ⟨o, es, ep, h1, h2, _⟩ := p
    exact PySem.W.kia_one PySem.W.kitx_dict I.kIn ⟨o, h1, h2.1⟩ e (fun z => nomatch z) h
  | @dT a kvs ea =>
    cases (show u = Value.ref a from rx)
    obtain ⟨_, _, xs, _, o, es, ep, h1, h2, _⟩ := (show ObjOk X.prog X.w H s.heap a (.dT kvs) from I.hok a _ ea)
    exact PySem.W.kia_one PySem.W.kitx_dict I.kIn ⟨o, h1, h2.1⟩ e (fun z => nomatch z) h
  | @ins a C dx fs ea cl ha hn htk hm =>
    cases (show u = Value.ref a from rx)
    obtain ⟨mA, O, _⟩ := ins_get I.hok ea
    obtain ⟨od, J, _⟩ := O.look
    exact PySem.W.kia_one (PySem.W.kitx_own (cl.get _) cl.hd ha hn htk hm) I.kIn J e (fun z => nomatch z) h
end
end L2
namespace L2
open PySem PySem.Spec PyProof.Rows
structure Room (k : Nat) (A : Around) : Prop where
  hd : A.handled = none
  dp : A.depth + 3 * k + 5 < recursionLimit
  un : A.units + 16 * k + 200 < cLine
  gd : A.guards = some []
theorem Room.mono {j k : Nat} {A : Around} (r : Room k A) (h : j ≤ k) : Room j A := ⟨r.hd, by have := r.dp; omega, by have := r.un; omega, r.gd⟩
theorem Room.deeper {k : Nat} {A : Around} (r : Room (k + 1) A) (env : Env) : Room k (A.deeper env) :=
  ⟨r.hd, by have := r.dp; show A.depth + 1 + 3 * k + 5 < _; omega, by have := r.un; show A.units + 3 + 16 * k + 200 < _; omega, r.gd⟩
theorem Room.depth {k : Nat} {A : Around} (r : Room k A) : A.depth < recursionLimit := by have := r.dp; omega
theorem Room.units {k : Nat} {A : Around} (r : Room k A) : A.units + 64 < cLine := by have := r.un; omega
def tNil : TA := fun _ H Q => Q [] H
def tCons (ta : TE) (tr : TA) : TA := fun σ H Q => ta σ H fun x H1 => tr σ H1 fun xs H2 => Q (x :: xs) H2
section
variable {X : Cx} {e : Expr} {es : List Expr} {te : TE} {t : TA} {pos : Pos}
theorem pa_nil : PA X [] tNil := fun _ _ _ _ H Q I h => Calls.spliced_nil ⟨[], H, I, .nil, h⟩
theorem pa_cons (ha : PE X e te) (hr : PA X es t) (hs : starEach (e :: es) X.env = (false, eval e X.env) :: starEach es X.env := by rfl) : PA X (e :: es) (tCons te t) := by
  intro pos pins s σ H Q I h
  rw [hs]
  show wpAny _ _ (spliced ((false, eval e X.env) :: backTo pos (starEach es X.env))) _ _ s
  refine Calls.spliced_cons (thn (ha pins s σ H _ I h) ?_)
  rintro u s1 ⟨x, H1, I1, r1, q1⟩
  exact thn (hr pos pins s1 σ H1 _ I1 q1) fun us s2 ⟨xs, H2, I2, r2, q2⟩ => ⟨x :: xs, H2, I2, .cons r1 r2, q2⟩
def tTup (t : TA) : TE := fun σ H Q => t σ H fun xs H1 => xs.length ≤ sizeLine ∧ ∀ p, H1 p = none → Q (.ref p) (upd H1 p (.tup xs))
def tLst (t : TA) : TE := fun σ H Q => t σ H fun xs H1 => xs.length ≤ sizeLine ∧ ∀ p, H1 p = none → Q (.ref p) (upd H1 p (.lst xs))
theorem pe_tup {x1} (h : PA X es t) : PE X (.Tuple es x1 pos) (tTup t) := by
  intro pins s σ H Q I hq
  refine wpAny_Tuple_spliced (thn (h pos pins s σ H _ I hq) fun us s1 ⟨xs, H1, I1, r, z, q⟩ => ⟨by rw [← r.length]; exact z, ?_⟩)
  have hf : H1 s1.heap.objs.size = none := I1.hok.fresh (Nat.le_refl _)
  refine ⟨.ref s1.heap.objs.size, upd H1 s1.heap.objs.size (.tup xs), I1.laid (t' := s1.toks) (fun b u e => Heap.get?_push_of_some _ e) (Nat.le_refl _) ?_, rfl, q _ hf⟩
  exact ⟨⟨z, NoDct.new rfl rfl⟩, us, r, ⟨_, Heap.get?_push_size _ rfl, rfl, _, rfl⟩⟩
theorem pe_lst (h : PA X es t) : PE X (.List es pos) (tLst t) := by
  intro pins s σ H Q I hq
  refine wpAny_List_spliced (thn (h pos pins s σ H _ I hq) fun us s1 ⟨xs, H1, I1, r, z, q⟩ => ⟨by rw [← r.length]; exact z, ?_⟩)
  have hf : H1 s1.heap.objs.size = none := I1.hok.fresh (Nat.le_refl _)
  refine ⟨.ref s1.heap.objs.size, upd H1 s1.heap.objs.size (.lst xs), I1.laid (t' := s1.toks) (fun b u e => Heap.get?_push_of_some _ e) (Nat.le_refl _) ?_, rfl, q _ hf⟩
  exact ⟨z, us, 0, r, Heap.get?_push_size _ rfl⟩
end
abbrev Sp := List V → Hp → VK → XK → Prop
abbrev CXT := List Env → Hp → Shared → XK → Value → Shared → Prop
structure Env0 (P : Program) (w : World) (K : PySem.W.Frag) (mg : Str → Option Value) (base : Heap) (A : Around) (outer : List Env) (s : Shared) (H : Hp) : Prop where
  frames : A.frames = some outer
  mod : Mod K mg base
  bs : ∀ b o, base.get? b = some o → s.heap.get? b = some o ∧ H b = none
  bsz : base.objs.size ≤ s.heap.objs.size
  funs : s.heap.FunFrames base outer
  frf : ∀ b ∈ frs outer, H b = none
  hok : HOk P w H s.heap
  bare : AllBare s.gens
def CE (outer : List Env) (P : Program) (w : World) (H : Hp) (s : Shared) (Q : VK) (u : Value) (s' : Shared) : Prop :=
  ∃ v H', s'.os = s.os ∧ AllBare s'.gens ∧ Un (frs outer) [] H H' s.heap s'.heap ∧ HOk P w H' s'.heap ∧ RelV v u ∧ Q v H'
def CR (CX : CXT) (outer : List Env) (P : Program) (w : World) (H : Hp) (s : Shared) (Q : VK) (E : XK) (r : Result) (s' : Shared) : Prop :=
  match r with
  | .ok (.ret u) => CE outer P w H s Q u s'
  | .ok _ => False
  | .error e => CX outer H s E e s'
structure FnOk (P : Program) (w : World) (K : PySem.W.Frag) (mg : Str → Option Value) (base : Heap) (CX : CXT) (k : Nat) (f : Addr) (fd : FuncData) (ps : List Str) (sp : Sp) : Prop where
  len : ∀ vs H Q E, sp vs H Q E → vs.length = ps.length
  run : ∀ (A : Around) (outer : List Env) (s : Shared) (H : Hp) (args : Args) (us : List Value) (vs : List V) (Q : VK) (E : XK), Room k A → Env0 P w K mg base A outer s H → BindsTo s fd args (ps.zip us) → Vals vs us → sp vs H Q E →
    codeAny (model P w) A (.call (.ref f) args) (CR CX outer P w H s Q E) s
theorem FnOk.imp {P : Program} {w : World} {K : PySem.W.Frag} {mg : Str → Option Value} {base : Heap} {CX : CXT} {k : Nat} {f : Addr} {fd : FuncData} {ps : List Str} {sp sp' : Sp} (F : FnOk P w K mg base CX k f fd ps sp)
    (h : ∀ vs H Q E, sp' vs H Q E → sp vs H Q E) : FnOk P w K mg base CX k f fd ps sp' :=
  ⟨fun vs H Q E q => F.len vs H Q E (h _ _ _ _ q), fun A outer s H args us vs Q E hr he hb hv hs => F.run A outer s H args us vs Q E hr he hb hv (h _ _ _ _ hs)⟩
section
variable {X : Cx} {pins : List (Addr × Obj)} {σ : St} {H : Hp} {s s' : Shared}
theorem Inv.env0 (I : Inv X pins σ H s) : Env0 X.prog X.w X.K X.mg X.base X.A X.stack s H :=
  ⟨I.ok.frames, I.ok.mod, I.bs, Nat.le_trans I.ok.bsz I.sz, I.stack, I.stkFree, I.hok, I.bare⟩
theorem Inv.after {Q : VK} {u : Value} (I : Inv X pins σ H s) (h : CE X.stack X.prog X.w H s Q u s') : EP X pins σ Q u s' := by
  obtain ⟨v, H', os, bare, un, hok, r, q⟩ := h
  obtain ⟨hh, g, d, t, os'⟩ := s'
  obtain rfl : os' = s.os := os
  exact ⟨v, H', I.call (h' := hh) (g' := g) (d' := d) (t' := t) (ch := []) un hok bare (fun b z => absurd z (by simp)), r, q⟩
end
def tCall (sp : Sp) (dvs : List V) (E : XK) (t : TA) : TE := fun σ H Q => t σ H fun vs H1 => sp (vs ++ dvs) H1 Q E
def Binds (K : PySem.W.Frag) (fd : FuncData) (ps : List Str) (ds : List Value) : Prop :=
  ∀ (s : Shared) (us : List Value), K.In s.heap → (us ++ ds).length = ps.length → BindsTo s fd ⟨us, []⟩ (ps.zip (us ++ ds))
theorem Binds.all {K : PySem.W.Frag} {fd : FuncData} {ps : List Str} (h : ∀ us : List Value, us.length = ps.length → bindArgs fd ⟨us, []⟩ = pure (ps.zip us)) : Binds K fd ps [] := fun s us _ hl => by
  rw [List.append_nil] at hl ⊢
  exact .of_eq (h us hl)
def Passes (CX : CXT) (X : Cx) (E : XK) : Prop := ∀ (pins : List (Addr × Obj)) (σ : St) (H : Hp) (s : Shared) (e : Value) (s' : Shared), Inv X pins σ H s → CX X.stack H s E e s' → X.xe e s'
section
variable {X : Cx} {CX : CXT} {k : Nat} {f C : Addr} {fd : FuncData} {ps : List Str} {sp : Sp} {dvs : List V} {ds : List Value} {E : XK} {x m : Str} {p pos apos : Pos} {e o : Expr} {es : List Expr} {ta : TE} {t : TA}
theorem run_fn {pins : List (Addr × Obj)} {σ : St} {H : Hp} {s : Shared} {Q : VK} {us : List Value} {vs : List V} (F : FnOk X.prog X.w X.K X.mg X.base CX k f fd ps sp) (hr : Room k X.A) (hb : Binds X.K fd ps ds) (hd : Vals dvs ds) (hx : Passes CX X E)
    (I : Inv X pins σ H s) (r : Vals vs us) (h : sp (vs ++ dvs) H Q E) : wpAny (model X.prog X.w) X.A (call (.ref f) us) (EP X pins σ Q) X.xe s := by
  have r2 : Vals (vs ++ dvs) (us ++ ds) := r.append hd
  have hl : (us ++ ds).length = ps.length := by rw [← r2.length]; exact F.len _ _ _ _ h
  refine wpAny_call (codeAny_mono (F.run X.A X.stack s H ⟨us, []⟩ (us ++ ds) (vs ++ dvs) Q E hr I.env0 (hb s us I.kIn hl) r2 h) fun r s' hq => ?_)
  cases r with
  | error e => exact hx pins σ H s e s' I hq
  | ok fl =>
    cases fl with
    | ret u => exact I.after hq
    | next => exact False.elim hq
    | brk => exact False.elim hq
    | cont => exact False.elim hq
theorem pe_call (F : FnOk X.prog X.w X.K X.mg X.base CX k f fd ps sp) (hr : Room k X.A) (hg : Gl X x) (hm : X.mg x = some (.ref f)) (hk : PySem.W.keepIn X.K (.ref f) = true) (hb : Binds X.K fd ps ds) (hd : Vals dvs ds) (hx : Passes CX X E)
    (ha : PA X (e :: es) t) (hdb : (x == ("__debug__" : Str)) = false := by decide) (he : starEach (e :: es) X.env = (false, eval e X.env) :: starEach es X.env := by rfl) (hpl : (backTo pos (starEach es X.env)).any (·.1) = false := by rfl) :
    PE X (.Call (.Name x p) (e :: es) [] pos) (tCall sp dvs E t) := by
  intro pins s σ H Q I h
  refine wpAny_Call_Name_kw (ld_glob I hg hm ?_ hdb)
  refine PySem.W.callWith_K (h₀ := X.base) I.ok.mod.kin hk (thn (ha pos pins s σ H _ I h) fun us s1 ⟨vs, H1, I1, r, q⟩ => ⟨I1.kIn, ?_⟩) he hpl
  exact run_fn F hr hb hd hx I1 r q
end
section
variable {X : Cx} {CX : CXT} {k : Nat} {f C : Addr} {fd : FuncData} {ps ks : List Str} {sp : Sp} {E : XK} {x m : Str} {p pos apos kpos : Pos} {e o : Expr} {es : List Expr} {kws : List Keyword} {te ta : TE} {t tk : TA} {nm : Option Str}
variable {g : List Value → List Value → List Value} {gV : List V → List V → List V}
end
structure FnScope (N P : List Str) (sc : Scope) : Prop where
  kind : sc.kind = .function
  co : sc.isCoroutine = false
  gen : sc.isGenerator = false
  nd : N.Nodup
  pre : N.take P.length = P
  par : ∀ x ∈ P, sc.names.lookup x = some .local ∨ sc.names.lookup x = some .cell
  nofree : ∀ y ∈ sc.names, y.2 ≠ .free
theorem bindL_out {kindOf : Str → Option NameKind} {x : Str} : ∀ {binds : List (Str × Value)} {m : Str → Option Value}, (∀ v, (x, v) ∉ binds) → bindL kindOf binds m x = m x
  | [], _, _ => rfl
  | (n, v) :: r, m, h => by
    unfold bindL
    rw [bindL_out fun w hw => h w (List.mem_cons_of_mem _ hw)]
    split
    · have : x ≠ n := by rintro rfl; exact h v List.mem_cons_self
      simp [this]
    · rfl
theorem bindC_out {kindOf : Str → Option NameKind} {x : Str} : ∀ {binds : List (Str × Value)} {m : Str → Option Value}, (∀ v, (x, v) ∉ binds) → bindC kindOf binds m x = m x
  | [], _, _ => rfl
  | (n, v) :: r, m, h => by
    unfold bindC
    rw [bindC_out fun w hw => h w (List.mem_cons_of_mem _ hw)]
    split
    · rfl
    · have : x ≠ n := by rintro rfl; exact h v List.mem_cons_self
      simp [this]
theorem bindL_get {kindOf : Str → Option NameKind} {x : Str} {v : Value} : ∀ {P : List Str} {vs : List Value} {i : Nat} {m : Str → Option Value}, P.Nodup → P[i]? = some x → vs[i]? = some v → kindOf x = some .local →
    bindL kindOf (P.zip vs) m x = some v
  | [], _, _, _, _, h, _, _ => by simp at h
  | _ :: _, [], _, _, _, _, h, _ => by simp at h
  | p :: P, w :: vs, 0, m, nd, h1, h2, hk => by
    simp at h1 h2; subst h1; subst h2
    show bindL kindOf ((p, w) :: P.zip vs) m p = _
    unfold bindL
    rw [bindL_out fun v hv => (List.nodup_cons.mp nd).1 (List.of_mem_zip hv).1, if_pos hk]
    simp
  | p :: P, w :: vs, i + 1, m, nd, h1, h2, hk => by
    show bindL kindOf ((p, w) :: P.zip vs) m x = _
    unfold bindL
    exact bindL_get (i := i) (List.nodup_cons.mp nd).2 (by simpa using h1) (by simpa using h2) hk
theorem bindC_get {kindOf : Str → Option NameKind} {x : Str} {v : Value} : ∀ {P : List Str} {vs : List Value} {i : Nat} {m : Str → Option Value}, P.Nodup → P[i]? = some x → vs[i]? = some v → kindOf x ≠ some .local →
    bindC kindOf (P.zip vs) m x = some v
  | [], _, _, _, _, h, _, _ => by simp at h
  | _ :: _, [], _, _, _, _, h, _ => by simp at h
  | p :: P, w :: vs, 0, m, nd, h1, h2, hk => by
    simp at h1 h2; subst h1; subst h2
    show bindC kindOf ((p, w) :: P.zip vs) m p = _
    unfold bindC
    rw [bindC_out fun v hv => (List.nodup_cons.mp nd).1 (List.of_mem_zip hv).1, if_neg hk]
    simp
  | p :: P, w :: vs, i + 1, m, nd, h1, h2, hk => by
    show bindC kindOf ((p, w) :: P.zip vs) m x = _
    unfold bindC
    exact bindC_get (i := i) (List.nodup_cons.mp nd).2 (by simpa using h1) (by simpa using h2) hk
def start (N : List Str) (vs : List V) : St := vs.map some ++ List.replicate (N.length - vs.length) none
def cxOf (CX : CXT) (P : Program) (w : World) (K : PySem.W.Frag) (mg : Str → Option Value) (base : Heap) (N : List Str) (qual : Str) (scope : Scope) (f : Addr) (cd : Value) (A : Around) (outer : List Env) (s : Shared) (H : Hp) (E : XK) : Cx where
  prog := P
  w := w
  K := K
  mg := mg
  base := base
  A := A.deeper (envOfC qual scope s.heap.objs.size f cd)
  N := N
  s₀ := s
  H₀ := H
  env := envOfC qual scope s.heap.objs.size f cd
  outer := outer
  stack := envOfC qual scope s.heap.objs.size f cd :: outer
  ex := []
  calm := true
  fn := fun _ => true
  pn := []
  xe := fun e s' => wpAny (model P w) (A.deeper (envOfC qual scope s.heap.objs.size f cd)) (leaving (envOfC qual scope s.heap.objs.size f cd) e) (fun _ s'' => CX outer H s E e s'') (fun e' s'' => CX outer H s E e' s'') s'
theorem cell_has {sc : Scope} {n : Nat} {x : Str} (h : sc.names.lookup x = some .cell) : ∃ c, (cellsFrom n sc.names []).lookup x = some c := by
  have q := PySem.W.cellsFrom_some sc.names n [] (.inl h)
  exact Option.isSome_iff_exists.mp q
theorem inv_start {CX : CXT} {P : Program} {w : World} {K : PySem.W.Frag} {mg : Str → Option Value} {base : Heap} {N ps : List Str} {qual : Str} {scope : Scope} {f : Addr} {cd : Value} {A : Around} {outer : List Env} {s s1 : Shared} {H : Hp} {E : XK} {us : List Value} {vs : List V}
    (S : FnScope N ps scope) (hd : A.handled = none) (e0 : Env0 P w K mg base A outer s H) (hl : vs.length = ps.length) (r : Vals vs us)
    (x : InCallC s s.heap.objs.size (bindL (envOfC qual scope s.heap.objs.size f cd).kindOf (ps.zip us) fun _ => none) (cellsFrom (s.heap.objs.size + 1) scope.names []) (bindC (envOfC qual scope s.heap.objs.size f cd).kindOf (ps.zip us) fun _ => none) s1) :
    Inv (cxOf CX P w K mg base N qual scope f cd A outer s H E) [] (start N vs) H s1 := by
  have hpl : ps.length ≤ N.length := by have := congrArg List.length S.pre; rw [List.length_take] at this; omega
  obtain ⟨h1, tk, rfl, hk⟩ := x.done
  have noA : ∀ b : Addr, b ∉ (cxOf CX P w K mg base N qual scope f cd A outer s H E).ex := fun b z => absurd (show b ∈ ([] : List Addr) from z) (by simp)
  refine ⟨⟨e0.mod, S.kind, rfl, rfl, Nat.le_refl _, fun y z c h1 h2 => ?_, fun y hy => ?_, fun y c _ h => ?_, fun _ => hd, Around.frames_deeper e0.frames, .inr ⟨rfl, rfl⟩, fun b z => absurd z (noA b), e0.bs, e0.bsz, fun b _ _ => noA b, fun b z => absurd z (noA b), e0.funs, e0.frf⟩,
    rfl, e0.bare, Un.kept hk, ⟨_, x.toInCall.ns, fun i y v h1 h2 h3 => ?_⟩, fun y c h => ⟨_, x.cell y c h⟩, e0.hok.fresh (Nat.le_refl _), fun y c h => ?_, fun p hp => absurd (show p ∈ ([] : List (Addr × Obj)) from hp) (by simp), e0.hok.kept hk, ?_⟩
  · exact name_of_addr x.apart (PySem.mem_of_lookup h1) (PySem.mem_of_lookup h2)
  · have hy : scope.names.lookup y = some .cell ∨ scope.names.lookup y = some .free := hy
    rcases hy with hy | hy
    · exact cell_has hy
    · exact absurd rfl (S.nofree _ (PySem.mem_of_lookup hy))
  · exact Nat.le_of_lt (x.above y c (PySem.mem_of_lookup h))
  · have hi : i < vs.length := by
      unfold start at h2
      by_cases hi : i < vs.length
      · exact hi
      · rw [List.getElem?_append_right (by simpa using hi)] at h2
        rw [List.getElem?_replicate] at h2
        split at h2 <;> cases h2
    have ha : vs[i]? = some v := by
      unfold start at h2
      rw [List.getElem?_append_left (by simpa using hi), List.getElem?_map] at h2
      cases e : vs[i]? with
      | none => rw [e] at h2; cases h2
      | some a => rw [e] at h2; cases h2; rfl
    obtain ⟨u, hu, rv⟩ := r.get ha
    have hp : ps[i]? = some y := by
      rw [← S.pre, List.getElem?_take_of_lt (by omega)]; exact h1
    have ndP : ps.Nodup := by rw [← S.pre]; exact S.nd.sublist (List.take_sublist _ _)
    refine ⟨u, rv, ?_⟩
    rcases S.par y (List.mem_of_getElem? hp) with k | k
    · exact .inl ⟨k, bindL_get ndP hp hu k⟩
    · obtain ⟨c, e⟩ := cell_has (n := s.heap.objs.size + 1) k
      refine .inr ⟨.inl k, c, e, ?_⟩
      have q := x.cell y c e
      rw [bindC_get ndP hp hu (by show scope.names.lookup y ≠ _; rw [k]; decide)] at q
      exact q
  · exact e0.hok.fresh (Nat.le_of_lt (x.above y c (PySem.mem_of_lookup h)))
  · unfold start
    show _ = N.length
    rw [List.length_append, List.length_map, List.length_replicate]
    omega
theorem fn_of {CX : CXT} {P : Program} {w : World} {K : PySem.W.Frag} {mg : Str → Option Value} {base : Heap} {k : Nat} {f : Addr} {name qual : Str} {params : Arguments} {body : List Stmt} {scope : Scope} {dV kV doc pm cdv ct oc : Value} {an od : Option Addr}
    {osl : Array (Option Value)} {N ps : List Str} {sp : Sp} (lk : K.lookup f = some ⟨oc, od, .func (PySem.W.fnOf name qual params body scope dV kV doc pm an cdv ct), osl⟩) (hcd : PySem.W.codeIn K cdv qual = true) (S : FnScope N ps scope)
    (len : ∀ vs H Q E, sp vs H Q E → vs.length = ps.length)
    (hbody : ∀ (A : Around) (outer : List Env) (s : Shared) (H : Hp) (vs : List V) (Q : VK) (E : XK), Room k (A.deeper (envOfC qual scope s.heap.objs.size f cdv)) → sp vs H Q E →
      ∃ t, PSs (cxOf CX P w K mg base N qual scope f cdv A outer s H E) body t ∧ t { nx := fun _ H' => Q .non H', rt := Q } (start N vs) H) :
    FnOk P w K mg base CX (k + 1) f (PySem.W.fnOf name qual params body scope dV kV doc pm an cdv ct) ps sp := by
  refine ⟨len, fun A outer s H args us vs Q E hr e0 hb r hsp => ?_⟩
  have hl := len _ _ _ _ hsp
  have KX : K.In s.heap := e0.mod.kin.keeps fun b o e => (e0.bs b o e).1
  have lim : s.heap.NoLimit := e0.mod.nolimit.keeps fun b o e => (e0.bs b o e).1
  have hkind : ∀ y ∈ ps.zip us, scope.names.lookup y.1 = some .local ∨ (scope.names.lookup y.1 = some .cell ∧ ((cellsFrom (s.heap.objs.size + 1) scope.names []).lookup y.1).isSome = true) := fun ⟨n, v⟩ hy => by
    rcases S.par n (List.of_mem_zip hy).1 with q | q
    · exact .inl q
    · exact .inr ⟨q, PySem.W.cellsFrom_some _ _ _ (.inl q)⟩
  refine codeAny_call_function hr.depth (KX _ _ lk) rfl S.co S.gen rfl (PySem.W.codeRec_of KX hcd) (hb _ _ _ _ ?_)
  refine wpAny_newFunctionEnv_cells S.kind hkind fun env he s1 x => ?_
  subst he
  refine ⟨lim.keeps x.toInCall.keep, codeAny_func ?_⟩
  obtain ⟨t, ht, hq⟩ := hbody A outer s H vs Q E (hr.deeper _) hsp
  have I : Inv (cxOf CX P w K mg base N qual scope f cdv A outer s H E) [] (start N vs) H s1 := inv_start S hr.hd e0 hl r x
  refine wpAny_mono (ht [] s1 (start N vs) H _ I hq) (fun fl s' hs => ?_) fun e s' hs => hs
  have fin : ∀ {σ' : St} {H' : Hp} {v : V} {u : Value}, Inv (cxOf CX P w K mg base N qual scope f cdv A outer s H E) [] σ' H' s' → RelV v u → Q v H' → CE outer P w H s Q u s' :=
    fun {σ' H' v u} J rv q => ⟨v, H', J.os, J.bare, J.base, J.hok, rv, q⟩
  cases fl with
  | ret u =>
    obtain ⟨v, σ', H', J, rv, q⟩ := hs
    exact fin J rv q
  | next =>
    obtain ⟨σ', H', J, q⟩ := hs
    exact fin (v := V.non) (u := Value.none) J rfl q
  | brk =>
    obtain ⟨_, _, _, q⟩ := hs
    exact False.elim q
  | cont =>
    obtain ⟨_, _, _, q⟩ := hs
    exact False.elim q
end L2
namespace L2
open PySem PySem.Spec PyProof.Rows
section
variable {X : Cx} {x : Str} {p pos : Pos} {e : Expr} {es : List Expr} {t : TA} {id T : String} {r : List V → Hp → VK → Prop}
def tCB (r : List V → Hp → VK → Prop) (t : TA) : TE := fun σ H Q => t σ H fun vs H1 => r vs H1 Q
theorem pe_callB (hc : CallR X (.builtin id) r) (hg : Gl X x) (hm : X.mg x = none) (hv : bootBuiltins x = some (.builtin id)) (ha : PA X (e :: es) t) (hn : x ≠ "__name__" := by decide) (hdb : (x == ("__debug__" : Str)) = false := by decide)
    (he : starEach (e :: es) X.env = (false, eval e X.env) :: starEach es X.env := by rfl) (hpl : (backTo pos (starEach es X.env)).any (·.1) = false := by rfl) : PE X (.Call (.Name x p) (e :: es) [] pos) (tCB r t) := by
  intro pins s σ H Q I h
  refine wpAny_Call_Name_kw (ld_blt I hg hm hv ?_ hn hdb)
  exact PyProof.Rows.callWith_builtin1 (thn (ha pos pins s σ H _ I h) fun us s1 ⟨vs, H1, I1, r1, q1⟩ => hc pins s1 σ H1 vs us Q I1 r1 q1) he hpl
theorem pe_callTy (hc : CallR X (.type T) r) (hg : Gl X x) (hm : X.mg x = none) (hv : bootBuiltins x = some (.type T)) (ha : PA X (e :: es) t) (hn : x ≠ "__name__" := by decide) (hdb : (x == ("__debug__" : Str)) = false := by decide)
    (he : starEach (e :: es) X.env = (false, eval e X.env) :: starEach es X.env := by rfl) (hpl : (backTo pos (starEach es X.env)).any (·.1) = false := by rfl) : PE X (.Call (.Name x p) (e :: es) [] pos) (tCB r t) := by
  intro pins s σ H Q I h
  refine wpAny_Call_Name_kw (ld_blt I hg hm hv ?_ hn hdb)
  exact PyProof.Rows.callWith_type1 (thn (ha pos pins s σ H _ I h) fun us s1 ⟨vs, H1, I1, r1, q1⟩ => hc pins s1 σ H1 vs us Q I1 r1 q1) he hpl
end
end L2
namespace HT
open PySem PyProof.Rows
section
open PySem.SeqAt
open PySem.AutoSeq1 (wpAny_loadPart')
open PySem.MeetsSeq PySem.MeetsSeq2 PySem.MeetsSeq3
end
section
variable {prog : Program} {w : World} {A : Around} {E : Value → Shared → Prop} {s : Shared}
def sIx (n d : Nat) : Option Int → Nat
  | none => d
  | some v => if v < 0 then (v + (n : Int)).toNat else min v.toNat n
theorem sIx_none (n d : Nat) : sIx n d none = d := rfl
theorem sIx_nat (n d k : Nat) : sIx n d (some (k : Int)) = min k n := by
  show (if (k : Int) < 0 then ((k : Int) + (n : Int)).toNat else min (k : Int).toNat n) = min k n
  rw [if_neg (by omega), Int.toNat_natCast]
theorem sIx_le (n d : Nat) (hd : d ≤ n) (o : Option Int) : sIx n d o ≤ n := by
  cases o with
  | none => exact hd
  | some v =>
    show (if v < 0 then (v + (n : Int)).toNat else min v.toNat n) ≤ n
    by_cases hv : v < 0
    · rw [if_pos hv]; omega
    · rw [if_neg hv]; exact Nat.min_le_right _ _
theorem clip_eq (v : Int) (n d : Nat) : (if v < 0 then max (v + (n : Int)) 0 else min v (n : Int)) = ((sIx n d (some v) : Nat) : Int) := by
  show (if v < 0 then max (v + (n : Int)) 0 else min v (n : Int)) = (((if v < 0 then (v + (n : Int)).toNat else min v.toNat n) : Nat) : Int)
  by_cases hv : v < 0
  · simp only [if_pos hv]; omega
  · simp only [if_neg hv]; omega
theorem adjust_gen (lo hi : Option Int) (n : Nat) : Builtin.Slice.sliceAdjust lo hi 1 (n : Int) = (((sIx n 0 lo : Nat) : Int), ((sIx n n hi : Nat) : Int)) := by
  have h1 : ¬ ((1 : Int) < 0) := by omega
  unfold Builtin.Slice.sliceAdjust
  simp only [h1, if_false]
  refine Prod.ext ?_ ?_
  · cases lo with
    | none => rfl
    | some v => exact clip_eq v n 0
  · cases hi with
    | none => rfl
    | some v => exact clip_eq v n n
theorem places_gen (i j : Nat) : Builtin.Slice.slicePlaces (i : Int) (j : Int) 1 = j - i := by
  unfold Builtin.Slice.slicePlaces
  have h1 : (1 : Int) > 0 := by omega
  simp only [h1, if_true, Int.ediv_one]
  split <;> omega
theorem slicePart_ {v : Value} {o : Option Int} {Q : Option Int → Shared → Prop} (p : IsPart v o) (h : Q o s) : wpAny (model prog w) A (Builtin.Slice.slicePartIndex v) Q E s := by
  cases p with
  | none => exact slicePart_none h
  | int i t => exact slicePart_int h
theorem sliceApplied_gen {sl : Addr} {vl vu : Value} {lo hi : Option Int} {n : Nat} {Q : Int × Int × Nat → Shared → Prop} (hs : s.heap.IsSliceOf sl vl vu .none) (pl : IsPart vl lo) (pu : IsPart vu hi)
    (h : Q (((sIx n 0 lo : Nat) : Int), 1, sIx n n hi - sIx n 0 lo) s) : wpAny (model prog w) A (Builtin.Slice.sliceApplied (.ref sl) (pure (n : Int))) Q E s := by
  obtain ⟨os, hos, hcs, hds⟩ := id hs
  unfold Builtin.Slice.sliceApplied Builtin.Slice.sliceFields
  refine wpAny_bind (wpAny_bind (wpAny_field hos hds (x := vl) rfl (wpAny_bind (wpAny_field hos hds (x := vu) rfl (wpAny_bind (wpAny_field hos hds (x := .none) rfl (wpAny_pure ?_)))))))
  refine wpAny_bind (slicePart_none ?_)
  show wpAny _ _ (if ((1 : Int) == 0) = true then _ else _) _ _ s
  rw [if_neg (by decide)]
  refine wpAny_bind (slicePart_ pl (wpAny_bind (slicePart_ pu (wpAny_bind (wpAny_pure ?_)))))
  show wpAny _ _ (match Builtin.Slice.sliceAdjust lo hi 1 (n : Int) with | (lo, hi) => pure (lo, (1 : Int), Builtin.Slice.slicePlaces lo hi 1)) _ _ s
  rw [adjust_gen lo hi n]
  show wpAny _ _ (pure (((sIx n 0 lo : Nat) : Int), (1 : Int), Builtin.Slice.slicePlaces ((sIx n 0 lo : Nat) : Int) ((sIx n n hi : Nat) : Int) 1)) _ _ s
  rw [places_gen]
  exact wpAny_pure h
theorem pick_gen (xs : Array Value) (i k : Nat) : ((List.range k).filterMap fun (m : Nat) => xs[((i : Int) + (m : Int) * 1).toNat]?).toArray = ((xs.toList.drop i).take k).toArray := by
  have e : (fun (m : Nat) => xs[((i : Int) + (m : Int) * 1).toNat]?) = fun m => xs[i + m]? := by
    funext m
    have : ((i : Int) + (m : Int) * 1).toNat = i + m := by omega
    rw [this]
  rw [e]
  have := pick_run xs i k
  rw [List.filterMap_map] at this
  have e2 : ((fun x => xs[x]?) ∘ fun x => i + x) = fun m => xs[i + m]? := rfl
  rw [e2] at this
  rw [this]
theorem getItem_tuple_cut {t sl : Addr} {items : Array Value} {vl vu : Value} {lo hi : Option Int} {Q : Value → Shared → Prop} (ht : IsTup s.heap t items) (hs : s.heap.IsSliceOf sl vl vu .none) (pl : IsPart vl lo) (pu : IsPart vu hi)
    (hw : ¬ (sIx items.size 0 lo = 0 ∧ sIx items.size items.size hi = items.size))
    (h : Q (.ref s.heap.objs.size) { s with heap := s.heap.push { cls := .type "tuple", data := .seq ((items.toList.drop (sIx items.size 0 lo)).take (sIx items.size items.size hi - sIx items.size 0 lo)).toArray } })
    (hsz : items.size ≤ sizeLine) : wpAny (model prog w) A (getItem (.ref t) (.ref sl)) Q E s := by
  have htake : sizeOk (.seq ((items.toList.drop (sIx items.size 0 lo)).take (sIx items.size items.size hi - sIx items.size 0 lo)).toArray) := by
    show ((items.toList.drop (sIx items.size 0 lo)).take (sIx items.size items.size hi - sIx items.size 0 lo)).toArray.size ≤ sizeLine
    rw [List.size_toArray, List.length_take, List.length_drop, Array.length_toList]
    omega
  have hj : sIx items.size items.size hi ≤ items.size := sIx_le _ _ (Nat.le_refl _) hi
  obtain ⟨os, hos, hcs, hds⟩ := id hs
  have hTs : s.TypeIs (.ref sl) "slice" := ⟨os, hos, hcs⟩
  unfold getItem
  try with_reducible refine wpAny_holding ?_
  first | refine wpAny_bind (wpAny_pure ?_) | skip
  refine wpAny_bind (wpAny_sequenceKey ht.typeIs (by decide) ?_)
  refine wpAny_bind (wpAny_callSpecial?_slot (name := Str.ofString "__getitem__") ht.typeIs PyProof.Rows.slot_tuple_getitem
    (wpAny_call_entry PyProof.Rows.slot_tuple_getitem ht.typeIs entry_tuple_getitem ?_ (args_tuple_getitem _ _)))
  show wpAny _ _ (Builtin.Tuple.tupleItemsOf (.ref t) >>= _) _ _ s
  refine wpAny_bind (tupleItemsOf_ ht ?_)
  refine wpAny_bind (wpAny_typeOf hTs ?_)
  rw [if_pos (by decide)]
  refine wpAny_bind (sliceApplied_gen hs pl pu ?_)
  have hno : ¬ ((((sIx items.size 0 lo : Nat) : Int) == 0 && (1 : Int) == 1 && (sIx items.size items.size hi - sIx items.size 0 lo) == items.size) = true) := by
    intro q
    rw [Bool.and_eq_true, Bool.and_eq_true] at q
    have q1 : ((sIx items.size 0 lo : Nat) : Int) = 0 := eq_of_beq q.1.1
    have q2 : sIx items.size items.size hi - sIx items.size 0 lo = items.size := eq_of_beq q.2
    exact hw ⟨by omega, by omega⟩
  show wpAny _ _ (if (((sIx items.size 0 lo : Nat) : Int) == 0 && (1 : Int) == 1 && (sIx items.size items.size hi - sIx items.size 0 lo) == items.size) = true then _ else _) _ _ s
  rw [if_neg hno, pick_gen]
  first
    | exact wpAny_bind (m := Builtin.Tuple.tupleExact _) (wpAny_newObj_type (wpAny_pure ⟨_, rfl, wpAny_pure h⟩) htake)
    | exact wpAny_bind (m := Builtin.Tuple.tupleExact _) (wpAny_newObj_type (wpAny_bind (wpAny_pure (wpAny_pure ⟨_, rfl, wpAny_pure h⟩))) htake)
    | exact wpAny_bind (wpAny_bind (m := Builtin.Tuple.tupleExact _) (wpAny_newObj_type (wpAny_pure (wpAny_pure ⟨_, rfl, wpAny_pure h⟩)) htake))
    | exact wpAny_bind (wpAny_bind (m := Builtin.Tuple.tupleExact _) (wpAny_newObj_type (wpAny_pure ⟨_, rfl, wpAny_pure h⟩) htake))
end
end HT
namespace L2
open PySem PySem.Spec PyProof.Rows
abbrev TO := St → Hp → (Option Int → Hp → Prop) → Prop
def PO (X : Cx) (e : Option Expr) (t : TO) : Prop :=
  ∀ (pins : List (Addr × Obj)) (s : Shared) (σ : St) (H : Hp) (Q : Option Int → Hp → Prop), Inv X pins σ H s → t σ H Q →
    wpAny (model X.prog X.w) X.A (evalPart e X.env) (fun u s' => ∃ o H', Inv X pins σ H' s' ∧ IsPart u o ∧ Q o H') X.xe s
def tNoPart : TO := fun _ H Q => Q none H
def tPart (t : TE) : TO := fun σ H Q => t σ H fun x H1 => ∃ i, x = .int i ∧ Q (some i) H1
section
variable {X : Cx} {e : Expr} {te : TE} {lo hi : Option Expr} {tl th : TO} {pos p2 : Pos}
theorem po_none : PO X none tNoPart := by
  intro pins s σ H Q I h
  rw [evalPart_none]
  exact wpAny_pure ⟨none, H, I, .none, h⟩
theorem po_some (h : PE X e te) : PO X (some e) (tPart te) := by
  intro pins s σ H Q I hw
  rw [evalPart_some]
  refine thn (h pins s σ H _ I hw) ?_
  rintro u s1 ⟨x, H1, I1, r1, q1⟩
  obtain ⟨i, rfl, q⟩ := q1
  obtain ⟨t, rfl⟩ := r1
  exact ⟨some i, H1, I1, .int i t, q⟩
def SlR (X : Cx) (r : V → Option Int → Option Int → Hp → VK → Prop) : Prop :=
  ∀ (pins : List (Addr × Obj)) (s : Shared) (σ : St) (H : Hp) (x : V) (v vl vu : Value) (lo hi : Option Int) (sl : Addr) (Q : VK), Inv X pins σ H s → RelV x v → s.heap.IsSliceOf sl vl vu .none → IsPart vl lo → IsPart vu hi → r x lo hi H Q →
    ∃ T id, typeLookup (.type T) "__getitem__" = pure (some (.builtin id)) ∧ s.TypeIs v T ∧ wpAny (model X.prog X.w) X.A (getItem v (.ref sl)) (EP X pins σ Q) X.xe s
theorem SlR.or {r r' : V → Option Int → Option Int → Hp → VK → Prop} (h : SlR X r) (h' : SlR X r') : SlR X (fun x lo hi H Q => r x lo hi H Q ∨ r' x lo hi H Q) := by
  intro pins s σ H x v vl vu lo hi sl Q I rx hs pl pu q
  rcases q with q | q
  · exact h pins s σ H x v vl vu lo hi sl Q I rx hs pl pu q
  · exact h' pins s σ H x v vl vu lo hi sl Q I rx hs pl pu q
def tSl (r : V → Option Int → Option Int → Hp → VK → Prop) (te : TE) (tl th : TO) : TE := fun σ H Q => te σ H fun x H1 => tl σ H1 fun l H2 => th σ H2 fun u H3 => r x l u H3 Q
theorem pe_slice {r : V → Option Int → Option Int → Hp → VK → Prop} (hr : SlR X r) (he : PE X e te) (hl : PO X lo tl) (hu : PO X hi th) : PE X (.Subscript e (.Slice lo hi none p2) pos) (tSl r te tl th) := by
  intro pins s σ H Q I h
  refine Subscript_ (thn (he pins s σ H _ I h) ?_)
  rintro v s1 ⟨x, H1, I1, r1, q1⟩
  refine wpAny_Slice (thn (hl pins s1 σ H1 _ I1 q1) fun vl s2 ⟨l, H2, I2, pl, q2⟩ => thn (hu pins s2 σ H2 _ I2 q2) fun vu s3 ⟨u, H3, I3, pu, q3⟩ => ?_)
  rw [evalPart_none]
  refine wpAny_pure ?_
  have I4 : Inv X pins σ H3 { s3 with heap := s3.heap.push { cls := .type "slice", data := .fields #[vl, vu, .none] } } := I3.kept (t' := s3.toks) fun b ob q => Heap.get?_push_of_some _ q
  obtain ⟨T, id, hT, ht, hg⟩ := hr pins { s3 with heap := s3.heap.push { cls := .type "slice", data := .fields #[vl, vu, .none] } } σ H3 x v vl vu l u s3.heap.objs.size Q I4 r1 (Heap.IsSliceOf.new ..) pl pu q3
  show wpAny (model X.prog X.w) X.A (subscriptTail e (.Slice lo hi none p2) v (.ref s3.heap.objs.size)) (EP X pins σ Q) X.xe { s3 with heap := s3.heap.push { cls := .type "slice", data := .fields #[vl, vu, .none] } }
  exact tail_any (ops := [.ref s3.heap.objs.size, v]) ht hT hg (by with_unfolding_all rfl)
def cutV (xs : List V) (lo hi : Option Int) : List V := (xs.drop (HT.sIx xs.length 0 lo)).take (HT.sIx xs.length xs.length hi - HT.sIx xs.length 0 lo)
theorem cutV_length (xs : List V) (lo hi : Option Int) : (cutV xs lo hi).length ≤ xs.length := by
  unfold cutV
  rw [List.length_take, List.length_drop]
  omega
def rSlT (K : PySem.W.Frag) : V → Option Int → Option Int → Hp → VK → Prop := fun x lo hi H Q => ∃ a xs, x = .ref a ∧ SqT K H a xs ∧
  ¬ (HT.sIx xs.length 0 lo = 0 ∧ HT.sIx xs.length xs.length hi = xs.length) ∧ ∀ p, H p = none → Q (.ref p) (upd H p (.tup (cutV xs lo hi)))
theorem sl_tup : SlR X (rSlT X.K) := by
  intro pins s σ H x v vl vu lo hi sl Q I rx hs pl pu h
  obtain ⟨a, xs, rfl, hx, hw, q⟩ := h
  cases rx
  obtain ⟨its, r, ht, hz⟩ := I.tuple hx
  have hlen : its.toArray.size = xs.length := by rw [List.size_toArray]; exact r.length.symm
  refine ⟨"tuple", _, PyProof.Rows.slot_tuple_getitem.lookup, ht.typeIs, ?_⟩
  refine HT.getItem_tuple_cut ht hs pl pu (by rw [hlen]; exact hw) ?_ (by rw [hlen]; exact hz)
  rw [hlen]
  refine ⟨.ref s.heap.objs.size, _, I.laid (t' := s.toks) (o := .tup (cutV xs lo hi)) (fun b ob q => Heap.get?_push_of_some _ q) (Nat.le_refl _) ?_, rfl, q _ (I.hok.fresh (Nat.le_refl _))⟩
  exact ⟨⟨Nat.le_trans (cutV_length xs lo hi) hz, NoDct.new rfl rfl⟩, _, (r.drop (HT.sIx xs.length 0 lo)).take (HT.sIx xs.length xs.length hi - HT.sIx xs.length 0 lo), IsTup.new _ _⟩
end
end L2
namespace L2
open PySem PySem.Spec PyProof.Rows
def ixN (n : Nat) (i : Int) : Option Nat := if 0 ≤ i then (if i < n then some i.toNat else none) else if -(n : Int) ≤ i then some (i + n).toNat else none
def atI {α : Type} (xs : List α) (i : Int) : Option α := (ixN xs.length i).bind fun j => xs[j]?
theorem ixN_seq {n : Nat} {i : Int} {j : Nat} (h : ixN n i = some j) : seqIndex? i n = some j ∧ j < n ∧ -(n : Int) ≤ i ∧ i < n := by
  unfold ixN at h
  by_cases h0 : 0 ≤ i
  · rw [if_pos h0] at h
    by_cases h1 : i < n
    · rw [if_pos h1] at h
      have e : i.toNat = j := Option.some.inj h
      exact ⟨by rw [seqIndex_of h0 h1, e], by omega, by omega, h1⟩
    · rw [if_neg h1] at h; cases h
  · rw [if_neg h0] at h
    by_cases h1 : -(n : Int) ≤ i
    · rw [if_pos h1] at h
      have e : (i + n).toNat = j := Option.some.inj h
      exact ⟨by rw [seqIndex_neg (by omega) h1, e], by omega, h1, by omega⟩
    · rw [if_neg h1] at h; cases h
theorem atI_get {α : Type} {xs : List α} {i : Int} {v : α} (h : atI xs i = some v) : ∃ j, seqIndex? i xs.length = some j ∧ xs[j]? = some v ∧ j < xs.length ∧ -(xs.length : Int) ≤ i ∧ i < xs.length := by
  unfold atI at h
  cases e : ixN xs.length i with
  | none => rw [e] at h; cases h
  | some j =>
    rw [e] at h
    obtain ⟨h1, h2, h3, h4⟩ := ixN_seq e
    exact ⟨j, h1, h, h2, h3, h4⟩
theorem atI_nat {α : Type} {xs : List α} {j : Nat} {v : α} (h : xs[j]? = some v) : atI xs (j : Int) = some v := by
  have hj : j < xs.length := (List.getElem?_eq_some_iff.mp h).1
  have e : ixN xs.length (j : Int) = some j := by
    unfold ixN
    rw [if_pos (by omega), if_pos (by omega)]; simp
  unfold atI; rw [e]; exact h
def PlainIx (b : Expr) : Prop := ∀ o i, subscripted b false o i = operate [o, i] (getItem o i)
def IxR (X : Cx) (r : R2) : Prop :=
  ∀ (value slice : Expr) (pins : List (Addr × Obj)) (s : Shared) (σ : St) (H : Hp) (x y : V) (v u : Value) (Q : VK), Inv X pins σ H s → RelV x v → RelV y u → r x y H Q →
    subscripted slice false v u = operate [v, u] (getItem v u) → wpAny (model X.prog X.w) X.A (subscriptTail value slice v u) (EP X pins σ Q) X.xe s
def MtR (X : Cx) (id : String) (r : V → List V → Hp → VK → Prop) : Prop :=
  ∀ (pins : List (Addr × Obj)) (s : Shared) (σ : St) (H : Hp) (x : V) (xs : List V) (v : Value) (us : List Value) (Q : VK), Inv X pins σ H s → RelV x v → Vals xs us → r x xs H Q →
    wpAny (model X.prog X.w) X.A (call (.builtin id) (v :: us)) (EP X pins σ Q) X.xe s
section
variable {X : Cx} {a b : Expr} {ta tb : TE} {pos : Pos}
theorem pe_ix {r : R2} (hr : IxR X r) (ha : PE X a ta) (hb : PE X b tb) (hs : PlainIx b) : PE X (.Subscript a b pos) (tOp r ta tb) := by
  intro pins s σ H Q I h
  exact Subscript_ (binT ha hb I h fun v u s2 x y H2 I2 rx ry q => hr a b pins s2 σ H2 x y v u Q I2 rx ry q (hs _ _))
def rIxL (K : PySem.W.Frag) : R2 := fun x y H Q => ∃ p xs i v, x = .ref p ∧ y = .int i ∧ SqL K H p xs ∧ atI xs i = some v ∧ Q v H
def rIxT (K : PySem.W.Frag) : R2 := fun x y H Q => ∃ p xs i v, x = .ref p ∧ y = .int i ∧ SqT K H p xs ∧ atI xs i = some v ∧ Q v H
def rIxS : R2 := fun x y H Q => ∃ z i c, x = .str z ∧ y = .int i ∧ z.length ≤ sizeLine ∧ atI z.cps.toList i = some c ∧ Q (.str ⟨#[c]⟩) H
theorem ix_list : IxR X (rIxL X.K) := by
  intro value slice pins s σ H x y v u Q I rx ry h hs
  obtain ⟨p, xs, i, z, rfl, rfl, hq, he, q⟩ := h
  cases rx
  obtain ⟨t, rfl⟩ := ry
  obtain ⟨its, r, pl, hz⟩ := I.list hq
  obtain ⟨j, h1, h2, h3, h4, h5⟩ := atI_get he
  obtain ⟨w, ew, rw'⟩ := r.get h2
  have hl := r.length
  have hn := line63
  have fin : EP X pins σ Q w s := ⟨z, H, I, rw', q⟩
  by_cases h0 : 0 ≤ i
  · have hj : i.toNat = j := by
      rw [seqIndex_of h0 h5] at h1
      exact Option.some.inj h1
    exact item_listR pl.isList h0 (by omega) (by rw [hj]; simpa using ew) fin hs
  · have hj : (i + (its.toArray.size : Int)).toNat = j := by
      rw [seqIndex_neg (by omega) h4] at h1
      rw [List.size_toArray, ← hl]
      exact Option.some.inj h1
    exact subscriptTail_builtinR (x := w) pl.isList.typeIs slot_list_getitem.lookup
      (wpAny_getItem_list_neg (Q := fun r s' => r = w ∧ EP X pins σ Q r s') pl.isList (by omega) (by rw [List.size_toArray] <;> omega) (by omega) (by rw [hj]; simpa using ew) ⟨rfl, fin⟩) hs
theorem ix_tup : IxR X (rIxT X.K) := by
  intro value slice pins s σ H x y v u Q I rx ry h hs
  obtain ⟨p, xs, i, z, rfl, rfl, hq, he, q⟩ := h
  cases rx
  obtain ⟨t, rfl⟩ := ry
  obtain ⟨its, r, pl, hz⟩ := I.tuple hq
  obtain ⟨j, h1, h2, h3, h4, h5⟩ := atI_get he
  obtain ⟨w, ew, rw'⟩ := r.get h2
  have hl := r.length
  have hn := line63
  have fin : EP X pins σ Q w s := ⟨z, H, I, rw', q⟩
  exact subscriptTail_builtinR (x := w) pl.typeIs slot_tuple_getitem.lookup
    (getItem_tuple (j := j) (Q := fun r s' => r = w ∧ EP X pins σ Q r s') pl (by omega) (by omega) (by rw [List.size_toArray, ← hl]; exact h1) (by simpa using ew) ⟨rfl, fin⟩) hs
theorem ix_str : IxR X rIxS := by
  intro value slice pins s σ H x y v u Q I rx ry h hs
  obtain ⟨z, i, c, rfl, rfl, hz, he, q⟩ := h
  obtain ⟨t, rfl⟩ := rx
  obtain ⟨t', rfl⟩ := ry
  obtain ⟨j, h1, h2, h3, h4, h5⟩ := atI_get he
  have hl : z.cps.toList.length = z.length := by simp [Str.length]
  rw [hl] at h1 h4 h5
  have hn := line63
  exact tail_any (typeIs_str s z t) slot_str_getitem.lookup (getItem_str (c := c) (by
    have e1 : decide (i < -(2 ^ 63 : Int)) = false := decide_eq_false (by omega)
    have e2 : decide (i ≥ 2 ^ 63) = false := decide_eq_false (by omega)
    rw [e1, e2, Bool.or_false]) (by rw [h1]; simpa using h2) ⟨.str ⟨#[c]⟩, H, I.tok _, ⟨_, rfl⟩, q⟩) hs
theorem mapSeq_set (its : List Value) (n j : Nat) (u : Value) : Obj.mapSeq (·.setIfInBounds j u) { cls := .type "list", data := .seq its.toArray n } = { cls := .type "list", data := .seq (its.set j u).toArray n } := by
  simp [Obj.mapSeq]
theorem Inv.lst {pins : List (Addr × Obj)} {σ : St} {H : Hp} {s : Shared} {p : Addr} {xs : List V} (I : Inv X pins σ H s) (h : H p = some (.lst xs)) :
    ∃ (its : List Value) (n : Nat), Vals xs its ∧ s.heap.get? p = some { cls := .type "list", data := .seq its.toArray n } ∧ xs.length ≤ sizeLine := by
  obtain ⟨z, its, n, r, e⟩ := I.hok p _ h
  exact ⟨its, n, r, e, z⟩
theorem Inv.lstUpd {pins : List (Addr × Obj)} {σ : St} {H : Hp} {s : Shared} {p : Addr} {xs ys : List V} {its its' : List Value} {n n' : Nat} {f : Obj → Obj} (I : Inv X pins σ H s) (h : H p = some (.lst xs))
    (ho : s.heap.get? p = some { cls := .type "list", data := .seq its.toArray n }) (hf : f { cls := .type "list", data := .seq its.toArray n } = { cls := .type "list", data := .seq its'.toArray n' }) (r : Vals ys its') (hz : ys.length ≤ sizeLine) (t : Nat) :
    Inv X pins σ (upd H p (.lst ys)) { s with heap := s.heap.update p f, toks := t } := by
  have e : (s.heap.update p f).get? p = some { cls := .type "list", data := .seq its'.toArray n' } := by
    rw [Heap.get?_update_self f ho (by rw [hf] <;> rfl), hf]
  refine I.write (x := p) (e := p) (by rw [h]; trivial) (.inl rfl) (fun b u hb q => (Heap.get?_update_other _ _ (Ne.symm hb)).trans q) ⟨_, e⟩ ?_
  exact ⟨hz, its', n', r, e⟩
def rSetL : V → V → V → Hp → (Hp → Prop) → Prop := fun o i v H Q => ∃ p xs k j, o = .ref p ∧ i = .int k ∧ H p = some (.lst xs) ∧ ixN xs.length k = some j ∧ Q (upd H p (.lst (xs.set j v)))
theorem set_list : PSet X rSetL := by
  intro pins s σ H o i v ov iv u Q I ro ri rv h
  obtain ⟨p, xs, k, j, rfl, rfl, hp, hj, q⟩ := h
  cases ro
  obtain ⟨t, rfl⟩ := ri
  obtain ⟨its, n, r, ho, hz⟩ := I.lst hp
  obtain ⟨h1, h2, h3, h4⟩ := ixN_seq hj
  have hl := r.length
  have hn := line63
  have I' : Inv X pins σ (upd H p (.lst (xs.set j v))) { s with heap := s.heap.update p (Obj.mapSeq (·.setIfInBounds j u)) } :=
    I.lstUpd hp ho (mapSeq_set its n j u) (r.set rv j) (by rw [List.length_set]; exact hz) s.toks
  by_cases h0 : 0 ≤ k
  · have hk : k.toNat = j := by
      rw [seqIndex_of h0 h4] at h1
      exact Option.some.inj h1
    exact PySem.W.ki_setAt ho h0 (by omega) (by rw [List.size_toArray, ← hl]; exact h4) (by rw [hk]; exact ⟨_, I', q⟩)
  · have hk : (k + (its.toArray.size : Int)).toNat = j := by
      rw [seqIndex_neg (by omega) h3] at h1
      rw [List.size_toArray, ← hl]
      exact Option.some.inj h1
    exact PySem.W.ki_setBack ho (by omega) (by rw [List.size_toArray, ← hl]; exact h3) (by omega) (by rw [hk]; exact ⟨_, I', q⟩)
theorem slice_bounds (lo hi : Option Int) (n : Nat) : (sliceBounds lo hi none n).1 = ((HT.sIx n 0 lo : Nat) : Int) ∧ (sliceBounds lo hi none n).2.1 = ((HT.sIx n n hi : Nat) : Int) ∧ (sliceBounds lo hi none n).2.2 = 1 := by
  refine ⟨?_, ?_, rfl⟩
  · cases lo with
    | none => simp [sliceBounds, HT.sIx]
    | some i =>
      simp only [sliceBounds, HT.sIx, Option.getD_none, show (1 : Int) > 0 by decide, if_true]
      by_cases h : i < 0
      · simp only [h, if_true] <;> omega
      · simp only [h, if_false] <;> omega
  · cases hi with
    | none => simp [sliceBounds, HT.sIx]
    | some i =>
      simp only [sliceBounds, HT.sIx, Option.getD_none, show (1 : Int) > 0 by decide, if_true]
      by_cases h : i < 0
      · simp only [h, if_true] <;> omega
      · simp only [h, if_false] <;> omega
theorem slicePick_cut (its : List Value) (lo hi : Option Int) : slicePick its.toArray lo hi none = ((its.drop (HT.sIx its.length 0 lo)).take (HT.sIx its.length its.length hi - HT.sIx its.length 0 lo)).toArray := by
  obtain ⟨h1, h2, h3⟩ := slice_bounds lo hi its.toArray.size
  unfold slicePick
  rw [h1, h2, h3]
  simp only [sliceRange_one, pick_run, List.size_toArray] <;> rfl
def rSlL (K : PySem.W.Frag) : V → Option Int → Option Int → Hp → VK → Prop := fun x lo hi H Q => ∃ a xs, x = .ref a ∧ SqL K H a xs ∧ ∀ p, H p = none → Q (.ref p) (upd H p (.lst (cutV xs lo hi)))
theorem sl_list : SlR X (rSlL X.K) := by
  intro pins s σ H x v vl vu lo hi sl Q I rx hs pl pu h
  obtain ⟨a, xs, rfl, hx, q⟩ := h
  cases rx
  obtain ⟨its, r, ht, hz⟩ := I.list hx
  have hlen := r.length
  refine ⟨"list", _, slot_list_getitem.lookup, ht.isList.typeIs, ?_⟩
  refine wpAny_getItem_list_slice ht.isList hs pl pu .none (by simp) ?_ (by rw [List.size_toArray] <;> omega)
  rw [slicePick_cut, ← hlen]
  refine ⟨.ref s.heap.objs.size, _, I.laid (t' := s.toks) (o := .lst (cutV xs lo hi)) (fun b ob q => Heap.get?_push_of_some _ q) (Nat.le_refl _) ?_, rfl, q _ (I.hok.fresh (Nat.le_refl _))⟩
  exact ⟨Nat.le_trans (cutV_length xs lo hi) hz, _, 0, (r.drop (HT.sIx xs.length 0 lo)).take (HT.sIx xs.length xs.length hi - HT.sIx xs.length 0 lo), Heap.get?_push_size _ rfl⟩
def flatV : V → Bool
  | .non => true
  | .bl _ => true
  | .int _ => true
  | .str _ => true
  | _ => false
def eqV : V → V → Bool
  | .non, .non => true
  | .bl a, .bl b => a == b
  | .bl a, .int b => (if a then 1 else 0) == b
  | .int a, .bl b => a == (if b then 1 else 0)
  | .int a, .int b => a == b
  | .str a, .str b => a == b
  | _, _ => false
theorem eqAt_V {A : Around} {s : Shared} {y x : V} {u v : Value} (ry : RelV y u) (rx : RelV x v) (fy : flatV y = true) (fx : flatV x = true) : SeqAt.EqAt A s u v (eqV y x) := by
  cases y with
  | non =>
    cases ry
    cases x with
    | non => cases rx; exact SeqAt.EqAt.same _
    | bl b => cases rx; exact SeqAt.EqAt.none_bool b
    | int b => obtain ⟨t, rfl⟩ := rx; exact SeqAt.EqAt.none_int b t
    | str b => obtain ⟨t, rfl⟩ := rx; exact SeqAt.EqAt.none_str b t
    | _ => exact absurd (show false = true from fx) Bool.false_ne_true
  | bl a =>
    cases ry
    cases x with
    | non => cases rx; exact SeqAt.EqAt.bool_none a
    | bl b => cases rx; exact SeqAt.EqAt.bool_bool a b
    | int b => obtain ⟨t, rfl⟩ := rx; exact SeqAt.EqAt.bool_int a b t
    | str b => obtain ⟨t, rfl⟩ := rx; exact SeqAt.EqAt.bool_str a b t
    | _ => exact absurd (show false = true from fx) Bool.false_ne_true
  | int a =>
    obtain ⟨t', rfl⟩ := ry
    cases x with
    | non => cases rx; exact SeqAt.EqAt.int_none a t'
    | bl b => cases rx; exact SeqAt.EqAt.int_bool a t' b
    | int b => obtain ⟨t, rfl⟩ := rx; exact SeqAt.EqAt.int_int a t' b t
    | str b => obtain ⟨t, rfl⟩ := rx; exact SeqAt.EqAt.int_str a t' b t
    | _ => exact absurd (show false = true from fx) Bool.false_ne_true
  | str a =>
    obtain ⟨t', rfl⟩ := ry
    cases x with
    | non => cases rx; exact SeqAt.EqAt.str_none a t'
    | bl b => cases rx; exact SeqAt.EqAt.str_bool a t' b
    | int b => obtain ⟨t, rfl⟩ := rx; exact SeqAt.EqAt.str_int a t' b t
    | str b => obtain ⟨t, rfl⟩ := rx; exact SeqAt.EqAt.str_str a t' b t
    | _ => exact absurd (show false = true from fx) Bool.false_ne_true
  | _ => exact absurd (show false = true from fy) Bool.false_ne_true
def eqU (x : V) (u : Value) : Bool := match u with
  | .none => eqV .non x
  | .bool b => eqV (.bl b) x
  | .int i _ => eqV (.int i) x
  | .str z _ => eqV (.str z) x
  | _ => false
theorem eqU_of {x y : V} {u : Value} (r : RelV y u) (f : flatV y = true) : eqU x u = eqV y x := by
  cases y with
  | non => cases r; rfl
  | bl b => cases r; rfl
  | int i => obtain ⟨t, rfl⟩ := r; rfl
  | str z => obtain ⟨t, rfl⟩ := r; rfl
  | _ => exact absurd (show false = true from f) Bool.false_ne_true
theorem any_eqU {x : V} : ∀ {xs : List V} {us : List Value}, Vals xs us → xs.all flatV = true → us.any (eqU x) = xs.any fun y => eqV y x
  | _, _, .nil, _ => rfl
  | y :: xs, u :: us, .cons r t, f => by
    rw [List.all_cons, Bool.and_eq_true] at f
    rw [List.any_cons, List.any_cons, eqU_of r f.1, any_eqU t f.2]
theorem mem_eqAt {A : Around} {s : Shared} {x : V} {v : Value} (rx : RelV x v) (fx : flatV x = true) : ∀ {xs : List V} {us : List Value}, Vals xs us → xs.all flatV = true → ∀ u ∈ us, SeqAt.EqAt A s u v (eqU x u)
  | _, _, .nil, _ => fun u hu => by cases hu
  | y :: xs, u :: us, .cons r t, f => fun u' hu => by
    rw [List.all_cons, Bool.and_eq_true] at f
    rcases List.mem_cons.mp hu with rfl | hu
    · rw [eqU_of r f.1]; exact eqAt_V r rx f.1 fx
    · exact mem_eqAt rx fx t f.2 u' hu
def inV (x : V) (xs : List V) : Bool := xs.any fun y => eqV y x
def rIn (K : PySem.W.Frag) (neg : Bool) : R2 := fun x y H Q => ∃ p xs, y = .ref p ∧ (SqL K H p xs ∨ SqT K H p xs) ∧ flatV x = true ∧ xs.all flatV = true ∧ Q (.bl (if neg then !inV x xs else inV x xs)) H
theorem op_in_seq : OpR X (compareOp .In) (rIn X.K false) := by
  intro pins s σ H x y v u Q I rx ry h
  obtain ⟨p, xs, rfl, hq, fx, fs, q⟩ := h
  cases ry
  rcases hq with hq | hq
  · obtain ⟨its, r, pl, hz⟩ := I.list hq
    refine SeqAt.in_listAt (eqU x) pl.isList (fun w hw => mem_eqAt rx fx r fs w (by simpa using hw)) ⟨.bl _, H, I, rfl, ?_⟩
    rw [show its.toArray.any (eqU x) = its.any (eqU x) by simp, any_eqU r fs]
    exact q
  · obtain ⟨its, r, pl, hz⟩ := I.tuple hq
    refine SeqAt.in_tupleAt (eqU x) pl (fun w hw => mem_eqAt rx fx r fs w (by simpa using hw)) ⟨.bl _, H, I, rfl, ?_⟩
    rw [show its.toArray.any (eqU x) = its.any (eqU x) by simp, any_eqU r fs]
    exact q
theorem op_notIn_seq : OpR X (compareOp .NotIn) (rIn X.K true) := by
  intro pins s σ H x y v u Q I rx ry h
  obtain ⟨p, xs, rfl, hq, fx, fs, q⟩ := h
  cases ry
  rcases hq with hq | hq
  · obtain ⟨its, r, pl, hz⟩ := I.list hq
    refine SeqAt.notIn_listAt (eqU x) pl.isList (fun w hw => mem_eqAt rx fx r fs w (by simpa using hw)) ⟨.bl _, H, I, rfl, ?_⟩
    rw [show its.toArray.any (eqU x) = its.any (eqU x) by simp, any_eqU r fs]
    exact q
  · obtain ⟨its, r, pl, hz⟩ := I.tuple hq
    refine SeqAt.notIn_tupleAt (eqU x) pl (fun w hw => mem_eqAt rx fx r fs w (by simpa using hw)) ⟨.bl _, H, I, rfl, ?_⟩
    rw [show its.toArray.any (eqU x) = its.any (eqU x) by simp, any_eqU r fs]
    exact q
theorem call_list_of : CallR X (.type "list") (fun xs H Q => ∃ p ys, xs = [.ref p] ∧ (SqL X.K H p ys ∨ SqT X.K H p ys) ∧ ∀ l, H l = none → Q (.ref l) (upd H l (.lst ys))) := by
  intro pins s σ H xs us Q I r h
  obtain ⟨p, ys, rfl, hq, q⟩ := h
  obtain ⟨u, rfl, rx⟩ := vals1 r
  cases rx
  have fin : ∀ (its : List Value), Vals ys its → ys.length ≤ sizeLine → ∀ (h' : Heap) (c' : Nat), (∀ b o', s.heap.get? b = some o' → h'.get? b = some o') →
      h'.get? s.heap.objs.size = some { cls := .type "list", dict := none, data := .seq its.toArray c', slots := #[] } → EP X pins σ Q (.ref s.heap.objs.size) { s with heap := h' } := fun its r' hz h' c' kp e =>
    ⟨.ref s.heap.objs.size, _, I.laid (t' := s.toks) kp (Nat.le_refl _) (show ObjOk X.prog X.w _ h' _ (.lst ys) from ⟨hz, its, c', r', e⟩), rfl, q _ (I.hok.fresh (Nat.le_refl _))⟩
  rcases hq with hq | hq
  · obtain ⟨its, r', pl, hz⟩ := I.list hq
    have hlen := r'.length
    obtain ⟨o, ho, hc, n, hd⟩ := pl.isList
    exact call_list_seq p (.inl rfl) ho hc hd (fun h' c' kp e => fin its r' hz h' c' kp e) (by simp only [List.size_toArray] <;> omega)
  · obtain ⟨its, r', pl, hz⟩ := I.tuple hq
    have hlen := r'.length
    obtain ⟨o, ho, hc, n, hd⟩ := pl
    exact call_list_seq p (.inr rfl) ho hc hd (fun h' c' kp e => fin its r' hz h' c' kp e) (by simp only [List.size_toArray] <;> omega)
theorem call_tuple_of : CallR X (.type "tuple") (fun xs H Q => ∃ p ys, xs = [.ref p] ∧ ((SqL X.K H p ys ∧ ∀ l, H l = none → Q (.ref l) (upd H l (.tup ys))) ∨ (SqT X.K H p ys ∧ Q (.ref p) H))) := by
  intro pins s σ H xs us Q I r h
  obtain ⟨p, ys, rfl, h⟩ := h
  obtain ⟨u, rfl, rx⟩ := vals1 r
  cases rx
  rcases h with ⟨hq, q⟩ | ⟨hq, q⟩
  · obtain ⟨its, r', pl, hz⟩ := I.list hq
    have hlen := r'.length
    refine call_tuple_list pl.isList (fun h' kp => ?_) (by simp only [List.size_toArray] <;> omega)
    have I1 : Inv X pins σ H { s with heap := h' } := I.kept (t' := s.toks) kp
    have I2 : Inv X pins σ (upd H h'.objs.size (.tup ys)) { s with heap := h'.push { cls := .type "tuple", data := .seq its.toArray } } :=
      I1.laid (t' := s.toks) (fun b o e => Heap.get?_push_of_some _ e) (Nat.le_refl _) (show ObjOk X.prog X.w _ _ _ (.tup ys) from ⟨⟨hz, NoDct.new rfl rfl⟩, its, r', IsTup.new _ _⟩)
    exact ⟨.ref h'.objs.size, _, I2, rfl, q _ (I1.hok.fresh (Nat.le_refl _))⟩
  · obtain ⟨its, r', pl, hz⟩ := I.tuple hq
    exact call_tuple_same pl ⟨.ref p, H, I, rfl, q⟩
def tyV (K : PySem.W.Frag) (T : String) (x : V) (H : Hp) : Prop := match x with
  | .str _ => T = "str"
  | .int _ => T = "int"
  | .ref p => (T = "list" ∧ ∃ xs, SqL K H p xs) ∨ (T = "tuple" ∧ ∃ o, K.lookup p = some o ∧ o.cls = .type "tuple" ∧ o.dict = none) ∨
      (T = "dict" ∧ ((∃ kvs, H p = some (.dK kvs)) ∨ ∃ kvs, H p = some (.dT kvs))) ∨ (T = "set" ∧ ∃ S n, H p = some (.set S n))
  | _ => False
theorem tyV_is {pins : List (Addr × Obj)} {σ : St} {H : Hp} {s : Shared} {T : String} {x : V} {v : Value} (I : Inv X pins σ H s) (r : RelV x v) (ty : tyV X.K T x H) :
    s.TypeIs v T ∧ ∀ a, v = .ref a → ∃ ob, s.heap.get? a = some ob ∧ ob.dict = none := by
  cases x with
  | str z =>
    obtain ⟨t, rfl⟩ := r
    cases (show T = "str" from ty)
    exact ⟨typeIs_str s z t, fun _ e => nomatch e⟩
  | int i =>
    obtain ⟨t, rfl⟩ := r
    cases (show T = "int" from ty)
    exact ⟨typeIs_int s i t, fun _ e => nomatch e⟩
  | ref p =>
    cases r
    rcases ty with ⟨rfl, xs, hq⟩ | ⟨rfl, o, hk, hc, hd⟩ | ⟨rfl, hk⟩ | ⟨rfl, S, n, hk⟩
    · obtain ⟨its, _, pl, _⟩ := I.list hq
      refine ⟨pl.isList.typeIs, fun a e => ?_⟩
      cases e
      obtain ⟨o, n, e, c, hd, _⟩ := pl
      exact ⟨o, e, hd⟩
    · refine ⟨⟨o, I.kIn p o hk, hc⟩, fun a e => ?_⟩
      cases e
      exact ⟨o, I.kIn _ o hk, hd⟩
    · have z : ∃ o, s.heap.get? p = some o ∧ o.ExactDict := by
        rcases hk with ⟨kvs, hk⟩ | ⟨kvs, hk⟩
        · obtain ⟨_, _, _, _, o, _, _, e, ex, _⟩ := I.hok p _ hk
          exact ⟨o, e, ex⟩
        · obtain ⟨_, _, _, _, o, _, _, e, ex, _⟩ := I.hok p _ hk
          exact ⟨o, e, ex⟩
      obtain ⟨o, e, ex⟩ := z
      refine ⟨⟨o, e, ex.1⟩, fun a e2 => ?_⟩
      cases e2
      exact ⟨o, e, ex.2.1⟩
    · obtain ⟨o, _, _, _, e, ex, _⟩ := I.hok p _ hk
      refine ⟨⟨o, e, ex.1⟩, fun a e2 => ?_⟩
      cases e2
      exact ⟨o, e, ex.2.1⟩
  | _ => exact False.elim ty
def tBM0 (K : PySem.W.Frag) (T : String) (r : V → List V → Hp → VK → Prop) (to : TE) : TE := fun σ H Q => to σ H fun x H1 => tyV K T x H1 ∧ r x [] H1 Q
def tBM (K : PySem.W.Frag) (T : String) (r : V → List V → Hp → VK → Prop) (to : TE) (t : TA) : TE := fun σ H Q => to σ H fun x H1 => tyV K T x H1 ∧ t σ H1 fun xs H2 => r x xs H2 Q
variable {o e : Expr} {es : List Expr} {to : TE} {t : TA} {name : Str} {apos cpos : Pos} {T id : String} {r : V → List V → Hp → VK → Prop}
theorem pe_bm0 (pa : PlainAttrs T) (slot : Slot T name id) (hty : typeOf (.builtin id) = pure (.type "method_descriptor")) (hm : MtR X id r) (ho : PE X o to)
    (hbase : attributeBase o name X.env (eval o X.env) = eval o X.env := by rfl) (hline : (apos.endLine == cpos.line) = true := by rfl) : PE X (.Call (.Attribute o name apos) [] [] cpos) (tBM0 X.K T r to) := by
  intro pins s σ H Q I h
  refine wpAny_Call_method0_late hbase hline (thn (ho pins s σ H _ I h) ?_)
  rintro v s1 ⟨x, H1, I1, r1, ty, q1⟩
  obtain ⟨h1, h2⟩ := tyV_is I1 r1 ty
  exact ⟨T, id, pa, slot, hty, h1, h2, Calls.callWith_builtin rfl (PySem.evalArgs_none (hm pins s1 σ H1 x [] v [] Q I1 r1 .nil q1))⟩
theorem pe_bm (pa : PlainAttrs T) (slot : Slot T name id) (hty : typeOf (.builtin id) = pure (.type "method_descriptor")) (hm : MtR X id r) (ho : PE X o to) (ha : PA X (e :: es) t)
    (hbase : attributeBase o name X.env (eval o X.env) = eval o X.env := by rfl)
    (hfew : ((backTo cpos (starEach (e :: es) X.env)).all (fun x => !x.1) && (backToKw cpos (keywordEach [] X.env)).all (fun x => x.1.isSome)
      && decide ((e :: es).length + ([] : List Keyword).length + (if ([] : List Keyword).isEmpty then 0 else 1) < 30)) = true := by rfl)
    (hline : (apos.endLine == cpos.line) = true := by rfl) (hs : starEach (e :: es) X.env = (false, eval e X.env) :: starEach es X.env := by rfl) (hplain : (backTo cpos (starEach es X.env)).any (·.1) = false := by rfl) :
    PE X (.Call (.Attribute o name apos) (e :: es) [] cpos) (tBM X.K T r to t) := by
  intro pins s σ H Q I h
  refine wpAny_Call_method_late hbase hfew hline rfl (thn (ho pins s σ H _ I h) ?_)
  rintro v s1 ⟨x, H1, I1, r1, ty, q1⟩
  obtain ⟨h1, h2⟩ := tyV_is I1 r1 ty
  refine ⟨T, id, pa, slot, hty, h1, h2, ?_⟩
  have hA := ha cpos pins s1 σ H1 _ I1 q1
  rw [hs] at hA ⊢
  refine Calls.callWith_builtin (by show (false || (backTo cpos (starEach es X.env)).any (·.1)) = false; rw [hplain] <;> rfl) (Calls.evalArgs_plain ?_)
  exact thn hA fun us s2 ⟨vs, H2, I2, r2, q2⟩ => hm pins s2 σ H2 x vs v us Q I2 r1 r2 q2
/- xs.append(e), list.index on a module's tuple .. are MtR facts of 06m -/
end
end L2
namespace L2
open PySem PySem.Spec PyProof.Rows
def MtM (X : Cx) (id : String) (r : V → List V → Hp → VK → Prop) : Prop :=
  ∀ (pins : List (Addr × Obj)) (s : Shared) (σ : St) (H : Hp) (x : V) (xs : List V) (v : Value) (us : List Value) (Q : VK), Inv X pins σ H s → RelV x v → Vals xs us → r x xs H Q →
    wpAny (model X.prog X.w) X.A (call (.builtin id) (v :: us)) (EP X pins σ Q) X.xe s
theorem Vals.one : ∀ {x : V} {us : List Value}, Vals [x] us → ∃ u, us = [u] ∧ RelV x u
  | _, _, .cons r .nil => ⟨_, rfl, r⟩
theorem len1 {α : Type} {l : List α} (h : l.length = 1) : ∃ a, l = [a] := List.length_eq_one_iff.mp h
theorem len2 {α : Type} {l : List α} (h : l.length = 2) : ∃ a b, l = [a, b] := by
  match l, h with
  | [a, b], _ => exact ⟨a, b, rfl⟩
theorem lenS {α : Type} {l : List α} (h : l.length ≠ 0) : ∃ a t, l = a :: t := by
  match l, h with
  | a :: t, _ => exact ⟨a, t, rfl⟩
theorem Vals.two {x y : V} {us : List Value} (h : Vals [x, y] us) : ∃ u v, us = [u, v] ∧ RelV x u ∧ RelV y v := by
  cases h with
  | cons r t =>
    cases t with
    | cons q t2 =>
      cases t2
      exact ⟨_, _, rfl, r, q⟩
theorem Vals.eraseIdx : ∀ {xs : List V} {us : List Value} (i : Nat), Vals xs us → Vals (xs.eraseIdx i) (us.eraseIdx i)
  | _, _, _, .nil => .nil
  | _, _, 0, .cons _ t => t
  | _, _, i + 1, .cons r t => .cons r (Vals.eraseIdx i t)
theorem Vals.rep {xs : List V} {us : List Value} (h : Vals xs us) : ∀ k : Nat, Vals (List.replicate k xs).flatten (List.replicate k us).flatten
  | 0 => .nil
  | k + 1 => by
    rw [List.replicate_succ, List.replicate_succ, List.flatten_cons, List.flatten_cons]
    exact Vals.append h (Vals.rep h k)
theorem len_erase {α : Type} : ∀ (l : List α) (i : Nat), (l.eraseIdx i).length ≤ l.length
  | [], _ => Nat.le_refl _
  | _ :: _, 0 => Nat.le_succ _
  | _ :: r, i + 1 => Nat.succ_le_succ (len_erase r i)
theorem foldl_rep (its : List Value) : ∀ (k : Nat) (acc : List Value),
    List.foldl (fun x1 x2 => x1 ++ x2) acc.toArray (List.replicate k its.toArray) = (acc ++ (List.replicate k its).flatten).toArray
  | 0, acc => by simp
  | k + 1, acc => by
    have e : acc.toArray ++ its.toArray = (acc ++ its).toArray := by simp
    have e2 : (acc ++ its) ++ (List.replicate k its).flatten = acc ++ (List.replicate (k + 1) its).flatten := by
      rw [List.replicate_succ, List.flatten_cons, List.append_assoc]
    rw [← e2, ← foldl_rep its k (acc ++ its), ← e, List.replicate_succ, List.foldl_cons]
section
variable {X : Cx} {pins : List (Addr × Obj)} {σ : St} {H : Hp} {s : Shared} {l b : Addr} {xs ys zs : List V}
theorem Inv.lset {its its' : List Value} {n : Nat} {f : Array Value → Array Value} {t' : Nat} (I : Inv X pins σ H s) (hH : H l = some (.lst xs))
    (e : s.heap.get? l = some { cls := .type "list", data := .seq its.toArray n }) (hf : f its.toArray = its'.toArray) (hv : Vals ys its') (hz : ys.length ≤ sizeLine) :
    Inv X pins σ (upd H l (.lst ys)) { s with heap := s.heap.update l (Obj.mapSeq f), toks := t' } := by
  have q := PySem.IsL.update e f
  rw [hf] at q
  refine I.write (x := l) (e := l) (by rw [hH]; exact trivial) (.inl rfl) (fun b' u hb hu => (Heap.get?_update_other s.heap (Obj.mapSeq f) (Ne.symm hb)).trans hu) ⟨_, q⟩ ?_
  exact ⟨hz, its', _, hv, q⟩
theorem Inv.lnew {its : List Value} {t' : Nat} (I : Inv X pins σ H s) (hv : Vals ys its) (hz : ys.length ≤ sizeLine) :
    Inv X pins σ (upd H s.heap.objs.size (.lst ys)) { s with heap := s.heap.push { cls := .type "list", data := .seq its.toArray }, toks := t' } :=
  I.laid (fun _ _ q => Heap.get?_push_of_some _ q) (Nat.le_refl _) ⟨hz, its, 0, hv, Heap.get?_push_size _ rfl⟩
theorem Inv.fresh (I : Inv X pins σ H s) : H s.heap.objs.size = none := I.hok.fresh (Nat.le_refl _)
theorem Inv.lstM (I : Inv X pins σ H s) (hH : H l = some (.lst xs)) : xs.length ≤ sizeLine ∧ ∃ (its : List Value) (n : Nat), Vals xs its ∧ xs.length = its.length ∧ s.heap.get? l = some { cls := .type "list", data := .seq its.toArray n } := by
  obtain ⟨z, its, n, r, e⟩ := I.hok l _ hH
  exact ⟨z, its, n, r, r.length, e⟩
theorem notLongL {n : Nat} (h : n ≤ sizeLine) : Builtin.List.listTooLong n = false := by
  unfold Builtin.List.listTooLong
  exact decide_eq_false (by omega)
end
section
variable {X : Cx}
def rAppend : V → List V → Hp → VK → Prop := fun x vs H Q => ∃ l xs y, x = .ref l ∧ vs = [y] ∧ H l = some (.lst xs) ∧ xs.length < sizeLine ∧ Q .non (upd H l (.lst (xs ++ [y])))
theorem mt_append : MtM X "list.append" rAppend := by
  intro pins s σ H x vs v us Q I rx rv h
  obtain ⟨l, xs, y, rfl, rfl, hH, hz, q⟩ := h
  cases rx
  obtain ⟨u, rfl, ru⟩ := rv.one
  obtain ⟨z, its, n, r, hl, e⟩ := I.lstM hH
  refine call_meets F.slot_list_append ⟨_, e, rfl⟩ F.entry_list_append (F.args_list_append_2 _ _) (PySem.list_append l its.toArray n u (by rw [List.size_toArray]; omega)) ⟨e, ?_⟩
  refine ⟨.non, _, I.lset (its' := its ++ [u]) hH e (by simp) (r.append (.cons ru .nil)) ?_, rfl, q⟩
  rw [List.length_append, List.length_singleton]
  omega
def rPopAt : V → List V → Hp → VK → Prop := fun x vs H Q => ∃ l xs i k y, x = .ref l ∧ vs = [.int i] ∧ H l = some (.lst xs) ∧ -(2 ^ 63) ≤ i ∧ i < 2 ^ 63 ∧ seqIndex? i xs.length = some k ∧ xs[k]? = some y ∧ Q y (upd H l (.lst (xs.eraseIdx k)))
theorem mt_popAt : MtM X "list.pop" rPopAt := by
  intro pins s σ H x vs v us Q I rx rv h
  obtain ⟨l, xs, i, k, y, rfl, rfl, hH, h1, h2, hk, hy, q⟩ := h
  cases rx
  obtain ⟨u, rfl, ru⟩ := rv.one
  obtain ⟨t, rfl⟩ := ru
  obtain ⟨z, its, n, r, hl, e⟩ := I.lstM hH
  obtain ⟨w, hw, rw'⟩ := r.get hy
  refine call_meets F.slot_list_pop ⟨_, e, rfl⟩ F.entry_list_pop (F.args_list_pop_2 _ _)
    (MeetsSeq.list_pop_at l its.toArray n i t k w (fitsIndex_both h1 h2) (by rw [List.size_toArray, ← hl]; exact hk) (by rw [← Array.getElem?_toList]; exact hw) (by rw [List.size_toArray]; omega)) ⟨e, ?_⟩
  refine ⟨y, _, I.lset (its' := its.eraseIdx k) hH e ?_ (r.eraseIdx k) ?_, rw', q⟩
  · show its.toArray.eraseIdxIfInBounds k = (its.eraseIdx k).toArray
    rw [List.eraseIdxIfInBounds_toArray]
  · have := len_erase xs k
    omega
def rCat : R2 := fun x y H Q => ∃ l b xs zs, x = .ref l ∧ y = .ref b ∧ H l = some (.lst xs) ∧ H b = some (.lst zs) ∧ xs.length + zs.length ≤ sizeLine ∧ ∀ p, H p = none → Q (.ref p) (upd H p (.lst (xs ++ zs)))
theorem op_cat : OpR X (binaryOp .Add) rCat := by
  intro pins s σ H x y v u Q I rx ry h
  obtain ⟨l, b, xs, zs, rfl, rfl, hH, hB, hz, q⟩ := h
  cases rx
  cases ry
  obtain ⟨z, its, n, r, hl, e⟩ := I.lstM hH
  obtain ⟨z2, its2, n2, r2, hl2, e2⟩ := I.lstM hB
  refine PySem.P.add_list e e2 ?_ (by rw [List.size_toArray, List.size_toArray]; omega)
  have ea : its.toArray ++ its2.toArray = (its ++ its2).toArray := by simp
  rw [ea]
  exact ⟨.ref _, _, I.lnew (t' := s.toks) (r.append r2) (by rw [List.length_append]; omega), rfl, q _ I.fresh⟩
def rRep : R2 := fun x y H Q => ∃ l k xs, x = .ref l ∧ y = .int k ∧ H l = some (.lst xs) ∧ -(2 ^ 63) ≤ k ∧ k < 2 ^ 63 ∧ xs.length * k.toNat ≤ sizeLine ∧
  ∀ p, H p = none → Q (.ref p) (upd H p (.lst (List.replicate k.toNat xs).flatten))
theorem len_rep {α : Type} (xs : List α) (k : Nat) : (List.replicate k xs).flatten.length = k * xs.length := by
  induction k with
  | zero => simp
  | succ k ih => rw [List.replicate_succ, List.flatten_cons, List.length_append, ih, Nat.succ_mul, Nat.add_comm]
theorem op_rep : OpR X (binaryOp .Mult) rRep := by
  intro pins s σ H x y v u Q I rx ry h
  obtain ⟨l, k, xs, rfl, rfl, hH, h1, h2, hz, q⟩ := h
  cases rx
  obtain ⟨t, rfl⟩ := ry
  obtain ⟨z, its, n, r, hl, e⟩ := I.lstM hH
  have hlen : its.toArray.size * k.toNat ≤ sizeLine := by rw [List.size_toArray, ← hl]; exact hz
  have hcap : ¬ its.toArray.size * k.toNat > (2 ^ 63 - 1) / 8 := by
    have : (sizeLine : Nat) ≤ (2 ^ 63 - 1) / 8 := by decide
    omega
  have hfit : ¬ (!Builtin.List.listFitsIndex k) = true := by
    rw [fitsIndex_both h1 h2]
    exact Bool.false_ne_true
  have hlong : ¬ Builtin.List.listTooLong (its.toArray.size * k.toNat) = true := by
    rw [notLongL hlen]
    exact Bool.false_ne_true
  have hnew : List.foldl (fun x1 x2 => x1 ++ x2) #[] (List.replicate (if its.toArray.isEmpty = true then 0 else k.toNat) its.toArray) = (List.replicate k.toNat its).flatten.toArray := by
    have f0 : ∀ m : Nat, List.foldl (fun x1 x2 => x1 ++ x2) #[] (List.replicate m its.toArray) = (List.replicate m its).flatten.toArray := fun m => by
      have := foldl_rep its m []
      rw [List.nil_append] at this
      exact this
    rw [f0]
    cases its with
    | nil => simp
    | cons a r' => rw [if_neg (by simp)]
  refine wpAny_binaryOp_repeat_ref (T := "list") (U := "int") (by decide) ⟨_, e, rfl⟩ (fun s' => typeIs_int s' k t) noFill_list_mul F.fills_int_mul F.slot_int_rmul repeat_list F.slot_int_index.lookup
    (call_meets F.slot_int_rmul (typeIs_int s k t) F.entry_int_rmul (F.args_int_rmul_2 _ _) (int___rmul___int_list k t l its.toArray n)
      ⟨e, rfl, ⟨_, e, rfl⟩, call_meets F.slot_list_mul ⟨_, e, rfl⟩ F.entry_list_mul (F.args_list_mul_2 _ _) (AutoListH.list___mul___list_int_3 l its.toArray n k t hfit hcap hlong) ⟨e, ?_⟩⟩)
  rw [hnew]
  exact ⟨.ref _, _, I.lnew (t' := s.toks) (r.rep k.toNat) (by rw [len_rep, Nat.mul_comm]; exact hz), rfl, q _ I.fresh⟩
end
section
variable {prog : Program} {w : World} {A : Around} {E : Value → Shared → Prop} {s : Shared}
end
section
variable {X : Cx}
end
end L2
namespace L2
open PySem PySem.Spec PyProof.Rows
section
variable {κ : Type} [DecidableEq κ]
def valV (kvs : List (κ × V)) (k : κ) : Option V := (kvs.find? fun kv => decide (kv.1 = k)).map (·.2)
def putK (kvs : List (κ × V)) (k : κ) (v : V) : List (κ × V) :=
  if (kvs.any fun kv => decide (kv.1 = k)) = true then kvs.map (fun kv => if kv.1 = k then (kv.1, v) else kv) else kvs ++ [(k, v)]
theorem valV_pos {p : κ × V} {r : List (κ × V)} {k : κ} (e : p.1 = k) : valV (p :: r) k = some p.2 := by simp [valV, List.find?_cons, e]
theorem valV_neg {p : κ × V} {r : List (κ × V)} {k : κ} (e : ¬ p.1 = k) : valV (p :: r) k = valV r k := by simp [valV, List.find?_cons, e]
theorem valV_any (k : κ) : ∀ kvs : List (κ × V), (kvs.any fun kv => decide (kv.1 = k)) = (valV kvs k).isSome
  | [] => rfl
  | p :: r => by
    rw [List.any_cons]
    by_cases e : p.1 = k
    · simp only [valV_pos e, decide_eq_true e, Bool.true_or, Option.isSome_some]
    · rw [valV_neg e, decide_eq_false e, Bool.false_or]; exact valV_any k r
theorem valV_map (k j : κ) (y : V) : ∀ kvs : List (κ × V), valV (kvs.map fun kv => if kv.1 = k then (kv.1, y) else kv) j = (valV kvs j).map fun x => if j = k then y else x
  | [] => rfl
  | p :: r => by
    have ih := valV_map k j y r
    rw [List.map_cons]
    by_cases h : p.1 = k
    · rw [if_pos h]
      by_cases e : p.1 = j
      · rw [valV_pos (p := (p.1, y)) e, valV_pos e, Option.map_some, if_pos (e.symm.trans h)]
      · rw [valV_neg (p := (p.1, y)) e, valV_neg e, ih]
    · rw [if_neg h]
      by_cases e : p.1 = j
      · rw [valV_pos (p := p) e, valV_pos e, Option.map_some, if_neg (fun z => h (e.trans z))]
      · rw [valV_neg (p := p) e, valV_neg e, ih]
theorem valV_snoc (k j : κ) (y : V) : ∀ kvs : List (κ × V), valV kvs k = none → valV (kvs ++ [(k, y)]) j = if j = k then some y else valV kvs j
  | [], _ => by
    by_cases e : k = j
    · rw [if_pos e.symm]; exact valV_pos (p := (k, y)) e
    · rw [if_neg (fun z => e z.symm)]; exact valV_neg (p := (k, y)) e
  | p :: r, hn => by
    rw [List.cons_append]
    have hk : ¬ p.1 = k := fun z => by rw [valV_pos z] at hn; cases hn
    rw [valV_neg hk] at hn
    have ih := valV_snoc k j y r hn
    by_cases e : p.1 = j
    · rw [valV_pos e, valV_pos e, if_neg (fun z => hk (e.trans z))]
    · rw [valV_neg e, valV_neg e, ih]
theorem valV_put (kvs : List (κ × V)) (k j : κ) (y : V) : valV (putK kvs k y) j = if j = k then some y else valV kvs j := by
  unfold putK
  by_cases a : (kvs.any fun kv => decide (kv.1 = k)) = true
  · rw [if_pos a, valV_map]
    rw [valV_any] at a
    by_cases e : j = k
    · obtain ⟨x, hx⟩ := Option.isSome_iff_exists.mp a
      rw [if_pos e, e, hx, Option.map_some, if_pos rfl]
    · rw [if_neg e]
      cases valV kvs j with
      | none => rfl
      | some x => rw [Option.map_some, if_neg e]
  · rw [if_neg a]
    refine valV_snoc k j y kvs ?_
    rw [valV_any] at a
    cases q : valV kvs k with
    | none => rfl
    | some x => rw [q] at a; exact (a rfl).elim
theorem length_putK (kvs : List (κ × V)) (k : κ) (v : V) : (putK kvs k v).length ≤ kvs.length + 1 := by
  unfold putK
  split
  · rw [List.length_map]; omega
  · rw [List.length_append, List.length_cons, List.length_nil]; omega
theorem putK_new {kvs : List (κ × V)} {k : κ} (v : V) (h : valV kvs k = none) : putK kvs k v = kvs ++ [(k, v)] := by
  unfold putK
  rw [valV_any, h]
  exact if_neg (by decide)
theorem RelO.isSome_eq {o : Option V} {u : Option Value} (r : RelO o u) : o.isSome = u.isSome := by
  cases o with
  | none => cases u with
    | none => rfl
    | some _ => exact (show False from r).elim
  | some _ => cases u with
    | none => exact (show False from r).elim
    | some _ => rfl
theorem RelO.getD {o : Option V} {u : Option Value} {d : V} {d' : Value} (r : RelO o u) (rd : RelV d d') : RelV (o.getD d) (u.getD d') := by
  cases o with
  | none => cases u with
    | none => exact rd
    | some _ => exact (show False from r).elim
  | some _ => cases u with
    | none => exact (show False from r).elim
    | some _ => exact r
theorem KV.val {kvs : List (κ × V)} {vs : List (κ × Value)} (r : KV kvs vs) (k : κ) : RelO (valV kvs k) (valueAt vs k) := by
  unfold KV at r
  induction r with
  | nil => exact True.intro
  | @cons p q ps qs h t ih =>
    obtain ⟨h1, h2⟩ := h
    by_cases e : p.1 = k
    · have e' : q.1 = k := h1.symm.trans e
      have b : valueAt (q :: qs) k = some q.2 := by simp [valueAt, List.find?_cons, e']
      rw [valV_pos e, b]; exact h2
    · have e' : ¬ q.1 = k := fun z => e (h1.trans z)
      have b : valueAt (q :: qs) k = valueAt qs k := by simp [valueAt, List.find?_cons, e']
      rw [valV_neg e, b]; exact ih
theorem KV.any {kvs : List (κ × V)} {vs : List (κ × Value)} (r : KV kvs vs) (k : κ) : (kvs.any fun kv => decide (kv.1 = k)) = vs.any fun kv => decide (kv.1 = k) := by
  unfold KV at r
  induction r with
  | nil => rfl
  | cons h t ih => rw [List.any_cons, List.any_cons, ih, h.1]
theorem KV.repl {kvs : List (κ × V)} {vs : List (κ × Value)} (r : KV kvs vs) (k : κ) {y : V} {u : Value} (ry : RelV y u) :
    KV (kvs.map fun kv => if kv.1 = k then (kv.1, y) else kv) (vs.map fun kv => if kv.1 = k then (kv.1, u) else kv) := by
  unfold KV at r ⊢
  induction r with
  | nil => exact .nil
  | @cons p q ps qs h t ih =>
    rw [List.map_cons, List.map_cons]
    refine .cons ?_ ih
    obtain ⟨h1, h2⟩ := h
    by_cases e : p.1 = k
    · rw [if_pos e, if_pos (h1.symm.trans e)]; exact ⟨h1, ry⟩
    · rw [if_neg e, if_neg (fun z => e (h1.trans z))]; exact ⟨h1, h2⟩
theorem KV.put {kvs : List (κ × V)} {vs : List (κ × Value)} (r : KV kvs vs) (k : κ) {y : V} {u : Value} (ry : RelV y u) : KV (putK kvs k y) (stored vs k u) := by
  unfold putK stored
  rw [r.any k]
  by_cases e : (vs.any fun kv => decide (kv.1 = k)) = true
  · rw [if_pos e, if_pos e]; exact r.repl k ry
  · rw [if_neg e, if_neg e]; exact Paired.snoc r ⟨rfl, ry⟩
theorem KV.length {kvs : List (κ × V)} {vs : List (κ × Value)} (r : KV kvs vs) : kvs.length = vs.length := Paired.length r
end
theorem kV_is {P : Program} {w : World} {k : Key} {u : Value} (r : RelV (kV k) u) : (mixKind P w).is k u = true := by
  cases k with
  | inl i => obtain ⟨t, e⟩ := (show ∃ t, u = Value.int i t from r); subst e; exact mixKind_int P w i t
  | inr x => obtain ⟨t, e⟩ := (show ∃ t, u = Value.str x t from r); subst e; exact mixKind_str P w x t
theorem items_are {P : Program} {w : World} : ∀ {ks : List Key} {us : List Value}, Vals (ks.map kV) us → ItemsAre (mixKind P w) ks us
  | [], _, r => by rw [List.map_nil] at r; cases r; exact .nil
  | k :: ks, _, r => by
    rw [List.map_cons] at r
    cases r with
    | cons h t => exact .cons (kV_is h) (items_are t)
abbrev KT (H : Hp) : List (List Key × V) → List (List Key × Addr × Value) → Prop := Paired fun p q => p.1 = q.1 ∧ RdT H q.2.1 (p.1.map kV) ∧ RelV p.2 q.2.2
theorem KT.val {H : Hp} {kvs : List (List Key × V)} {xs : List (List Key × Addr × Value)} (r : KT H kvs xs) (k : List Key) : RelO (valV kvs k) ((atKey xs k).map (·.2)) := by
  induction r with
  | nil => exact True.intro
  | @cons p q ps qs h t ih =>
    obtain ⟨h1, _, h2⟩ := h
    by_cases e : p.1 = k
    · have e' : q.1 = k := h1.symm.trans e
      have b : atKey (q :: qs) k = some q.2 := by simp [atKey, List.find?_cons, e']
      rw [valV_pos e, b]; exact h2
    · have e' : ¬ q.1 = k := fun z => e (h1.trans z)
      have b : atKey (q :: qs) k = atKey qs k := by simp [atKey, List.find?_cons, e']
      rw [valV_neg e, b]; exact ih
theorem KT.repl {H : Hp} {kvs : List (List Key × V)} {xs : List (List Key × Addr × Value)} (r : KT H kvs xs) (k : List Key) {y : V} {u : Value} (ry : RelV y u) :
    KT H (kvs.map fun kv => if kv.1 = k then (kv.1, y) else kv) (xs.map (putAt k u)) := by
  induction r with
  | nil => exact .nil
  | @cons p q ps qs h t ih =>
    rw [List.map_cons, List.map_cons]
    refine .cons ?_ ih
    obtain ⟨h1, h2, h3⟩ := h
    unfold putAt
    by_cases e : p.1 = k
    · rw [if_pos e, if_pos (h1.symm.trans e)]; exact ⟨h1, h2, ry⟩
    · rw [if_neg e, if_neg (fun z => e (h1.trans z))]; exact ⟨h1, h2, h3⟩
theorem KT.put {H : Hp} {kvs : List (List Key × V)} {xs : List (List Key × Addr × Value)} (r : KT H kvs xs) (k : List Key) {b : Addr} {y : V} {u : Value} (hb : RdT H b (k.map kV)) (ry : RelV y u) :
    KT H (putK kvs k y) (storedH xs k b u) := by
  have e : (kvs.any fun kv => decide (kv.1 = k)) = (atKey xs k).isSome := by
    rw [valV_any, (r.val k).isSome_eq, Option.isSome_map]
  unfold putK storedH
  rw [e]
  by_cases q : (atKey xs k).isSome = true
  · rw [if_pos q, if_pos q]; exact r.repl k ry
  · rw [if_neg q, if_neg q]; exact Paired.snoc r ⟨rfl, hb, ry⟩
theorem KT.keeps {H H' : Hp} {kvs : List (List Key × V)} {xs : List (List Key × Addr × Value)} (r : KT H kvs xs) (ht : ∀ b ys, RdT H b ys → RdT H' b ys) : KT H' kvs xs :=
  Paired.mapP r fun _ _ z => ⟨z.1, ht _ _ z.2.1, z.2.2⟩
section
variable {P : Program} {w : World} {H : Hp} {h : Heap} {a : Addr}
theorem rd_of {u : HO} (ok : HOk P w H h) (e : Rd H a u) : ObjOk P w H h a u := e.ok ok
theorem dk_rd {kvs : List (Key × V)} (ok : HOk P w H h) (e : Rd H a (.dK kvs)) : kvs.length ≤ sizeLine ∧ (a == sysModules) = false ∧ ∃ vs, KV kvs vs ∧ h.DictOf (mixKind P w) a vs :=
  show ObjOk P w H h a (.dK kvs) from rd_of ok e
theorem dk_of {kvs : List (Key × V)} (ok : HOk P w H h) (e : H a = some (.dK kvs)) : kvs.length ≤ sizeLine ∧ (a == sysModules) = false ∧ ∃ vs, KV kvs vs ∧ h.DictOf (mixKind P w) a vs := dk_rd ok (.inl e)
theorem key_of {ks : List Key} (ok : HOk P w H h) (e : RdT H a (ks.map kV)) : (tupleKind (mixKind P w)).is h ks a := by
  have qq : ObjOk P w H h a (.tup (ks.map kV)) := by
    rcases e with e | ⟨_, e⟩
    · exact ok a _ e
    · exact (ok a _ e).2
  obtain ⟨_, its, r, o, h1, h2, n, h3⟩ := qq
  exact ⟨o, its.toArray, n, h1, h2, h3, by simpa using items_are r⟩
theorem dt_rd {kvs : List (List Key × V)} (ok : HOk P w H h) (e : Rd H a (.dT kvs)) : kvs.length ≤ sizeLine ∧ (a == sysModules) = false ∧
    ∃ xs, KT H kvs xs ∧ h.DictOfH (tupleKind (mixKind P w)) a xs := by
  obtain ⟨z, y, xs, r, o, es, ep, h1, h2, h3, h4, h5⟩ := (show ObjOk P w H h a (.dT kvs) from rd_of ok e)
  refine ⟨z, y, xs, r, o, es, ep, h1, h2, h3, h4, fun x hx => ?_, h5⟩
  have all : ∀ {l : List (List Key × V)} {m : List (List Key × Addr × Value)}, KT H l m → ∀ x ∈ m, (tupleKind (mixKind P w)).is h x.1 x.2.1 := by
    intro l m q
    induction q with
    | nil => intro x hx; exact nomatch hx
    | @cons p q ps qs hq t ih =>
      intro x hx
      rcases List.mem_cons.mp hx with e | hx
      · subst e
        exact key_of ok (by rw [← hq.1]; exact hq.2.1)
      · exact ih x hx
  exact all r x hx
theorem dt_of {kvs : List (List Key × V)} (ok : HOk P w H h) (e : H a = some (.dT kvs)) : kvs.length ≤ sizeLine ∧ (a == sysModules) = false ∧
    ∃ xs, KT H kvs xs ∧ h.DictOfH (tupleKind (mixKind P w)) a xs := dt_rd ok (.inl e)
end
def DGet (H : Hp) (a : Addr) (y : V) (r : Option V) : Prop :=
  (∃ kvs k, Rd H a (.dK kvs) ∧ y = kV k ∧ r = valV kvs k) ∨ ∃ kvs k b, Rd H a (.dT kvs) ∧ y = .ref b ∧ RdT H b (k.map kV) ∧ r = valV kvs k
def DPut (H : Hp) (a : Addr) (y v : V) (H' : Hp) : Prop :=
  (∃ kvs k, H a = some (.dK kvs) ∧ y = kV k ∧ kvs.length < sizeLine ∧ H' = upd H a (.dK (putK kvs k v))) ∨
  ∃ kvs k b, H a = some (.dT kvs) ∧ y = .ref b ∧ RdT H b (k.map kV) ∧ kvs.length < sizeLine ∧ H' = upd H a (.dT (putK kvs k v))
theorem DGet.k {H : Hp} {a : Addr} {kvs : List (Key × V)} {k : Key} (e : H a = some (.dK kvs)) : DGet H a (kV k) (valV kvs k) := .inl ⟨kvs, k, .inl e, rfl, rfl⟩
theorem DPut.k {H : Hp} {a : Addr} {kvs : List (Key × V)} {k : Key} {v : V} (e : H a = some (.dK kvs)) (hl : kvs.length < sizeLine) : DPut H a (kV k) v (upd H a (.dK (putK kvs k v))) := .inl ⟨kvs, k, e, rfl, hl, rfl⟩
section
variable {X : Cx} {pins : List (Addr × Obj)} {σ : St} {H : Hp} {s : Shared} {a : Addr} {y v : V} {u r : Value} {o : Option V} {A : Around} {E : Value → Shared → Prop}
theorem Inv.big (I : Inv X pins σ H s) : sysModules < s.heap.objs.size := by
  have h : mainGlobals < s.heap.objs.size := (I.mod.glob.keeps I.bk).lt
  exact Nat.lt_trans (by decide) h
theorem d_getItem {Q : Value → Shared → Prop} (hu : A.units + 1 < cLine) (I : Inv X pins σ H s) (g : DGet H a y (some v)) (ry : RelV y u) (h : ∀ w' s', Inv X pins σ H s' → RelV v w' → Q w' s') :
    wpAny (model X.prog X.w) A (getItem (.ref a) u) Q E s := by
  rcases g with ⟨kvs, k, e, ey, l⟩ | ⟨kvs, k, b, e, ey, eb, l⟩
  · subst ey
    obtain ⟨z, hd, vs, rel, dd⟩ := dk_rd I.hok e
    obtain ⟨w', hw, rw'⟩ := RelO.some_of (v := v) (o := valueAt vs k) (by rw [l]; exact rel.val k)
    exact wpAny_getItem_of (kV_is ry) dd.mapOf hw (h w' _ (I.tok _) rw')
  · subst ey
    cases (show u = Value.ref b from ry)
    obtain ⟨z, hd, xs, rel, dd⟩ := dt_rd I.hok e
    obtain ⟨w', hw, rw'⟩ := RelO.some_of (v := v) (o := (atKey xs k).map (·.2)) (by rw [l]; exact rel.val k)
    obtain ⟨p, hp, hp2⟩ := Option.map_eq_some_iff.mp hw
    refine wpAny_getItem_heap (tupleKind_room_in1 hu) (key_of I.hok eb) dd hp ?_
    rw [hp2]
    exact h w' _ (I.tok _) rw'
theorem d_in {Q : Value → Shared → Prop} (hu : A.units + 1 < cLine) (I : Inv X pins σ H s) (g : DGet H a y o) (ry : RelV y u) (h : ∀ s', Inv X pins σ H s' → Q (.bool o.isSome) s') :
    wpAny (model X.prog X.w) A (compareOp .In u (.ref a)) Q E s := by
  rcases g with ⟨kvs, k, e, ey, l⟩ | ⟨kvs, k, b, e, ey, eb, l⟩
  · subst ey
    obtain ⟨z, hd, vs, rel, dd⟩ := dk_rd I.hok e
    refine wpAny_in_of (kV_is ry) hd dd.mapOf ?_
    rw [← (rel.val k).isSome_eq, ← l]
    exact h _ (I.tok _)
  · subst ey
    cases (show u = Value.ref b from ry)
    obtain ⟨z, hd, xs, rel, dd⟩ := dt_rd I.hok e
    refine wpAny_in_heap (tupleKind_room_in1 hu) (key_of I.hok eb) hd dd ?_
    have q := (rel.val k).isSome_eq
    rw [Option.isSome_map] at q
    rw [← q, ← l]
    exact h _ (I.tok _)
theorem d_write {h' : Heap} {t' : Nat} {ob : HO} (I : Inv X pins σ H s) (mu : Mut (H a)) (hs : Heap.SameBut a s.heap h') (he : ∃ q, h'.get? a = some q) (new : ObjOk X.prog X.w (upd H a ob) h' a ob) :
    Inv X pins σ (upd H a ob) { s with heap := h', toks := t' } :=
  I.write (x := a) (e := a) mu (.inl rfl) (fun b q hb z => (hs.2 b hb).trans z) he new
theorem dk_new {P : Program} {w : World} {H' : Hp} {h' : Heap} {kvs : List (Key × V)} {vs : List (Key × Value)} (z : kvs.length ≤ sizeLine) (hd : (a == sysModules) = false) (rel : KV kvs vs) (dd : h'.DictOf (mixKind P w) a vs) :
    ObjOk P w H' h' a (.dK kvs) := ⟨z, hd, vs, rel, dd⟩
theorem d_setItem {H' : Hp} {Q : Unit → Shared → Prop} (hu : A.units + 1 < cLine) (I : Inv X pins σ H s) (g : DPut H a y v H') (ry : RelV y u) (rv : RelV v r) (h : ∀ s', Inv X pins σ H' s' → Q () s') :
    wpAny (model X.prog X.w) A (setItem (.ref a) u r) Q E s := by
  rcases g with ⟨kvs, k, e, ey, l, eH⟩ | ⟨kvs, k, b, e, ey, eb, l, eH⟩
  · subst ey eH
    obtain ⟨z, hd, vs, rel, dd⟩ := dk_of I.hok e
    have hz : vs.length ≤ sizeLine := by rw [← rel.length]; exact z
    have hl : (putK kvs k v).length ≤ sizeLine := by have := length_putK kvs k v; omega
    refine wpAny_setItem_pairs (hsz := hz) (kV_is ry) dd fun h' dd' hs => h _ ?_
    have he : ∃ q, h'.get? a = some q := let ⟨q, _, _, hq, _⟩ := dd'; ⟨q, hq⟩
    exact d_write I (by rw [e]; exact True.intro) hs he (dk_new hl hd (rel.put k rv) dd')
  · subst ey eH
    cases (show u = Value.ref b from ry)
    obtain ⟨z, hd, xs, rel, dd⟩ := dt_of I.hok e
    have hz : xs.length ≤ sizeLine := by rw [← Paired.length rel]; exact z
    have hl : (putK kvs k v).length ≤ sizeLine := by have := length_putK kvs k v; omega
    refine wpAny_setItem_heap (hsz := hz) (tupleKind_room_in1 hu) (key_of I.hok eb) dd fun h' dd' hs => h _ ?_
    obtain ⟨q, es, ep, hq, h2, h3, h4, _, h5⟩ := dd'
    refine d_write I (by rw [e]; exact True.intro) hs ⟨q, hq⟩ ⟨hl, hd, _, (rel.put k eb rv).keeps fun c ys ec => ?_, q, es, ep, hq, h2, h3, h4, h5⟩
    refine ec.upd fun u hu z => ?_
    subst z
    rcases ec with ec | ⟨_, ec⟩ <;> (rw [e] at ec; cases ec)
end
section
variable {X : Cx} {pins : List (Addr × Obj)} {σ : St} {H : Hp} {s : Shared} {a : Addr} {kvs : List (Key × V)} {k : Key} {u : Value} {A : Around} {E : Value → Shared → Prop}
theorem d_len {Q : Value → Shared → Prop} (I : Inv X pins σ H s) (e : Rd H a (.dK kvs)) (h : ∀ t s', Inv X pins σ H s' → Q (.int kvs.length t) s') : wpAny (model X.prog X.w) A (call (.builtin "len") [.ref a]) Q E s := by
  obtain ⟨z, hd, vs, rel, dd⟩ := dk_rd I.hok e
  refine call_len_dict hd dd (by rw [← rel.length]; rw [sizeLine_eq] at z; omega) ?_
  rw [← rel.length]
  exact h _ _ (I.tok _)
end
def NoSl (i : Expr) : Prop := ∀ ov iv, subscripted i false ov iv = operate [ov, iv] (getItem ov iv)
theorem subD_of {prog : Program} {w : World} {A : Around} {E : Value → Shared → Prop} {s : Shared} {env : Env} {value slice : Expr} {pos : Pos} {T id : String} {Q : Value → Shared → Prop}
    (hl : typeLookup (.type T) "__getitem__" = pure (some (.builtin id))) (hs : NoSl slice)
    (h : wpAny (model prog w) A (eval value env) (fun o s₁ => wpAny (model prog w) A (eval slice env) (fun i s₂ => s₂.TypeIs o T ∧ wpAny (model prog w) A (getItem o i) Q E s₂) E s₁) E s) :
    wpAny (model prog w) A (eval (.Subscript value slice pos) env) Q E s := by
  refine Subscript_ (wpAny_mono h (fun o s₁ h₁ => wpAny_mono h₁ (fun i s₂ h₂ => ?_) fun _ _ x => x) fun _ _ x => x)
  obtain ⟨hT, h₂⟩ := h₂
  unfold subscriptTail
  refine wpAny_bind ?_
  rw [getitemInPython_of_ne hT.not_modules]
  refine wpAny_bind (wpAny_specialOf hT hl ?_)
  have fin : wpAny (model prog w) A (subscripted slice false o i) (fun r s₃ => wpAny (model prog w) A (letTemporaryGo value o r >>= fun _ => pure r) Q E s₃) E s₂ := by
    rw [hs o i]
    exact wpAny_operating (wpAny_mono h₂ (fun r s₃ h₃ => wpAny_bind (wpAny_letTemporaryGo (wpAny_pure h₃))) fun _ _ x => x)
  first
    | exact wpAny_pure (wpAny_bind fin)
    | exact wpAny_bind (wpAny_pure (wpAny_bind fin))
    | exact wpAny_bind fin
theorem dict_typeIs {X : Cx} {pins : List (Addr × Obj)} {σ : St} {H : Hp} {s : Shared} {a : Addr} {y : V} {o : Option V} (I : Inv X pins σ H s) (g : DGet H a y o) : s.TypeIs (.ref a) "dict" := by
  rcases g with ⟨kvs, k, e, _, _⟩ | ⟨kvs, k, b, e, _, _, _⟩
  · obtain ⟨_, _, vs, _, dd⟩ := dk_rd I.hok e
    exact dd.typeIs
  · obtain ⟨_, _, xs, _, dd⟩ := dt_rd I.hok e
    exact dd.typeIs
def tDGet (td ty : TE) : TE := fun σ H Q => td σ H fun x H1 => ty σ H1 fun y H2 => ∃ a v, x = .ref a ∧ DGet H2 a y (some v) ∧ Q v H2
def sDPut (td ty tv : TE) : TS := fun D σ H => tv σ H fun v H1 => td σ H1 fun x H2 => ty σ H2 fun y H3 => ∃ a H4, x = .ref a ∧ DPut H3 a y v H4 ∧ D.nx σ H4
section
variable {X : Cx} {o i e value : Expr} {pos pos' tpos : Pos} {td ty tv : TE}
theorem pe_dget (hu : X.A.units + 1 < cLine) (ho : PE X o td) (hi : PE X i ty) (hs : NoSl i) : PE X (.Subscript o i pos) (tDGet td ty) := by
  intro pins s σ H Q I h
  refine subD_of PySem.F.slot_dict_getitem.lookup hs (thn (ho pins s σ H _ I h) fun u s1 ⟨x, H1, I1, rx, q1⟩ => thn (hi pins s1 σ H1 _ I1 q1) fun iv s2 ⟨y, H2, I2, ry, a, v, ex, g, q2⟩ => ?_)
  subst ex
  obtain rfl : u = Value.ref a := rx
  exact ⟨dict_typeIs I2 g, d_getItem hu I2 g ry fun w' s3 I3 rw' => ⟨v, H2, I3, rw', q2⟩⟩
theorem ps_dput (hu : X.A.units + 1 < cLine) (ho : PE X o td) (hi : PE X i ty) (hv : PE X value tv) (hs : swapsWith value (some (.Subscript o i pos')) pos.line X.env = pure false) :
    PS X (.Assign [.Subscript o i pos'] value pos) (sDPut td ty tv) := by
  intro pins s σ H D I h
  refine wpAny_Assign_Subscript (thn (hv pins s σ H _ I h) fun r s1 ⟨v, H1, I1, rv, q1⟩ => thn (ho pins s1 σ H1 _ I1 q1) fun u s2 ⟨x, H2, I2, rx, q2⟩ => thn (hi pins s2 σ H2 _ I2 q2) fun iv s3 ⟨y, H3, I3, ry, a, H4, ex, g, q3⟩ => ?_) hs
  subst ex
  obtain rfl : u = Value.ref a := rx
  exact d_setItem hu I3 g ry rv fun s4 I4 => ⟨σ, H4, I4, q3⟩
end
theorem dk_empty {P : Program} {w : World} {H : Hp} (h : Heap) (hb : sysModules < h.objs.size) : ObjOk P w H (h.push { cls := .type "dict", data := .dict #[] }) h.objs.size (.dK []) :=
  ⟨Nat.zero_le _, beq_eq_false_iff_ne.mpr (Ne.symm (Nat.ne_of_lt hb)), [], .nil, Heap.DictOf.new h⟩
def tDNewK : TE := fun _ H Q => ∀ p, H p = none → Q (.ref p) (upd H p (.dK []))
section
variable {X : Cx} {pos : Pos}
theorem pe_dnewK : PE X (.Dict [] [] pos) tDNewK := fun pins s σ H Q I h =>
  wpAny_Dict_empty ⟨.ref s.heap.objs.size, _, I.laid (a := s.heap.objs.size) (o := .dK []) (t' := s.toks) (fun _ _ q => Heap.get?_push_of_some _ q) (Nat.le_refl _) (dk_empty s.heap I.big), rfl, h _ (I.hok.fresh (Nat.le_refl _))⟩
end
def tPairs : List (TE × TE) → St → Hp → (List (V × V) → Hp → Prop) → Prop
  | [], _, H, Q => Q [] H
  | (tk, tv) :: r, σ, H, Q => tk σ H fun x H1 => tv σ H1 fun y H2 => tPairs r σ H2 fun ps H3 => Q ((x, y) :: ps) H3
abbrev VV : List (V × V) → List (Value × Value) → Prop := Paired fun p q => RelV p.1 q.1 ∧ RelV p.2 q.2
def PPs (X : Cx) (pos : Pos) (keys : List (Option Expr)) (values : List Expr) (trs : List (TE × TE)) : Prop :=
  ∀ (pins : List (Addr × Obj)) (s : Shared) (σ : St) (H : Hp) (Q : List (V × V) → Hp → Prop), Inv X pins σ H s → tPairs trs σ H Q →
    wpAny (model X.prog X.w) X.A (evalPairs (pairTrees keys values X.env pos)) (fun vs s' => ∃ ps H', Inv X pins σ H' s' ∧ VV ps vs ∧ Q ps H') X.xe s
theorem pps_nil {X : Cx} {pos : Pos} : PPs X pos [] [] [] := fun pins s σ H Q I h => pairTrees_nil_walk ⟨[], H, I, .nil, h⟩
theorem pps_cons {X : Cx} {pos : Pos} {k v : Expr} {ks : List (Option Expr)} {vs : List Expr} {tk tv : TE} {trs : List (TE × TE)} (hk : PE X k tk) (hv : PE X v tv) (hr : PPs X pos ks vs trs) :
    PPs X pos (some k :: ks) (v :: vs) ((tk, tv) :: trs) := fun pins s σ H Q I h =>
  pairTrees_cons_walk (thn (hk pins s σ H _ I h) fun u s1 ⟨x, H1, I1, rx, q1⟩ => thn (hv pins s1 σ H1 _ I1 q1) fun w2 s2 ⟨y, H2, I2, ry, q2⟩ =>
    thn (hr pins s2 σ H2 _ I2 q2) fun ws s3 ⟨ps, H3, I3, rel, q3⟩ => ⟨(x, y) :: ps, H3, I3, .cons ⟨rx, ry⟩ rel, q3⟩)
def mergeK (kvs more : List (Key × V)) : List (Key × V) := more.foldl (fun acc kv => putK acc kv.1 kv.2) kvs
theorem KV.merge : ∀ {more : List (Key × V)} {rs : List (Key × Value)} {kvs : List (Key × V)} {vs : List (Key × Value)}, KV more rs → KV kvs vs → KV (mergeK kvs more) (merged vs rs) := by
  intro more rs kvs vs r
  unfold KV at r
  induction r generalizing kvs vs with
  | nil => intro q; exact q
  | @cons p q ps qs h t ih =>
    intro r0
    have e : KV (putK kvs p.1 p.2) (stored vs q.1 q.2) := by
      have := r0.put p.1 h.2
      rw [← h.1]; exact this
    exact ih e
theorem length_mergeK : ∀ (more kvs : List (Key × V)), (mergeK kvs more).length ≤ kvs.length + more.length
  | [], kvs => by show kvs.length ≤ kvs.length + 0; omega
  | p :: r, kvs => by
    have h1 := length_mergeK r (putK kvs p.1 p.2)
    have h2 := length_putK kvs p.1 p.2
    show (mergeK (putK kvs p.1 p.2) r).length ≤ _
    rw [List.length_cons]; omega
theorem carries_of {P : Program} {w : World} : ∀ {kvs : List (Key × V)} {ws : List (Value × Value)}, VV (kvs.map fun kv => (kV kv.1, kv.2)) ws → ∃ rs, Carries (mixKind P w) ws rs ∧ KV kvs rs
  | [], _, r => by rw [List.map_nil] at r; cases r; exact ⟨[], True.intro, .nil⟩
  | p :: kvs, _, r => by
    rw [List.map_cons] at r
    cases r with
    | @cons a b as bs h t =>
      obtain ⟨rs, c, q⟩ := carries_of (P := P) (w := w) t
      obtain ⟨b1, b2⟩ := b
      exact ⟨(p.1, b2) :: rs, ⟨kV_is h.1, rfl, c⟩, .cons ⟨rfl, h.2⟩ q⟩
def tDisp (trs : List (TE × TE)) : TE := fun σ H Q => ∀ p, H p = none → tPairs trs σ (upd H p (.dK [])) fun ps H2 => H2 p = some (.dK []) ∧ ∃ kvs : List (Key × V), ps = kvs.map (fun kv => (kV kv.1, kv.2)) ∧ kvs.length ≤ 15 ∧ Q (.ref p) (upd H2 p (.dK (mergeK [] kvs)))
theorem pe_disp {X : Cx} {pos : Pos} {keys : List (Option Expr)} {values : List Expr} {trs : List (TE × TE)} (h : PPs X pos keys values trs) (hall : keys.all (·.isSome) = true) (hl : keys.length = values.length) (h0 : keys ≠ [])
    (h15 : keys.length ≤ 15) : PE X (.Dict keys values pos) (tDisp trs) := by
  intro pins s σ H Q I q
  have hn := I.hok.fresh (Nat.le_refl s.heap.objs.size)
  have I1 := I.laid (a := s.heap.objs.size) (o := .dK []) (h' := s.heap.push { cls := .type "dict", data := .dict #[] }) (t' := s.toks) (fun _ _ q => Heap.get?_push_of_some _ q) (Nat.le_refl _) (dk_empty s.heap I.big)
  refine wpAny_Dict_walk (knd := mixKind X.prog X.w) hall hl h0 h15 (thn (h pins _ σ _ _ I1 (q _ hn)) ?_)
  rintro ws s2 ⟨ps, H2, I2, rel, e, kvs, ep, lk, q2⟩
  subst ep
  obtain ⟨rs, c, rk⟩ := carries_of (P := X.prog) (w := X.w) rel
  obtain ⟨z, hd, vs0, r0, dd⟩ := dk_of I2.hok e
  cases r0
  refine ⟨rs, c, dd, fun h' dd' hs => ⟨.ref s.heap.objs.size, _, ?_, rfl, q2⟩⟩
  have hz : (mergeK [] kvs).length ≤ sizeLine := by
    have h1 := length_mergeK kvs []
    rw [List.length_nil] at h1
    rw [sizeLine_eq]; omega
  have he : ∃ q, h'.get? s.heap.objs.size = some q := let ⟨q, _, _, hq, _⟩ := dd'; ⟨q, hq⟩
  exact d_write I2 (by rw [e]; exact True.intro) hs he (dk_new hz hd (rk.merge .nil) dd')
section
variable {X : Cx} {pins : List (Addr × Obj)} {σ : St} {H : Hp} {s : Shared} {a : Addr} {y d : V} {u r : Value} {o : Option V} {A : Around} {E : Value → Shared → Prop}
end
section
variable {X : Cx} {o e f : Expr} {apos cpos : Pos} {td ty tx : TE}
end
section
variable {X : Cx} {pins : List (Addr × Obj)} {σ : St} {H : Hp} {s : Shared} {a : Addr} {kvs : List (Key × V)} {A : Around} {E : Value → Shared → Prop}
end
section
variable {X : Cx} {pins : List (Addr × Obj)} {σ : St} {H : Hp} {s : Shared} {a : Addr} {y : V} {u : Value} {A : Around} {E : Value → Shared → Prop}
end
end L2
namespace Att
open PySem PySem.W PySem.Calls PyProof.Rows
theorem ints_of_wellAll {P : Params} {h : Heap} : ∀ (ns : List Int) (vs : List Value), WellAll P h vs (ns.map WData.int) → IntsAre vs ns := by
  intro ns
  induction ns with
  | nil =>
    intro vs w
    rw [List.map_nil] at w
    cases w
    exact .nil
  | cons n ns ih =>
    intro vs w
    rw [List.map_cons] at w
    cases w with
    | cons a b =>
      cases a
      exact .cons _ _ (ih _ b)
theorem script_of {l : OpenLaw} {n : Nat} (hn : l.most = some n) {P : Params} {h : Heap} {args : List WData} {vals : List Value}
    (hpre : l.row.toRowW.claim.pre args = true) (hwl : WellAll P h vals args) :
    ∃ a vs ns, vals = [Value.ref a] ∧ args = [WData.list (ns.map WData.int)] ∧ h.get? a = some { cls := .type "list", data := .seq vs.toArray } ∧ IntsAre vs ns ∧ ns.length ≤ n := by
  have hsh : WShape.hasAll [] args [.list .int] = true := (pre_splitW hpre).1
  have hc : l.pre.holds [] { args := args } = true := (pre_splitW hpre).2
  obtain ⟨d, r, rfl, h1, h2⟩ := hasAllW_cons hsh
  obtain rfl := hasAllW_nil h2
  obtain ⟨xs, rfl, h3⟩ := hasW_list h1
  obtain ⟨ns, rfl⟩ := items_int h3
  have hlen : ns.length ≤ n := by
    unfold OpenLaw.pre at hc
    have h4 : (WTm.not (.lt (.lit (.int (n : Int))) (.len (.arg 0)))).holds [] { args := [.list (ns.map .int)] } = true := by
      have h4 := (holds_andW hc).1
      rw [hn] at h4
      exact h4
    have h5 := condW_of h4 (w_not (w_lt w_lit (w_len_list (w_arg rfl))))
    rw [List.length_map] at h5
    refine Nat.le_of_not_lt fun q => ?_
    have q' : (n : Int) < ((ns.length : Nat) : Int) := by omega
    first
      | (rw [decide_eq_true q'] at h5; exact absurd h5 (by decide))
      | (simp at h5; omega)
  cases hwl with
  | cons w1 w2 =>
    cases w2
    cases w1 with
    | list ho hall => exact ⟨_, _, ns, rfl, rfl, ho, ints_of_wellAll ns _ hall, hlen⟩
theorem post_true (l : OpenLaw) (args : List WData) : l.row.toRowW.claim.post args (.bool true) args = true :=
  postW_of (r := l.row.toRowW) (X := (true == true))
    (show WShape.has [] (.bool true) .bool = true by first | rfl | decide | simp [WShape.has, WShape.arms, WShape.armsAll])
    (show (WTm.eq .res (.lit (.bool true))).value [] { args := args, res := some (.bool true), after := args } = some (.bool (true == true)) from w_eq_bool (w_res rfl) w_lit) rfl
theorem attach_call {l : OpenLaw} {n : Nat} {q : Program} {loose : List Str} {XP : (Str → Option Value) → Heap → Prop} {YP : World → Heap → Prop} {d : DefRec}
    (hn : l.most = some n) (hdf : d.params.defaults = [])
    (call : ∀ (w : World) (s₀ s₁ : Shared) (mg mb : Str → Option Value) (fa : Addr) (o : Obj) (pm cd doc : Value) (a : Addr) (vs : List Value) (ns : List Int),
      Ground q loose [] XP w s₀ mg mb s₁.heap → YP w s₁.heap →
      s₁.heap.get? fa = some o → o.data = .func (docDef d.name d.params d.body d.scope pm cd doc) → s₁.heap.CodeRec cd d.name → mg d.name = some (.ref fa) →
      s₁.heap.get? a = some { cls := .type "list", data := .seq vs.toArray } → IntsAre vs ns → ns.length ≤ n → s₁.gens = #[] →
      codeAny (model l.prog w) callerA (.call (.ref fa) ⟨[.ref a], []⟩) (fun r s' => r = .ok (.ret (.bool true)) ∧ OldK s₁.heap s'.heap ∧ s'.os = s₁.os ∧ AllBare s'.gens) s₁) :
    WalkO q loose XP YP l.row.toRowW d [] (fun f vs => PySem.call f vs) := by
  intro w s₀ s₁ mg mb G Y fa o pm cd doc dV kV ho hd hcd hD hmg hg args vals as hpre hlay hrd hwl hlo
  obtain rfl : dV = .none := Dflts.none hD hdf
  obtain rfl : kV = .none := Dflts.noKw hD
  obtain ⟨a, vs, ns, rfl, rfl, hobj, hints, hlen⟩ := script_of hn hpre hwl
  refine enter_call (codeAny_mono (call w s₀ s₁ mg mb fa o pm cd doc a vs ns G Y ho (fd_plain hd) hcd hmg hobj hints hlen hg) fun r s' hq => ?_)
  obtain ⟨rfl, h2, h3, h4⟩ := hq
  exact ⟨.inl ⟨.bool true, .bool true, [], rfl, fun _ => rfl, .bool true, post_true l _, fun _ => ⟨List.Pairwise.nil, fun _ hm => (nomatch hm)⟩⟩, h2, h3, h4⟩
section
variable {prog : Program} {w : World} {A : Around} {E : Value → Shared → Prop} {s : Shared} {K : Frag}
end
end Att
namespace L2
open PySem PySem.Spec PyProof.Rows
theorem vals_ints : ∀ {vs : List Value} {ns : List Int}, IntsAre vs ns → Vals (ns.map V.int) vs
  | _, _, .nil => .nil
  | _, _, .cons n t h => .cons ⟨t, rfl⟩ (vals_ints h)
def Only (H : Hp) : Prop := ∀ b, H b = none ∨ ∃ o xs, H b = some (.frz o (.lst xs))
theorem law_call {P : Program} {w : World} {K : PySem.W.Frag} {mg mb : Str → Option Value} {CX : CXT} {k : Nat} {fa a : Addr} {fd : FuncData} {x : Str} {sp : Sp} {s₁ : Shared} {vs : List Value} {ns : List Int}
    (KX : K.In s₁.heap) (hns : s₁.heap.Ns mainGlobals mg) (hb : s₁.heap.Ns builtinsNs mb) (hbb : ∀ x : Str, x ≠ "__name__" → mb x = bootBuiltins x) (hlim : s₁.heap.NoLimit) (hg : s₁.gens = #[])
    (ha : s₁.heap.get? a = some { cls := .type "list", data := .seq vs.toArray }) (hi : IntsAre vs ns) (hl : ns.length ≤ sizeLine) (hr : Room k callerA)
    (F : ∀ base : Heap, K.In base → base.Ns mainGlobals mg → FnOk P w K mg base CX k fa fd [x] sp) (hbind : ∀ (s : Shared) (u : Value), BindsTo s fd ⟨[u], []⟩ [(x, u)])
    (hsp : ∀ H : Hp, Only H → SqL K H a (ns.map V.int) → sp [.ref a] H (fun v _ => v = .bl true) fun _ _ _ => False)
    (hCX : ∀ H e s', CX [] H s₁ (fun _ _ _ => False) e s' → False) :
    codeAny (model P w) callerA (.call (.ref fa) ⟨[.ref a], []⟩) (fun r s' => r = .ok (.ret (.bool true)) ∧ OldK s₁.heap s'.heap ∧ s'.os = s₁.os ∧ AllBare s'.gens) s₁ := by
  have rv := vals_ints hi
  have lenV := hi.length
  -- from an abstract heap in which nothing but the script may be tracked
  have core : ∀ H : Hp, Only H → SqL K H a (ns.map V.int) → HOk P w H s₁.heap → (∀ b, H b ≠ none → b = a) → (H a ≠ none → K.lookup a = none) →
      codeAny (model P w) callerA (.call (.ref fa) ⟨[.ref a], []⟩) (fun r s' => r = .ok (.ret (.bool true)) ∧ OldK s₁.heap s'.heap ∧ s'.os = s₁.os ∧ AllBare s'.gens) s₁ := by
    intro H hO hS hok hA hK
    have base_of : ∀ {b : Addr} {o : Obj}, s₁.heap.get? b = some o → H b = none → (hidT s₁.heap H).get? b = some o := fun e n => hidT_get e n
    have noA : ∀ {b : Addr} {o : Obj} {es : Array DictEntry} {ep : Nat}, s₁.heap.get? b = some o → o.data = .dict es ep → H b = none := fun {b o es ep} e d => by
      cases q : H b with
      | none => rfl
      | some u =>
        have e' : b = a := hA b (by rw [q]; simp)
        subst e'
        rw [ha] at e; cases e
        have d' : Data.seq vs.toArray _ = Data.dict es ep := d
        cases d'
    have nsK : ∀ {b : Addr} {m : Str → Option Value}, s₁.heap.Ns b m → (hidT s₁.heap H).Ns b m := fun {b m} ⟨o, es, ep, e, d, r⟩ => ⟨o, es, ep, base_of e (noA e d), d, r⟩
    have hKb : K.In (hidT s₁.heap H) := fun b o e => base_of (KX b o e) (by
      cases q : H b with
      | none => rfl
      | some u =>
        have e' : b = a := hA b (by rw [q]; simp)
        subst e'
        rw [hK (by rw [q]; simp)] at e; cases e)
    have hM : Mod K mg (hidT s₁.heap H) := ⟨hKb, nsK hns, ⟨mb, nsK hb, hbb⟩, let ⟨mc, h1, h2⟩ := hlim; ⟨mc, nsK h1, h2⟩⟩
    have e0 : Env0 P w K mg (hidT s₁.heap H) callerA [] s₁ H := ⟨rfl, hM, fun b o e => of_hidT e, Nat.le_of_eq (hidT_size _ _), trivial, fun b hb => absurd (show b ∈ ([] : List Addr) from hb) (by simp), hok, .of_eq hg⟩
    refine codeAny_mono ((F _ hKb (nsK hns)).run callerA [] s₁ H ⟨[.ref a], []⟩ [.ref a] [.ref a] _ _ hr e0 (hbind s₁ (.ref a)) (.cons rfl .nil) (hsp H hO hS)) fun r s' h => ?_
    cases r with
    | error e => exact (hCX H e s' h).elim
    | ok fl =>
      cases fl with
      | next => exact False.elim h
      | brk => exact False.elim h
      | cont => exact False.elim h
      | ret u =>
        obtain ⟨v, H', os, bare, un, hok', r', q⟩ := h
        have q' : v = .bl true := q
        subst q'
        obtain rfl : u = Value.bool true := r'
        refine ⟨rfl, OldK.of_keep fun b o e => ?_, os, bare⟩
        cases q : H b with
        | none => exact un.keep b o e q (by intro z; exact absurd (show b ∈ ([] : List Addr) from z) (by simp)) (by simp)
        | some u =>
          rcases hO b with z | ⟨ob, xs, z⟩
          · rw [q] at z; cases z
          · have z2 := un.frzs b ob _ z
            obtain ⟨e1, _⟩ := hok b _ z
            obtain ⟨e2, _⟩ := hok' b _ z2
            rw [e] at e1; cases e1
            exact e2
  cases hk : K.lookup a with
  | some o =>
    -- the script is one of the module's own objects
    have e := KX a o hk
    rw [ha] at e
    cases e
    refine core (fun _ => none) (fun _ => .inl rfl) (.inr ⟨_, vs.toArray, _, hk, rfl, rfl, rfl, by rw [List.size_toArray, lenV]; exact hl, by simpa using rv⟩) (fun b u z => by have z' : (none : Option HO) = some u := z; cases z') (fun b z => absurd rfl z) fun z => absurd rfl z
  | none =>
    refine core (fun b => if b = a then some (.frz { cls := .type "list", data := .seq vs.toArray } (.lst (ns.map V.int))) else none) (fun b => ?_) (.inl (.inr ⟨{ cls := .type "list", data := .seq vs.toArray }, if_pos rfl⟩)) (fun b u z => ?_) (fun b z => ?_) fun _ => hk
    · by_cases hb : b = a
      · exact .inr ⟨_, _, if_pos hb⟩
      · exact .inl (if_neg hb)
    · by_cases hb : b = a
      · have z' := (if_pos hb).symm.trans z
        cases z'
        subst hb
        exact ⟨ha, by rw [List.length_map]; exact hl, vs, _, rv, ha⟩
      · have z' := (if_neg hb).symm.trans z
        cases z'
    · by_cases hb : b = a
      · exact hb
      · exact absurd (if_neg hb) z
end L2
namespace L2
open PySem PySem.Spec PyProof.Rows
theorem walk_of {l : PySem.W.OpenLaw} {n k : Nat} {q : Program} {loose : List Str} {XP : (Str → Option Value) → Heap → Prop} {YP : World → Heap → Prop} {d : DefRec} {K : Params → PySem.W.Frag} {CX : World → CXT} {sp : World → Sp} {x : Str}
    (hn : l.most = some n) (hn2 : n ≤ sizeLine) (hdf : d.params.defaults = []) (hr : Room k callerA)
    (hY : ∀ (w : World) (h : Heap), YP w h → (K w.params).In h)
    (F : ∀ (w : World) (mg : Str → Option Value) (fa : Addr) (h : Heap), (K w.params).In h → h.Ns mainGlobals mg → mg d.name = some (.ref fa) →
      ∃ fd : FuncData, (∀ (s : Shared) (u : Value), BindsTo s fd ⟨[u], []⟩ [(x, u)]) ∧
        ∀ base : Heap, (K w.params).In base → base.Ns mainGlobals mg → FnOk l.prog w (K w.params) mg base (CX w) k fa fd [x] (sp w))
    (hsp : ∀ (w : World) (H : Hp) (a : Addr) (ns : List Int), ns.length ≤ n → Only H → SqL (K w.params) H a (ns.map V.int) → sp w [.ref a] H (fun v _ => v = .bl true) fun _ _ _ => False)
    (hCX : ∀ (w : World) (H : Hp) (s : Shared) (e : Value) (s' : Shared), CX w [] H s (fun _ _ _ => False) e s' → False) :
    PySem.W.WalkO q loose XP YP l.row.toRowW d [] (fun f vs => PySem.call f vs) := by
  refine Att.attach_call hn hdf fun w s₀ s₁ mg mb fa o pm cd doc a vs ns G Y ho hd hcd hmg hobj hints hlen hg => ?_
  have KX := hY w _ Y
  obtain ⟨fd, hb, hF⟩ := F w mg fa _ KX G.T.g hmg
  exact law_call KX G.T.g G.T.b G.T.builtins G.T.nolimit hg hobj hints (Nat.le_trans hlen hn2) hr hF hb (fun H hO hS => hsp w H a ns hlen hO hS) fun H e s' => hCX w H s₁ e s'
end L2
namespace L2
open PySem PySem.Spec PyProof.Rows
def defArgs (s : Stmt) : Arguments := match s with
  | .FunctionDef _ a _ _ _ _ _ _ _ _ => a
  | _ => { posonlyargs := [], args := [], vararg := none, kwonlyargs := [], kw_defaults := [], kwarg := none, defaults := [] }
def defBody (s : Stmt) : List Stmt := match s with
  | .FunctionDef _ _ b _ _ _ _ _ _ _ => b
  | _ => []
def defScope (s : Stmt) : Scope := match s with
  | .FunctionDef _ _ _ _ _ _ sc _ _ _ => sc
  | _ => { kind := .function, names := [], isGenerator := false, isCoroutine := false }
abbrev CX0 : CXT := fun _ _ _ _ _ _ => False
abbrev E0 : XK := fun _ _ _ => False
theorem pass0 {X : Cx} : Passes CX0 X E0 := fun _ _ _ _ _ _ _ h => h.elim
structure Fun (K : PySem.W.Frag) (x qual : Str) (st : Stmt) (f : Addr) (fd : FuncData) : Prop where
  ex : ∃ (oc : Value) (od : Option Addr) (kV doc pm : Value) (an : Option Addr) (cdv ct : Value) (osl : Array (Option Value)),
    fd = PySem.W.fnOf x qual (defArgs st) (defBody st) (defScope st) .none kV doc pm an cdv ct ∧ K.lookup f = some ⟨oc, od, .func fd, osl⟩ ∧ PySem.W.codeIn K cdv qual = true
  kp : PySem.W.keepIn K (.ref f) = true
section
variable {P : Program} {w : World} {K : PySem.W.Frag} {mg : Str → Option Value} {base : Heap}
theorem Fun.ok {x qual : Str} {st : Stmt} {f : Addr} {fd : FuncData} {N ps : List Str} {k : Nat} {sp : Sp} (F : Fun K x qual st f fd) (S : FnScope N ps (defScope st)) (len : ∀ vs H Q E, sp vs H Q E → vs.length = ps.length)
    (hbody : ∀ (cdv : Value) (A : Around) (outer : List Env) (s : Shared) (H : Hp) (vs : List V) (Q : VK) (E : XK), Room k (A.deeper (envOfC qual (defScope st) s.heap.objs.size f cdv)) → sp vs H Q E →
      ∃ t, PSs (cxOf CX0 P w K mg base N qual (defScope st) f cdv A outer s H E).nox (defBody st) t ∧ t { nx := fun _ H' => Q .non H', rt := Q } (start N vs) H) : FnOk P w K mg base CX0 (k + 1) f fd ps sp := by
  obtain ⟨oc, od, kV, doc, pm, an, cdv, ct, osl, rfl, lk, hcd⟩ := F.ex
  refine fn_of lk hcd S len fun A outer s H vs Q E hr hsp => ?_
  obtain ⟨t, h, q⟩ := hbody cdv A outer s H vs Q E hr hsp
  exact ⟨t, h.nox, q⟩
theorem Fun.binds {x qual : Str} {st : Stmt} {f : Addr} {fd : FuncData} {ps : List Str} (F : Fun K x qual st f fd)
    (h : ∀ (kV doc pm : Value) (an : Option Addr) (cdv ct : Value) (us : List Value), us.length = ps.length → bindArgs (PySem.W.fnOf x qual (defArgs st) (defBody st) (defScope st) .none kV doc pm an cdv ct) ⟨us, []⟩ = pure (ps.zip us)) : Binds K fd ps [] := by
  obtain ⟨oc, od, kV, doc, pm, an, cdv, ct, osl, rfl, lk, hcd⟩ := F.ex
  exact .all (h kV doc pm an cdv ct)
theorem fun_mk {x qual : Str} {st : Stmt} {f : Addr} {oc : Value} {od an : Option Addr} {osl : Array (Option Value)} {kV doc pm cdv ct : Value} (l : K.lookup f = some ⟨oc, od, .func (PySem.W.fnOf x qual (defArgs st) (defBody st) (defScope st) .none kV doc pm an cdv ct), osl⟩)
    (c : PySem.W.codeIn K cdv qual = true) (k : PySem.W.keepIn K (.ref f) = true) : Fun K x qual st f (PySem.W.fnOf x qual (defArgs st) (defBody st) (defScope st) .none kV doc pm an cdv ct) := ⟨⟨oc, od, kV, doc, pm, an, cdv, ct, osl, rfl, l, c⟩, k⟩
end
theorem hu_of {A : Around} {k : Nat} (hr : Room k A) : A.units + 1 < cLine := Nat.lt_of_le_of_lt (Nat.add_le_add_left (by decide : 1 ≤ 64) _) hr.units
theorem small1000 {n : Nat} (h : n ≤ 1000) : n < sizeLine := Nat.lt_of_le_of_lt h (by decide)
section
variable {X : Cx}
end
theorem iteF {A B : Prop} (h : B) : if false = true then A else B := by
  rw [if_neg Bool.false_ne_true]
  exact h
theorem iteT {A B : Prop} (h : A) : if true = true then A else B := by
  rw [if_pos rfl]
  exact h
theorem ite2 {c A B : Prop} [Decidable c] (h1 : c → A) (h2 : ¬ c → B) : if c then A else B := by
  by_cases h : c
  · rw [if_pos h]
    exact h1 h
  · rw [if_neg h]
    exact h2 h
def Same (H H' : Hp) : Prop := ∀ b o, H b = some o → H' b = some o
theorem Same.refl (H : Hp) : Same H H := fun _ _ h => h
theorem Same.trans {H H1 H2 : Hp} (a : Same H H1) (b : Same H1 H2) : Same H H2 := fun c o h => b c o (a c o h)
theorem Same.free {H H' : Hp} (e : Same H H') {l : Addr} (h : H' l = Option.none) : H l = Option.none := by
  cases q : H l with
  | none => rfl
  | some o =>
    rw [e l o q] at h
    cases h
theorem Same.seq {K : PySem.W.Frag} {H H' : Hp} {a : Addr} {xs : List V} (e : Same H H') (h : SqL K H a xs) : SqL K H' a xs := by
  rcases h with (h | ⟨o, h⟩) | h
  · exact .inl (.inl (e _ _ h))
  · exact .inl (.inr ⟨o, e _ _ h⟩)
  · exact .inr h
section
variable {κ : Type} [DecidableEq κ]
end
end L2
set_option maxRecDepth 100000
namespace L2
open PySem PySem.Spec PyProof.Rows
theorem closure_go {env : Env} : ∀ (names : List (Str × NameKind)) (acc : List (Str × Addr)),
    (∀ y ∈ names, y.2 = .free → ∃ c, env.cells.lookup y.1 = some c) → (∀ x c, acc.lookup x = some c → env.cells.lookup x = some c) →
    ∃ cl, (forIn names acc fun (x : Str × NameKind) cs => (if (x.2 == NameKind.free) = true then (do let c ← cellOf env x.1; pure (ForInStep.yield ((x.1, c) :: cs))) else pure (ForInStep.yield cs) : Sem (ForInStep (List (Str × Addr))))) = pure cl ∧
      (∀ x c, cl.lookup x = some c → env.cells.lookup x = some c) ∧ (∀ y ∈ names, y.2 = .free → ∃ c, cl.lookup y.1 = some c) ∧ (∀ x c, acc.lookup x = some c → ∃ c, cl.lookup x = some c)
  | [], acc, _, ha => ⟨acc, rfl, ha, (fun _ h => nomatch h), fun x c h => ⟨c, h⟩⟩
  | (n, k) :: r, acc, h, ha => by
    rw [List.forIn_cons]
    by_cases hk : k = .free
    · obtain ⟨c, hc⟩ := h (n, k) List.mem_cons_self hk
      have hc' : cellOf env n = pure c := by unfold cellOf; rw [show env.cells.lookup n = some c from hc]
      have ha2 : ∀ x d, ((n, c) :: acc).lookup x = some d → env.cells.lookup x = some d := fun x d hx => by
        rw [List.lookup_cons] at hx
        cases e : x == n with
        | true => rw [e] at hx; cases hx; rw [eq_of_beq e]; exact hc
        | false => rw [e] at hx; exact ha x d hx
      obtain ⟨cl, e, h1, h2, h3⟩ := closure_go r ((n, c) :: acc) (fun y hy => h y (List.mem_cons_of_mem _ hy)) ha2
      refine ⟨cl, ?_, h1, fun y hy hf => ?_, fun x d hx => ?_⟩
      · have hk' : (k == NameKind.free) = true := by rw [hk]; rfl
        simp only [hk', if_true, hc', pure_bind]
        exact e
      · rcases List.mem_cons.mp hy with z | hy
        · rw [z]; exact h3 n c (by simp [List.lookup_cons])
        · exact h2 y hy hf
      · cases e2 : x == n with
        | true => exact h3 x c (by simp [List.lookup_cons, e2])
        | false => exact h3 x d (by simp [List.lookup_cons, e2, hx])
    · have hk' : (k == NameKind.free) = false := by simpa using hk
      obtain ⟨cl, e, h1, h2, h3⟩ := closure_go r acc (fun y hy => h y (List.mem_cons_of_mem _ hy)) ha
      refine ⟨cl, ?_, h1, fun y hy hf => ?_, h3⟩
      · simp only [hk', Bool.false_eq_true, if_false, pure_bind]
        exact e
      · rcases List.mem_cons.mp hy with z | hy
        · rw [z] at hf; exact absurd hf hk
        · exact h2 y hy hf
theorem closure_ok {sc : Scope} {env : Env} (h : ∀ y ∈ sc.names, y.2 = .free → ∃ c, env.cells.lookup y.1 = some c) :
    ∃ cl, closureFor sc env = pure cl ∧ (∀ x c, cl.lookup x = some c → env.cells.lookup x = some c) ∧ (∀ y ∈ sc.names, y.2 = .free → ∃ c, cl.lookup y.1 = some c) := by
  obtain ⟨cl, e, h1, h2, _⟩ := closure_go (env := env) sc.names [] h (fun _ _ h => nomatch h)
  refine ⟨cl, ?_, h1, h2⟩
  unfold closureFor
  have e' : (forIn sc.names ([] : List (Str × Addr)) fun (x : Str × NameKind) cs => (if (x.2 == NameKind.free) = true then (do let c ← cellOf env x.1; pure (ForInStep.yield ((x.1, c) :: cs))) else pure (ForInStep.yield cs) : Sem (ForInStep (List (Str × Addr))))) >>= (fun cs => (pure cs : Sem _)) = pure cl := by rw [e]; rfl
  exact e'
theorem lookup_relabel_free {env : Env} : ∀ {names : List (Str × NameKind)} {x : Str}, names.lookup x = some .free →
    (names.map fun (n, k) => if (k == NameKind.free && env.scope.kind == .function && env.kindOf n == some .cell) then (n, NameKind.cell) else (n, k)).lookup x = some .cell ∨
    (names.map fun (n, k) => if (k == NameKind.free && env.scope.kind == .function && env.kindOf n == some .cell) then (n, NameKind.cell) else (n, k)).lookup x = some .free
  | [], _, h => by simp at h
  | (n, k) :: r, x, h => by
    have ih := @lookup_relabel_free env r x
    show List.lookup x ((if (k == NameKind.free && env.scope.kind == .function && env.kindOf n == some .cell) = true then (n, NameKind.cell) else (n, k)) :: _) = _ ∨ List.lookup x ((if (k == NameKind.free && env.scope.kind == .function && env.kindOf n == some .cell) = true then (n, NameKind.cell) else (n, k)) :: _) = _
    cases hx : x == n with
    | true =>
      simp only [List.lookup_cons, hx] at h
      cases h
      by_cases hc : (NameKind.free == NameKind.free && env.scope.kind == .function && env.kindOf n == some .cell) = true
      · rw [if_pos hc]; simp [List.lookup_cons, hx]
      · rw [if_neg hc]; simp [List.lookup_cons, hx]
    | false =>
      simp only [List.lookup_cons, hx] at h
      by_cases hc : (k == NameKind.free && env.scope.kind == .function && env.kindOf n == some .cell) = true
      · rw [if_pos hc]; simp only [List.lookup_cons, hx]; exact ih h
      · rw [if_neg hc]; simp only [List.lookup_cons, hx]; exact ih h
theorem mem_relabel {env : Env} {names : List (Str × NameKind)} {x : Str} {k : NameKind}
    (h : (names.map fun (n, k) => if (k == NameKind.free && env.scope.kind == .function && env.kindOf n == some .cell) then (n, NameKind.cell) else (n, k)).lookup x = some k) (hk : k = .cell ∨ k = .free) (hc : ∀ y ∈ names, y.2 ≠ .cell) : (x, NameKind.free) ∈ names := by
  have hm := PySem.mem_of_lookup h
  obtain ⟨⟨n, k'⟩, h1, h2⟩ := List.mem_map.mp hm
  dsimp only at h2
  split at h2
  · next hh =>
    cases h2
    have : k' = .free := by
      simp only [Bool.and_eq_true, beq_iff_eq] at hh
      exact hh.1.1
    rw [← this]; exact h1
  · cases h2
    rcases hk with z | z
    · exact absurd z (hc _ h1)
    · rw [← z]; exact h1
abbrev cxComp (X : Cx) (N' : List Str) (sc : Scope) (cl : List (Str × Addr)) (C : Addr) (s3 : Shared) (H0 : Hp) (fp : List Addr) (pn : List (Addr × Obj)) : Cx where
  prog := X.prog
  w := X.w
  K := X.K
  mg := X.mg
  base := X.base
  A := X.A
  N := N'
  s₀ := s3
  H₀ := H0
  env := compEnvC sc cl C X.env
  outer := X.stack
  stack := X.stack
  ex := fp
  fn := fun _ => false
  calm := X.calm
  pn := pn
  xe := fun _ _ => False
structure CScope (osc : Scope) (oN : List Str) (sc : Scope) (own : List Str) (idx : List Nat) (N' : List Str) : Prop where
  kind : sc.kind = .function
  cell : ∀ y ∈ sc.names, y.2 ≠ .cell
  names : ∀ y ∈ sc.names, y.2 = .local → sc.names.lookup y.1 = some .local
  free : ∀ y ∈ sc.names, y.2 = .free → (osc.names.lookup y.1 = some .cell ∨ osc.names.lookup y.1 = some .free)
  seen : ∀ j ∈ idx, sc.names.lookup (oN.getD j "") = some .free ∧ j < oN.length
  nn : N' = own ++ idx.map (fun j => oN.getD j "")
def stIn (own : List Str) (idx : List Nat) (σ : St) : St := List.replicate own.length none ++ idx.map fun j => (σ[j]?).join
section
variable {X : Cx} {pins : List (Addr × Obj)} {σ : St} {H2 : Hp} {s2 : Shared}
theorem inv_comp {sc : Scope} {own : List Str} {idx : List Nat} {N' : List Str} {cl : List (Str × Addr)} {fp : List Addr} {h4 : Heap} {ob : Obj} {ho : HO} {t4 : Nat} (S : CScope X.env.scope X.N sc own idx N') (I : Inv X pins σ H2 s2) (hf : ∀ b ∈ fp, FpOk X pins H2 b) (hfo : ∀ b ∈ fp, ∃ o, s2.heap.get? b = some o)
    (c1 : ∀ x c, cl.lookup x = some c → X.env.cells.lookup x = some c) (c2 : ∀ y ∈ sc.names, y.2 = .free → ∃ c, cl.lookup y.1 = some c) (hob : ob.isFreed = false)
    (hD : ∀ (H : Hp) (h : Heap), h.get? s2.heap.objs.size = some ob → ObjOk X.prog X.w H h s2.heap.objs.size ho)
    (ns : h4.Ns (s2.heap.push ob).objs.size (fun x => ([] : List (Str × Value)).reverse.lookup x)) (sb : ∀ b o, (s2.heap.push ob).get? b = some o → h4.get? b = some o) :
    Inv (cxComp X N' sc cl (s2.heap.push ob).objs.size { s2 with heap := s2.heap.push ob } (upd H2 s2.heap.objs.size ho) fp (X.pn ++ pins)) [] (stIn own idx σ) (upd H2 s2.heap.objs.size ho) { s2 with heap := h4, toks := t4 } := by
  have hsz : (s2.heap.push ob).objs.size = s2.heap.objs.size + 1 := Heap.size_push _ _
  have fr2 : H2 s2.heap.objs.size = none := I.hok.fresh (Nat.le_refl _)
  have up : ∀ b o, s2.heap.get? b = some o → (s2.heap.push ob).get? b = some o := fun b o e => Heap.get?_push_of_some _ e
  have up4 : ∀ b o, s2.heap.get? b = some o → h4.get? b = some o := fun b o e => sb b o (up b o e)
  have ltD : ∀ b o, s2.heap.get? b = some o → b ≠ s2.heap.objs.size := fun b o e => Nat.ne_of_lt (Heap.lt_size e)
  have nh : ∀ b o, s2.heap.get? b = some o → H2 b = none → upd H2 s2.heap.objs.size ho b = none := fun b o e n => by rw [upd_ne (ltD b o e)]; exact n
  have stkO : ∀ b ∈ frs X.stack, ∃ o, s2.heap.get? b = some o := fun b hb => by
    obtain ⟨_, o, ho, _⟩ := I.stack.mem hb
    exact ⟨o, ho⟩
  have cellO : ∀ x c, cl.lookup x = some c → ∃ o, s2.heap.get? c = some o := fun x c e => by
    obtain ⟨v, o, ho, _⟩ := I.cell x c (c1 x c e)
    exact ⟨o, ho⟩
  have eD : (s2.heap.push ob).get? s2.heap.objs.size = some ob := Heap.get?_push_size s2.heap hob
  have hok3 : HOk X.prog X.w (upd H2 s2.heap.objs.size ho) h4 := I.hok.laid up4 (Nat.le_refl _) (hD _ _ (sb _ _ eD))
  refine ⟨⟨I.ok.mod, S.kind, I.ok.glob, I.ok.blt, Nat.le_refl _, fun x y c h1 h2 => I.ok.inj x y c (c1 x c h1) (c1 y c h2), fun x hx => ?_, (fun x c hx _ => nomatch hx), I.ok.hd, I.ok.frames, .inl rfl, fun b hb => ⟨?_, fun x c e => ?_⟩, fun b o e => ⟨?_, ?_⟩, ?_, fun b o e hb => ?_, fun b hb => ?_, ?_, fun b hb => ?_⟩,
    rfl, I.bare, Un.kept sb, ⟨_, ns, fun i x v h1 h2 h3 => ?_⟩, fun x c e => ?_, ?_, fun x c e => ?_, fun p hp => ?_, hok3, ?_⟩
  · rcases hx with hx | hx
    · exact c2 (x, .free) (mem_relabel hx (.inl rfl) S.cell) rfl
    · exact c2 (x, .free) (mem_relabel hx (.inr rfl) S.cell) rfl
  · obtain ⟨o, e⟩ := hfo b hb
    have := Heap.lt_size e
    show b ≠ (s2.heap.push ob).objs.size
    rw [hsz]; exact Nat.ne_of_lt (Nat.lt_succ_of_lt this)
  · exact (hf b hb).2.2.2.2.1 x c (c1 x c e)
  · exact up b o (I.bk b o e)
  · exact nh b o (I.bk b o e) (I.bs b o e).2
  · show X.base.objs.size ≤ (s2.heap.push ob).objs.size
    have := Nat.le_trans I.ok.bsz I.sz
    rw [hsz]; omega
  · obtain ⟨f0, f1, f2, f3, f4, f5⟩ := hf b hb
    rcases f3 with z | z
    · exact I.ok.noex b o e z
    · exact absurd (Heap.lt_size e) (Nat.not_lt.mpr (Nat.le_trans I.ok.bsz z))
  · obtain ⟨f0, f1, f2, f3, f4, f5⟩ := hf b hb
    intro z
    rcases List.mem_cons.mp (I.stkSub b z) with z | z
    · exact f1 z
    · exact f2 z
  · exact Heap.FunFrames.of_keeps (fun b o e _ => ⟨o, up b o e, rfl⟩) I.stack
  · obtain ⟨o, e⟩ := stkO b hb
    exact nh b o e (I.stkFree b hb)
  · unfold stIn at h2
    by_cases hi : i < own.length
    · rw [List.getElem?_append_left (by simpa using hi), List.getElem?_replicate, if_pos hi] at h2
      cases h2
    · rw [List.getElem?_append_right (by simpa using hi), List.length_replicate, List.getElem?_map] at h2
      have h1' : N'[i]? = some x := h1
      rw [S.nn, List.getElem?_append_right (by simpa using hi), List.getElem?_map] at h1'
      cases ej : idx[i - own.length]? with
      | none => rw [ej] at h1'; cases h1'
      | some j =>
        rw [ej] at h1' h2
        obtain ⟨hs1, hs2⟩ := S.seen j (List.mem_of_getElem? ej)
        have hx : X.N[j]? = some x := by
          have : X.N.getD j "" = x := Option.some.inj h1'
          rw [← this, List.getD_eq_getElem?_getD, List.getElem?_eq_getElem hs2]; rfl
        have hv : σ[j]? = some (some v) := by
          have h2' : (σ[j]?).join = some v := Option.some.inj h2
          cases q : σ[j]? with
          | none => rw [q] at h2'; cases h2'
          | some w => rw [q] at h2'; exact congrArg some h2'
        have hsx : sc.names.lookup x = some .free := by
          have : X.N.getD j "" = x := Option.some.inj h1'
          rw [← this]; exact hs1
        have hmem : (x, NameKind.free) ∈ sc.names := PySem.mem_of_lookup hsx
        obtain ⟨m, hn, hl⟩ := I.loc
        have hvis : Vis X.env.scope x := by
          rcases S.free _ hmem rfl with z | z
          · exact .inr (.inl z)
          · exact .inr (.inr z)
        obtain ⟨u, r, lk⟩ := hl j x v hx hv hvis
        refine ⟨u, r, ?_⟩
        rcases lk with ⟨k, _⟩ | ⟨k, c, e, z⟩
        · rcases S.free _ hmem rfl with q | q
          · have q' : X.env.kindOf x = some .cell := q
            rw [q'] at k; cases k
          · have q' : X.env.kindOf x = some .free := q
            rw [q'] at k; cases k
        · obtain ⟨c', hc'⟩ := c2 (x, .free) hmem rfl
          have e' := c1 x c' hc'
          rw [e] at e'
          cases e'
          refine .inr ⟨?_, c, hc', ?_⟩
          · rcases lookup_relabel_free (env := X.env) hsx with q | q
            · exact .inl q
            · exact .inr q
          · obtain ⟨o, ho', hd⟩ := z
            exact ⟨o, up4 c o ho', hd⟩
  · obtain ⟨v, o, ho', hd⟩ := I.cell x c (c1 x c e)
    exact ⟨v, o, up4 c o ho', hd⟩
  · show upd H2 s2.heap.objs.size ho (s2.heap.push ob).objs.size = none
    rw [upd_ne (by rw [hsz]; exact Nat.ne_of_gt (Nat.lt_succ_self _))]
    exact I.hok.fresh (by rw [hsz]; omega)
  · obtain ⟨o, e1⟩ := cellO x c e
    exact nh c o e1 (I.freeC x c (c1 x c e))
  · have hp' : p ∈ X.pn ++ pins := by simpa using hp
    obtain ⟨e, n, ne, nf, d⟩ := I.pin p hp'
    refine ⟨up4 _ _ e, nh _ _ e n, ?_, fun z => ?_, d⟩
    · have := Heap.lt_size e
      show p.1 ≠ (s2.heap.push ob).objs.size
      rw [hsz]; exact Nat.ne_of_lt (Nat.lt_succ_of_lt this)
    · rcases List.mem_cons.mp (I.stkSub p.1 z) with z | z
      · exact ne z
      · exact nf z
  · show (stIn own idx σ).length = N'.length
    rw [S.nn]; unfold stIn
    simp
theorem comp_back {sc : Scope} {N' : List Str} {cl : List (Str × Addr)} {fp : List Addr} {ob : Obj} {ho : HO} {τ : St} {H' : Hp} {s' : Shared} (I : Inv X pins σ H2 s2) (hf : ∀ b ∈ fp, FpOk X pins H2 b) (hob : ob.isFreed = false)
    (J : Inv (cxComp X N' sc cl (s2.heap.push ob).objs.size { s2 with heap := s2.heap.push ob } (upd H2 s2.heap.objs.size ho) fp (X.pn ++ pins)) [] τ H' s') :
    Inv X pins σ H' s' ∧ H' (s2.heap.push ob).objs.size = none ∧ (s2.heap.push ob).objs.size ≠ X.env.locals ∧ X.s₀.heap.objs.size ≤ (s2.heap.push ob).objs.size ∧
      (∀ x c, X.env.cells.lookup x = some c → c ≠ (s2.heap.push ob).objs.size) ∧ (∀ p ∈ X.pn ++ pins, p.1 ≠ (s2.heap.push ob).objs.size) ∧ ∃ m, s'.heap.Ns (s2.heap.push ob).objs.size m := by
  have hsz : (s2.heap.push ob).objs.size = s2.heap.objs.size + 1 := Heap.size_push _ _
  have u1 : Un (frs X.stack) fp H2 (upd H2 s2.heap.objs.size ho) s2.heap (s2.heap.push ob) := Un.laid (fun b o e => Heap.get?_push_of_some _ e) (Nat.le_refl _) (I.hok.fresh (Nat.le_refl _))
  have u2 : Un (frs X.stack) fp (upd H2 s2.heap.objs.size ho) H' (s2.heap.push ob) s'.heap := J.base
  have hos : s'.os = s2.os := J.os
  refine ⟨I.call' hos (u1.trans u2) J.hok J.bare fun b hb => ?_, J.free, ?_, ?_, fun x c e z => ?_, fun p hp z => ?_, let ⟨m, hn, _⟩ := J.loc; ⟨m, hn⟩⟩
  · obtain ⟨f0, f1, f2, f3, f4, f5⟩ := hf b hb
    exact ⟨f3, f1, f4, f5⟩
  · rw [hsz]; exact Nat.ne_of_gt (Nat.lt_succ_of_lt I.lt)
  · have := I.sz; rw [hsz]; omega
  · obtain ⟨v, q⟩ := I.cell x c e
    have := q.lt
    rw [z, hsz] at this; exact absurd this (Nat.not_lt.mpr (Nat.le_succ _))
  · have := Heap.lt_size (I.pin p hp).1
    rw [z, hsz] at this; exact absurd this (Nat.not_lt.mpr (Nat.le_succ _))
end
section
variable {prog : Program} {w : World} {A : Around} {R : Result → Shared → Prop} {s : Shared}
abbrev NoE : Value → Shared → Prop := fun _ _ => False
theorem compLoopG {elt target iter : Expr} {ifs : List Expr} {scope : Scope} {pos : Pos} {it acc : Value} {env : Env} (I : Nat → Shared → Prop)
    (turn : ∀ n s, I n s → wpAny (model prog w) A (pyNext it) (fun r s₁ => match r with
      | none => R (.ok .next) s₁
      | some v => wpAny (model prog w) A (letOwnedTupleGo target it v) (fun _ s₁' => wpAny (model prog w) A (assign target env v) (fun _ s₂ =>
          wpAny (model prog w) A (forIn ifs true fun c r => if r = true then do let ok ← isTrue c env (eval c env); pure (ForInStep.yield ok) else pure (ForInStep.yield r)) (fun ok s₃ =>
            if ok = true then wpAny (model prog w) A (eval elt env) (fun x s₄ =>
              wpAny (model prog w) A (call (.builtin "list.append") [acc, x]) (fun _ s₅ => ∃ m, m < n ∧ I m s₅) NoE s₄) NoE s₃
            else ∃ m, m < n ∧ I m s₃) NoE s₂) NoE s₁') NoE s₁) NoE s)
    (n : Nat) (h : I n s) :
    codeAny (model prog w) A (.compLoop (.ListComp elt [⟨target, iter, ifs, 0⟩] scope pos) 0 it acc env) R s := by
  refine codeAny_loop rfl I (fun n s hI => ?_) n h
  show wpAny _ A ((compTurn (.ListComp elt [⟨target, iter, ifs, 0⟩] scope pos) 0 it acc env).onRaise (fun x => do noteFrame x env; theTreesLotGoes x)) _ _ s
  refine wpAny_noted ?_
  rw [compTurn_list]
  refine wpAny_bind (wpAny_standAt (wpAny_bind (wpAny_mono (turn n s hI) (fun r s₁ h₁ => ?_) fun _ _ h' => h'.elim)))
  cases r with
  | none => exact wpAny_pure h₁
  | some v =>
    refine wpAny_bind (wpAny_mono h₁ (fun _ s₁' h₁' => ?_) fun _ _ h' => h'.elim)
    refine wpAny_bind (wpAny_mono h₁' (fun _ s₂ h₂ => wpAny_bind (wpAny_mono h₂ (fun ok s₃ h₃ => ?_) fun _ _ h' => h'.elim)) fun _ _ h' => h'.elim)
    cases ok with
    | false => exact wpAny_pure ⟨rfl, h₃⟩
    | true =>
      exact wpAny_bind (wpAny_bind (wpAny_mono h₃ (fun x s₄ h₄ => wpAny_bind (wpAny_mono h₄ (fun _ s₅ h₅ => wpAny_pure (wpAny_pure ⟨rfl, h₅⟩)) fun _ _ h' => h'.elim)) fun _ _ h' => h'.elim))
end
abbrev TC := St → Hp → (Bool → Hp → Prop) → Prop
def PC' (X : Cx) (ifs : List Expr) (t : TC) : Prop :=
  ∀ (pins : List (Addr × Obj)) (s : Shared) (σ : St) (H : Hp) (Q : Bool → Hp → Prop), Inv X pins σ H s → t σ H Q →
    wpAny (model X.prog X.w) X.A (forIn ifs true fun c r => if r = true then do let ok ← isTrue c X.env (eval c X.env); pure (ForInStep.yield ok) else pure (ForInStep.yield r)) (TP X pins σ Q) X.xe s
def tcNil : TC := fun _ H Q => Q true H
theorem pc_nil' {X : Cx} : PC' X [] tcNil := fun pins s σ H Q I h => wpAny_pure ⟨H, I, h⟩
theorem pc_one' {X : Cx} {c : Expr} {t : TT} (h : PT X c t) : PC' X [c] t := fun pins s σ H Q I hq => wpAny_tests_one (h pins s σ H Q I hq)
def tLC (own : List Str) (idx : List Nat) (wi : TI) (g : TG) (tc : TC) (te : TE) : TE := fun σ H Q => wi σ H fun J H1 => ∀ D, H1 D = none → ∃ W : Nat → Nat → St → Hp → Prop, (∃ m, W 0 m (stIn own idx σ) (upd H1 D (.lst []))) ∧ ∀ i m τ H, W i m τ H →
  (J.stop i H ∧ Q (.ref D) H) ∨ (J.go i H ∧ ∃ N : St → Hp → Prop, (∀ τ' H', N τ' H' → ∃ m', m' < m ∧ W (i + 1) m' τ' H') ∧ ∀ x H', J.yld i H x H' → g x τ H' fun τ2 H2 => tc τ2 H2 fun b H3 =>
    if b = true then te τ2 H3 fun y H4 => ∃ xs, H4 D = some (.lst xs) ∧ xs.length < sizeLine ∧ N τ2 (upd H4 D (.lst (xs ++ [y]))) else N τ2 H3)
section
variable {X : Cx} {tg iter elt : Expr} {ifs : List Expr} {sc : Scope} {pos : Pos} {own : List Str} {idx : List Nat} {N' : List Str} {wi : TI} {g : TG} {tc : TC} {te : TE}
abbrev lob : Obj := { cls := .type "list", dict := none, data := .seq ([] : List Value).toArray }
theorem comp_block (S : CScope X.env.scope X.N sc own idx N') {cl : List (Str × Addr)} (c1 : ∀ x c, cl.lookup x = some c → X.env.cells.lookup x = some c) (c2 : ∀ y ∈ sc.names, y.2 = .free → ∃ c, cl.lookup y.1 = some c) (hc : X.calm = true)
    (hg : ∀ cl C s3 H0 fp pn, PG (cxComp X N' sc cl C s3 H0 fp pn) tg g) (ht : ∀ cl C s3 H0 fp pn, PC' (cxComp X N' sc cl C s3 H0 fp pn) ifs tc) (he : ∀ cl C s3 H0 fp pn, PE (cxComp X N' sc cl C s3 H0 fp pn) elt te)
    {pins : List (Addr × Obj)} {σ : St} {Q : VK} {itv : Value} {s2 : Shared} {RR : Value → Addr → Result → Shared → Prop} {E : Value → Shared → Prop}
    (hI : PIE X pins σ tg (fun J H1 => ∀ D, H1 D = none → ∃ W : Nat → Nat → St → Hp → Prop, (∃ m, W 0 m (stIn own idx σ) (upd H1 D (.lst []))) ∧ ∀ i m τ H, W i m τ H →
      (J.stop i H ∧ Q (.ref D) H) ∨ (J.go i H ∧ ∃ N : St → Hp → Prop, (∀ τ' H', N τ' H' → ∃ m', m' < m ∧ W (i + 1) m' τ' H') ∧ ∀ x H', J.yld i H x H' → g x τ H' fun τ2 H2 => tc τ2 H2 fun b H3 =>
        if b = true then te τ2 H3 fun y H4 => ∃ xs, H4 D = some (.lst xs) ∧ xs.length < sizeLine ∧ N τ2 (upd H4 D (.lst (xs ++ [y]))) else N τ2 H3)) itv s2)
    (hRR : ∀ D C H' s', Inv X pins σ H' s' → Q (.ref D) H' → (H' C = none ∧ C ≠ X.env.locals ∧ X.s₀.heap.objs.size ≤ C ∧ (∀ x c, X.env.cells.lookup x = some c → c ≠ C) ∧ (∀ p ∈ X.pn ++ pins, p.1 ≠ C) ∧ ∃ m, s'.heap.Ns C m) → RR (.ref D) C (.ok .next) s') :
    wpAny (model X.prog X.w) X.A (newList []) (fun acc s₃ => wpAny (model X.prog X.w) X.A (newFunctionEnv sc X.env.globals cl [] X.env.qual none .none (some X.env)) (fun cenv s₄ =>
      codeAny (model X.prog X.w) X.A (.compStart (.ListComp elt [⟨tg, iter, ifs, 0⟩] sc pos) 0 itv acc { cenv with scope := relabel sc X.env }) (RR acc cenv.locals) s₄) E s₃) E s2 := by
  obtain ⟨it, fp, tn, J, H2, rfl, I, T, st2, f2, body⟩ := hI
  refine wpAny_newObj_type (wpAny_newFunctionEnv S.cell (by intro y hy; simp at hy) (fun h4 ns sb => ?_) S.kind)
  dsimp only at ns sb ⊢
  have hob : lob.isFreed = false := rfl
  have fr : H2 s2.heap.objs.size = none := I.hok.fresh (Nat.le_refl _)
  obtain ⟨W, ⟨m0, w0⟩, turn⟩ := body _ fr
  have hfo : ∀ b ∈ fp, ∃ o, s2.heap.get? b = some o := fun b hb => let ⟨o, e, _⟩ := T.obj _ _ st2 b hb; ⟨o, e⟩
  have sb' : ∀ b o, (s2.heap.push lob).get? b = some o → h4.get? b = some o := fun b o e => (sb.2 b (Nat.ne_of_lt (Heap.lt_size e))).trans (Heap.get?_push_of_some _ e)
  have hDo : ∀ (H : Hp) (h : Heap), h.get? s2.heap.objs.size = some lob → ObjOk X.prog X.w H h s2.heap.objs.size (.lst []) := fun H h e => ⟨Nat.zero_le _, [], _, .nil, e⟩
  have I4 : Inv (cxComp X N' sc cl (s2.heap.push lob).objs.size { s2 with heap := s2.heap.push lob } (upd H2 s2.heap.objs.size (.lst [])) fp (X.pn ++ pins)) [] (stIn own idx σ) (upd H2 s2.heap.objs.size (.lst [])) { s2 with heap := h4, toks := s2.toks + ([] : List (Str × Value)).length } :=
    inv_comp S I f2 hfo c1 c2 hob hDo ns sb'
  -- the block's own context
  generalize hY : cxComp X N' sc cl (s2.heap.push lob).objs.size { s2 with heap := s2.heap.push lob } (upd H2 s2.heap.objs.size (.lst [])) fp (X.pn ++ pins) = Y at I4
  have hgY : PG Y tg g := by rw [← hY]; exact hg _ _ _ _ _ _
  have htY : PC' Y ifs tc := by rw [← hY]; exact ht _ _ _ _ _ _
  have heY : PE Y elt te := by rw [← hY]; exact he _ _ _ _ _ _
  have pY : Y.prog = X.prog := by rw [← hY]
  have wY : Y.w = X.w := by rw [← hY]
  have KY : Y.K = X.K := by rw [← hY]
  have AY : Y.A = X.A := by rw [← hY]
  have cY : Y.calm = true := by rw [← hY]; exact hc
  have xY : Y.xe = fun _ _ => False := by rw [← hY]
  have eY : Y.env = compEnvC sc cl (s2.heap.push lob).objs.size X.env := by rw [← hY]
  have exY : Y.ex = fp := by rw [← hY]
  have fsY : Y.fs = frs X.stack := by rw [← hY]
  have pnY : Y.pn = X.pn ++ pins := by rw [← hY]
  have stat : ∀ {H' : Hp}, (∀ b ∈ fp, H' b = none) → ∀ b ∈ fp, FpOk Y [] H' b := fun hn b hb => by
    obtain ⟨f0, f1, f3, f4, f5, f6⟩ := f2 b hb
    refine ⟨hn b hb, ?_, ?_, .inl (by rw [exY]; exact hb), fun x c e => ?_, fun p hp => ?_⟩
    · obtain ⟨o, e⟩ := hfo b hb
      have := Heap.lt_size e
      rw [eY]
      show b ≠ (s2.heap.push lob).objs.size
      rw [Heap.size_push]; exact Nat.ne_of_lt (Nat.lt_succ_of_lt this)
    · rw [fsY]
      intro z
      rcases List.mem_cons.mp (I.stkSub b z) with z | z
      · exact f1 z
      · exact f3 z
    · rw [eY] at e
      exact f5 x c (c1 x c e)
    · rw [pnY, List.append_nil] at hp
      exact f6 p hp
  have st4 : tn 0 h4 := T.keep _ _ _ st2 fun b hb o e => sb' b o (Heap.get?_push_of_some _ e)
  have fr4 : ∀ b ∈ fp, upd H2 s2.heap.objs.size (.lst []) b = none := fun b hb => by
    obtain ⟨o, e⟩ := hfo b hb
    rw [upd_ne (Nat.ne_of_lt (Heap.lt_size e))]
    exact (f2 b hb).1
  have loop : codeAny (model X.prog X.w) X.A (.compLoop (.ListComp elt [⟨tg, iter, ifs, 0⟩] sc pos) 0 (.ref it) (.ref s2.heap.objs.size) (compEnvC sc cl (s2.heap.push lob).objs.size X.env))
      (RR (.ref s2.heap.objs.size) (s2.heap.push lob).objs.size) { s2 with heap := h4, toks := s2.toks + ([] : List (Str × Value)).length } := by
    refine compLoopG (fun n s' => ∃ i τ H', Inv Y [] τ H' s' ∧ tn i s'.heap ∧ (∀ b ∈ fp, H' b = none) ∧ W i n τ H') ?_ m0 ⟨0, _, _, I4, st4, fr4, w0⟩
    rintro n s3 ⟨i, τ3, H3, I3, st3, fr3, w3⟩
    rcases turn i n τ3 H3 w3 with ⟨stop, qn⟩ | ⟨go, N, hN, step⟩
    · have h := T.done Y pY wY KY cY i [] s3 τ3 H3 NoE I3 (stat fr3) st3 stop
      rw [AY] at h
      refine thn h ?_
      rintro r s4 ⟨hr, I4'⟩
      subst hr
      have J4 := I4'
      rw [← hY] at J4
      obtain ⟨b1, b2⟩ := comp_back I f2 hob J4
      exact hRR _ _ _ _ b1 qn b2
    · have h := T.item Y pY wY KY cY i [] s3 τ3 H3 NoE I3 (stat fr3) st3 go
      rw [AY] at h
      refine thn h ?_
      rintro r s4 ⟨u, hr, h4'⟩
      subst hr
      refine thn h4' ?_
      rintro _ s5 ⟨x, H5, I5, r5, y5, st5, fr5⟩
      have I5' := I5.pinned (stat fr5) (T.obj _ _ st5)
      have g5 := hgY _ s5 τ3 H5 x u _ I5' r5 (step x H5 y5)
      rw [pY, wY, AY, xY, eY] at g5
      refine thn g5 ?_
      rintro _ s6 ⟨τ6, H6, I6, q6⟩
      have t6 := htY _ s6 τ6 H6 _ I6 q6
      rw [pY, wY, AY, xY, eY] at t6
      refine thn t6 ?_
      rintro ok s7 ⟨H7, I7, q7⟩
      have again : ∀ {τ8 : St} {H8 : Hp} {s8 : Shared}, Inv Y ([] ++ pinsAt fp s5.heap) τ8 H8 s8 → N τ8 H8 → ∃ m, m < n ∧ ∃ i τ' H', Inv Y [] τ' H' s8 ∧ tn i s8.heap ∧ (∀ b ∈ fp, H' b = none) ∧ W i m τ' H' := fun {τ8 H8 s8} I8 n8 => by
        obtain ⟨m', hm, w8⟩ := hN τ8 H8 n8
        refine ⟨m', hm, i + 1, τ8, H8, I8.unpinned, T.keep _ _ _ st5 fun b hb o e => (I8.pin (b, o) (List.mem_append_right _ (List.mem_append_right _ (mem_pinsAt hb e)))).1, fun b hb => ?_, w8⟩
        obtain ⟨o, e, d⟩ := T.obj _ _ st5 b hb
        exact (I8.pin (b, o) (List.mem_append_right _ (List.mem_append_right _ (mem_pinsAt hb e)))).2.1
      cases ok with
      | false =>
        rw [if_neg (by decide)] at q7 ⊢
        exact again I7 q7
      | true =>
        rw [if_pos rfl] at q7 ⊢
        have e7 := heY _ s7 τ6 H7 _ I7 q7
        rw [pY, wY, AY, xY, eY] at e7
        refine thn e7 ?_
        rintro yv s8 ⟨y, H8, I8, r8, xs, hD8, hz, n8⟩
        have a8 := mt_append (X := Y) _ s8 τ6 H8 (.ref s2.heap.objs.size) [y] (.ref s2.heap.objs.size) [yv] (fun v H' => N τ6 H') I8 rfl (.cons r8 .nil) ⟨_, xs, y, rfl, rfl, hD8, hz, n8⟩
        rw [pY, wY, AY, xY] at a8
        refine thn a8 ?_
        rintro _ s9 ⟨_, H9, I9, _, n9⟩
        exact again I9 n9
  exact codeAny_compStart_list loop (T.self _ 0 _ _ _ st4 loop)
theorem CScope.closure (S : CScope X.env.scope X.N sc own idx N') (ok : X.Ok) : ∃ cl, closureFor sc X.env = pure cl ∧ (∀ x c, cl.lookup x = some c → X.env.cells.lookup x = some c) ∧ (∀ y ∈ sc.names, y.2 = .free → ∃ c, cl.lookup y.1 = some c) :=
  closure_ok fun y hy hf => ok.has _ (S.free y hy hf)
theorem pe_lc (S : CScope X.env.scope X.N sc own idx N') (hc : X.calm = true) (hi : PI X tg iter wi)
    (hg : ∀ cl C s3 H0 fp pn, PG (cxComp X N' sc cl C s3 H0 fp pn) tg g) (ht : ∀ cl C s3 H0 fp pn, PC' (cxComp X N' sc cl C s3 H0 fp pn) ifs tc) (he : ∀ cl C s3 H0 fp pn, PE (cxComp X N' sc cl C s3 H0 fp pn) elt te)
    (hs : ∀ x, foldedSetIterable iter X.env x = pure x := by intro _; rfl) : PE X (.ListComp elt [⟨tg, iter, ifs, 0⟩] sc pos) (tLC own idx wi g tc te) := by
  intro pins s σ H Q I h
  obtain ⟨cl, hcl, c1, c2⟩ := S.closure I.ok
  rw [eval_ListComp]
  refine wpAny_comprehension_free (use := none) rfl hs hcl S.kind S.names (thn (hi pins s σ H _ I h) fun v s1 h1 => thn h1 fun itv s2 h2 => ?_)
  refine comp_block (Q := Q) (pins := pins) (σ := σ) (RR := fun acc C => compPost (model X.prog X.w) X.A X.xe none (EP X pins σ Q) acc C) S c1 c2 hc hg ht he h2 ?_
  intro D C H' s' I' q ⟨a1, a2, a3, a4, a5, m, a6⟩
  exact ⟨m, a6, fun h' sb => ⟨.ref D, H', I'.turned (t' := s'.toks) (fun b o hb e => (sb.2 b hb).trans e) a1 (Ne.symm (Ne.symm a2)) (.inr a3) a4 a5, rfl, q⟩⟩
theorem ps_lc {i : Nat} {y : Str} {py spos : Pos} (S : CScope X.env.scope X.N sc own idx N') (hc : X.calm = true) (hi : PI X tg iter wi)
    (hg : ∀ cl C s3 H0 fp pn, PG (cxComp X N' sc cl C s3 H0 fp pn) tg g) (ht : ∀ cl C s3 H0 fp pn, PC' (cxComp X N' sc cl C s3 H0 fp pn) ifs tc) (he : ∀ cl C s3 H0 fp pn, PE (cxComp X N' sc cl C s3 H0 fp pn) elt te)
    (hN : X.N.Nodup) (hiy : X.N[i]? = some y) (hy : X.env.scope.names.lookup y = some .local)
    (hsw : swapsWith (.ListComp elt [⟨tg, iter, ifs, 0⟩] sc pos) (some (.Name y py)) spos.line X.env = pure true := by rfl)
    (hs : ∀ x, foldedSetIterable iter X.env x = pure x := by intro _; rfl) : PS X (.Assign [.Name y py] (.ListComp elt [⟨tg, iter, ifs, 0⟩] sc pos) spos) (tAsg (tLC own idx wi g tc te) (gName i)) := by
  intro pins s σ H D I h
  obtain ⟨cl, hcl, c1, c2⟩ := S.closure I.ok
  rw [exec_Assign_Name_used _ _ _ _ hsw]
  refine wpAny_bind (wpAny_standAt (wpAny_bind ?_))
  show wpAny _ X.A (do let _ ← comprehension (.ListComp elt [⟨tg, iter, ifs, 0⟩] sc pos) sc X.env _ (newList []) false (eval iter X.env) (some (assign (.Name y py) X.env))) _ _ s
  refine wpAny_bind (wpAny_mono (wpAny_comprehension_free (use := some (assign (.Name y py) X.env)) (Q := fun _ s' => SP X pins D .next s') rfl hs hcl S.kind S.names
    (thn (hi pins s σ H _ I h) fun v s1 h1 => thn h1 fun itv s2 h2 => ?_)) (fun _ s' hq => wpAny_pure (wpAny_pure hq)) fun _ _ e => e)
  refine comp_block (Q := fun x H1 => gName i x σ H1 D.nx) (pins := pins) (σ := σ) (RR := fun acc C => compPost (model X.prog X.w) X.A X.xe (some (assign (.Name y py) X.env)) (fun _ s' => SP X pins D .next s') acc C) S c1 c2 hc hg ht he h2 ?_
  intro D' C H' s' I' q ⟨a1, a2, a3, a4, a5, m, a6⟩
  show wpAny _ X.A (assign (.Name y py) X.env (.ref D')) _ _ _
  refine wpAny_assign_Name (store_ok2 (v := .ref D') I' hN hiy (.inl hy) rfl (fun s'' I'' ⟨a, sb, ha⟩ => ?_) (.inr hy))
  have nCa : C ≠ a := by
    rcases ha with z | z
    · rw [z]; exact a2
    · exact Ne.symm (a4 _ _ z)
  refine ⟨m, a6.sameBut sb nCa, fun h' sb' => ⟨_, H', I''.turned (t' := s''.toks) (fun b o hb e => (sb'.2 b hb).trans e) a1 a2 (.inr a3) a4 a5, q⟩⟩
end
def tV (i : Nat) : TE := fun σ H Q => match σ[i]? with | some (some v) => Q v H | _ => False
section
variable {X : Cx}
theorem pvv (i : Nat) {x : Str} {pos : Pos} (hN : X.N[i]? = some x := by rfl) (hv : Vis X.env.scope x := by first | exact Or.inl rfl | exact Or.inr (Or.inl rfl) | exact Or.inr (Or.inr rfl)) (hd : (x == ("__debug__" : Str)) = false := by decide) (hcd : (x == ("__classdict__" : Str)) = false := by decide) : PE X (.Name x pos) (tV i) := by
  intro pins s σ H Q I h
  refine pe_var hN hv hd hcd pins s σ H Q I ?_
  unfold tV at h
  split at h
  · next v e => exact ⟨v, e, h⟩
  · exact h.elim
def rAddD : R2 := fun x y H Q => match x, y with
  | .int i, .int j => Q (.int (i + j)) H
  | .str i, .str j => i.length + j.length ≤ sizeLine ∧ Q (.str (i ++ j)) H
  | .ref l, .ref b => (∃ xs zs, H l = some (.lst xs) ∧ H b = some (.lst zs) ∧ xs.length + zs.length ≤ sizeLine ∧ ∀ p, H p = none → Q (.ref p) (upd H p (.lst (xs ++ zs))))
  | _, _ => False
theorem op_addD : OpR X (binaryOp .Add) rAddD := by
  intro pins s σ H x y v u Q I rx ry h
  cases x <;> cases y <;> first
    | exact (show False from h).elim
    | exact op_add pins s σ H _ _ v u Q I rx ry ⟨_, _, rfl, rfl, h⟩
    | exact op_add_str pins s σ H _ _ v u Q I rx ry ⟨_, _, rfl, rfl, h.1, h.2⟩
    | (obtain ⟨xs, zs, h1, h2, h3, h4⟩ := h; exact op_cat pins s σ H _ _ v u Q I rx ry ⟨_, _, xs, zs, rfl, rfl, h1, h2, h3, h4⟩)
def rSubD : R2 := fun x y H Q => match x, y with | .int i, .int j => Q (.int (i - j)) H | _, _ => False
theorem op_subD : OpR X (binaryOp .Sub) rSubD := by
  intro pins s σ H x y v u Q I rx ry h
  cases x <;> cases y <;> first
    | exact (show False from h).elim
    | exact op_sub pins s σ H _ _ v u Q I rx ry ⟨_, _, rfl, rfl, h⟩
def rMulD : R2 := fun x y H Q => match x, y with | .int i, .int j => CMul i j ∧ Q (.int (i * j)) H | _, _ => False
theorem op_mulD : OpR X (binaryOp .Mult) rMulD := by
  intro pins s σ H x y v u Q I rx ry h
  cases x <;> cases y <;> first
    | exact (show False from h).elim
    | exact op_mul pins s σ H _ _ v u Q I rx ry ⟨_, _, rfl, rfl, h.1, h.2⟩
def rModD : R2 := fun x y H Q => match x, y with | .int i, .int j => 0 < j ∧ Q (.int (i % j)) H | _, _ => False
theorem op_modD : OpR X (binaryOp .Mod) rModD := by
  intro pins s σ H x y v u Q I rx ry h
  cases x <;> cases y <;> first
    | exact (show False from h).elim
    | exact op_mod pins s σ H _ _ v u Q I rx ry ⟨_, _, rfl, rfl, h.1, h.2⟩
def rDivD : R2 := fun x y H Q => match x, y with | .int i, .int j => (0 < j ∧ j < 1073741824) ∧ Q (.int (i / j)) H | _, _ => False
theorem op_divD : OpR X (binaryOp .FloorDiv) rDivD := by
  intro pins s σ H x y v u Q I rx ry h
  cases x <;> cases y <;> first
    | exact (show False from h).elim
    | exact op_fdiv pins s σ H _ _ v u Q I rx ry ⟨_, _, rfl, rfl, h.1, h.2⟩
def rPowD : R2 := fun x y H Q => match x, y with | .int i, .int j => CPow i j ∧ Q (.int (i ^ j.toNat)) H | _, _ => False
theorem op_powD : OpR X (binaryOp .Pow) rPowD := by
  intro pins s σ H x y v u Q I rx ry h
  cases x <;> cases y <;> first
    | exact (show False from h).elim
    | exact op_pow pins s σ H _ _ v u Q I rx ry ⟨_, _, rfl, rfl, h.1, h.2⟩
def rIC (p : Int → Int → Bool) : R2 := fun x y H Q => match x, y with | .int i, .int j => Q (.bl (p i j)) H | _, _ => False
theorem op_gtD : OpR X (compareOp .Gt) (rIC fun i j => decide (j < i)) := by
  intro pins s σ H x y v u Q I rx ry h
  cases x <;> cases y <;> first
    | exact (show False from h).elim
    | exact op_gt pins s σ H _ _ v u Q I rx ry ⟨_, _, rfl, rfl, h⟩
theorem op_geD : OpR X (compareOp .GtE) (rIC fun i j => decide (j ≤ i)) := by
  intro pins s σ H x y v u Q I rx ry h
  cases x <;> cases y <;> first
    | exact (show False from h).elim
    | exact op_ge pins s σ H _ _ v u Q I rx ry ⟨_, _, rfl, rfl, h⟩
theorem op_leI : OpR X (compareOp .LtE) (rIC fun i j => decide (i ≤ j)) := by
  intro pins s σ H x y v u Q I rx ry h
  cases x <;> cases y <;> first
    | exact (show False from h).elim
    | exact op_le pins s σ H _ _ v u Q I rx ry ⟨_, _, rfl, rfl, h⟩
def rLtD : R2 := fun x y H Q => match x, y with
  | .int i, .int j => Q (.bl (decide (i < j))) H
  | .str i, .str j => Q (.bl (decide (i.cps.toList < j.cps.toList))) H
  | _, _ => False
theorem op_ltD : OpR X (compareOp .Lt) rLtD := by
  intro pins s σ H x y v u Q I rx ry h
  cases x <;> cases y <;> first
    | exact (show False from h).elim
    | exact op_lt pins s σ H _ _ v u Q I rx ry ⟨_, _, rfl, rfl, h⟩
    | exact op_lt_str pins s σ H _ _ v u Q I rx ry ⟨_, _, rfl, rfl, h⟩
def rEqD (n : Bool) : R2 := fun x y H Q => match x, y with
  | .ref a, .ref b => a ≠ b ∧ ∃ xs, H a = some (.lst xs) ∧ H b = some (.lst []) ∧ Q (.bl (n ^^ xs.isEmpty)) H
  | x, y => scal x y = true ∧ Q (.bl (n ^^ decide (x = y))) H
theorem eq_empty {pins : List (Addr × Obj)} {σ : St} {H : Hp} {s : Shared} {Q : Value → Shared → Prop} {E : Value → Shared → Prop} {A : Around} {a b : Addr} {xs : List V} (hu : A.units < cLine) (I : Inv X pins σ H s) (ha : H a = some (.lst xs)) (hb : H b = some (.lst [])) (hab : a ≠ b)
    (q : ∀ tk, Q (.bool xs.isEmpty) { s with toks := tk }) (q0 : Q (.bool xs.isEmpty) s) : wpAny (model X.prog X.w) A (compareOp .Eq (.ref a) (.ref b)) Q E s := by
  obtain ⟨_, its, n, r1, e1⟩ := (show ObjOk X.prog X.w H s.heap a (.lst xs) from I.hok a _ ha)
  obtain ⟨_, its2, n2, r2, e2⟩ := (show ObjOk X.prog X.w H s.heap b (.lst []) from I.hok b _ hb)
  cases r2
  have l1 : s.heap.IsList a its.toArray := ⟨_, e1, rfl, _, rfl⟩
  have l2 : s.heap.IsList b (#[] : Array Value) := ⟨_, e2, rfl, _, rfl⟩
  cases r1 with
  | nil =>
    exact SeqAt.eq_listAt (e := fun _ => true) l1 l2 rfl hu (fun i hi => absurd hi (by simp)) (by simpa using q0)
  | cons z t =>
    exact SeqAt.eq_list_lengthsAt l1 l2 (by simp) hu (by simpa using q0)
theorem op_eqD (hu : X.A.units < cLine) : OpR X (compareOp .Eq) (rEqD false) := by
  intro pins s σ H x y v u Q I rx ry h
  have hs : (∀ a b, x = .ref a → y = .ref b → False) → scal x y = true ∧ Q (.bl (false ^^ decide (x = y))) H := fun hn => by
    cases x <;> cases y <;> first
      | exact (hn _ _ rfl rfl).elim
      | exact h
  by_cases hr : ∃ a b, x = .ref a ∧ y = .ref b
  · obtain ⟨a, b, rfl, rfl⟩ := hr
    obtain ⟨hab, xs, h1, h2, q⟩ := h
    cases rx; cases ry
    exact eq_empty hu I h1 h2 hab (fun tk => ⟨.bl xs.isEmpty, H, I.tok tk, rfl, by simpa using q⟩) ⟨.bl xs.isEmpty, H, I, rfl, by simpa using q⟩
  · obtain ⟨h1, h2⟩ := hs fun a b e1 e2 => hr ⟨a, b, e1, e2⟩
    exact op_eq pins s σ H x y v u Q I rx ry ⟨h1, by simpa using h2⟩
theorem ne_empty {pins : List (Addr × Obj)} {σ : St} {H : Hp} {s : Shared} {Q : Value → Shared → Prop} {E : Value → Shared → Prop} {A : Around} {a b : Addr} {xs : List V} (hu : A.units < cLine) (I : Inv X pins σ H s) (ha : H a = some (.lst xs)) (hb : H b = some (.lst []))
    (q0 : Q (.bool (!xs.isEmpty)) s) : wpAny (model X.prog X.w) A (compareOp .NotEq (.ref a) (.ref b)) Q E s := by
  obtain ⟨_, its, n, r1, e1⟩ := (show ObjOk X.prog X.w H s.heap a (.lst xs) from I.hok a _ ha)
  obtain ⟨_, its2, n2, r2, e2⟩ := (show ObjOk X.prog X.w H s.heap b (.lst []) from I.hok b _ hb)
  cases r2
  have l1 : s.heap.IsList a its.toArray := ⟨_, e1, rfl, _, rfl⟩
  have l2 : s.heap.IsList b (#[] : Array Value) := ⟨_, e2, rfl, _, rfl⟩
  cases r1 with
  | nil =>
    exact SeqAt.RcNeAt.lists (e := fun _ => true) l1 l2 rfl hu (fun i hi => absurd hi (by simp)) _ _ _ _ (by simpa using q0)
  | cons z t =>
    exact SeqAt.RcNeAt.lists_lengths l1 l2 (by simp) hu _ _ _ _ (by simpa using q0)
theorem op_neD (hu : X.A.units < cLine) : OpR X (compareOp .NotEq) (rEqD true) := by
  intro pins s σ H x y v u Q I rx ry h
  have hs : (∀ a b, x = .ref a → y = .ref b → False) → scal x y = true ∧ Q (.bl (true ^^ decide (x = y))) H := fun hn => by
    cases x <;> cases y <;> first
      | exact (hn _ _ rfl rfl).elim
      | exact h
  by_cases hr : ∃ a b, x = .ref a ∧ y = .ref b
  · obtain ⟨a, b, rfl, rfl⟩ := hr
    obtain ⟨hab, xs, h1, h2, q⟩ := h
    cases rx; cases ry
    exact ne_empty hu I h1 h2 ⟨.bl (!xs.isEmpty), H, I, rfl, by simpa using q⟩
  · obtain ⟨h1, h2⟩ := hs fun a b e1 e2 => hr ⟨a, b, e1, e2⟩
    exact op_ne pins s σ H x y v u Q I rx ry ⟨h1, by simpa using h2⟩
def rIxD (K : PySem.W.Frag) : R2 := fun x y H Q => match x, y with
  | .ref p, .int i => ∃ xs v, (SqL K H p xs ∨ SqT K H p xs) ∧ atI xs i = some v ∧ Q v H
  | .str z, .int i => z.length ≤ sizeLine ∧ ∃ c, atI z.cps.toList i = some c ∧ Q (.str ⟨#[c]⟩) H
  | _, _ => False
theorem ix_D : IxR X (rIxD X.K) := by
  intro e1 e2 pins s σ H x y v u Q I rx ry h hs
  cases x <;> cases y <;> first
    | exact (show False from h).elim
    | (obtain ⟨xs, w, h1 | h1, h2, h3⟩ := h
       · exact ix_list e1 e2 pins s σ H _ _ v u Q I rx ry ⟨_, xs, _, w, rfl, rfl, h1, h2, h3⟩ hs
       · exact ix_tup e1 e2 pins s σ H _ _ v u Q I rx ry ⟨_, xs, _, w, rfl, rfl, h1, h2, h3⟩ hs)
    | (obtain ⟨h1, c, h2, h3⟩ := h; exact ix_str e1 e2 pins s σ H _ _ v u Q I rx ry ⟨_, _, c, rfl, rfl, h1, h2, h3⟩ hs)
def rInD (K : PySem.W.Frag) (n : Bool) : R2 := fun x y H Q => match y with
  | .str j => ∃ i, x = .str i ∧ Q (.bl (n ^^ (!(Builtin.Str.occurrences j i 0 j.length 1).isEmpty))) H
  | .ref p => ∃ xs, (SqL K H p xs ∨ SqT K H p xs) ∧ flatV x = true ∧ xs.all flatV = true ∧ Q (.bl (n ^^ inV x xs)) H
  | _ => False
theorem op_inD : OpR X (compareOp .In) (rInD X.K false) := by
  intro pins s σ H x y v u Q I rx ry h
  cases y <;> first
    | exact (show False from h).elim
    | (obtain ⟨i, rfl, h2⟩ := h; exact op_in_str pins s σ H _ _ v u Q I rx ry ⟨i, _, rfl, rfl, by simpa using h2⟩)
    | (obtain ⟨xs, h1, h2, h3, h4⟩ := h; exact op_in_seq pins s σ H _ _ v u Q I rx ry ⟨_, xs, rfl, h1, h2, h3, by simpa using h4⟩)
theorem op_notInD : OpR X (compareOp .NotIn) (rInD X.K true) := by
  intro pins s σ H x y v u Q I rx ry h
  cases y <;> first
    | exact (show False from h).elim
    | (obtain ⟨i, rfl, h2⟩ := h; exact op_notin_str pins s σ H _ _ v u Q I rx ry ⟨i, _, rfl, rfl, by simpa using h2⟩)
    | (obtain ⟨xs, h1, h2, h3, h4⟩ := h; exact op_notIn_seq pins s σ H _ _ v u Q I rx ry ⟨_, xs, rfl, h1, h2, h3, by simpa using h4⟩)
def rLenD (K : PySem.W.Frag) : List V → Hp → VK → Prop := fun xs H Q => match xs with
  | [.str y] => y.length ≤ sizeLine ∧ Q (.int y.length) H
  | [.ref p] => (∃ ys, (SqL K H p ys ∨ SqT K H p ys) ∧ Q (.int ys.length) H) ∨ (∃ kvs, Rd H p (.dK kvs) ∧ Q (.int kvs.length) H)
  | _ => False
theorem call_lenA : CallR X (.builtin "len") (rLenD X.K) := by
  intro pins s σ H xs us Q I r h
  unfold rLenD at h
  split at h
  · exact call_len pins s σ H _ us Q I r ⟨_, _, rfl, ⟨h.1, rfl⟩, h.2⟩
  · rcases h with ⟨ys, h1 | h1, q⟩ | ⟨kvs, h1, q⟩
    · exact call_len pins s σ H _ us Q I r ⟨_, _, rfl, .inl ⟨ys, h1, rfl⟩, q⟩
    · exact call_len pins s σ H _ us Q I r ⟨_, _, rfl, .inr ⟨ys, h1, rfl⟩, q⟩
    · obtain ⟨u, rfl, ru⟩ := vals1 r
      cases ru
      exact d_len I h1 fun t s' I' => ⟨.int kvs.length, H, I', ⟨t, rfl⟩, q⟩
  · exact h.elim
def tyName (H : Hp) : V → Option String
  | .non => some "NoneType"
  | .bl _ => some "bool"
  | .int _ => some "int"
  | .str _ => some "str"
  | .ref a => match H a with
    | some (.lst _) => some "list"
    | some (.tup _) => some "tuple"
    | some (.dK _) => some "dict"
    | _ => none
  | _ => none
def isiT (t T : String) : Bool := t == T || (t == "bool" && T == "int")
theorem kit_all : ∀ (K : PySem.W.Frag) (t T : String), t ∈ ["NoneType", "bool", "int", "str", "list", "tuple", "dict"] → T ∈ ["bool", "int", "str", "list", "tuple", "dict"] → PySem.W.kitOne K (.type t) (.type T) = some (isiT t T) := by
  intro K t T h1 h2
  simp only [List.mem_cons, List.mem_nil_iff, or_false] at h1 h2
  rcases h1 with rfl | rfl | rfl | rfl | rfl | rfl | rfl <;> rcases h2 with rfl | rfl | rfl | rfl | rfl | rfl <;> rfl
def rIsi : List V → Hp → VK → Prop := fun xs H Q => match xs with
  | [x, .ty T] => T ∈ ["bool", "int", "str", "list", "tuple", "dict"] ∧ ∃ t, tyName H x = some t ∧ Q (.bl (isiT t T)) H
  | _ => False
theorem call_isiD : CallR X (.builtin "isinstance") rIsi := by
  intro pins s σ H xs us Q I r h
  unfold rIsi at h
  split at h
  · next x T =>
    obtain ⟨hT, t, ht, q⟩ := h
    obtain ⟨u, c, rfl, ru, rc⟩ := r.two
    cases rc
    have fin : ∀ tk, EP X pins σ Q (.bool (isiT t T)) { s with toks := tk } := fun tk => ⟨.bl (isiT t T), H, I.tok tk, rfl, q⟩
    have tm : t ∈ ["NoneType", "bool", "int", "str", "list", "tuple", "dict"] ∧ TyOf X.K H x (.type t) := by
      cases x with
      | non => cases ht; exact ⟨by simp, .non⟩
      | bl b => cases ht; exact ⟨by simp, .bl b⟩
      | int b => cases ht; exact ⟨by simp, .int b⟩
      | str b => cases ht; exact ⟨by simp, .str b⟩
      | ref a =>
        unfold tyName at ht
        dsimp only at ht
        split at ht
        · next e => cases ht; exact ⟨by simp, .lst e⟩
        · next e => cases ht; exact ⟨by simp, .tup e⟩
        · next e => cases ht; exact ⟨by simp, .dK e⟩
        · cases ht
      | _ => cases ht
    exact isinst_ok I ru tm.2 (kit_all _ t T tm.1 hT) fin
  · exact h.elim
def rAll (K : PySem.W.Frag) : List V → Hp → VK → Prop := fun xs H Q => match xs with
  | [.ref p] => ∃ bs : List Bool, SqL K H p (bs.map V.bl) ∧ Q (.bl (bs.all id)) H
  | _ => False
theorem bools_of : ∀ {bs : List Bool} {us : List Value}, Vals (bs.map V.bl) us → us = bs.map Value.bool
  | [], _, .nil => rfl
  | b :: bs, _, .cons r t => by
    cases (show _ = Value.bool b from r)
    rw [bools_of t]; rfl
theorem call_allD (hc : X.calm = true) : CallR X (.builtin "all") (rAll X.K) := by
  intro pins s σ H xs us Q I r h
  unfold rAll at h
  split at h
  · next p =>
    obtain ⟨bs, hq, q⟩ := h
    obtain ⟨u, rfl, ru⟩ := r.one
    cases ru
    obtain ⟨its, rv, pl, hz⟩ := I.list hq
    have e := bools_of rv
    subst e
    have hlt : p < s.heap.objs.size := by obtain ⟨_, e, _⟩ := pl.isList; exact Heap.lt_size e
    refine call_all_walk (wpAny_pyIter_list pl.isList ?_)
    refine ⟨s.heap.objs.size, [s.heap.objs.size, p], [s.heap.objs.size], (bs.map Value.bool).toArray.size, _, _, fun i => (bs[i]?).getD true, rfl, Walks.list (A := X.A.in1) (I.ok.hd hc) _ p (Nat.ne_of_lt hlt) _,
      ⟨⟨_, Heap.get?_push_size _ rfl, rfl, rfl⟩, pl.isList.push _⟩, fun i v s' Q' E' hP hQ => ?_, fun h' tk hk => ?_⟩
    · have hP' : (bs.map Value.bool)[i]? = some v := by simpa using hP
      rw [List.getElem?_map] at hP'
      cases eb : bs[i]? with
      | none => rw [eb] at hP'; cases hP'
      | some b =>
        rw [eb] at hP'
        cases hP'
        simp only [eb, Option.getD_some] at hQ
        exact wpAny_truthy_bool hQ
    · have e : ((List.range (bs.map Value.bool).toArray.size).all fun i => (bs[i]?).getD true) = bs.all id := by
        rw [List.size_toArray, List.length_map]
        rw [Bool.eq_iff_iff, List.all_eq_true, List.all_eq_true]
        constructor
        · intro h b hb
          obtain ⟨i, hi, rfl⟩ := List.getElem_of_mem hb
          have := h i (List.mem_range.mpr hi)
          simpa [List.getElem?_eq_getElem hi] using this
        · intro h i hi
          have hi' := List.mem_range.mp hi
          have := h _ (List.getElem_mem hi')
          simpa [List.getElem?_eq_getElem hi'] using this
      rw [e]
      refine ⟨.bl (bs.all id), H, I.kept (t' := tk) fun b o e => hk b o (fun hm => ?_) (Heap.get?_push_of_some _ e), rfl, q⟩
      rw [List.mem_singleton.mp hm] at e
      exact Nat.lt_irrefl _ (Heap.lt_size e)
  · exact h.elim
theorem strs_of : ∀ {xs : List Str} {us : List Value}, Vals (xs.map V.str) us → StrsAre us xs
  | [], _, .nil => .nil
  | x :: xs, _, .cons r t => by
    obtain ⟨k, rfl⟩ := (show ∃ t, _ = Value.str x t from r)
    exact .cons x k (strs_of t)
def rJoin (K : PySem.W.Frag) : V → List V → Hp → VK → Prop := fun x vs H Q => match x, vs with
  | .str sep, [.ref p] => ∃ ys : List Str, SqL K H p (ys.map V.str) ∧ (ys.map (·.length)).sum + ys.length * sep.length ≤ 16777216 ∧ Q (.str (Txt.join sep ys)) H
  | _, _ => False
theorem mt_join : MtM X "str.join" (rJoin X.K) := by
  intro pins s σ H x vs v us Q I rx rv h
  unfold rJoin at h
  split at h
  · next sep p =>
    obtain ⟨ys, hq, hz, q⟩ := h
    obtain ⟨t, rfl⟩ := (show ∃ t, v = Value.str sep t from rx)
    obtain ⟨u, rfl, ru⟩ := rv.one
    cases ru
    obtain ⟨its, rv', pl, _⟩ := I.list hq
    exact join_list pl.isList (by simpa using strs_of rv') hz fun t' k => ⟨.str (Txt.join sep ys), H, I.tok k, ⟨t', rfl⟩, q⟩
  · exact h.elim
def rSlS : V → Option Int → Option Int → Hp → VK → Prop := fun x lo hi H Q => ∃ z, x = .str z ∧ z.length ≤ sizeLine ∧ Q (.str (Txt.slice z lo hi)) H
theorem sl_str : SlR X rSlS := by
  intro pins s σ H x v vl vu lo hi sl Q I rx hs pl pu h
  obtain ⟨z, rfl, hz, q⟩ := h
  obtain ⟨t, rfl⟩ := (show ∃ t, v = Value.str z t from rx)
  refine ⟨"str", _, F.slot_str_getitem.lookup, typeIs_str _ _ _, ?_⟩
  have hpart : ∀ {w : Value} {o : Option Int}, IsPart w o → ∃ l : Option (Int × Tok), w = partValue l ∧ l.map (·.1) = o := fun {w o} p => by
    cases p with
    | none => exact ⟨none, rfl, rfl⟩
    | int k t => exact ⟨some (k, t), rfl, rfl⟩
  obtain ⟨l, e1, e2⟩ := hpart pl
  obtain ⟨u, e3, e4⟩ := hpart pu
  subst e1 e3
  obtain ⟨o, ho, hc, hd⟩ := hs
  refine wpAny_getItem_str_slice (l := l) (u := u) (st := none) ⟨o, ho, hc, hd⟩ rfl ?_
  refine post_val_or_str ⟨Nat.le_trans (Txt.slice_le z _ _) hz, fun t' k => ?_⟩
  show EP X pins σ Q (.str (Txt.slice z (l.map (·.1)) (u.map (·.1))) t') _
  rw [e2, e4]
  exact ⟨.str (Txt.slice z lo hi), H, I.tok k, ⟨t', rfl⟩, q⟩
def Its (z : Str) : It := ⟨fun i _ => i < z.cps.size, fun i H x H' => H' = H ∧ ∃ c, z.cps[i]? = some c ∧ x = .str ⟨#[c]⟩, fun i _ => z.cps.size = i⟩
theorem turn_walks {P : Program} {w : World} {K : PySem.W.Frag} {tg : Expr} {it : Addr} {z : Str} {St : Nat → Heap → Prop} (W : ∀ A' : Around, A'.handled = none → Walks P w A' it [it] [it] z.cps.size (SignAt z) St)
    (hself : ∀ (A : Around) (i : Nat) (s : Shared) (Q : Value → Shared → Prop) (E : Value → Shared → Prop), St i s.heap → Q (.ref it) s → wpAny (model P w) A (pyIter (.ref it)) Q E s)
    (hg : ∀ i h, St i h → ∃ o n vs, h.get? it = some o ∧ o.cls = .type n ∧ o.data = .fields vs ∧ ["enumerate", "zip", "dict_itemiterator", "dict_reverseitemiterator", "odict_iterator", "itertools.zip_longest", "itertools.pairwise"].contains n = false) : Turn P w K tg (Its z) [it] it St where
  mem := by simp
  obj := fun i h st b hb => by
    have e : b = it := by simpa using hb
    subst e
    obtain ⟨o, n, vs, e, c, d, _⟩ := hg i h st
    exact ⟨o, e, fun v z => by rw [d] at z; cases z⟩
  keep := fun i h h' st k => (W {} rfl).frame _ _ _ st k
  item := by
    intro X hP hw hK hc i pins s σ H E I hf st hgo
    subst hP hw hK
    obtain ⟨f0, f1, f2, f3, f4, f5⟩ := hf it (by simp)
    refine (W X.A (I.ok.hd hc)).item i s _ _ hgo st fun v h' tk hv st' kk => ?_
    obtain ⟨c, t, hc1, rfl⟩ := hv
    have I1 : Inv X pins σ H { s with heap := h', toks := tk } := I.turned (fun b o hb e => kk b o (by simpa using hb) e) f0 f1 f3 f4 f5
    obtain ⟨o, n, vs, e, c', d, nn⟩ := hg _ _ st'
    exact ⟨_, rfl, go_of (s := { s with heap := h', toks := tk }) e c' d nn ⟨.str ⟨#[c]⟩, H, I1, ⟨t, rfl⟩, ⟨rfl, c, hc1, rfl⟩, st', fun b hb => (hf b hb).1⟩⟩
  done := by
    intro X hP hw hK hc i pins s σ H E I hf st hgo
    subst hP hw hK
    obtain ⟨f0, f1, f2, f3, f4, f5⟩ := hf it (by simp)
    have e : z.cps.size = i := hgo
    subst e
    exact (W X.A (I.ok.hd hc)).done s _ _ st fun h' tk kk => ⟨rfl, I.turned (fun b o hb e => kk b o (by simpa using hb) e) f0 f1 f3 f4 f5⟩
  self := hself
end
def FnK (P : Program) (w : World) (K : PySem.W.Frag) (mg : Str → Option Value) (base : Heap) (k : Nat) (x : Str) (ps : List Str) (sp : Sp) : Prop :=
  ∃ (f : Addr) (fd : FuncData), FnOk P w K mg base CX0 k f fd ps sp ∧ mg x = some (.ref f) ∧ PySem.W.keepIn K (.ref f) = true ∧ Binds K fd ps [] ∧ ∃ (oc : Value) (od : Option Addr) (osl : Array (Option Value)), K.lookup f = some ⟨oc, od, .func fd, osl⟩
section
variable {X : Cx} {k : Nat} {ps : List Str} {sp : Sp} {x : Str} {p pos : Pos} {e : Expr} {es : List Expr} {t : TA}
theorem pe_fn (F : FnK X.prog X.w X.K X.mg X.base k x ps sp) (hr : Room k X.A) (ha : PA X (e :: es) t) (hg : Gl X x := by rfl) (hdb : (x == ("__debug__" : Str)) = false := by decide)
    (he : starEach (e :: es) X.env = (false, eval e X.env) :: starEach es X.env := by rfl) (hpl : (backTo pos (starEach es X.env)).any (·.1) = false := by rfl) :
    PE X (.Call (.Name x p) (e :: es) [] pos) (tCall sp [] E0 t) := by
  obtain ⟨f, fd, G, mgf, kp, b, _⟩ := F
  exact pe_call G hr hg mgf kp b .nil pass0 ha hdb he hpl
end
def iD (K : PySem.W.Frag) (tl : TE) : TI := fun σ H R => tl σ H fun x H1 => match x with
  | .ref a => ((∃ xs, SqL K H1 a xs) ∧ R (Itl K a) H1) ∨ ((∃ xs, SqT K H1 a xs) ∧ R (Itt K a) H1)
  | .str z => R (Its z) H1
  | _ => False
theorem pi_D {X : Cx} {tg l : Expr} {tl : TE} (hl : PE X l tl) : PI X tg l (iD X.K tl) := by
  intro pins s σ H R I h
  refine thn (hl pins s σ H _ I h) ?_
  rintro v s1 ⟨x, H1, I1, r1, q1⟩
  cases x with
  | ref a =>
    cases r1
    rcases q1 with ⟨⟨xs, hq⟩, q⟩ | ⟨⟨xs, hq⟩, q⟩
    · obtain ⟨its, rv, p, hz⟩ := I1.list hq
      refine wpAny_pyIter_list p.isList ?_
      refine ⟨s1.heap.objs.size, [s1.heap.objs.size], _, _, H1, rfl, I1.kept (t' := s1.toks) fun b o e => Heap.get?_push_of_some _ e, turn_list a _, ⟨_, Heap.get?_push_size _ rfl, rfl, rfl⟩, fun b hb => ?_, q⟩
      have e : b = s1.heap.objs.size := by simpa using hb
      subst e
      exact I1.fpOk (Nat.le_refl _) (I1.hok.fresh (Nat.le_refl _))
    · obtain ⟨its, rv, p, hz⟩ := I1.tuple hq
      refine wpAny_pyIter_tuple (show s1.heap.IsTuple a its.toArray from p) ?_
      refine ⟨s1.heap.objs.size, [s1.heap.objs.size], _, _, H1, rfl, I1.kept (t' := s1.toks) fun b o e => Heap.get?_push_of_some _ e, turn_tuple a _, ⟨_, Heap.get?_push_size _ rfl, rfl, rfl⟩, fun b hb => ?_, q⟩
      have e : b = s1.heap.objs.size := by simpa using hb
      subst e
      exact I1.fpOk (Nat.le_refl _) (I1.hok.fresh (Nat.le_refl _))
  | str z =>
    obtain ⟨t, rfl⟩ := (show ∃ t, v = Value.str z t from r1)
    have q : R (Its z) H1 := q1
    have fin : ∀ (o : Obj) (n : String) (W : ∀ A' : Around, A'.handled = none → Walks X.prog X.w A' s1.heap.objs.size [s1.heap.objs.size] [s1.heap.objs.size] z.cps.size (SignAt z) (fun i h => h.IsStrIter s1.heap.objs.size n z t i)),
        (∀ (A : Around) (i : Nat) (s : Shared) (Q : Value → Shared → Prop) (E : Value → Shared → Prop), s.heap.IsStrIter s1.heap.objs.size n z t i → Q (.ref s1.heap.objs.size) s → wpAny (model X.prog X.w) A (pyIter (.ref s1.heap.objs.size)) Q E s) →
        ["enumerate", "zip", "dict_itemiterator", "dict_reverseitemiterator", "odict_iterator", "itertools.zip_longest", "itertools.pairwise"].contains n = false →
        (s1.heap.push o).IsStrIter s1.heap.objs.size n z t 0 → PIE X pins σ tg R (.ref s1.heap.objs.size) { s1 with heap := s1.heap.push o } := by
      intro o n W hself hn st
      refine ⟨s1.heap.objs.size, [s1.heap.objs.size], _, _, H1, rfl, I1.kept (t' := s1.toks) fun b o e => Heap.get?_push_of_some _ e, turn_walks W hself (fun i h st => ?_), st, fun b hb => ?_, q⟩
      · obtain ⟨o, e, c, d⟩ := st
        exact ⟨o, n, _, e, c, d, hn⟩
      · have e : b = s1.heap.objs.size := by simpa using hb
        subst e
        exact I1.fpOk (Nat.le_refl _) (I1.hok.fresh (Nat.le_refl _))
    cases ha : z.cps.all (· < 128)
    · exact wpAny_pyIter_wide ha (fin _ _ (fun A' hA => Walks.strWide hA _ z t) (fun A i s Q E st h => wpAny_pyIter_striter_wide st h) (by decide) ⟨_, Heap.get?_push_size _ rfl, rfl, rfl⟩)
    · exact wpAny_pyIter_ascii ha (fin _ _ (fun A' hA => Walks.strAscii hA _ z t) (fun A i s Q E st h => wpAny_pyIter_striter_ascii st h) (by decide) ⟨_, Heap.get?_push_size _ rfl, rfl, rfl⟩)
  | _ => exact (show False from q1).elim
def ItN (J : It) (ok : Hp → Prop) (n : Nat) (item : Nat → V) : Prop :=
  ∀ H, ok H → (∀ i, i < n → J.go i H ∧ ∀ x H', J.yld i H x H' → H' = H ∧ x = item i) ∧ J.stop n H
theorem itn_list {K : PySem.W.Frag} {a : Addr} (xs : List V) : ItN (Itl K a) (fun H => SqL K H a xs) xs.length (fun i => xs.getD i .non) := fun H ok =>
  ⟨fun i hi => ⟨⟨xs, xs[i], ok, by simp [hi]⟩, fun x H' ⟨e, y⟩ => ⟨e, by
    have := y xs ok
    show x = xs.getD i V.non
    rw [List.getD_eq_getElem?_getD, this]; rfl⟩⟩, ⟨xs, ok, Nat.le_refl _⟩⟩
theorem itn_tup {K : PySem.W.Frag} {a : Addr} (xs : List V) : ItN (Itt K a) (fun H => SqT K H a xs) xs.length (fun i => xs.getD i .non) := fun H ok =>
  ⟨fun i hi => ⟨⟨xs, xs[i], ok, by simp [hi]⟩, fun x H' ⟨e, y⟩ => ⟨e, by
    have := y xs ok
    show x = xs.getD i V.non
    rw [List.getD_eq_getElem?_getD, this]; rfl⟩⟩, ⟨xs, ok, Nat.le_refl _⟩⟩
theorem itn_range (lo : Int) (n : Nat) : ItN (Itr lo n) (fun _ => True) n (fun i => .int (lo + i)) := fun H _ =>
  ⟨fun i hi => ⟨hi, fun x H' ⟨e, y⟩ => ⟨e, y⟩⟩, Nat.le_refl _⟩
theorem itn_str (z : Str) : ItN (Its z) (fun _ => True) z.cps.size (fun i => .str ⟨#[z.cps.getD i 0]⟩) := fun H _ =>
  ⟨fun i hi => ⟨hi, fun x H' ⟨e, c, h1, h2⟩ => ⟨e, by show x = V.str ⟨#[z.cps.getD i 0]⟩; rw [h2, Array.getD_eq_getD_getElem?, h1]; rfl⟩⟩, rfl⟩
theorem lc_by {J : It} {ok : Hp → Prop} {n : Nat} {item : Nat → V} {g : TG} {tc : TC} {te : TE} {τ0 : St} {H0 : Hp} {D : Addr} {Q : Hp → Prop} (hJ : ItN J ok n item) (Pv : Nat → St → Hp → Prop) (h0 : Pv 0 τ0 H0)
    (hok : ∀ i τ H, i ≤ n → Pv i τ H → ok H)
    (hs : ∀ i τ H, i < n → Pv i τ H → g (item i) τ H fun τ2 H2 => tc τ2 H2 fun b H3 => if b = true then te τ2 H3 fun y H4 => ∃ xs, H4 D = some (.lst xs) ∧ xs.length < sizeLine ∧ Pv (i + 1) τ2 (upd H4 D (.lst (xs ++ [y]))) else Pv (i + 1) τ2 H3)
    (hd : ∀ τ H, Pv n τ H → Q H) : ∃ W : Nat → Nat → St → Hp → Prop, (∃ m, W 0 m τ0 H0) ∧ ∀ i m τ H, W i m τ H →
      (J.stop i H ∧ Q H) ∨ (J.go i H ∧ ∃ N : St → Hp → Prop, (∀ τ' H', N τ' H' → ∃ m', m' < m ∧ W (i + 1) m' τ' H') ∧ ∀ x H', J.yld i H x H' → g x τ H' fun τ2 H2 => tc τ2 H2 fun b H3 =>
        if b = true then te τ2 H3 fun y H4 => ∃ xs, H4 D = some (.lst xs) ∧ xs.length < sizeLine ∧ N τ2 (upd H4 D (.lst (xs ++ [y]))) else N τ2 H3) := by
  refine ⟨fun i m τ H => m = n - i ∧ i ≤ n ∧ Pv i τ H, ⟨n, by simp, Nat.zero_le _, h0⟩, ?_⟩
  rintro i m τ H ⟨rfl, hi, p⟩
  obtain ⟨k1, k2⟩ := hJ H (hok i τ H hi p)
  by_cases hlt : i < n
  · refine .inr ⟨(k1 i hlt).1, Pv (i + 1), fun σ' H' p' => ⟨n - (i + 1), by omega, rfl, hlt, p'⟩, fun x H' y => ?_⟩
    obtain ⟨e, e2⟩ := (k1 i hlt).2 x H' y
    subst e e2
    exact hs i τ _ hlt p
  · have e : i = n := by omega
    subst e
    exact .inl ⟨k2, hd τ H p⟩
theorem for_by {J : It} {ok : Hp → Prop} {n : Nat} {item : Nat → V} {g : TG} {tb : TS} {D : Ends} {σ : St} {H : Hp} (hJ : ItN J ok n item) (Pv : Nat → St → Hp → Prop) (h0 : Pv 0 σ H) (hok : ∀ i τ H, i ≤ n → Pv i τ H → ok H)
    (hs : ∀ i σ H, i < n → Pv i σ H → g (item i) σ H fun σ2 H2 => tb { D with nx := Pv (i + 1), ct := Pv (i + 1), bk := D.nx } σ2 H2) (hd : ∀ σ H, Pv n σ H → D.nx σ H) :
    ∃ W : Nat → Nat → St → Hp → Prop, (∃ m, W 0 m σ H) ∧ ∀ i m σ H, W i m σ H →
      (J.stop i H ∧ D.nx σ H) ∨ (J.go i H ∧ ∃ N : St → Hp → Prop, (∀ σ' H', N σ' H' → ∃ m', m' < m ∧ W (i + 1) m' σ' H') ∧ ∀ x H', J.yld i H x H' → g x σ H' fun σ2 H2 => tb { D with nx := N, ct := N, bk := D.nx } σ2 H2) := by
  refine ⟨fun i m σ H => m = n - i ∧ i ≤ n ∧ Pv i σ H, ⟨n, by simp, Nat.zero_le _, h0⟩, ?_⟩
  rintro i m σ H ⟨rfl, hi, p⟩
  obtain ⟨k1, k2⟩ := hJ H (hok i σ H hi p)
  by_cases hlt : i < n
  · refine .inr ⟨(k1 i hlt).1, Pv (i + 1), fun σ' H' p' => ⟨n - (i + 1), by omega, rfl, hlt, p'⟩, fun x H' y => ?_⟩
    obtain ⟨e, e2⟩ := (k1 i hlt).2 x H' y
    subst e e2
    exact hs i σ _ hlt p
  · have e : i = n := by omega
    subst e
    exact .inl ⟨k2, hd σ H p⟩
def FnT (K : PySem.W.Frag) (mg : Str → Option Value) (x : Str) (st : Stmt) (ps : List Str) : Prop := ∃ (f : Addr) (fd : FuncData), Fun K x x st f fd ∧ mg x = some (.ref f) ∧ Binds K fd ps []
theorem FnT.ok {P : Program} {w : World} {K : PySem.W.Frag} {mg : Str → Option Value} {base : Heap} {x : Str} {st : Stmt} {N ps : List Str} {k : Nat} {sp : Sp} (F : FnT K mg x st ps) (S : FnScope N ps (defScope st)) (len : ∀ vs H Q E, sp vs H Q E → vs.length = ps.length)
    (hbody : ∀ (f : Addr) (cdv : Value) (A : Around) (outer : List Env) (s : Shared) (H : Hp) (vs : List V) (Q : VK) (E : XK), Room k (A.deeper (envOfC x (defScope st) s.heap.objs.size f cdv)) → sp vs H Q E →
      ∃ t, PSs (cxOf CX0 P w K mg base N x (defScope st) f cdv A outer s H E).nox (defBody st) t ∧ t { nx := fun _ H' => Q .non H', rt := Q } (start N vs) H) : FnK P w K mg base (k + 1) x ps sp := by
  obtain ⟨f, fd, Fu, m, b⟩ := F
  exact ⟨f, fd, Fu.ok S len (hbody f), m, Fu.kp, b, let ⟨oc, od, _, _, _, _, _, _, osl, _, lk, _⟩ := Fu.ex; ⟨oc, od, osl, lk⟩⟩
section
variable {X : Cx} {x : Str} {pos : Pos}
theorem pe_gl {v : V} (h : ∃ u, X.mg x = some u ∧ RelV v u) (hg : Gl X x := by rfl) (hd : (x == ("__debug__" : Str)) = false := by decide) : PE X (.Name x pos) (tC v) := by
  obtain ⟨u, h1, h2⟩ := h
  exact pe_glob hg h1 h2 hd
def tGlT (K : PySem.W.Frag) (xs : List V) : TE := fun _ H Q => ∀ a, SqT K H a xs → Q (.ref a) H
theorem pe_glT {xs : List V} (h : ∃ a, X.mg x = some (.ref a) ∧ ∀ H, SqT X.K H a xs) (hg : Gl X x := by rfl) (hd : (x == ("__debug__" : Str)) = false := by decide) : PE X (.Name x pos) (tGlT X.K xs) := by
  obtain ⟨a, h1, h2⟩ := h
  intro pins s σ H Q I q
  exact pe_glob (v := .ref a) hg h1 rfl hd pins s σ H Q I (q a (h2 H))
theorem sl_D : SlR X (fun x lo hi H Q => rSlS x lo hi H Q ∨ (rSlL X.K x lo hi H Q ∨ rSlT X.K x lo hi H Q)) := sl_str.or (sl_list.or sl_tup)
end
section
variable {X : Cx} (K : PySem.W.Frag)
theorem ix_K (h : X.K = K := by rfl) : IxR X (rIxD K) := by rw [← h]; exact ix_D
theorem op_inK (h : X.K = K := by rfl) : OpR X (compareOp .In) (rInD K false) := by rw [← h]; exact op_inD
theorem op_notInK (h : X.K = K := by rfl) : OpR X (compareOp .NotIn) (rInD K true) := by rw [← h]; exact op_notInD
theorem call_lenK (h : X.K = K := by rfl) : CallR X (.builtin "len") (rLenD K) := by rw [← h]; exact call_lenA
theorem call_allK (hc : X.calm = true) (h : X.K = K := by rfl) : CallR X (.builtin "all") (rAll K) := by rw [← h]; exact call_allD hc
theorem mt_joinK (h : X.K = K := by rfl) : MtM X "str.join" (rJoin K) := by rw [← h]; exact mt_join
theorem sl_K (h : X.K = K := by rfl) : SlR X (fun x lo hi H Q => rSlS x lo hi H Q ∨ (rSlL K x lo hi H Q ∨ rSlT K x lo hi H Q)) := by rw [← h]; exact sl_D
theorem pi_K {tg l : Expr} {tl : TE} (hl : PE X l tl) (h : X.K = K := by rfl) : PI X tg l (iD K tl) := by rw [← h]; exact pi_D hl
theorem pe_glK {x : Str} {pos : Pos} {xs : List V} (hx : ∃ a, X.mg x = some (.ref a) ∧ ∀ H, SqT K H a xs) (h : X.K = K := by rfl) (hg : Gl X x := by rfl) (hd : (x == ("__debug__" : Str)) = false := by decide) : PE X (.Name x pos) (tGlT K xs) := by
  subst h; exact pe_glT hx hg hd
theorem pg_tupK {es : List Expr} {k : Nat} {t : TGs} {n : Nat} {pos : Pos} (hc : X.calm = true) (hh : PGs X es t) (h : X.K = K := by rfl)
    (hn : (assignEach es X.env).length = n := by rfl) (hst : (assignEach es X.env).findIdx? (·.1) = none := by rfl) : PG X (.Tuple es k pos) (gTup K n t) := by
  subst h; exact pg_tup hc hh hn hst
theorem pe_bmK {T : String} {name : Str} {id : String} {r : V → List V → Hp → VK → Prop} {o e : Expr} {es : List Expr} {to : TE} {t : TA} {apos cpos : Pos} (pa : PlainAttrs T) (slot : Slot T name id) (hty : typeOf (.builtin id) = pure (.type "method_descriptor")) (hm : MtM X id r) (ho : PE X o to) (ha : PA X (e :: es) t) (h : X.K = K := by rfl)
    (hbase : attributeBase o name X.env (eval o X.env) = eval o X.env := by rfl)
    (hfew : ((backTo cpos (starEach (e :: es) X.env)).all (fun x => !x.1) && (backToKw cpos (keywordEach [] X.env)).all (fun x => x.1.isSome)
      && decide ((e :: es).length + ([] : List Keyword).length + (if ([] : List Keyword).isEmpty then 0 else 1) < 30)) = true := by rfl)
    (hline : (apos.endLine == cpos.line) = true := by rfl) (hs : starEach (e :: es) X.env = (false, eval e X.env) :: starEach es X.env := by rfl) (hplain : (backTo cpos (starEach es X.env)).any (·.1) = false := by rfl) :
    PE X (.Call (.Attribute o name apos) (e :: es) [] cpos) (tBM K T r to t) := by
  subst h; exact pe_bm pa slot hty hm ho ha hbase hfew hline hs hplain
end
structure SE (X : Cx) (e : Expr) (t : TE) : Prop where
  h : PE X e t
structure ST (X : Cx) (e : Expr) (t : TT) : Prop where
  h : PT X e t
structure SW (X : Cx) (e : Expr) (t : TT) : Prop where
  h : PW X e t
structure SA (X : Cx) (es : List Expr) (t : TA) : Prop where
  h : PA X es t
structure SS (X : Cx) (s : Stmt) (t : TS) : Prop where
  h : PS X s t
structure SB (X : Cx) (s : List Stmt) (t : TS) : Prop where
  h : PSs X s t
structure SG (X : Cx) (e : Expr) (t : TG) : Prop where
  h : PG X e t
structure SGs (X : Cx) (e : List Expr) (t : TGs) : Prop where
  h : PGs X e t
structure SI (X : Cx) (tg e : Expr) (t : TI) : Prop where
  h : PI X tg e t
structure SC (X : Cx) (e : List Expr) (t : TC) : Prop where
  h : PC' X e t
structure SO (X : Cx) (e : Option Expr) (t : TO) : Prop where
  h : PO X e t
structure SP2 (X : Cx) (pos : Pos) (keys : List (Option Expr)) (values : List Expr) (trs : List (TE × TE)) : Prop where
  h : PPs X pos keys values trs
section
variable {X : Cx} {es : List Expr} {te : TE} {t : TA} {c : Const} {j : Nat} {pos0 : Pos} {n : Str} {xs0 : List Expr} {f0 a0 b0 c0 : Expr} {kw0 : List Keyword} {o0 : Operator} {ks0 : List (Option Expr)} {gs0 : List Comprehension} {sc0 : Scope} {u0 : UnaryOp} {bo0 : BoolOp} {ops0 : List CmpOp}theorem sa_nil : SA X [] tNil := ⟨pa_nil⟩
theorem sa_Constant (ha : SE X (.Constant c j pos0) te) (hr : SA X es t) : SA X (.Constant c j pos0 :: es) (tCons te t) := ⟨pa_cons ha.h hr.h⟩
theorem sa_Name (ha : SE X (.Name n pos0) te) (hr : SA X es t) : SA X (.Name n pos0 :: es) (tCons te t) := ⟨pa_cons ha.h hr.h⟩
theorem sa_List (ha : SE X (.List xs0 pos0) te) (hr : SA X es t) : SA X (.List xs0 pos0 :: es) (tCons te t) := ⟨pa_cons ha.h hr.h⟩
theorem sa_Tuple (ha : SE X (.Tuple xs0 j pos0) te) (hr : SA X es t) : SA X (.Tuple xs0 j pos0 :: es) (tCons te t) := ⟨pa_cons ha.h hr.h⟩
theorem sa_Call (ha : SE X (.Call f0 xs0 kw0 pos0) te) (hr : SA X es t) : SA X (.Call f0 xs0 kw0 pos0 :: es) (tCons te t) := ⟨pa_cons ha.h hr.h⟩
theorem sa_BinOp (ha : SE X (.BinOp a0 o0 b0 pos0) te) (hr : SA X es t) : SA X (.BinOp a0 o0 b0 pos0 :: es) (tCons te t) := ⟨pa_cons ha.h hr.h⟩
theorem sa_Subscript (ha : SE X (.Subscript a0 b0 pos0) te) (hr : SA X es t) : SA X (.Subscript a0 b0 pos0 :: es) (tCons te t) := ⟨pa_cons ha.h hr.h⟩
theorem sa_Dict (ha : SE X (.Dict ks0 xs0 pos0) te) (hr : SA X es t) : SA X (.Dict ks0 xs0 pos0 :: es) (tCons te t) := ⟨pa_cons ha.h hr.h⟩
theorem sa_ListComp (ha : SE X (.ListComp a0 gs0 sc0 pos0) te) (hr : SA X es t) : SA X (.ListComp a0 gs0 sc0 pos0 :: es) (tCons te t) := ⟨pa_cons ha.h hr.h⟩
theorem sa_IfExp (ha : SE X (.IfExp a0 b0 c0 pos0) te) (hr : SA X es t) : SA X (.IfExp a0 b0 c0 pos0 :: es) (tCons te t) := ⟨pa_cons ha.h hr.h⟩
theorem sa_Compare (ha : SE X (.Compare a0 ops0 xs0 pos0) te) (hr : SA X es t) : SA X (.Compare a0 ops0 xs0 pos0 :: es) (tCons te t) := ⟨pa_cons ha.h hr.h⟩
end
section
variable {X : Cx} {a b c e o i value lo hi tg iter elt : Expr} {ta tb tc te td ty tv : TE} {t : TA} {pos p p2 pos' pos0 : Pos} {x : Str} {es : List Expr}
theorem zv (i : Nat) {x : Str} {pos : Pos} (hN : X.N[i]? = some x := by rfl) (hv : Vis X.env.scope x := by first | exact Or.inl rfl | exact Or.inr (Or.inl rfl) | exact Or.inr (Or.inr rfl)) (hd : (x == ("__debug__" : Str)) = false := by decide) (hcd : (x == ("__classdict__" : Str)) = false := by decide) : SE X (.Name x pos) (tV i) := ⟨pvv i hN hv hd hcd⟩
theorem z_gl {v : V} (h : ∃ u, X.mg x = some u ∧ RelV v u) (hg : Gl X x := by rfl) (hd : (x == ("__debug__" : Str)) = false := by decide) : SE X (.Name x pos) (tC v) := ⟨pe_gl h hg hd⟩
theorem z_glK (K : PySem.W.Frag) {xs : List V} (hx : ∃ a, X.mg x = some (.ref a) ∧ ∀ H, SqT K H a xs) (h : X.K = K := by rfl) (hg : Gl X x := by rfl) (hd : (x == ("__debug__" : Str)) = false := by decide) : SE X (.Name x pos) (tGlT K xs) := ⟨pe_glK K hx h hg hd⟩
theorem z_bltn {v : V} {u : Value} (hg : Gl X x) (hm : X.mg x = none) (hv : bootBuiltins x = some u) (r : RelV v u) (hn : x ≠ "__name__" := by decide) (hd : (x == ("__debug__" : Str)) = false := by decide) : SE X (.Name x pos) (tC v) := ⟨pe_bltn hg hm hv r hn hd⟩
theorem z_non {j} : SE X (.Constant .none j pos) (tC .non) := ⟨pe_non⟩
theorem z_bl {b : Bool} {j} : SE X (.Constant (.bool b) j pos) (tC (.bl b)) := ⟨pe_bl⟩
theorem z_int {i : Int} {j} : SE X (.Constant (.int i) j pos) (tC (.int i)) := ⟨pe_int⟩
theorem z_str {x : Str} {j} : SE X (.Constant (.str x) j pos) (tC (.str x)) := ⟨pe_str⟩
theorem z_op {op : Operator} {r : R2} (ho : OpR X (binaryOp op) r) (ha : SE X a ta) (hb : SE X b tb) : SE X (.BinOp a op b pos) (tOp r ta tb) := ⟨pe_op ho ha.h hb.h⟩
theorem z_one {op} (h : SE X a ta) : SE X (.BoolOp op [a] pos) ta := ⟨pe_one h.h⟩
theorem z_and {rest : List Expr} (ha : SE X a ta) (hb : SE X (.BoolOp .And (b :: rest) pos) tb) : SE X (.BoolOp .And (a :: b :: rest) pos) (tAndV ta tb) := ⟨pe_and ha.h hb.h⟩
theorem z_cmpR {op : CmpOp} {r : R2} (ho : OpR X (compareOp op) r) (ha : SE X a ta) (hb : SE X b tb) (hm : behindInMarks op b = false) : SE X (.Compare a [op] [b] pos) (tOp r ta tb) := ⟨pe_cmpR ho ha.h hb.h hm⟩
theorem y_cmpR {op : CmpOp} {r : R2} (ho : OpR X (compareOp op) r) (ha : SE X a ta) (hb : SE X b tb) (hm : behindInMarks op b = false) : ST X (.Compare a [op] [b] pos) (tTest (tOp r ta tb)) := ⟨pt_cmpR ho ha.h hb.h hm⟩
theorem y_chain {op op' : CmpOp} {r r' : R2} (ho : OpR X (compareOp op) r) (ho' : OpR X (compareOp op') r') (ha : SE X a ta) (hb : SE X b tb) (hc : SE X c tc) (hm : lastMarks [op, op'] [b, c] = false := by with_unfolding_all rfl) : ST X (.Compare a [op, op'] [b, c] pos) (tTest (tChain r r' ta tb tc)) := ⟨pt_chain ho ho' ha.h hb.h hc.h hm⟩
theorem y_val (h : SE X e te) (he : ∀ whole, isTrue e X.env whole = (do let v ← whole; standAt e.pos; holding [v] (truthy v)) := by intro _; rfl) : ST X e (tB te) := ⟨pt_val h.h he⟩
theorem y_not {tA : TT} (ha : ST X a tA) : ST X (.UnaryOp .Not a pos) (tNot tA) := ⟨pt_not ha.h⟩
theorem w_and1 {tA : TT} (ha : ST X a tA) : SW X (.BoolOp .And [a] pos) tA := ⟨pw_and1 ha.h⟩
theorem w_or1 {tA : TT} (ha : ST X a tA) : SW X (.BoolOp .Or [a] pos) tA := ⟨pw_or1 ha.h⟩
theorem w_and {tA tB' : TT} {rest : List Expr} (ha : ST X a tA) (hb : SW X (.BoolOp .And (b :: rest) pos) tB') : SW X (.BoolOp .And (a :: b :: rest) pos) (tAnd tA tB') := ⟨pw_and ha.h hb.h⟩
theorem w_or {tA tB' : TT} {rest : List Expr} (ha : ST X a tA) (hb : SW X (.BoolOp .Or (b :: rest) pos) tB') : SW X (.BoolOp .Or (a :: b :: rest) pos) (tOr tA tB') := ⟨pw_or ha.h hb.h⟩
theorem SW.pt {tA : TT} (h : SW X e tA) : ST X e tA := ⟨h.h.pt⟩
theorem z_lst (h : SA X es t) : SE X (.List es pos) (tLst t) := ⟨pe_lst h.h⟩
theorem z_tup {x1} (h : SA X es t) : SE X (.Tuple es x1 pos) (tTup t) := ⟨pe_tup h.h⟩
theorem z_dnew : SE X (.Dict [] [] pos) tDNewK := ⟨pe_dnewK⟩
theorem zz_nil : SP2 X pos [] [] [] := ⟨pps_nil⟩
theorem zz_cons {ks : List (Option Expr)} {vs : List Expr} {tk tw : TE} {trs : List (TE × TE)} (hk : SE X a tk) (hv : SE X b tw) (hr : SP2 X pos ks vs trs) : SP2 X pos (some a :: ks) (b :: vs) ((tk, tw) :: trs) := ⟨pps_cons hk.h hv.h hr.h⟩
theorem z_disp {keys : List (Option Expr)} {values : List Expr} {trs : List (TE × TE)} (h : SP2 X pos keys values trs) (hall : keys.all (·.isSome) = true) (hl : keys.length = values.length) (h0 : keys ≠ []) (h15 : keys.length ≤ 15) : SE X (.Dict keys values pos) (tDisp trs) := ⟨pe_disp h.h hall hl h0 h15⟩
theorem z_ifExp {tA : TT} (hc : ST X c tA) (ha : SE X a ta) (hb : SE X b tb) : SE X (.IfExp c a b pos) (tIf tA ta tb) := ⟨pe_ifExp hc.h ha.h hb.h⟩
theorem zo_none : SO X none tNoPart := ⟨po_none⟩
theorem zo_some (h : SE X e te) : SO X (some e) (tPart te) := ⟨po_some h.h⟩
theorem z_slice {r : V → Option Int → Option Int → Hp → VK → Prop} {l u : Option Expr} {tl th : TO} (hr : SlR X r) (he : SE X e te) (hl : SO X l tl) (hu : SO X u th) : SE X (.Subscript e (.Slice l u none p2) pos) (tSl r te tl th) := ⟨pe_slice hr he.h hl.h hu.h⟩
theorem z_dget (hu : X.A.units + 1 < cLine) (ho : SE X o td) (hi : SE X i ty) (hs : NoSl i) : SE X (.Subscript o i pos) (tDGet td ty) := ⟨pe_dget hu ho.h hi.h hs⟩
theorem z_ix {r : R2} (hr : IxR X r) (ha : SE X a ta) (hb : SE X b tb) (hs : PlainIx b) : SE X (.Subscript a b pos) (tOp r ta tb) := ⟨pe_ix hr ha.h hb.h hs⟩
theorem z_fn {k : Nat} {ps : List Str} {sp : Sp} (F : FnK X.prog X.w X.K X.mg X.base k x ps sp) (hr : Room k X.A) (ha : SA X (e :: es) t) (hg : Gl X x := by rfl) (hdb : (x == ("__debug__" : Str)) = false := by decide)
    (he : starEach (e :: es) X.env = (false, eval e X.env) :: starEach es X.env := by rfl) (hpl : (backTo pos (starEach es X.env)).any (·.1) = false := by rfl) :
    SE X (.Call (.Name x p) (e :: es) [] pos) (tCall sp [] E0 t) := ⟨pe_fn F hr ha.h hg hdb he hpl⟩
theorem z_callB {id : String} {r : List V → Hp → VK → Prop} (hc : CallR X (.builtin id) r) (hg : Gl X x) (hm : X.mg x = none) (hv : bootBuiltins x = some (.builtin id)) (ha : SA X (e :: es) t) (hn : x ≠ "__name__" := by decide) (hdb : (x == ("__debug__" : Str)) = false := by decide)
    (he : starEach (e :: es) X.env = (false, eval e X.env) :: starEach es X.env := by rfl) (hpl : (backTo pos (starEach es X.env)).any (·.1) = false := by rfl) : SE X (.Call (.Name x p) (e :: es) [] pos) (tCB r t) := ⟨pe_callB hc hg hm hv ha.h hn hdb he hpl⟩
theorem z_bm (K : PySem.W.Frag) {T : String} {name : Str} {id : String} {r : V → List V → Hp → VK → Prop} {to : TE} {apos cpos : Pos} (pa : PlainAttrs T) (slot : Slot T name id) (hty : typeOf (.builtin id) = pure (.type "method_descriptor")) (hm : MtM X id r) (ho : SE X o to) (ha : SA X (e :: es) t) (h : X.K = K := by rfl)
    (hbase : attributeBase o name X.env (eval o X.env) = eval o X.env := by rfl)
    (hfew : ((backTo cpos (starEach (e :: es) X.env)).all (fun x => !x.1) && (backToKw cpos (keywordEach [] X.env)).all (fun x => x.1.isSome)
      && decide ((e :: es).length + ([] : List Keyword).length + (if ([] : List Keyword).isEmpty then 0 else 1) < 30)) = true := by rfl)
    (hline : (apos.endLine == cpos.line) = true := by rfl) (hs : starEach (e :: es) X.env = (false, eval e X.env) :: starEach es X.env := by rfl) (hplain : (backTo cpos (starEach es X.env)).any (·.1) = false := by rfl) :
    SE X (.Call (.Attribute o name apos) (e :: es) [] cpos) (tBM K T r to t) := ⟨pe_bmK K pa slot hty hm ho.h ha.h h hbase hfew hline hs hplain⟩
theorem sb_nil : SB X [] tNext := ⟨pss_nil⟩
theorem sb_one {st : Stmt} {u : TS} (h1 : SS X st u) : SB X [st] u := ⟨pss_one h1.h⟩
theorem sb_cons {st : Stmt} {rest : List Stmt} {u v : TS} (h1 : SS X st u) (h2 : SB X rest v) : SB X (st :: rest) (tSeq u v) := ⟨pss_cons h1.h h2.h⟩
theorem s_ret (he : SE X e te) : SS X (.Return (some e) pos) (tRet te) := ⟨ps_ret he.h⟩
theorem s_expr (he : SE X e te) (hs : swapsWith e none pos.line X.env = pure false := by rfl) : SS X (.Expr e pos) (tDrop te) := ⟨ps_expr he.h hs⟩
theorem s_if {a b : List Stmt} {tA : TT} {u v : TS} (hc : ST X c tA) (ha : SB X a u) (hb : SB X b v) : SS X (.If c a b pos) (tIfS tA u v) := ⟨ps_if hc.h ha.h hb.h⟩
theorem s_for {body : List Stmt} {wi : TI} {g : TG} {u : TS} (hp : PassesOwn (model X.prog X.w) X.A X.env X.xe) (hc : X.calm = true) (hi : SI X tg iter wi) (hg : SG X tg g) (hb : SB X body u) (hs : ∀ x, foldedSetIterable iter X.env x = pure x := by intro _; rfl) : SS X (.For tg iter body [] pos) (tFor wi g u) := ⟨ps_for hp hc hi.h hg.h hb.h hs⟩
theorem s_set {i : Nat} (hN : X.N.Nodup) (hi : X.N[i]? = some x) (hx : Loc X.env.scope x) (he : SE X e te) (hs : swapsWith e (some (.Name x pos')) pos.line X.env = pure false := by rfl) (hf : X.fn x = true ∨ X.env.scope.names.lookup x = some .local := by first | exact .inl rfl | exact .inr rfl | assumption) :
    SS X (.Assign [.Name x pos'] e pos) (tAsg te (gName i)) := ⟨ps_set hN hi hx he.h hs hf⟩
theorem s_dput (hu : X.A.units + 1 < cLine) (ho : SE X o td) (hi : SE X i ty) (hv : SE X value tv) (hs : swapsWith value (some (.Subscript o i pos')) pos.line X.env = pure false) : SS X (.Assign [.Subscript o i pos'] value pos) (sDPut td ty tv) := ⟨ps_dput hu ho.h hi.h hv.h hs⟩
theorem s_asg {g : TG} (he : SE X e te) (hg : SG X tg g) (hs : swapsWithSole [tg] e pos.line X.env = pure false := by rfl) (hw : swappedStores [tg] e X.env = pure none := by rfl)
    (h1 : (assignEach [tg] X.env).map (·.2) = [assign tg X.env] := by rfl) : SS X (.Assign [tg] e pos) (tAsg te g) := ⟨ps_asg he.h hg.h hs hw h1⟩
theorem g_name {i : Nat} (hN : X.N.Nodup) (hi : X.N[i]? = some x) (hx : Loc X.env.scope x) (hf : X.fn x = true ∨ X.env.scope.names.lookup x = some .local := by first | exact .inl rfl | exact .inr rfl | assumption) : SG X (.Name x pos) (gName i) := ⟨pg_name hN hi hx hf⟩
theorem gs_nil : SGs X [] gNil := ⟨pgs_nil⟩
theorem gs_cons {g : TG} {u : TGs} (h1 : SG X e g) (h2 : SGs X es u) (hs : (assignEach (e :: es) X.env).map (·.2) = assign e X.env :: (assignEach es X.env).map (·.2) := by rfl) : SGs X (e :: es) (gCons g u) := ⟨pgs_cons h1.h h2.h hs⟩
theorem g_tup (K : PySem.W.Frag) {k : Nat} {u : TGs} {n : Nat} (hc : X.calm = true) (hh : SGs X es u) (h : X.K = K := by rfl)
    (hn : (assignEach es X.env).length = n := by rfl) (hst : (assignEach es X.env).findIdx? (·.1) = none := by rfl) : SG X (.Tuple es k pos) (gTup K n u) := ⟨pg_tupK K hc hh.h h hn hst⟩
theorem g_sub {u : TSet} (ho : SE X o td) (hi : SE X i ty) (hs : PSet X u)
    (ha : ∀ v, assign (.Subscript o i pos) X.env v = (do
      let ov ← holding [v] (eval o X.env)
      let iv ← holding [v, ov] (eval i X.env)
      standAt pos
      holding [v, ov, iv] (setItem ov iv v)
      release [v, ov, iv] []) := by intro _; rfl) : SG X (.Subscript o i pos) (gSub td ty u) := ⟨pg_sub ho.h hi.h hs ha⟩
theorem i_range1 (hg : Gl X "range") (hm : X.mg "range" = none) (ha : SA X [a] t) (hs : starEach [a] X.env = [(false, eval a X.env)] := by rfl) : SI X tg (.Call (.Name "range" p) [a] [] pos) (iRng1 t) := ⟨pi_range1 hg hm ha.h hs⟩
theorem i_K (K : PySem.W.Frag) (hl : SE X e te) (h : X.K = K := by rfl) : SI X tg e (iD K te) := ⟨pi_K K hl.h h⟩
theorem c_nil : SC X [] tcNil := ⟨pc_nil'⟩
theorem c_one {tA : TT} (h : ST X c tA) : SC X [c] tA := ⟨pc_one' h.h⟩
theorem z_lc {ifs : List Expr} {sc : Scope} {own : List Str} {idx : List Nat} {N' : List Str} {wi : TI} {g : TG} {tt : TC} (S : CScope X.env.scope X.N sc own idx N') (hc : X.calm = true) (hi : SI X tg iter wi)
    (hg : ∀ cl C s3 H0 fp pn, SG (cxComp X N' sc cl C s3 H0 fp pn) tg g) (ht : ∀ cl C s3 H0 fp pn, SC (cxComp X N' sc cl C s3 H0 fp pn) ifs tt) (he : ∀ cl C s3 H0 fp pn, SE (cxComp X N' sc cl C s3 H0 fp pn) elt te)
    (hs : ∀ x, foldedSetIterable iter X.env x = pure x := by intro _; rfl) : SE X (.ListComp elt [⟨tg, iter, ifs, 0⟩] sc pos) (tLC own idx wi g tt te) :=
  ⟨pe_lc S hc hi.h (fun q r s t u v => (hg q r s t u v).h) (fun q r s t u v => (ht q r s t u v).h) (fun q r s t u v => (he q r s t u v).h) hs⟩
theorem s_lc {ifs : List Expr} {sc : Scope} {own : List Str} {idx : List Nat} {N' : List Str} {wi : TI} {g : TG} {tt : TC} {i : Nat} {y : Str} {py spos : Pos} (S : CScope X.env.scope X.N sc own idx N') (hc : X.calm = true) (hi : SI X tg iter wi)
    (hg : ∀ cl C s3 H0 fp pn, SG (cxComp X N' sc cl C s3 H0 fp pn) tg g) (ht : ∀ cl C s3 H0 fp pn, SC (cxComp X N' sc cl C s3 H0 fp pn) ifs tt) (he : ∀ cl C s3 H0 fp pn, SE (cxComp X N' sc cl C s3 H0 fp pn) elt te)
    (hN : X.N.Nodup) (hiy : X.N[i]? = some y) (hy : X.env.scope.names.lookup y = some .local)
    (hsw : swapsWith (.ListComp elt [⟨tg, iter, ifs, 0⟩] sc pos) (some (.Name y py)) spos.line X.env = pure true := by rfl)
    (hs : ∀ x, foldedSetIterable iter X.env x = pure x := by intro _; rfl) : SS X (.Assign [.Name y py] (.ListComp elt [⟨tg, iter, ifs, 0⟩] sc pos) spos) (tAsg (tLC own idx wi g tt te) (gName i)) :=
  ⟨ps_lc S hc hi.h (fun q r s t u v => (hg q r s t u v).h) (fun q r s t u v => (ht q r s t u v).h) (fun q r s t u v => (he q r s t u v).h) hN hiy hy hsw hs⟩
end
theorem FnT.okS {P : Program} {w : World} {K : PySem.W.Frag} {mg : Str → Option Value} {base : Heap} {x : Str} {st : Stmt} {N ps : List Str} {k : Nat} {sp : Sp} (F : FnT K mg x st ps) (S : FnScope N ps (defScope st)) (len : ∀ vs H Q E, sp vs H Q E → vs.length = ps.length)
    (hbody : ∀ (f : Addr) (cdv : Value) (A : Around) (outer : List Env) (s : Shared) (H : Hp) (vs : List V) (Q : VK) (E : XK), Room k (A.deeper (envOfC x (defScope st) s.heap.objs.size f cdv)) → sp vs H Q E →
      ∃ t, SB (cxOf CX0 P w K mg base N x (defScope st) f cdv A outer s H E).nox (defBody st) t ∧ t { nx := fun _ H' => Q .non H', rt := Q } (start N vs) H) : FnK P w K mg base (k + 1) x ps sp :=
  F.ok S len fun f cdv A outer s H vs Q E hr h => let ⟨t, h1, h2⟩ := hbody f cdv A outer s H vs Q E hr h; ⟨t, h1.h, h2⟩
section
variable {prog : Program} {w : World} {A : Around} {R : Result → Shared → Prop} {s : Shared}
theorem compLoopD {kx vx target iter : Expr} {ifs : List Expr} {scope : Scope} {pos : Pos} {it : Value} {D : Addr} {env : Env} (I : Nat → Shared → Prop)
    (turn : ∀ n s, I n s → wpAny (model prog w) A (pyNext it) (fun r s₁ => match r with
      | none => R (.ok .next) s₁
      | some v => wpAny (model prog w) A (letOwnedTupleGo target it v) (fun _ s₁' => wpAny (model prog w) A (assign target env v) (fun _ s₂ =>
          wpAny (model prog w) A (forIn ifs true fun c r => if r = true then do let ok ← isTrue c env (eval c env); pure (ForInStep.yield ok) else pure (ForInStep.yield r)) (fun ok s₃ =>
            if ok = true then wpAny (model prog w) A (eval kx env) (fun kv s₄ => wpAny (model prog w) A (eval vx env) (fun vv s₅ =>
              wpAny (model prog w) A (dictSet D kv vv) (fun _ s₆ => ∃ m, m < n ∧ I m s₆) NoE s₅) NoE s₄) NoE s₃
            else ∃ m, m < n ∧ I m s₃) NoE s₂) NoE s₁') NoE s₁) NoE s)
    (n : Nat) (h : I n s) :
    codeAny (model prog w) A (.compLoop (.DictComp kx vx [⟨target, iter, ifs, 0⟩] scope pos) 0 it (.ref D) env) R s := by
  refine codeAny_loop rfl I (fun n s hI => ?_) n h
  show wpAny _ A ((compTurn (.DictComp kx vx [⟨target, iter, ifs, 0⟩] scope pos) 0 it (.ref D) env).onRaise (fun x => do noteFrame x env; theTreesLotGoes x)) _ _ s
  refine wpAny_noted ?_
  rw [compTurn_dict]
  refine wpAny_bind (wpAny_standAt (wpAny_bind (wpAny_mono (turn n s hI) (fun r s₁ h₁ => ?_) fun _ _ h' => h'.elim)))
  cases r with
  | none => exact wpAny_pure h₁
  | some v =>
    refine wpAny_bind (wpAny_mono h₁ (fun _ s₁' h₁' => ?_) fun _ _ h' => h'.elim)
    refine wpAny_bind (wpAny_mono h₁' (fun _ s₂ h₂ => wpAny_bind (wpAny_mono h₂ (fun ok s₃ h₃ => ?_) fun _ _ h' => h'.elim)) fun _ _ h' => h'.elim)
    cases ok with
    | false => exact wpAny_pure ⟨rfl, h₃⟩
    | true =>
      exact wpAny_bind (wpAny_bind (wpAny_mono h₃ (fun kv s₄ h₄ => wpAny_bind (wpAny_holding (wpAny_mono h₄ (fun vv s₅ h₅ => wpAny_bind (wpAny_standAt (wpAny_holding (wpAny_mono h₅ (fun _ s₆ h₆ => wpAny_pure ⟨rfl, h₆⟩) fun _ _ h' => h'.elim)))) fun _ _ h' => h'.elim))) fun _ _ h' => h'.elim))
end
section
variable {X : Cx} {tg iter kx vx : Expr} {ifs : List Expr} {sc : Scope} {pos : Pos} {own : List Str} {idx : List Nat} {N' : List Str} {wi : TI} {g : TG} {tc : TC} {tk tw : TE}
abbrev dob : Obj := { cls := .type "dict", data := .dict #[] }
def tDC (own : List Str) (idx : List Nat) (wi : TI) (g : TG) (tc : TC) (tk tw : TE) : TE := fun σ H Q => wi σ H fun J H1 => ∀ D, H1 D = none → ∃ W : Nat → Nat → St → Hp → Prop, (∃ m, W 0 m (stIn own idx σ) (upd H1 D (.dK []))) ∧ ∀ i m τ H, W i m τ H →
  (J.stop i H ∧ Q (.ref D) H) ∨ (J.go i H ∧ ∃ N : St → Hp → Prop, (∀ τ' H', N τ' H' → ∃ m', m' < m ∧ W (i + 1) m' τ' H') ∧ ∀ x H', J.yld i H x H' → g x τ H' fun τ2 H2 => tc τ2 H2 fun b H3 =>
    if b = true then tk τ2 H3 fun x H4 => tw τ2 H4 fun y H5 => ∃ kvs key, x = kV key ∧ H5 D = some (.dK kvs) ∧ kvs.length < sizeLine ∧ N τ2 (upd H5 D (.dK (putK kvs key y))) else N τ2 H3)
theorem comp_blockD (S : CScope X.env.scope X.N sc own idx N') {cl : List (Str × Addr)} (c1 : ∀ x c, cl.lookup x = some c → X.env.cells.lookup x = some c) (c2 : ∀ y ∈ sc.names, y.2 = .free → ∃ c, cl.lookup y.1 = some c) (hc : X.calm = true)
    (hg : ∀ cl C s3 H0 fp pn, PG (cxComp X N' sc cl C s3 H0 fp pn) tg g) (ht : ∀ cl C s3 H0 fp pn, PC' (cxComp X N' sc cl C s3 H0 fp pn) ifs tc) (he : ∀ cl C s3 H0 fp pn, PE (cxComp X N' sc cl C s3 H0 fp pn) kx tk) (hv : ∀ cl C s3 H0 fp pn, PE (cxComp X N' sc cl C s3 H0 fp pn) vx tw)
    {pins : List (Addr × Obj)} {σ : St} {Q : VK} {itv : Value} {s2 : Shared} {RR : Value → Addr → Result → Shared → Prop} {E : Value → Shared → Prop}
    (hI : PIE X pins σ tg (fun J H1 => ∀ D, H1 D = none → ∃ W : Nat → Nat → St → Hp → Prop, (∃ m, W 0 m (stIn own idx σ) (upd H1 D (.dK []))) ∧ ∀ i m τ H, W i m τ H →
      (J.stop i H ∧ Q (.ref D) H) ∨ (J.go i H ∧ ∃ N : St → Hp → Prop, (∀ τ' H', N τ' H' → ∃ m', m' < m ∧ W (i + 1) m' τ' H') ∧ ∀ x H', J.yld i H x H' → g x τ H' fun τ2 H2 => tc τ2 H2 fun b H3 =>
        if b = true then tk τ2 H3 fun x H4 => tw τ2 H4 fun y H5 => ∃ kvs key, x = kV key ∧ H5 D = some (.dK kvs) ∧ kvs.length < sizeLine ∧ N τ2 (upd H5 D (.dK (putK kvs key y))) else N τ2 H3)) itv s2)
    (hRR : ∀ D C H' s', Inv X pins σ H' s' → Q (.ref D) H' → (H' C = none ∧ C ≠ X.env.locals ∧ X.s₀.heap.objs.size ≤ C ∧ (∀ x c, X.env.cells.lookup x = some c → c ≠ C) ∧ (∀ p ∈ X.pn ++ pins, p.1 ≠ C) ∧ ∃ m, s'.heap.Ns C m) → RR (.ref D) C (.ok .next) s') :
    wpAny (model X.prog X.w) X.A newDict (fun acc s₃ => wpAny (model X.prog X.w) X.A (newFunctionEnv sc X.env.globals cl [] X.env.qual none .none (some X.env)) (fun cenv s₄ =>
      codeAny (model X.prog X.w) X.A (.compStart (.DictComp kx vx [⟨tg, iter, ifs, 0⟩] sc pos) 0 itv acc { cenv with scope := relabel sc X.env }) (RR acc cenv.locals) s₄) E s₃) E s2 := by
  obtain ⟨it, fp, tn, J, H2, rfl, I, T, st2, f2, body⟩ := hI
  refine wpAny_newObj_type (wpAny_newFunctionEnv S.cell (by intro y hy; simp at hy) (fun h4 ns sb => ?_) S.kind)
  dsimp only at ns sb ⊢
  have hob : dob.isFreed = false := rfl
  have fr : H2 s2.heap.objs.size = none := I.hok.fresh (Nat.le_refl _)
  obtain ⟨W, ⟨m0, w0⟩, turn⟩ := body _ fr
  have hfo : ∀ b ∈ fp, ∃ o, s2.heap.get? b = some o := fun b hb => let ⟨o, e, _⟩ := T.obj _ _ st2 b hb; ⟨o, e⟩
  have sb' : ∀ b o, (s2.heap.push dob).get? b = some o → h4.get? b = some o := fun b o e => (sb.2 b (Nat.ne_of_lt (Heap.lt_size e))).trans (Heap.get?_push_of_some _ e)
  have hDo : ∀ (H : Hp) (h : Heap), h.get? s2.heap.objs.size = some dob → ObjOk X.prog X.w H h s2.heap.objs.size (.dK []) := fun H h e => ⟨Nat.zero_le _, beq_eq_false_iff_ne.mpr (Ne.symm (Nat.ne_of_lt I.big)), [], .nil, (Heap.DictOf.new s2.heap).at fun o eo => by rw [Heap.get?_push_size _ rfl] at eo; cases eo; exact e⟩
  have I4 : Inv (cxComp X N' sc cl (s2.heap.push dob).objs.size { s2 with heap := s2.heap.push dob } (upd H2 s2.heap.objs.size (.dK [])) fp (X.pn ++ pins)) [] (stIn own idx σ) (upd H2 s2.heap.objs.size (.dK [])) { s2 with heap := h4, toks := s2.toks + ([] : List (Str × Value)).length } :=
    inv_comp S I f2 hfo c1 c2 hob hDo ns sb'
  -- the block's own context
  generalize hY : cxComp X N' sc cl (s2.heap.push dob).objs.size { s2 with heap := s2.heap.push dob } (upd H2 s2.heap.objs.size (.dK [])) fp (X.pn ++ pins) = Y at I4
  have hgY : PG Y tg g := by rw [← hY]; exact hg _ _ _ _ _ _
  have htY : PC' Y ifs tc := by rw [← hY]; exact ht _ _ _ _ _ _
  have heY : PE Y kx tk := by rw [← hY]; exact he _ _ _ _ _ _
  have hvY : PE Y vx tw := by rw [← hY]; exact hv _ _ _ _ _ _
  have pY : Y.prog = X.prog := by rw [← hY]
  have wY : Y.w = X.w := by rw [← hY]
  have KY : Y.K = X.K := by rw [← hY]
  have AY : Y.A = X.A := by rw [← hY]
  have cY : Y.calm = true := by rw [← hY]; exact hc
  have xY : Y.xe = fun _ _ => False := by rw [← hY]
  have eY : Y.env = compEnvC sc cl (s2.heap.push dob).objs.size X.env := by rw [← hY]
  have exY : Y.ex = fp := by rw [← hY]
  have fsY : Y.fs = frs X.stack := by rw [← hY]
  have pnY : Y.pn = X.pn ++ pins := by rw [← hY]
  have stat : ∀ {H' : Hp}, (∀ b ∈ fp, H' b = none) → ∀ b ∈ fp, FpOk Y [] H' b := fun hn b hb => by
    obtain ⟨f0, f1, f3, f4, f5, f6⟩ := f2 b hb
    refine ⟨hn b hb, ?_, ?_, .inl (by rw [exY]; exact hb), fun x c e => ?_, fun p hp => ?_⟩
    · obtain ⟨o, e⟩ := hfo b hb
      have := Heap.lt_size e
      rw [eY]
      show b ≠ (s2.heap.push dob).objs.size
      rw [Heap.size_push]; exact Nat.ne_of_lt (Nat.lt_succ_of_lt this)
    · rw [fsY]
      intro z
      rcases List.mem_cons.mp (I.stkSub b z) with z | z
      · exact f1 z
      · exact f3 z
    · rw [eY] at e
      exact f5 x c (c1 x c e)
    · rw [pnY, List.append_nil] at hp
      exact f6 p hp
  have st4 : tn 0 h4 := T.keep _ _ _ st2 fun b hb o e => sb' b o (Heap.get?_push_of_some _ e)
  have fr4 : ∀ b ∈ fp, upd H2 s2.heap.objs.size (.dK []) b = none := fun b hb => by
    obtain ⟨o, e⟩ := hfo b hb
    rw [upd_ne (Nat.ne_of_lt (Heap.lt_size e))]
    exact (f2 b hb).1
  have loop : codeAny (model X.prog X.w) X.A (.compLoop (.DictComp kx vx [⟨tg, iter, ifs, 0⟩] sc pos) 0 (.ref it) (.ref s2.heap.objs.size) (compEnvC sc cl (s2.heap.push dob).objs.size X.env))
      (RR (.ref s2.heap.objs.size) (s2.heap.push dob).objs.size) { s2 with heap := h4, toks := s2.toks + ([] : List (Str × Value)).length } := by
    refine compLoopD (fun n s' => ∃ i τ H', Inv Y [] τ H' s' ∧ tn i s'.heap ∧ (∀ b ∈ fp, H' b = none) ∧ W i n τ H') ?_ m0 ⟨0, _, _, I4, st4, fr4, w0⟩
    rintro n s3 ⟨i, τ3, H3, I3, st3, fr3, w3⟩
    rcases turn i n τ3 H3 w3 with ⟨stop, qn⟩ | ⟨go, N, hN, step⟩
    · have h := T.done Y pY wY KY cY i [] s3 τ3 H3 NoE I3 (stat fr3) st3 stop
      rw [AY] at h
      refine thn h ?_
      rintro r s4 ⟨hr, I4'⟩
      subst hr
      have J4 := I4'
      rw [← hY] at J4
      obtain ⟨b1, b2⟩ := comp_back I f2 hob J4
      exact hRR _ _ _ _ b1 qn b2
    · have h := T.item Y pY wY KY cY i [] s3 τ3 H3 NoE I3 (stat fr3) st3 go
      rw [AY] at h
      refine thn h ?_
      rintro r s4 ⟨u, hr, h4'⟩
      subst hr
      refine thn h4' ?_
      rintro _ s5 ⟨x, H5, I5, r5, y5, st5, fr5⟩
      have I5' := I5.pinned (stat fr5) (T.obj _ _ st5)
      have g5 := hgY _ s5 τ3 H5 x u _ I5' r5 (step x H5 y5)
      rw [pY, wY, AY, xY, eY] at g5
      refine thn g5 ?_
      rintro _ s6 ⟨τ6, H6, I6, q6⟩
      have t6 := htY _ s6 τ6 H6 _ I6 q6
      rw [pY, wY, AY, xY, eY] at t6
      refine thn t6 ?_
      rintro ok s7 ⟨H7, I7, q7⟩
      have again : ∀ {τ8 : St} {H8 : Hp} {s8 : Shared}, Inv Y ([] ++ pinsAt fp s5.heap) τ8 H8 s8 → N τ8 H8 → ∃ m, m < n ∧ ∃ i τ' H', Inv Y [] τ' H' s8 ∧ tn i s8.heap ∧ (∀ b ∈ fp, H' b = none) ∧ W i m τ' H' := fun {τ8 H8 s8} I8 n8 => by
        obtain ⟨m', hm, w8⟩ := hN τ8 H8 n8
        refine ⟨m', hm, i + 1, τ8, H8, I8.unpinned, T.keep _ _ _ st5 fun b hb o e => (I8.pin (b, o) (List.mem_append_right _ (List.mem_append_right _ (mem_pinsAt hb e)))).1, fun b hb => ?_, w8⟩
        obtain ⟨o, e, d⟩ := T.obj _ _ st5 b hb
        exact (I8.pin (b, o) (List.mem_append_right _ (List.mem_append_right _ (mem_pinsAt hb e)))).2.1
      cases ok with
      | false =>
        rw [if_neg (by decide)] at q7 ⊢
        exact again I7 q7
      | true =>
        rw [if_pos rfl] at q7 ⊢
        have e7 := heY _ s7 τ6 H7 _ I7 q7
        rw [pY, wY, AY, xY, eY] at e7
        refine thn e7 ?_
        rintro kv s8 ⟨x8, H8, I8, r8, q8⟩
        have v8 := hvY _ s8 τ6 H8 _ I8 q8
        rw [pY, wY, AY, xY, eY] at v8
        refine thn v8 ?_
        rintro yv s9 ⟨y9, H9, I9, r9, kvs, key, ek, hD9, hz, n9⟩
        subst ek
        obtain ⟨z, hd, vs, rel, dd⟩ := dk_of I9.hok hD9
        have hzz : vs.length ≤ sizeLine := by rw [← rel.length]; exact z
        have hlen : (putK kvs key y9).length ≤ sizeLine := by have := length_putK kvs key y9; omega
        rw [pY, wY] at dd
        refine wpAny_dictSet_pairs (hsz := hzz) (kV_is r8) dd fun h' dd' hs => ?_
        have he9 : ∃ q, h'.get? s2.heap.objs.size = some q := let ⟨q, _, _, hq, _⟩ := dd'; ⟨q, hq⟩
        rw [← pY, ← wY] at dd'
        have I10 := d_write (t' := s9.toks + 1) (ob := .dK (putK kvs key y9)) I9 (by rw [hD9]; exact True.intro) hs he9 (dk_new hlen hd (rel.put key r9) dd')
        exact again I10 n9
  exact codeAny_compStart_dict loop (T.self _ 0 _ _ _ st4 loop)
theorem pe_dc (S : CScope X.env.scope X.N sc own idx N') (hc : X.calm = true) (hi : PI X tg iter wi)
    (hg : ∀ cl C s3 H0 fp pn, PG (cxComp X N' sc cl C s3 H0 fp pn) tg g) (ht : ∀ cl C s3 H0 fp pn, PC' (cxComp X N' sc cl C s3 H0 fp pn) ifs tc) (he : ∀ cl C s3 H0 fp pn, PE (cxComp X N' sc cl C s3 H0 fp pn) kx tk) (hv : ∀ cl C s3 H0 fp pn, PE (cxComp X N' sc cl C s3 H0 fp pn) vx tw)
    (hs : ∀ x, foldedSetIterable iter X.env x = pure x := by intro _; rfl) : PE X (.DictComp kx vx [⟨tg, iter, ifs, 0⟩] sc pos) (tDC own idx wi g tc tk tw) := by
  intro pins s σ H Q I h
  obtain ⟨cl, hcl, c1, c2⟩ := S.closure I.ok
  show wpAny _ X.A (comprehension (.DictComp kx vx [⟨tg, iter, ifs, 0⟩] sc pos) sc X.env _ newDict false (eval iter X.env)) _ _ s
  refine wpAny_comprehension_free (use := none) rfl hs hcl S.kind S.names (thn (hi pins s σ H _ I h) fun v s1 h1 => thn h1 fun itv s2 h2 => ?_)
  refine comp_blockD (Q := Q) (pins := pins) (σ := σ) (RR := fun acc C => compPost (model X.prog X.w) X.A X.xe none (EP X pins σ Q) acc C) S c1 c2 hc hg ht he hv h2 ?_
  intro D C H' s' I' q ⟨a1, a2, a3, a4, a5, m, a6⟩
  exact ⟨m, a6, fun h' sb => ⟨.ref D, H', I'.turned (t' := s'.toks) (fun b o hb e => (sb.2 b hb).trans e) a1 (Ne.symm (Ne.symm a2)) (.inr a3) a4 a5, rfl, q⟩⟩
theorem z_dc (S : CScope X.env.scope X.N sc own idx N') (hc : X.calm = true) (hi : SI X tg iter wi)
    (hg : ∀ cl C s3 H0 fp pn, SG (cxComp X N' sc cl C s3 H0 fp pn) tg g) (ht : ∀ cl C s3 H0 fp pn, SC (cxComp X N' sc cl C s3 H0 fp pn) ifs tc) (he : ∀ cl C s3 H0 fp pn, SE (cxComp X N' sc cl C s3 H0 fp pn) kx tk) (hv : ∀ cl C s3 H0 fp pn, SE (cxComp X N' sc cl C s3 H0 fp pn) vx tw)
    (hs : ∀ x, foldedSetIterable iter X.env x = pure x := by intro _; rfl) : SE X (.DictComp kx vx [⟨tg, iter, ifs, 0⟩] sc pos) (tDC own idx wi g tc tk tw) :=
  ⟨pe_dc S hc hi.h (fun q r s t u v => (hg q r s t u v).h) (fun q r s t u v => (ht q r s t u v).h) (fun q r s t u v => (he q r s t u v).h) (fun q r s t u v => (hv q r s t u v).h) hs⟩
end
theorem Same.upd {H : Hp} {a : Addr} (h : H a = none) (o : HO) : Same H (upd H a o) := fun b u q => by rw [upd_ne (ne_of_none q h)]; exact q
theorem lc_pure {J : It} {ok : Hp → Prop} {n : Nat} {item : Nat → V} {tc : TC} {te : TE} {τ0 : St} {H1 : Hp} {D : Addr} {Q : Hp → Prop} (hJ : ItN J ok n item) (p : Nat → Bool) (f : Nat → V) (hn : n < sizeLine)
    (hok : ∀ ys, ok (upd H1 D (.lst ys)))
    (ht : ∀ i, i < n → ∀ ys k, k (p i) (upd H1 D (.lst ys)) → tc (τ0.set 0 (some (item i))) (upd H1 D (.lst ys)) k)
    (he : ∀ i, i < n → p i = true → ∀ ys k, k (f i) (upd H1 D (.lst ys)) → te (τ0.set 0 (some (item i))) (upd H1 D (.lst ys)) k)
    (hQ : Q (upd H1 D (.lst (((List.range n).filter p).map f)))) : ∃ W : Nat → Nat → St → Hp → Prop, (∃ m, W 0 m τ0 (upd H1 D (.lst []))) ∧ ∀ i m τ H, W i m τ H →
      (J.stop i H ∧ Q H) ∨ (J.go i H ∧ ∃ N : St → Hp → Prop, (∀ τ' H', N τ' H' → ∃ m', m' < m ∧ W (i + 1) m' τ' H') ∧ ∀ x H', J.yld i H x H' → gName 0 x τ H' fun τ2 H2 => tc τ2 H2 fun b H3 =>
        if b = true then te τ2 H3 fun y H4 => ∃ xs, H4 D = some (.lst xs) ∧ xs.length < sizeLine ∧ N τ2 (upd H4 D (.lst (xs ++ [y]))) else N τ2 H3) := by
  refine lc_by hJ (fun i τ H => H = upd H1 D (.lst (((List.range i).filter p).map f)) ∧ ∃ v, τ = τ0.set 0 v ∨ τ = τ0) ⟨rfl, none, .inr rfl⟩ (fun i τ H hi h => by rw [h.1]; exact hok _) ?_ ?_
  · rintro i τ H hi ⟨rfl, v, hv⟩
    show tc (τ.set 0 (some (item i))) _ _
    have e : τ.set 0 (some (item i)) = τ0.set 0 (some (item i)) := by
      rcases hv with rfl | rfl
      · rw [List.set_set]
      · rfl
    rw [e]
    refine ht i hi _ _ ?_
    have hr : List.range (i + 1) = List.range i ++ [i] := List.range_succ
    cases hp : p i with
    | true =>
      rw [if_pos rfl]
      refine he i hi hp _ _ ⟨_, upd_same, ?_, ?_, some (item i), .inl rfl⟩
      · rw [List.length_map]
        have := List.length_filter_le p (List.range i)
        rw [List.length_range] at this
        omega
      · rw [upd_upd, hr, List.filter_append, List.map_append]
        simp [hp]
    | false =>
      rw [if_neg (by decide)]
      refine ⟨?_, some (item i), .inl rfl⟩
      rw [hr, List.filter_append, List.map_append]
      simp [hp]
  · rintro τ H ⟨rfl, _⟩
    exact hQ
theorem iteNB {c : Bool} {A B : Prop} (h1 : c = true → B) (h2 : c = false → A) : if (!c) = true then A else B := by
  cases c with
  | true => exact iteF (h1 rfl)
  | false => exact iteT (h2 rfl)
theorem iteB {c : Bool} {A B : Prop} (h1 : c = true → A) (h2 : c = false → B) : if c = true then A else B := by
  cases c with
  | true => exact iteT (h1 rfl)
  | false => exact iteF (h2 rfl)
theorem tSeq_by {t u : TS} {D : Ends} {σ : St} {H : Hp} (mid : St → Hp → Prop) (h1 : ∀ nx : St → Hp → Prop, (∀ σ' H', mid σ' H' → nx σ' H') → t { D with nx := nx } σ H) (h2 : ∀ σ' H', mid σ' H' → u D σ' H') : tSeq t u D σ H := h1 (u D) h2
theorem atI_zero {α : Type} (x : α) (xs : List α) : atI (x :: xs) 0 = some x := atI_nat (j := 0) rfl
theorem ixN_zero (n : Nat) : ixN (n + 1) 0 = some 0 := by
  unfold ixN
  rw [if_pos (by decide), if_pos (by omega)]; rfl
theorem atI_some {α : Type} (xs : List α) (i : Int) (h0 : 0 ≤ i) (h1 : i < xs.length) : ∃ c, xs[i.toNat]? = some c ∧ atI xs i = some c := by
  have hl : i.toNat < xs.length := by omega
  refine ⟨xs[i.toNat], by simp [hl], ?_⟩
  have := atI_nat (xs := xs) (j := i.toNat) (v := xs[i.toNat]) (by simp [hl])
  rw [← this]
  congr 1
  omega
theorem join0_length (ys : List Str) (sep : Str) (h0 : sep.length = 0) (h : ∀ y ∈ ys, y.length = 1) : (Txt.join sep ys).length = ys.length := by
  show (Builtin.Str.glued sep ys).length = _
  rw [size_glued, h0, Nat.mul_zero, Nat.add_zero]
  exact sumLen_of_ones ys h
theorem mapStr_getD (ns : List Str) (i : Nat) (h : i < ns.length) : (ns.map V.str).getD i .non = .str (ns.getD i "") := by
  simp [List.getD_eq_getElem?_getD, h]
theorem mapInt_getD (ns : List Int) (i : Nat) (h : i < ns.length) : (ns.map V.int).getD i .non = .int (ns.getD i 0) := by
  simp [List.getD_eq_getElem?_getD, h]
abbrev penD (w : Addr) (m t : Int) : List (Key × V) := [(.inr "mixed", .int m), (.inr "turn", .int t), (.inr "wide", .ref w)]
structure PenAt (H : Hp) (p w : Addr) (t : Nat) : Prop where
  ex : ∃ (m c : Int) (ws : List Int), H p = some (.dK (penD w m c)) ∧ H w = some (.lst (ws.map V.int)) ∧ (0 ≤ m ∧ m < 2147483629) ∧ 0 ≤ c ∧ c ≤ (t : Int)
theorem PenAt.mono {H : Hp} {p w : Addr} {t u : Nat} (h : PenAt H p w t) (l : t ≤ u) : PenAt H p w u := by
  obtain ⟨m, c, ws, h1, h2, h3, h4, h5⟩ := h.ex
  exact ⟨m, c, ws, h1, h2, h3, h4, by omega⟩
theorem PenAt.ne {H : Hp} {p w : Addr} {t : Nat} (h : PenAt H p w t) : p ≠ w := by
  obtain ⟨m, c, ws, h1, h2, _⟩ := h.ex
  exact ne_of h1 h2 (by intro z; cases z)
def Sm (p w : Addr) (H H' : Hp) : Prop := ∀ b o, H b = some o → b ≠ p → b ≠ w → H' b = some o
theorem Sm.refl {p w : Addr} {H : Hp} : Sm p w H H := fun _ _ h _ _ => h
theorem Sm.trans {p w : Addr} {H H1 H2 : Hp} (a : Sm p w H H1) (b : Sm p w H1 H2) : Sm p w H H2 := fun c o h h1 h2 => b c o (a c o h h1 h2) h1 h2
theorem Same.sm {p w : Addr} {H H1 : Hp} (a : Same H H1) : Sm p w H H1 := fun c o h _ _ => a c o h
theorem PenAt.same {H H' : Hp} {p w : Addr} {t : Nat} (h : PenAt H p w t) (s : Same H H') : PenAt H' p w t := by
  obtain ⟨m, c, ws, h1, h2, r⟩ := h.ex
  exact ⟨m, c, ws, s _ _ h1, s _ _ h2, r⟩
theorem Sm.free {p w : Addr} {H H' : Hp} (s : Sm p w H H') {l : Addr} (h : H' l = none) (hp : l ≠ p) (hw : l ≠ w) : H l = none := by
  cases q : H l with
  | none => rfl
  | some o => rw [s l o q hp hw] at h; cases h
theorem PenAt.upd {H : Hp} {p w D : Addr} {t : Nat} {o : HO} (h : PenAt H p w t) (h1 : D ≠ p) (h2 : D ≠ w) : PenAt (upd H D o) p w t := by
  obtain ⟨m, c, ws, e1, e2, r⟩ := h.ex
  exact ⟨m, c, ws, by rw [upd_ne h1.symm]; exact e1, by rw [upd_ne h2.symm]; exact e2, r⟩
theorem Sm.upd {p w D : Addr} {H H' : Hp} {o : HO} (s : Sm p w H H') (h : H D = none) : Sm p w H (upd H' D o) := fun b u hb h1 h2 => by rw [upd_ne (ne_of_none hb h)]; exact s b u hb h1 h2
theorem PenAt.ne1 {H : Hp} {p w D : Addr} {t : Nat} (h : PenAt H p w t) (hD : H D = none) : D ≠ p := fun e => by obtain ⟨_, _, _, z, _⟩ := h.ex; rw [← e, hD] at z; cases z
theorem PenAt.ne2 {H : Hp} {p w D : Addr} {t : Nat} (h : PenAt H p w t) (hD : H D = none) : D ≠ w := fun e => by obtain ⟨_, _, _, _, z, _⟩ := h.ex; rw [← e, hD] at z; cases z
abbrev TMAX : Nat := 1000000000000
def spDraw : Sp := fun vs H Q _ => ∃ (p w : Addr) (m : Int) (t : Nat), vs = [.ref p, .int m] ∧ PenAt H p w t ∧ (0 < m ∧ m < 1073741824) ∧ t < TMAX ∧
  ∀ (r : Int) (H' : Hp), 0 ≤ r → r < m → PenAt H' p w (t + 1) → Sm p w H H' → Q (.int r) H'
def spPen (K : PySem.W.Frag) : Sp := fun vs H Q _ => ∃ (a : Addr) (ns : List Int), vs = [.ref a] ∧ SqL K H a (ns.map V.int) ∧ ns.length ≤ 63 ∧
  ∀ (p w : Addr) (H' : Hp), H p = none → H w = none → PenAt H' p w 0 → Same H H' → Q (.ref p) H'
def spLaw (K : PySem.W.Frag) : Sp := fun vs H Q _ => ∃ (a : Addr) (ns : List Int), vs = [.ref a] ∧ SqL K H a (ns.map V.int) ∧ ns.length ≤ 63 ∧ ∀ H', Q (.bl true) H'
def GoodV (p w : Addr) (H : Hp) : V → Prop
  | .non => True
  | .bl _ => True
  | .int _ => True
  | .str z => z.length ≤ 100000
  | .ref a => a ≠ p ∧ a ≠ w ∧ ((∃ xs, H a = some (.lst xs)) ∨ (∃ xs, H a = some (.tup xs)) ∨ ∃ kvs, H a = some (.dK kvs))
  | _ => False
theorem GoodV.sm {p w : Addr} {H H' : Hp} {x : V} (h : GoodV p w H x) (s : Sm p w H H') : GoodV p w H' x := by
  cases x with
  | ref a =>
    obtain ⟨h1, h2, h3⟩ := h
    refine ⟨h1, h2, ?_⟩
    rcases h3 with ⟨xs, e⟩ | ⟨xs, e⟩ | ⟨xs, e⟩
    · exact .inl ⟨xs, s _ _ e h1 h2⟩
    · exact .inr (.inl ⟨xs, s _ _ e h1 h2⟩)
    · exact .inr (.inr ⟨xs, s _ _ e h1 h2⟩)
  | _ => exact h
structure GLs (p w : Addr) (t : Nat) (H : Hp) (xs : List V) : Prop where
  pen : PenAt H p w t
  all : ∀ x ∈ xs, GoodV p w H x
section
variable {p w : Addr} {t u : Nat} {H H' : Hp} {xs ys : List V}
theorem GLs.sm (g : GLs p w t H xs) (hp : PenAt H' p w u) (s : Sm p w H H') : GLs p w u H' xs := ⟨hp, fun x hx => (g.all x hx).sm s⟩
theorem GLs.upd {q : Addr} {o : HO} (g : GLs p w t H xs) (h : H q = none) : GLs p w t (upd H q o) xs := g.sm (g.pen.same (Same.upd h o)) (Same.upd h o).sm
end
section
variable {X : Cx} {x : Str} {p pos : Pos} {e : Expr} {es : List Expr} {t : TA}
theorem z_callTy {T : String} {r : List V → Hp → VK → Prop} (hc : CallR X (.type T) r) (hg : Gl X x) (hm : X.mg x = none) (hv : bootBuiltins x = some (.type T)) (ha : SA X (e :: es) t) (hn : x ≠ "__name__" := by decide) (hdb : (x == ("__debug__" : Str)) = false := by decide)
    (he : starEach (e :: es) X.env = (false, eval e X.env) :: starEach es X.env := by rfl) (hpl : (backTo pos (starEach es X.env)).any (·.1) = false := by rfl) : SE X (.Call (.Name x p) (e :: es) [] pos) (tCB r t) := ⟨pe_callTy hc hg hm hv ha.h hn hdb he hpl⟩
def rTupOf (K : PySem.W.Frag) : List V → Hp → VK → Prop := fun xs H Q => ∃ p ys, xs = [.ref p] ∧ ((SqL K H p ys ∧ ∀ l, H l = none → Q (.ref l) (upd H l (.tup ys))) ∨ (SqT K H p ys ∧ Q (.ref p) H))
def rLstOf (K : PySem.W.Frag) : List V → Hp → VK → Prop := fun xs H Q => ∃ p ys, xs = [.ref p] ∧ (SqL K H p ys ∨ SqT K H p ys) ∧ ∀ l, H l = none → Q (.ref l) (upd H l (.lst ys))
theorem call_tupK (K : PySem.W.Frag) (h : X.K = K := by rfl) : CallR X (.type "tuple") (rTupOf K) := by subst h; exact call_tuple_of
theorem call_lstK (K : PySem.W.Frag) (h : X.K = K := by rfl) : CallR X (.type "list") (rLstOf K) := by subst h; exact call_list_of
theorem vals_strs : ∀ {xs : List Str} {us : List Value}, StrsAre us xs → Vals (xs.map V.str) us
  | _, _, .nil => .nil
  | _, _, .cons x k r => .cons ⟨k, rfl⟩ (vals_strs r)
def rSorted (K : PySem.W.Frag) : List V → Hp → VK → Prop := fun xs H Q => ∃ p ss, xs = [.ref p] ∧ SqL K H p (ss.map V.str) ∧ ss.length < 64 ∧
  ∀ l (ss' : List Str), H l = none → ss'.Perm ss → sortedS ss' = true → Q (.ref l) (upd H l (.lst (ss'.map V.str)))
theorem call_sortedK (K : PySem.W.Frag) (hK : X.K = K := by rfl) : CallR X (.builtin "sorted") (rSorted K) := by
  subst hK
  intro pins s σ H xs us Q I r h
  obtain ⟨p, ss, rfl, hq, h64, q⟩ := h
  obtain ⟨u, rfl, ru⟩ := r.one
  cases ru
  obtain ⟨its, rv, pl, hz⟩ := I.list hq
  have hS := strs_of rv
  have hlen : its.length = ss.length := by have := rv.length; rw [List.length_map] at this; exact this.symm
  refine sorted_strs pl.isList hS (by rw [hlen]; exact h64) fun out ss' a1 a2 a3 => ?_
  obtain ⟨e, he⟩ := sortedAll_at s.heap its out
  have hf : H (s.heap.objs.size + 1) = none := I.hok.fresh (Nat.le_succ _)
  refine ⟨.ref (s.heap.objs.size + 1), _, I.laid (t' := s.toks) (a := s.heap.objs.size + 1) (o := .lst (ss'.map V.str)) (fun b o eo => sortedAll_old eo) (Nat.le_succ _) ?_, rfl, q _ ss' hf a2 a3⟩
  refine ⟨?_, out.toList, e, vals_strs a1, ?_⟩
  · rw [List.length_map, a2.length_eq]
    have : sizeLine = 16777216 := sizeLine_eq
    omega
  · rw [he]
end
mutual
inductive Den (H : Hp) : V → PyData → Prop
  | non : Den H .non .none
  | bl (b : Bool) : Den H (.bl b) (.bool b)
  | int (i : Int) : Den H (.int i) (.int i)
  | str (z : Str) : Den H (.str z) (.str z)
  | tup {a : Addr} {xs : List V} {ds : List PyData} : H a = some (.tup xs) → DenL H xs ds → Den H (.ref a) (.tuple ds)
  | lst {a : Addr} {xs : List V} {ds : List PyData} : H a = some (.lst xs) → DenL H xs ds → Den H (.ref a) (.list ds)
inductive DenL (H : Hp) : List V → List PyData → Prop
  | nil : DenL H [] []
  | cons {x : V} {d : PyData} {xs : List V} {ds : List PyData} : Den H x d → DenL H xs ds → DenL H (x :: xs) (d :: ds)
end
mutual
theorem Den.same {H H' : Hp} (s : Same H H') : ∀ {x : V} {d : PyData}, Den H x d → Den H' x d
  | _, _, .non => .non
  | _, _, .bl b => .bl b
  | _, _, .int i => .int i
  | _, _, .str z => .str z
  | _, _, .tup e r => .tup (s _ _ e) (DenL.same s r)
  | _, _, .lst e r => .lst (s _ _ e) (DenL.same s r)
theorem DenL.same {H H' : Hp} (s : Same H H') : ∀ {xs : List V} {ds : List PyData}, DenL H xs ds → DenL H' xs ds
  | _, _, .nil => .nil
  | _, _, .cons a r => .cons (Den.same s a) (DenL.same s r)
end
mutual
theorem reads_of {P : Program} {w : World} {H : Hp} {h : Heap} (ok : HOk P w H h) : ∀ {x : V} {d : PyData} {u : Value}, Den H x d → RelV x u → ∃ as, Reads h u d as
  | _, _, _, .non, r => by cases (show _ = Value.none from r); exact ⟨[], .none⟩
  | _, _, _, .bl b, r => by cases (show _ = Value.bool b from r); exact ⟨[], .bool b⟩
  | _, _, _, .int i, r => by obtain ⟨t, rfl⟩ := (show ∃ t, _ = Value.int i t from r); exact ⟨[], .int i t⟩
  | _, _, _, .str z, r => by obtain ⟨t, rfl⟩ := (show ∃ t, _ = Value.str z t from r); exact ⟨[], .str z t⟩
  | _, _, _, .tup (a := a) (xs := xs) e l, r => by
    cases (show _ = Value.ref a from r)
    obtain ⟨_, its, rv, o, ho, hc, n, hd⟩ := (show ObjOk P w H h a (.tup xs) from ok a _ e)
    obtain ⟨as, ra⟩ := readsAll_of ok l rv
    exact ⟨as, .tuple ho hc hd (by simpa using ra)⟩
  | _, _, _, .lst (a := a) (xs := xs) e l, r => by
    cases (show _ = Value.ref a from r)
    obtain ⟨_, its, n, rv, ho⟩ := (show ObjOk P w H h a (.lst xs) from ok a _ e)
    obtain ⟨as, ra⟩ := readsAll_of ok l rv
    exact ⟨a :: as, .list ho rfl rfl (by simpa using ra)⟩
theorem readsAll_of {P : Program} {w : World} {H : Hp} {h : Heap} (ok : HOk P w H h) : ∀ {xs : List V} {ds : List PyData} {us : List Value}, DenL H xs ds → Vals xs us → ∃ as, ReadsAll h us ds as
  | _, _, _, .nil, .nil => ⟨[], .nil⟩
  | _, _, _, .cons a l, .cons r rs => by
    obtain ⟨as, ra⟩ := reads_of ok a r
    obtain ⟨bs, rb⟩ := readsAll_of ok l rs
    exact ⟨as ++ bs, .cons ra rb⟩
end
end L2
set_option maxRecDepth 100000
namespace L2
open PySem PySem.Spec PyProof.Rows
section
variable {X : Cx}
def rIsB (n : Bool) : R2 := fun x y H Q => match x, y with
  | .bl a, .bl b => Q (.bl (n ^^ (a == b))) H
  | x, .non => Q (.bl (n ^^ decide (x = .non))) H
  | _, _ => False
theorem op_isB : OpR X (compareOp .Is) (rIsB false) := by
  intro pins s σ H x y v u Q I rx ry h
  cases y with
  | non => exact op_isN pins s σ H _ _ v u Q I rx ry ⟨rfl, by cases x <;> simpa [rIsB] using h⟩
  | bl b =>
    cases x with
    | bl a =>
      cases rx; cases ry
      exact is_bool (fin_bl I h (by cases a <;> cases b <;> rfl))
    | _ => exact (show False from h).elim
  | _ => cases x <;> exact (show False from h).elim
theorem op_isnB : OpR X (compareOp .IsNot) (rIsB true) := by
  intro pins s σ H x y v u Q I rx ry h
  cases y with
  | non => exact op_notN pins s σ H _ _ v u Q I rx ry ⟨rfl, by cases x <;> simpa [rIsB] using h⟩
  | bl b =>
    cases x with
    | bl a =>
      cases rx; cases ry
      exact isnot_bool (fin_bl I h (by cases a <;> cases b <;> rfl))
    | _ => exact (show False from h).elim
  | _ => cases x <;> exact (show False from h).elim
end
theorem goodTy {p w : Addr} {H : Hp} {x : V} (h : GoodV p w H x) : ∃ t, tyName H x = some t ∧ (isiT t "str" = true ↔ ∃ z, x = .str z) := by
  cases x with
  | non => exact ⟨_, rfl, (fun h => absurd h (by decide)), fun ⟨z, e⟩ => nomatch e⟩
  | bl b => exact ⟨_, rfl, (fun h => absurd h (by decide)), fun ⟨z, e⟩ => nomatch e⟩
  | int b => exact ⟨_, rfl, (fun h => absurd h (by decide)), fun ⟨z, e⟩ => nomatch e⟩
  | str z => exact ⟨_, rfl, fun _ => ⟨z, rfl⟩, fun _ => by decide⟩
  | ref a =>
    obtain ⟨h1, h2, h3⟩ := h
    rcases h3 with ⟨xs, e⟩ | ⟨xs, e⟩ | ⟨xs, e⟩
    · exact ⟨"list", by simp [tyName, e], (fun h => absurd h (by decide)), fun ⟨z, e⟩ => nomatch e⟩
    · exact ⟨"tuple", by simp [tyName, e], (fun h => absurd h (by decide)), fun ⟨z, e⟩ => nomatch e⟩
    · exact ⟨"dict", by simp [tyName, e], (fun h => absurd h (by decide)), fun ⟨z, e⟩ => nomatch e⟩
  | _ => exact (show False from h).elim
abbrev ABC : Str := "abcdefghijklmnopqrstuvwxyz"
abbrev NON : List Str := ["all", "none", "way", "box", "pick"]
def inAbc (c : Nat) : Bool := !(Builtin.Str.occurrences ABC ⟨#[c]⟩ 0 ABC.length 1).isEmpty
def isName (z : Str) : Bool := decide (1 ≤ z.length) && decide (z.length ≤ 8) && !(NON.any fun y => y == z) && z.cps.toList.all inAbc
def isNameV : V → Bool
  | .str z => isName z
  | _ => false
def spName : Sp := fun vs H Q _ => ∃ (p w : Addr) (x : V), vs = [x] ∧ GoodV p w H x ∧ ∀ H', Same H H' → Q (.bl (isNameV x)) H'
theorem notStr {x : V} (h : ¬ ∃ z, x = .str z) : isNameV x = false := by
  cases x with
  | str z => exact (h ⟨z, rfl⟩).elim
  | _ => rfl
theorem range_all_str (z : Str) (f : Nat → Bool) : ((List.range z.cps.size).map fun i => f (z.cps.getD i 0)).all id = z.cps.toList.all f := by
  rw [List.all_map]
  rw [Bool.eq_iff_iff, List.all_eq_true, List.all_eq_true]
  constructor
  · intro h c hc
    obtain ⟨i, hi, rfl⟩ := List.getElem_of_mem hc
    have hi' : i < z.cps.size := by simpa using hi
    have := h i (List.mem_range.mpr hi')
    simpa [Array.getD, hi'] using this
  · intro h i hi
    have hi' : i < z.cps.size := List.mem_range.mp hi
    have := h (z.cps[i]) (by simp)
    simpa [Array.getD, hi'] using this
theorem decV_int {i j : Int} : (decide (V.int i = V.int j)) = decide (i = j) := by
  by_cases h : i = j
  · subst h; simp
  · rw [decide_eq_false h, decide_eq_false (fun e => h (V.int.inj e))]
theorem decV_str {i j : Str} : (decide (V.str i = V.str j)) = (i == j) := by
  by_cases h : i = j
  · subst h; simp
  · rw [decide_eq_false (fun e => h (V.str.inj e))]
    exact (beq_eq_false_iff_ne.mpr h).symm
theorem Same.put {H0 H' : Hp} {p : Addr} {o : HO} (s : Same H0 H') (h : H0 p = none) : Same H0 (L2.upd H' p o) := fun b u q => by rw [upd_ne (ne_of_none q h)]; exact s b u q
theorem tSeq_set {te : TE} {i : Nat} {u : TS} {D : Ends} {σ : St} {H : Hp} (h : te σ H fun x H1 => u D (σ.set i (some x)) H1) : tSeq (tAsg te (gName i)) u D σ H := h
theorem tSeq_setC {v : V} {i : Nat} {u : TS} {D : Ends} {σ : St} {H : Hp} (h : u D (σ.set i (some v)) H) : tSeq (tAsg (tC v) (gName i)) u D σ H := h
theorem tNext_seq {t u : TS} {D : Ends} {σ : St} {H : Hp} {rt : VK} {bk ct : St → Hp → Prop} (h : tSeq t u D σ H) : tNext { nx := tSeq t u D, rt := rt, bk := bk, ct := ct } σ H := h
theorem abc_at (c : Nat) (h : 97 ≤ c ∧ c < 123) : ABC.cps.toList[c - 97]? = some c := by
  have : ∀ d : Fin 26, ABC.cps.toList[d.val]? = some (97 + d.val) := by decide +kernel
  have := this ⟨c - 97, by omega⟩
  rw [this]; congr 1; simp; omega
theorem abc_find (c : Nat) (h : 97 ≤ c ∧ c < 123) : Builtin.Str.occurrences ABC ⟨#[c]⟩ 0 ABC.length 1 = [c - 97] := by
  have : ∀ d : Fin 26, Builtin.Str.occurrences ABC ⟨#[97 + d.val]⟩ 0 ABC.length 1 = [d.val] := by decide +kernel
  have := this ⟨c - 97, by omega⟩
  simp only at this
  rw [show 97 + (c - 97) = c by omega] at this
  exact this
section
variable {X : Cx} {pins : List (Addr × Obj)} {σ : St} {H : Hp} {s : Shared} {h' : Heap}
theorem Inv.turnedT {t' : Nat} {ch : List Addr} {T : Addr} {o : HO} (I : Inv X pins σ H s) (hf : ∀ b ∈ ch, FpOk X pins H b) (k : ∀ b o, b ∉ ch → s.heap.get? b = some o → h'.get? b = some o)
    (hT : s.heap.objs.size ≤ T) (new : ObjOk X.prog X.w (upd H T o) h' T o) : Inv X pins σ (upd H T o) { s with heap := h', toks := t' } := by
  have hfr : H T = none := I.hok.fresh hT
  have nT : ∀ b ob, s.heap.get? b = some ob → b ≠ T := fun b ob e => Nat.ne_of_lt (Nat.lt_of_lt_of_le (Heap.lt_size e) hT)
  have nch : ∀ b u, H b = some u → b ∉ ch := fun b u e hb => by rw [(hf b hb).1] at e; cases e
  refine I.step (g' := s.gens) (d' := s.drawn) (ch := ch) (fun b hb => ?_) (fun b o _ _ hc e _ => k b o hc e) (fun b o _ _ hc e _ => ⟨o.slots, k b o hc e⟩) (fun b o hc e n => by rw [upd_ne (nT b o e)]; exact n)
    (fun b o hc e => ⟨o, k b o hc e⟩) (fun b xs e => by rw [upd_ne (ne_of_none e hfr)]; exact e) (fun b o u e => by rw [upd_ne (ne_of_none e hfr)]; exact e) (fun b ps e => ⟨#[], by rw [upd_ne (ne_of_none e hfr), e]; simp⟩) (fun m hm => ?_) (fun b u e => ?_) I.bare
  · obtain ⟨f0, f1, f2, f3, f4, f5⟩ := hf b hb
    exact ⟨f3, f1, f4, f5⟩
  · obtain ⟨o, es, ep, ho, r⟩ := hm
    exact ⟨o, es, ep, k _ o (fun z => (hf _ z).2.1 rfl) ho, r⟩
  · by_cases hb : b = T
    · subst hb
      rw [upd_same] at e; cases e
      exact new
    · rw [upd_ne hb] at e
      refine (I.hok b u e).stay (fun c v hc q => k c v ?_ q) (fun c q => by rw [upd_ne (ne_of_none q hfr)]; exact q) fun c xs q => q.upd fun u' hu => ne_of_none hu hfr
      rcases hc with z | z
      · rw [z]; exact nch b u e
      · exact nch c _ z
theorem Inv.turnedL {t' : Nat} {ch : List Addr} (I : Inv X pins σ H s) (hf : ∀ b ∈ ch, FpOk X pins H b) (k : ∀ b o, b ∉ ch → s.heap.get? b = some o → h'.get? b = some o) : Inv X pins σ H { s with heap := h', toks := t' } := by
  have nch : ∀ b u, H b = some u → b ∉ ch := fun b u e hb => by rw [(hf b hb).1] at e; cases e
  refine I.step (g' := s.gens) (d' := s.drawn) (ch := ch) (fun b hb => ?_) (fun b o _ _ hc e _ => k b o hc e) (fun b o _ _ hc e _ => ⟨o.slots, k b o hc e⟩) (fun b o hc e n => n)
    (fun b o hc e => ⟨o, k b o hc e⟩) (fun b xs e => e) (fun b o u e => e) (fun b ps e => ⟨#[], by rw [e]; simp⟩) (fun m hm => ?_) (fun b u e => ?_) I.bare
  · obtain ⟨f0, f1, f2, f3, f4, f5⟩ := hf b hb
    exact ⟨f3, f1, f4, f5⟩
  · obtain ⟨o, es, ep, ho, r⟩ := hm
    exact ⟨o, es, ep, k _ o (fun z => (hf _ z).2.1 rfl) ho, r⟩
  · refine (I.hok b u e).stay (fun c v hc q => k c v ?_ q) (fun c q => q) fun c xs q => q
    rcases hc with z | z
    · rw [z]; exact nch b u e
    · exact nch c _ z
end
abbrev pairY (v1 v2 : V) : Hp → V → Hp → Prop := fun H x H' => ∃ T, x = .ref T ∧ H T = none ∧ H' = upd H T (.tup [v1, v2])
def Ite (K : PySem.W.Frag) (a : Addr) : It :=
  ⟨fun i H => ∃ xs x, SqL K H a xs ∧ xs[i]? = some x, fun i H x H' => ∃ v, (∀ xs, SqL K H a xs → xs[i]? = some v) ∧ pairY (.int i) v H x H', fun i H => ∃ xs, SqL K H a xs ∧ xs.length ≤ i⟩
theorem tup2_ok {P : Program} {w : World} {H : Hp} {h : Heap} {T : Addr} {v1 v2 : V} {u1 u2 : Value} (r1 : RelV v1 u1) (r2 : RelV v2 u2) (e : h.get? T = some { cls := .type "tuple", data := .seq #[u1, u2] }) : ObjOk P w H h T (.tup [v1, v2]) :=
  ⟨⟨show 2 ≤ sizeLine by decide, fun o q => by rw [e] at q; cases q; rfl⟩, [u1, u2], .cons r1 (.cons r2 .nil), _, e, rfl, _, rfl⟩
theorem turn_enum {P : Program} {w : World} {K : PySem.W.Frag} {elts : List Expr} {k : Nat} {pos : Pos} (a e it : Addr) (hei : e ≠ it) : Turn P w K (.Tuple elts k pos) (Ite K a) [e, it] e (fun i h => (∃ old, IsEnum h e it i old) ∧ h.IsListIter it a i) where
  mem := by simp
  obj := fun i h st b hb => by
    obtain ⟨⟨old, he⟩, o, ho, c, d⟩ := st
    simp only [List.mem_cons, List.mem_nil_iff, or_false] at hb
    rcases hb with rfl | rfl
    · exact ⟨_, he, fun v z => by
        have z' : Data.fields _ = Data.cell v := z
        cases z'⟩
    · exact ⟨o, ho, fun v z => by rw [d] at z; cases z⟩
  keep := fun i h h' st k => by
    obtain ⟨⟨old, he⟩, hi⟩ := st
    exact ⟨⟨old, k e (by simp) _ he⟩, hi.at fun o x => k it (by simp) o x⟩
  item := by
    intro X hP hw hK hc i pins s σ H E I hf st hg
    subst hP hw hK
    obtain ⟨⟨old, he⟩, hit⟩ := st
    obtain ⟨xs, x, hq, hx⟩ := hg
    obtain ⟨its, rv, p, hz⟩ := I.list hq
    obtain ⟨u, hu, ru⟩ := rv.get hx
    refine wpAny_pyNext_enum_item he hit p.isList (x := u) (by simpa using hu) hei fun h' ho hit' hT hsz hk => ?_
    have I1 : Inv X pins σ (upd H s.heap.objs.size (.tup [.int i, x])) { s with heap := h', toks := s.toks + 1 } := I.turnedT hf (fun b o hb e => hk b o (fun z => hb (by simp [z])) (fun z => hb (by simp [z])) e) (Nat.le_refl _) (tup2_ok ⟨_, rfl⟩ ru hT)
    refine ⟨_, rfl, wpAny_letOwnedTupleGo_enum (s := { s with heap := h', toks := s.toks + 1 }) ho fun h'' he'' sb => ?_⟩
    have hlt : ∀ b ∈ [e, it], b ≠ s.heap.objs.size := fun b hb z => by
      simp only [List.mem_cons, List.mem_nil_iff, or_false] at hb
      rcases hb with rfl | rfl
      · exact Nat.ne_of_lt (Heap.lt_size he) z
      · obtain ⟨_, q, _⟩ := hit; exact Nat.ne_of_lt (Heap.lt_size q) z
    have hf1 : ∀ b ∈ [e, it], FpOk X pins (upd H s.heap.objs.size (.tup [.int i, x])) b := fun b hb => by
      obtain ⟨f0, f⟩ := hf b hb
      exact ⟨by rw [upd_ne (hlt b hb)]; exact f0, f⟩
    obtain ⟨f0, f1, f2, f3, f4, f5⟩ := hf1 e (by simp)
    refine ⟨.ref s.heap.objs.size, _, I1.turned (t' := s.toks + 1) (fun b o hb q => (sb.2 b hb).trans q) f0 f1 f3 f4 f5, rfl, ⟨x, fun ys hy => by rw [I.list_inj hy hq]; exact hx, _, rfl, I.hok.fresh (Nat.le_refl _), rfl⟩, ⟨⟨u, by simpa using he''⟩, hit'.at fun o q => (sb.2 it hei.symm).trans q⟩, fun b hb => (hf1 b hb).1⟩
  done := by
    intro X hP hw hK hc i pins s σ H E I hf st hg
    subst hP hw hK
    obtain ⟨⟨old, he⟩, hit⟩ := st
    obtain ⟨xs, hq, hx⟩ := hg
    obtain ⟨its, rv, p, hz⟩ := I.list hq
    have hl := rv.length
    exact wpAny_pyNext_enum_end (I.ok.hd hc) he hit p.isList (by simp; omega) fun h' eb => ⟨rfl, I.turnedL (t' := s.toks) hf fun b o hb q => eb b o (fun z => hb (by simp [z])) q⟩
  self := fun _ _ _ _ _ st h => let ⟨⟨_, he⟩, _⟩ := st; wpAny_pyIter_enum he h
theorem zipApart_mk {n l m : Nat} (h1 : l < n) (h2 : m < n) : ZipApart (n + 4) (n + 2) (n + 3) n (n + 1) l m := by
  constructor <;> (show (_ : Nat) ≠ _) <;> omega
def Itz (K : PySem.W.Frag) (a b : Addr) : It :=
  ⟨fun i H => ∃ xs ys x y, SqL K H a xs ∧ SqL K H b ys ∧ xs[i]? = some x ∧ ys[i]? = some y, fun i H x H' => ∃ v1 v2, (∀ xs, SqL K H a xs → xs[i]? = some v1) ∧ (∀ ys, SqL K H b ys → ys[i]? = some v2) ∧ pairY v1 v2 H x H',
   fun i H => ∃ xs ys, SqL K H a xs ∧ SqL K H b ys ∧ (xs.length ≤ i ∨ ys.length ≤ i)⟩
abbrev zipSt (z TI TO i1 i2 a b : Addr) (i : Nat) (h : Heap) : Prop := IsZip h z TI TO .none ∧ IsPair h TI (.ref i1) (.ref i2) ∧ (∃ u v, IsPair h TO u v) ∧ h.IsListIter i1 a i ∧ h.IsListIter i2 b i
theorem turn_zip {P : Program} {w : World} {K : PySem.W.Frag} {elts : List Expr} {k : Nat} {pos : Pos} (z TI TO i1 i2 a b : Addr) (D : ZipApart z TI TO i1 i2 a b) : Turn P w K (.Tuple elts k pos) (Itz K a b) [z, TI, TO, i1, i2] z (zipSt z TI TO i1 i2 a b) where
  mem := by simp
  obj := fun i h st c hc => by
    obtain ⟨hz, hTI, ⟨u, v, hTO⟩, ⟨o1, e1, c1, d1⟩, o2, e2, c2, d2⟩ := st
    simp only [List.mem_cons, List.mem_nil_iff, or_false] at hc
    rcases hc with rfl | rfl | rfl | rfl | rfl
    · exact ⟨_, hz, fun v z => by have z' : Data.fields _ = Data.cell v := z; cases z'⟩
    · exact ⟨_, hTI, fun v z => by have z' : Data.seq _ _ = Data.cell v := z; cases z'⟩
    · exact ⟨_, hTO, fun v z => by have z' : Data.seq _ _ = Data.cell v := z; cases z'⟩
    · exact ⟨_, e1, fun v z => by rw [d1] at z; cases z⟩
    · exact ⟨_, e2, fun v z => by rw [d2] at z; cases z⟩
  keep := fun i h h' st k => by
    obtain ⟨hz, hTI, ⟨u, v, hTO⟩, h1, h2⟩ := st
    exact ⟨k z (by simp) _ hz, k TI (by simp) _ hTI, ⟨u, v, k TO (by simp) _ hTO⟩, h1.at fun o x => k i1 (by simp) o x, h2.at fun o x => k i2 (by simp) o x⟩
  item := by
    intro X hP hw hK hc i pins s σ H E I hf st hg
    subst hP hw hK
    obtain ⟨hz, hTI, ⟨u0, v0, hTO⟩, h1, h2⟩ := st
    obtain ⟨xs, ys, x, y, hq1, hq2, hx, hy⟩ := hg
    obtain ⟨its, rv, p, hzz⟩ := I.list hq1
    obtain ⟨its2, rv2, p2, hz2⟩ := I.list hq2
    obtain ⟨u, hu, ru⟩ := rv.get hx
    obtain ⟨u2, hu2, ru2⟩ := rv2.get hy
    refine wpAny_pyNext_zip_item D hz hTI hTO h1 h2 p.isList p2.isList (x := u) (y := u2) (by simpa using hu) (by simpa using hu2) fun h' a1 a2 a3 a4 a5 a6 hk => ?_
    have I1 : Inv X pins σ (upd H s.heap.objs.size (.tup [x, y])) { s with heap := h', toks := s.toks } := I.turnedT (t' := s.toks) hf (fun b o hb e => hk b o (fun z => hb (by simp [z])) (fun z => hb (by simp [z])) (fun z => hb (by simp [z])) (fun z => hb (by simp [z])) e) (Nat.le_refl _) (tup2_ok ru ru2 a5)
    refine ⟨_, rfl, wpAny_letOwnedTupleGo_zip (s := { s with heap := h' }) a1 fun h'' hz'' sb => ?_⟩
    have hlt : ∀ b ∈ [z, TI, TO, i1, i2], b ≠ s.heap.objs.size := fun c hc z' => by
      simp only [List.mem_cons, List.mem_nil_iff, or_false] at hc
      obtain ⟨o1, e1, _⟩ := h1
      obtain ⟨o2, e2, _⟩ := h2
      rcases hc with rfl | rfl | rfl | rfl | rfl
      · exact Nat.ne_of_lt (Heap.lt_size hz) z'
      · exact Nat.ne_of_lt (Heap.lt_size hTI) z'
      · exact Nat.ne_of_lt (Heap.lt_size hTO) z'
      · exact Nat.ne_of_lt (Heap.lt_size e1) z'
      · exact Nat.ne_of_lt (Heap.lt_size e2) z'
    have hf1 : ∀ b ∈ [z, TI, TO, i1, i2], FpOk X pins (upd H s.heap.objs.size (.tup [x, y])) b := fun b hb => by
      obtain ⟨f0, f⟩ := hf b hb
      exact ⟨by rw [upd_ne (hlt b hb)]; exact f0, f⟩
    obtain ⟨f0, f1, f2, f3, f4, f5⟩ := hf1 z (by simp)
    refine ⟨.ref s.heap.objs.size, _, I1.turned (t' := s.toks) (fun b o hb q => (sb.2 b hb).trans q) f0 f1 f3 f4 f5, rfl, ⟨x, y, fun ys hy => by rw [I.list_inj hy hq1]; exact hx, fun ys hy' => by rw [I.list_inj hy' hq2]; exact hy, _, rfl, I.hok.fresh (Nat.le_refl _), rfl⟩, ?_, fun b hb => (hf1 b hb).1⟩
    refine ⟨hz'', (sb.2 _ D.TIz).trans (hk _ _ D.TIz D.TITO D.TIi1 D.TIi2 hTI), ⟨_, _, (sb.2 _ D.TOz).trans a2⟩, a3.at fun o q => (sb.2 _ D.i1z).trans q, a4.at fun o q => (sb.2 _ D.i2z).trans q⟩
  done := by
    intro X hP hw hK hc i pins s σ H E I hf st hg
    subst hP hw hK
    obtain ⟨hz, hTI, ⟨u0, v0, hTO⟩, h1, h2⟩ := st
    obtain ⟨xs, ys, hq1, hq2, hx⟩ := hg
    obtain ⟨its, rv, p, hzz⟩ := I.list hq1
    obtain ⟨its2, rv2, p2, hz2⟩ := I.list hq2
    have hl := rv.length
    have hl2 := rv2.length
    refine wpAny_pyNext_zip_end (I.ok.hd hc) D hz hTI hTO h1 h2 p.isList p2.isList ?_ fun h' hk => ⟨rfl, I.turnedL (t' := s.toks) hf fun b o hb q => hk b o (fun z => hb (by simp [z])) (fun z => hb (by simp [z])) (fun z => hb (by simp [z])) (fun z => hb (by simp [z])) q⟩
    rcases hx with hx | hx
    · exact .inl (by simp; omega)
    · exact .inr (by simp; omega)
  self := fun _ _ _ _ _ st h => wpAny_pyIter_zip st.1 h
section
variable {X : Cx} {elts : List Expr} {k : Nat} {tpos p pos : Pos} {a b : Expr} {ta : TA}
def iEnum (K : PySem.W.Frag) (ta : TA) : TI := fun σ H R => ta σ H fun vs H1 => ∃ l xs, vs = [.ref l] ∧ SqL K H1 l xs ∧ R (Ite K l) H1
theorem pi_enum (hg : Gl X "enumerate") (hm : X.mg "enumerate" = none) (ha : PA X [a] ta) (hs : starEach [a] X.env = [(false, eval a X.env)] := by rfl) : PI X (.Tuple elts k tpos) (.Call (.Name "enumerate" p) [a] [] pos) (iEnum X.K ta) := by
  intro pins s σ H R I h
  refine Call_ (ld_blt I hg hm boot_enumerate (PyProof.Rows.callWith_type1 (thn (ha pos pins s σ H _ I h) fun us s1 ⟨vs, H1, I1, r1, q1⟩ => ?_) hs rfl))
  obtain ⟨l, xs, e, hq, q⟩ := q1
  subst e
  cases r1 with
  | cons r rr =>
    cases rr
    cases r
    obtain ⟨its, rv, pl, hz⟩ := I1.list hq
    refine call_enumerate_list pl.isList fun h' he hit hsz hk => wpAny_pyIter_enum he ?_
    have I2 : Inv X pins σ H1 { s1 with heap := h' } := I1.kept (t' := s1.toks) hk
    refine ⟨s1.heap.objs.size + 1, [s1.heap.objs.size + 1, s1.heap.objs.size], _, _, H1, rfl, I2, turn_enum l _ _ (Nat.succ_ne_self _), ⟨⟨_, he⟩, hit⟩, fun b hb => ?_, q⟩
    simp only [List.mem_cons, List.mem_nil_iff, or_false] at hb
    rcases hb with rfl | rfl
    · exact I1.fpOk (Nat.le_succ _) (I1.hok.fresh (Nat.le_succ _))
    · exact I1.fpOk (Nat.le_refl _) (I1.hok.fresh (Nat.le_refl _))
def iZip (K : PySem.W.Frag) (ta : TA) : TI := fun σ H R => ta σ H fun vs H1 => ∃ l m xs ys, vs = [.ref l, .ref m] ∧ SqL K H1 l xs ∧ SqL K H1 m ys ∧ R (Itz K l m) H1
theorem pi_zip (hg : Gl X "zip") (hm : X.mg "zip" = none) (ha : PA X [a, b] ta) (hs : starEach [a, b] X.env = [(false, eval a X.env), (false, eval b X.env)] := by rfl) (hs2 : starEach [b] X.env = [(false, eval b X.env)] := by rfl) :
    PI X (.Tuple elts k tpos) (.Call (.Name "zip" p) [a, b] [] pos) (iZip X.K ta) := by
  intro pins s σ H R I h
  refine Call_ (ld_blt I hg hm boot_zip (PyProof.Rows.callWith_type1 (thn (ha pos pins s σ H _ I h) fun us s1 ⟨vs, H1, I1, r1, q1⟩ => ?_) (by rw [hs, hs2]) (by rw [hs2]; rfl)))
  obtain ⟨l, m, xs, ys, e, hq1, hq2, q⟩ := q1
  subst e
  obtain ⟨u1, u2, rfl, r1', r2'⟩ := r1.two
  cases r1'
  cases r2'
  obtain ⟨its, rv, pl, hz⟩ := I1.list hq1
  obtain ⟨its2, rv2, pl2, hz2⟩ := I1.list hq2
  have l1 : l < s1.heap.objs.size := by obtain ⟨_, e, _⟩ := pl.isList; exact Heap.lt_size e
  have l2 : m < s1.heap.objs.size := by obtain ⟨_, e, _⟩ := pl2.isList; exact Heap.lt_size e
  refine call_zip_2 pl.isList pl2.isList fun h' hz hTI hTO h1 h2 hsz hk => wpAny_pyIter_zip hz ?_
  have I2 : Inv X pins σ H1 { s1 with heap := h' } := I1.kept (t' := s1.toks) hk
  have ne : ∀ {x y : Nat}, x < y → x ≠ y := fun h => Nat.ne_of_lt h
  have ne' : ∀ {x y : Nat}, y < x → x ≠ y := fun h => Nat.ne_of_gt h
  refine ⟨s1.heap.objs.size + 4, [s1.heap.objs.size + 4, s1.heap.objs.size + 2, s1.heap.objs.size + 3, s1.heap.objs.size, s1.heap.objs.size + 1], _, _, H1, rfl, I2, turn_zip _ _ _ _ _ l m ?_, ⟨hz, hTI, ⟨_, _, hTO⟩, h1, h2⟩, fun b hb => ?_, q⟩
  · exact zipApart_mk l1 l2
  · simp only [List.mem_cons, List.mem_nil_iff, or_false] at hb
    rcases hb with rfl | rfl | rfl | rfl | rfl <;> exact I1.fpOk (by simp) (I1.hok.fresh (by simp))
theorem pi_enumK (K : PySem.W.Frag) (hg : Gl X "enumerate") (hm : X.mg "enumerate" = none) (ha : SA X [a] ta) (h : X.K = K := by rfl) (hs : starEach [a] X.env = [(false, eval a X.env)] := by rfl) : SI X (.Tuple elts k tpos) (.Call (.Name "enumerate" p) [a] [] pos) (iEnum K ta) := by subst h; exact ⟨pi_enum hg hm ha.h hs⟩
theorem pi_zipK (K : PySem.W.Frag) (hg : Gl X "zip") (hm : X.mg "zip" = none) (ha : SA X [a, b] ta) (h : X.K = K := by rfl) (hs : starEach [a, b] X.env = [(false, eval a X.env), (false, eval b X.env)] := by rfl) (hs2 : starEach [b] X.env = [(false, eval b X.env)] := by rfl) :
    SI X (.Tuple elts k tpos) (.Call (.Name "zip" p) [a, b] [] pos) (iZip K ta) := by subst h; exact ⟨pi_zip hg hm ha.h hs hs2⟩
end
def ItP (J : It) (ok : Hp → Prop) (n : Nat) (f1 f2 : Nat → V) : Prop :=
  ∀ H, ok H → (∀ i, i < n → J.go i H ∧ ∀ x H', J.yld i H x H' → pairY (f1 i) (f2 i) H x H') ∧ J.stop n H
theorem itp_enum {K : PySem.W.Frag} {a : Addr} (xs : List V) : ItP (Ite K a) (fun H => SqL K H a xs) xs.length (fun i => .int i) (fun i => xs.getD i .non) := fun H ok =>
  ⟨fun i hi => ⟨⟨xs, xs[i], ok, by simp [hi]⟩, fun x H' ⟨v, hv, y⟩ => by
    have := hv xs ok
    have e : xs.getD i V.non = v := by rw [List.getD_eq_getElem?_getD, this]; rfl
    show pairY (.int i) (xs.getD i .non) H x H'
    rw [e]; exact y⟩, ⟨xs, ok, Nat.le_refl _⟩⟩
theorem itp_zip {K : PySem.W.Frag} {a b : Addr} (xs ys : List V) : ItP (Itz K a b) (fun H => SqL K H a xs ∧ SqL K H b ys) (min xs.length ys.length) (fun i => xs.getD i .non) (fun i => ys.getD i .non) := fun H ok =>
  ⟨fun i hi => ⟨⟨xs, ys, xs[i]'(by omega), ys[i]'(by omega), ok.1, ok.2, by simp, by simp⟩, fun x H' ⟨v1, v2, hv1, hv2, y⟩ => by
    have e1 : xs.getD i V.non = v1 := by rw [List.getD_eq_getElem?_getD, hv1 xs ok.1]; rfl
    have e2 : ys.getD i V.non = v2 := by rw [List.getD_eq_getElem?_getD, hv2 ys ok.2]; rfl
    show pairY (xs.getD i .non) (ys.getD i .non) H x H'
    rw [e1, e2]; exact y⟩, ⟨xs, ys, ok.1, ok.2, by omega⟩⟩
abbrev g2 (K : PySem.W.Frag) (a b : Nat) : TG := gTup K 2 (gCons (gName a) (gCons (gName b) gNil))
theorem g2_at {K : PySem.W.Frag} {a b : Nat} {T : Addr} {v1 v2 : V} {σ : St} {H : Hp} {Q : St → Hp → Prop} (h : H T = some (.tup [v1, v2])) (q : Q ((σ.set a (some v1)).set b (some v2)) H) : g2 K a b (.ref T) σ H Q :=
  ⟨T, _, rfl, SqT.of h, rfl, _, _, rfl, _, _, rfl, rfl, q⟩
theorem for_pair {K : PySem.W.Frag} {J : It} {ok : Hp → Prop} {n : Nat} {f1 f2 : Nat → V} {a b : Nat} {tb : TS} {D : Ends} {σ : St} {H : Hp} (hJ : ItP J ok n f1 f2) (Pv : Nat → St → Hp → Prop) (h0 : Pv 0 σ H) (hok : ∀ i τ H, i ≤ n → Pv i τ H → ok H)
    (hs : ∀ i σ H T, i < n → Pv i σ H → H T = none → tb { D with nx := Pv (i + 1), ct := Pv (i + 1), bk := D.nx } ((σ.set a (some (f1 i))).set b (some (f2 i))) (upd H T (.tup [f1 i, f2 i]))) (hd : ∀ σ H, Pv n σ H → D.nx σ H) :
    ∃ W : Nat → Nat → St → Hp → Prop, (∃ m, W 0 m σ H) ∧ ∀ i m σ H, W i m σ H →
      (J.stop i H ∧ D.nx σ H) ∨ (J.go i H ∧ ∃ N : St → Hp → Prop, (∀ σ' H', N σ' H' → ∃ m', m' < m ∧ W (i + 1) m' σ' H') ∧ ∀ x H', J.yld i H x H' → g2 K a b x σ H' fun σ2 H2 => tb { D with nx := N, ct := N, bk := D.nx } σ2 H2) := by
  refine ⟨fun i m σ H => m = n - i ∧ i ≤ n ∧ Pv i σ H, ⟨n, by simp, Nat.zero_le _, h0⟩, ?_⟩
  rintro i m σ H ⟨rfl, hi, p⟩
  obtain ⟨k1, k2⟩ := hJ H (hok i σ H hi p)
  by_cases hlt : i < n
  · refine .inr ⟨(k1 i hlt).1, Pv (i + 1), fun σ' H' p' => ⟨n - (i + 1), by omega, rfl, hlt, p'⟩, fun x H' y => ?_⟩
    obtain ⟨T, rfl, hT, rfl⟩ := (k1 i hlt).2 x H' y
    exact g2_at upd_same (hs i σ _ T hlt p hT)
  · have e : i = n := by omega
    subst e
    exact .inl ⟨k2, hd σ H p⟩
theorem lc_pair {K : PySem.W.Frag} {J : It} {ok : Hp → Prop} {n : Nat} {f1 f2 : Nat → V} {a b : Nat} {tc : TC} {te : TE} {τ0 : St} {H0 : Hp} {D : Addr} {Q : Hp → Prop} (hJ : ItP J ok n f1 f2) (Pv : Nat → St → Hp → Prop) (h0 : Pv 0 τ0 H0)
    (hok : ∀ i τ H, i ≤ n → Pv i τ H → ok H)
    (hs : ∀ i τ H T, i < n → Pv i τ H → H T = none → tc ((τ.set a (some (f1 i))).set b (some (f2 i))) (upd H T (.tup [f1 i, f2 i])) fun c H3 => if c = true then te ((τ.set a (some (f1 i))).set b (some (f2 i))) H3 fun y H4 => ∃ xs, H4 D = some (.lst xs) ∧ xs.length < sizeLine ∧ Pv (i + 1) ((τ.set a (some (f1 i))).set b (some (f2 i))) (upd H4 D (.lst (xs ++ [y]))) else Pv (i + 1) ((τ.set a (some (f1 i))).set b (some (f2 i))) H3)
    (hd : ∀ τ H, Pv n τ H → Q H) : ∃ W : Nat → Nat → St → Hp → Prop, (∃ m, W 0 m τ0 H0) ∧ ∀ i m τ H, W i m τ H →
      (J.stop i H ∧ Q H) ∨ (J.go i H ∧ ∃ N : St → Hp → Prop, (∀ τ' H', N τ' H' → ∃ m', m' < m ∧ W (i + 1) m' τ' H') ∧ ∀ x H', J.yld i H x H' → g2 K a b x τ H' fun τ2 H2 => tc τ2 H2 fun b H3 =>
        if b = true then te τ2 H3 fun y H4 => ∃ xs, H4 D = some (.lst xs) ∧ xs.length < sizeLine ∧ N τ2 (upd H4 D (.lst (xs ++ [y]))) else N τ2 H3) := by
  refine ⟨fun i m τ H => m = n - i ∧ i ≤ n ∧ Pv i τ H, ⟨n, by simp, Nat.zero_le _, h0⟩, ?_⟩
  rintro i m τ H ⟨rfl, hi, p⟩
  obtain ⟨k1, k2⟩ := hJ H (hok i τ H hi p)
  by_cases hlt : i < n
  · refine .inr ⟨(k1 i hlt).1, Pv (i + 1), fun σ' H' p' => ⟨n - (i + 1), by omega, rfl, hlt, p'⟩, fun x H' y => ?_⟩
    obtain ⟨T, rfl, hT, rfl⟩ := (k1 i hlt).2 x H' y
    exact g2_at upd_same (hs i τ _ T hlt p hT)
  · have e : i = n := by omega
    subst e
    exact .inl ⟨k2, hd τ H p⟩
end L2
set_option maxRecDepth 100000
namespace PySem
theorem ask_keys_tuple {prog : Program} {w : World} {A : Around} {E : Value → Shared → Prop} {s : Shared} {a : Addr} {o : Obj} {xs : Array Value} {k : Nat} {Q : Option Value → Shared → Prop}
    (hx : s.heap.get? a = some o) (hc : o.cls = .type "tuple") (hdat : o.data = .seq xs k) (hd : o.dict = none) (hA : A.handled = none)
    (h : ∀ h' tk, (∀ b ob, s.heap.get? b = some ob → h'.get? b = some ob) → Q none { s with heap := h', toks := tk }) :
    wpAny (model prog w) A (getAttr? (.ref a) "keys") Q E s := by
  obtain ⟨c, dct, dat, sl⟩ := o
  simp only at hc hdat hd
  subst hc hdat hd
  obtain ⟨hp, g, d, tk, os⟩ := s
  have hT : ∀ tk', (⟨hp, g, d, tk', os⟩ : Shared).TypeIs (.ref a) "tuple" := fun _ => ⟨_, hx, rfl⟩
  have hmiss : typeLookup (.type "tuple") "keys" = pure none := am_miss_of_fast (by kernel_rfl)
  have f1 := sub_AttributeError
  have f3 := F.slot_tuple_getattribute.lookup
  have f4 := F.slot_tuple_getattribute.bind (.ref a)
  have f5 := am_tuple_getattr_none
  unfold getAttr? getAttrBy? getAttrBy
  repeat (any_goals (first | assumption | exact hT _ | ((with_reducible show wpAny _ _ (call (Value.builtin "tuple.__getattribute__") _ _) _ _ _); refine call_meets F.slot_tuple_getattribute (hT _) am_entry_tuple_getattribute (F.args_tuple_getattribute_2 _ _) (meets_getattribute_miss_tuple a xs k sl _ _ hmiss (by decide) (by decide)) ⟨hx, hA, fun h' tk' e hx' => ?_⟩) | wp_step))
  obtain ⟨t', u', he⟩ := hx'.there
  show wpAny _ _ (getattributeRaised _ _ _ _ _ _ _) _ _ _
  unfold getattributeRaised
  repeat (any_goals (first | assumption | wp_step))
  exact h _ _ hx'.keeps
end PySem
namespace PySem.F
theorem entry_dict_update_loop : entryFor table "dict.update.loop" = some Builtin.«dict.update.loop» := entryFor_of_tree (by kernel_rfl)
theorem plain_dict_update_loop : plainId "dict.update.loop" = true := by decide +kernel
end PySem.F
namespace L2
open PySem PySem.Spec PyProof.Rows
def PairsAt (H : Hp) (ys : List V) (rs : List (Key × V)) : Prop := ys.length = rs.length ∧ ∀ i (h : i < rs.length), ∃ b, ys[i]? = some (.ref b) ∧ H b = some (.tup [kV rs[i].1, rs[i].2])
def dictOf (rs : List (Key × V)) : List (Key × V) := rs.foldl (fun kvs r => putK kvs r.1 r.2) []
theorem foldPut_len (rs : List (Key × V)) : ∀ kvs : List (Key × V), (rs.foldl (fun kvs r => putK kvs r.1 r.2) kvs).length ≤ kvs.length + rs.length := by
  induction rs with
  | nil => intro kvs; exact Nat.le_refl _
  | cons r rs ih =>
    intro kvs
    have h1 := ih (putK kvs r.1 r.2)
    have h2 := length_putK kvs r.1 r.2
    rw [List.foldl_cons, List.length_cons]
    omega
theorem dictOf_len (rs : List (Key × V)) : (dictOf rs).length ≤ rs.length := by have := foldPut_len rs []; simpa [dictOf] using this
theorem dictOf_take (rs : List (Key × V)) (i : Nat) (h : i < rs.length) : dictOf (rs.take (i + 1)) = putK (dictOf (rs.take i)) rs[i].1 rs[i].2 := by
  unfold dictOf
  rw [List.take_add_one, List.getElem?_eq_getElem h, Option.toList_some, List.foldl_append]; rfl
theorem PairsAt.same {H H' : Hp} {ys : List V} {rs : List (Key × V)} (p : PairsAt H ys rs) (s : Same H H') : PairsAt H' ys rs := ⟨p.1, fun i h => let ⟨b, e1, e2⟩ := p.2 i h; ⟨b, e1, s _ _ e2⟩⟩
section
variable {X : Cx}
theorem pairs_loop {pins : List (Addr × Obj)} {σ : St} {A : Around} {R : Result → Shared → Prop} {d it a : Addr} {ys : List V} {rs : List (Key × V)} (hA : A.handled = none) {H : Hp} (hH : H d = none) (hlen : rs.length ≤ sizeLine) (hp : PairsAt H ys rs) (ha : H a = some (.tup ys)) (hit : it ≠ d)
    (hR : ∀ s, Inv X pins σ (upd H d (.dK (dictOf rs))) s → R (.ok (.ret .none)) s) :
    ∀ (k i : Nat) (s : Shared), rs.length - i = k → i ≤ rs.length → Inv X pins σ (upd H d (.dK (dictOf (rs.take i)))) s → s.heap.IsTupleIter it a i → FpOk X pins (upd H d (.dK (dictOf (rs.take i)))) it →
      codeAny (model X.prog X.w) A (.builtin "dict.update.loop" ⟨[.ref d, .ref it, rawInt i, .none], []⟩) R s := by
  have had : a ≠ d := ne_of_none ha hH
  intro k
  induction k with
  | zero =>
    intro i s hk hi I st f
    have hin : i = rs.length := by omega
    subst hin
    refine codeAny_builtin F.entry_dict_update_loop ?_
    rw [Around.under_plainId F.plain_dict_update_loop _]
    show wpAny _ A.in1 (pyNext (.ref it) >>= _) _ _ s
    obtain ⟨its, rv, p, hz⟩ := I.tuple (SqT.of (by rw [upd_ne had]; exact ha))
    have hl := rv.length
    have hl2 := hp.1
    obtain ⟨f0, f1, f2, f3, f4, f5⟩ := f
    refine wpAny_bind (wpAny_pyNext_tuple_end (by simp [hA]) st (show s.heap.IsTuple a its.toArray from p) (by simp; omega) fun h' eb => ?_)
    have I1 := I.turned (t' := s.toks) (h' := h') (fun b o hb e => eb b o hb e) f0 f1 f3 f4 f5
    rw [List.take_length] at I1
    show wpAny _ _ (Builtin.Dict.addKeywords d [] >>= fun _ => ret .none) _ _ _
    exact wpAny_bind (wpAny_pure (wpAny_pure (hR _ I1)))
  | succ k ih =>
    intro i s hk hi I st f
    have hlt : i < rs.length := by omega
    refine codeAny_builtin F.entry_dict_update_loop ?_
    rw [Around.under_plainId F.plain_dict_update_loop _]
    show wpAny _ A.in1 (pyNext (.ref it) >>= _) _ _ s
    obtain ⟨its, rv, p, hz⟩ := I.tuple (SqT.of (by rw [upd_ne had]; exact ha))
    obtain ⟨b, hb1, hb2⟩ := hp.2 i hlt
    obtain ⟨u, hu, ru⟩ := rv.get hb1
    cases ru
    obtain ⟨f0, f1, f2, f3, f4, f5⟩ := id f
    refine wpAny_bind (wpAny_pyNext_tuple_item st (show s.heap.IsTuple a its.toArray from p) (x := .ref b) (by simpa using hu) fun h' st' sb => ?_)
    have I1 : Inv X pins σ (upd H d (.dK (dictOf (rs.take i)))) { s with heap := h' } := I.turned (t' := s.toks) (fun b o hb e => (sb.2 b hb).trans e) f0 f1 f3 f4 f5
    have hbd : b ≠ d := ne_of_none hb2 hH
    obtain ⟨its2, rv2, ⟨ob, ho, hc, n, hd2⟩, hz2⟩ := I1.tuple (SqT.of (a := b) (by rw [upd_ne hbd]; exact hb2))
    obtain ⟨u1, u2, rfl, r1, r2⟩ := rv2.two
    show wpAny _ A.in1 (holding [Value.ref b] _ >>= _) _ _ _
    refine wpAny_bind (wpAny_holding (wpAny_bind (wpAny_tryCatch ?_)))
    unfold Builtin.Dict.pairItems
    refine wpAny_bind (wpAny_typeOf (T := "tuple") ⟨ob, ho, hc⟩ ?_)
    rw [if_pos (by decide)]
    refine wpAny_bind (wpAny_seqItems ho hd2 (wpAny_pure ?_))
    show wpAny _ A.in1 (holding [u1, u2] (dictSet d u1 u2)) _ _ _
    refine wpAny_holding ?_
    obtain ⟨z, hd, vs, rel, dd⟩ := dk_of I1.hok (upd_same : upd H d (.dK (dictOf (rs.take i))) d = _)
    have hl0 := dictOf_len (rs.take i)
    rw [List.length_take] at hl0
    have hl1 : (dictOf (rs.take i)).length < sizeLine := by omega
    have hzz : vs.length ≤ sizeLine := by rw [← rel.length]; exact z
    have hlen' : (putK (dictOf (rs.take i)) rs[i].1 rs[i].2).length ≤ sizeLine := by have := length_putK (dictOf (rs.take i)) rs[i].1 rs[i].2; omega
    refine wpAny_dictSet_pairs (hsz := hzz) (kV_is r1) dd fun h2 dd' hs => ?_
    have he9 : ∃ q, h2.get? d = some q := let ⟨q, _, _, hq, _⟩ := dd'; ⟨q, hq⟩
    have I10 := d_write (t' := s.toks + 1) (ob := .dK (putK (dictOf (rs.take i)) rs[i].1 rs[i].2)) I1 (by rw [upd_same]; exact True.intro) hs he9 (dk_new hlen' hd (rel.put _ r2) dd')
    rw [upd_upd, ← dictOf_take rs i hlt] at I10
    refine wpAny_pure ⟨plainId_quiet F.plain_dict_update_loop _, ?_⟩
    exact ih (i + 1) _ (by omega) hlt I10 (st'.at fun o q => (hs.2 it hit).trans q) ⟨by rw [upd_ne hit] at f0 ⊢; exact f0, f1, f2, f3, f4, f5⟩
end
end L2
set_option maxRecDepth 100000
namespace L2
open PySem PySem.Spec PyProof.Rows
section
variable {X : Cx}
def rDictOf : List V → Hp → VK → Prop := fun xs H Q => ∃ a ys rs, xs = [.ref a] ∧ H a = some (.tup ys) ∧ PairsAt H ys rs ∧ rs.length ≤ sizeLine ∧ ∀ d, H d = none → Q (.ref d) (upd H d (.dK (dictOf rs)))
theorem call_dict_of (hc : X.calm = true) : CallR X (.type "dict") rDictOf := by
  intro pins s σ H xs us Q I r h
  obtain ⟨a, ys, rs, rfl, ha, hp, hl, q⟩ := h
  obtain ⟨u, rfl, ru⟩ := r.one
  cases ru
  refine callType_codes (Q₁ := fun obj s₁ => obj = .ref s.heap.objs.size ∧ s₁ = { s with heap := s.heap.push { cls := .type "dict", data := .dict #[] } }) F.kt_called_dict (F.kt_typeCall_dict_1 _) F.entry_dict_init (kt_code_dict_new _ ⟨rfl, rfl⟩) ?_
  rintro obj s₁ ⟨rfl, rfl⟩
  have fr : H s.heap.objs.size = none := I.hok.fresh (Nat.le_refl _)
  have hnew : (s.heap.push { cls := .type "dict", data := .dict #[] }).DictOf (mixKind X.prog X.w) s.heap.objs.size [] := Heap.DictOf.new s.heap
  have I1 : Inv X pins σ (upd H s.heap.objs.size (.dK [])) { s with heap := s.heap.push { cls := .type "dict", data := .dict #[] } } := I.laid (t' := s.toks) (fun b u e => Heap.get?_push_of_some _ e) (Nat.le_refl _)
    ⟨Nat.zero_le _, beq_eq_false_iff_ne.mpr (Ne.symm (Nat.ne_of_lt I.big)), [], .nil, hnew⟩
  have had : a ≠ s.heap.objs.size := ne_of_none ha fr
  obtain ⟨⟨z, nd⟩, its, rv, o, ho, hcl, n, hd⟩ := (show ObjOk X.prog X.w _ _ a (.tup ys) from I1.hok a _ (by rw [upd_ne had]; exact ha))
  refine ⟨hnew.typeIs, F.args_dict_init_2 _ _, ?_⟩
  unfold Builtin.«dict.__init__»
  refine wpAny_bind ?_
  unfold Builtin.Dict.selfAndRest
  refine wpAny_bind (wpAny_notOrdered_dict hnew.typeIs ?_)
  show wpAny _ _ (pure (s.heap.objs.size, [Value.ref a])) _ _ _
  refine wpAny_pure ?_
  show wpAny _ _ (Builtin.Dict.updateFrom "dict.__init__" s.heap.objs.size (.ref a) [] .none) _ _ _
  unfold Builtin.Dict.updateFrom
  refine wpAny_bind (wpAny_typeOf (T := "tuple") ⟨o, ho, hcl⟩ ?_)
  rw [if_pos (by decide)]
  have hh : X.A.handled = none := I.ok.hd hc
  refine wpAny_bind (ask_keys_tuple ho hcl hd (nd _ ho) (by simp [hh]) fun h' tk hk => ?_)
  rw [if_pos (by rfl)]
  refine wpAny_bind (wpAny_rule ?_)
  have I2 : Inv X pins σ (upd H s.heap.objs.size (.dK [])) { s with heap := h', toks := tk } := I1.kept (t' := tk) hk
  obtain ⟨its2, rv2, p2, hz2⟩ := I2.tuple (SqT.of (a := a) (xs := ys) (by rw [upd_ne had]; exact ha))
  refine wpAny_bind (wpAny_pyIter_tuple (show Heap.IsTuple h' a its2.toArray from p2) ?_)
  have hsz : s.heap.objs.size < h'.objs.size := by
    obtain ⟨_, _, _, e, _⟩ := hnew
    exact Heap.lt_size (hk _ _ e)
  refine wpAny_pure ⟨plainId_quiet F.plain_dict_update_loop _, ?_⟩
  refine pairs_loop (X := X) (pins := pins) (σ := σ) (by simp [hh]) fr hl hp ha (Nat.ne_of_gt hsz) (fun s' I' => ⟨rfl, .ref s.heap.objs.size, _, I', rfl, q _ fr⟩) rs.length 0 _ rfl (Nat.zero_le _) (I2.kept (t' := tk) fun b o e => Heap.get?_push_of_some _ e) ⟨_, Heap.get?_push_size _ rfl, rfl, rfl⟩ (I2.fpOk (Nat.le_refl _) (I2.hok.fresh (Nat.le_refl _)))
end
def Tk (H H' : Hp) : Prop := ∀ b xs, H b = some (.tup xs) → H' b = some (.tup xs)
theorem Tk.refl {H : Hp} : Tk H H := fun _ _ h => h
theorem Tk.trans {H H1 H2 : Hp} (a : Tk H H1) (b : Tk H1 H2) : Tk H H2 := fun c xs h => b c xs (a c xs h)
theorem Same.ts {H H' : Hp} (s : Same H H') : Tk H H' := fun b xs h => s b _ h
theorem PenAt.ts {H H' : Hp} {p w : Addr} {t : Nat} (h : PenAt H p w t) (s : Sm p w H H') : Tk H H' := fun b xs e => by
  obtain ⟨m, c, ws, h1, h2, _⟩ := h.ex
  exact s b _ e (ne_of e h1 (by intro z; cases z)) (ne_of e h2 (by intro z; cases z))
theorem Tk.upd {H H' : Hp} {a : Addr} {o : HO} (s : Tk H H') (h : H' a = none) : Tk H (L2.upd H' a o) := fun b xs e => by rw [upd_ne (ne_of_none (s b xs e) h)]; exact s b xs e
theorem Tk.set {H H' : Hp} {a : Addr} {o o' : HO} (s : Tk H H') (h : H' a = some o) (hn : ∀ xs, o ≠ .tup xs) : Tk H (L2.upd H' a o') := fun b xs e => by
  rw [upd_ne (fun z => by rw [z] at e; have := s a xs e; rw [h] at this; cases this; exact hn _ rfl)]; exact s b xs e
inductive TDen (H : Hp) : V → PyData → Prop
  | str (z : Str) : TDen H (.str z) (.str z)
  | tup {a : Addr} {xs : List V} {ds : List PyData} : H a = some (.tup xs) → xs.length = ds.length → (∀ i (h : i < xs.length) (h' : i < ds.length), TDen H xs[i] ds[i]) → TDen H (.ref a) (.tuple ds)
theorem TDen.ts {H H' : Hp} (s : Tk H H') {v : V} {d : PyData} (h : TDen H v d) : TDen H' v d := by
  induction h with
  | str z => exact .str z
  | tup e hl _ ih => exact .tup (s _ _ e) hl ih
theorem showableAll_of : ∀ {ds : List PyData}, (∀ d ∈ ds, d.showable = true) → PyData.showableAll ds = true
  | [], _ => by simp [PyData.showableAll]
  | d :: ds, h => by simp [PyData.showableAll, h d List.mem_cons_self, showableAll_of fun x hx => h x (List.mem_cons_of_mem _ hx)]
theorem hasDictAll_of : ∀ {ds : List PyData}, (∀ d ∈ ds, d.hasDict = false) → PyData.hasDictAll ds = false
  | [], _ => by simp [PyData.hasDictAll]
  | d :: ds, h => by simp [PyData.hasDictAll, h d List.mem_cons_self, hasDictAll_of fun x hx => h x (List.mem_cons_of_mem _ hx)]
theorem depthAll_le {k : Nat} : ∀ {ds : List PyData}, (∀ d ∈ ds, d.depth ≤ k) → PyData.depthAll ds ≤ k
  | [], _ => by simp [PyData.depthAll]
  | d :: ds, h => by
    have h1 := h d List.mem_cons_self
    have h2 := depthAll_le (ds := ds) fun x hx => h x (List.mem_cons_of_mem _ hx)
    simp [PyData.depthAll]; omega
theorem sum_le {n : Nat} : ∀ {ts : List Str}, (∀ t ∈ ts, t.length ≤ n) → (ts.map (·.length)).sum ≤ ts.length * n
  | [], _ => by simp
  | t :: ts, h => by
    have h1 := h t List.mem_cons_self
    have h2 := sum_le (ts := ts) fun x hx => h x (List.mem_cons_of_mem _ hx)
    rw [List.map_cons, List.sum_cons, List.length_cons, Nat.add_mul]; omega
def TB (H : Hp) (v : V) (k n : Nat) : Prop := ∃ d, TDen H v d ∧ d.depth ≤ k ∧ d.shown.length ≤ n ∧ d.showable = true ∧ d.hasDict = false
def Wd (z : Str) : Prop := z.length ≤ 20 ∧ ∀ c ∈ z.cps.toList, c < 128
theorem TB.mono {H : Hp} {v : V} {k n k' n' : Nat} (h : TB H v k n) (hk : k ≤ k') (hn : n ≤ n') : TB H v k' n' := by
  obtain ⟨d, h1, h2, h3, h4, h5⟩ := h
  exact ⟨d, h1, by omega, by omega, h4, h5⟩
theorem TB.ts {H H' : Hp} (s : Tk H H') {v : V} {k n : Nat} (h : TB H v k n) : TB H' v k n := by
  obtain ⟨d, h1, h2⟩ := h
  exact ⟨d, h1.ts s, h2⟩
theorem TB.str {H : Hp} {z : Str} (h : Wd z) : TB H (.str z) 0 202 := by
  refine ⟨.str z, .str z, by simp [PyData.depth], ?_, by simp [PyData.showable], by simp [PyData.hasDict]⟩
  show (PyData.str z).shown.length ≤ 202
  simp only [PyData.shown]
  have := StrLaws.reprText_len z (fun c hc => Nat.lt_of_lt_of_le (h.2 c hc) (by decide))
  have := h.1
  omega
theorem TB.tup {H : Hp} {a : Addr} {xs : List V} {k n : Nat} (e : H a = some (.tup xs)) (h : ∀ x ∈ xs, TB H x k n) : TB H (.ref a) (k + 1) (xs.length * (n + 2) + 3) := by
  have hc : ∀ i : Fin xs.length, ∃ d, TDen H xs[i.val] d ∧ d.depth ≤ k ∧ d.shown.length ≤ n ∧ d.showable = true ∧ d.hasDict = false := fun i => h _ (List.getElem_mem i.isLt)
  obtain ⟨f, hf⟩ := Classical.axiomOfChoice hc
  have hm : ∀ d ∈ List.ofFn f, d.depth ≤ k ∧ d.shown.length ≤ n ∧ d.showable = true ∧ d.hasDict = false := fun d hd => by
    obtain ⟨i, rfl⟩ := List.mem_ofFn.mp hd
    exact (hf i).2
  refine ⟨.tuple (List.ofFn f), .tup e (by simp) fun i h1 h2 => ?_, ?_, ?_, ?_, ?_⟩
  · have := (hf ⟨i, h1⟩).1
    simpa using this
  · simp only [PyData.depth]
    have := depthAll_le (fun d hd => (hm d hd).1)
    omega
  · simp only [PyData.shown]
    have h1 := tupleText_len_le (PyData.shownAll (List.ofFn f))
    have e2 : PyData.shownAll (List.ofFn f) = (List.ofFn f).map PyData.shown := shownAll_eq_map _
    have h2 : ((PyData.shownAll (List.ofFn f)).map (·.length)).sum ≤ (PyData.shownAll (List.ofFn f)).length * n := sum_le fun t ht => by
      rw [e2] at ht
      obtain ⟨d, hd, rfl⟩ := List.mem_map.mp ht
      exact (hm d hd).2.1
    have h3 : (PyData.shownAll (List.ofFn f)).length = xs.length := by rw [e2]; simp
    rw [h3] at h1 h2
    rw [Nat.mul_add]; omega
  · simp only [PyData.showable]
    exact showableAll_of fun d hd => (hm d hd).2.2.1
  · simp only [PyData.hasDict]
    exact hasDictAll_of fun d hd => (hm d hd).2.2.2
theorem valV_dictOf (rs : List (Key × V)) : (rs.map (·.1)).Nodup → ∀ i (h : i < rs.length), valV (dictOf rs) rs[i].1 = some rs[i].2 := by
  have gen : ∀ (rs : List (Key × V)) (kvs : List (Key × V)), (rs.map (·.1)).Nodup → ∀ k, valV (rs.foldl (fun kvs r => putK kvs r.1 r.2) kvs) k = ((rs.find? fun r => decide (r.1 = k)).map (·.2)).or (valV kvs k) := by
    intro rs
    induction rs with
    | nil => intro kvs _ k; simp
    | cons r rs ih =>
      intro kvs hn k
      rw [List.map_cons, List.nodup_cons] at hn
      rw [List.foldl_cons, ih _ hn.2, valV_put]
      by_cases e : r.1 = k
      · have : rs.find? (fun r => decide (r.1 = k)) = none := by
          rw [List.find?_eq_none]
          intro x hx z
          have z' := of_decide_eq_true z
          exact hn.1 (List.mem_map.mpr ⟨x, hx, by rw [z', e]⟩)
        rw [this, List.find?_cons, if_pos e.symm]
        simp [e]
      · rw [if_neg (fun z => e z.symm), List.find?_cons]
        simp [e]
  intro hn i h
  unfold dictOf
  rw [gen rs [] hn]
  have : rs.find? (fun r => decide (r.1 = rs[i].1)) = some rs[i] := by
    rw [List.find?_eq_some_iff_getElem]
    refine ⟨by simp, i, h, rfl, fun j hj => ?_⟩
    have hne : (rs.map (·.1))[j]'(by simp; omega) ≠ (rs.map (·.1))[i]'(by simpa using h) := fun z => by
      exact (List.pairwise_iff_getElem.mp hn j i (by simp; omega) (by simpa using h) hj) z
    simpa using hne
  rw [this]; rfl
abbrev rowsK (rs : List (Str × V)) : List (Key × V) := rs.map fun r => (Sum.inr r.1, r.2)
def AsV (H : Hp) (v : V) (o : Option Str) : Prop := ∃ b, v = .ref b ∧ ((∃ s ys, H b = some (.tup (.str s :: ys)) ∧ s ≠ "as" ∧ o = none) ∨ ∃ x, H b = some (.tup [.str "as", .str x]) ∧ o = some x)
theorem PairsAt.ts {H H' : Hp} {ys : List V} {rs : List (Key × V)} (p : PairsAt H ys rs) (s : Tk H H') : PairsAt H' ys rs := ⟨p.1, fun i h => let ⟨b, e1, e2⟩ := p.2 i h; ⟨b, e1, s _ _ e2⟩⟩
section
variable {H H' : Hp} {a : Addr} {xs : List V} {rs : List (Str × V)} {nx : Str → Option Str} {ρ : Str → Nat}
theorem rowsK_nd (h : (rs.map (·.1)).Nodup) : ((rowsK rs).map (·.1)).Nodup := by
  have e : (rowsK rs).map (·.1) = (rs.map (·.1)).map (Sum.inr : Str → Key) := by simp [rowsK, List.map_map, Function.comp_def]
  rw [e]
  exact List.Pairwise.map _ (fun a b hab z => hab (Sum.inr.inj z)) h
def stp (nx : Str → Option Str) (x : Str) : Str := (nx x).getD x
def stps (nx : Str → Option Str) : Nat → Str → Str
  | 0, x => x
  | n + 1, x => stps nx n (stp nx x)
theorem stps_succ (n : Nat) : ∀ x, stps nx (n + 1) x = stp nx (stps nx n x) := by
  induction n with
  | zero => intro x; rfl
  | succ n ih => intro x; rw [stps, ih]; rfl
theorem stps_stay (n : Nat) {x : Str} (h : nx x = none) : stps nx n x = x := by
  induction n with
  | zero => rfl
  | succ n ih => rw [stps]; rw [show stp nx x = x by simp [stp, h]]; exact ih
end
theorem mem_gluedFold (sep : Str) (c : Nat) : ∀ (rest : List Str) (acc : Array Nat), c ∈ (rest.foldl (fun acc p => acc ++ sep.cps ++ p.cps) acc).toList → c ∈ acc.toList ∨ c ∈ sep.cps.toList ∨ ∃ p ∈ rest, c ∈ p.cps.toList
  | [], acc, h => .inl h
  | p :: rest, acc, h => by
    rcases mem_gluedFold sep c rest _ h with h | h | ⟨q, h1, h2⟩
    · simp only [Array.toList_append, List.mem_append] at h
      rcases h with (h | h) | h
      · exact .inl h
      · exact .inr (.inl h)
      · exact .inr (.inr ⟨p, List.mem_cons_self, h⟩)
    · exact .inr (.inl h)
    · exact .inr (.inr ⟨q, List.mem_cons_of_mem _ h1, h2⟩)
theorem mem_join {sep : Str} {c : Nat} {ys : List Str} (h : c ∈ (Txt.join sep ys).cps.toList) : c ∈ sep.cps.toList ∨ ∃ y ∈ ys, c ∈ y.cps.toList := by
  have h' : c ∈ (Builtin.Str.glued sep ys).cps.toList := h
  cases ys with
  | nil =>
    rw [StrLaws.glued_eq_join] at h'
    simp [Str.join] at h'
    exact absurd h' (by intro z; exact nomatch z)
  | cons y ys =>
    have e : Builtin.Str.glued sep (y :: ys) = ⟨ys.foldl (fun acc p => acc ++ sep.cps ++ p.cps) y.cps⟩ := by rw [StrLaws.glued_eq_join, StrLaws.glued_cons]
    rw [e] at h'
    rcases mem_gluedFold sep c ys y.cps h' with h | h | ⟨p, h1, h2⟩
    · exact .inr ⟨y, List.mem_cons_self, h⟩
    · exact .inl h
    · exact .inr ⟨p, List.mem_cons_of_mem _ h1, h2⟩
theorem cut_from (xs : List V) (k : Nat) : cutV xs (some (k : Int)) none = xs.drop k := by
  unfold cutV
  rw [HT.sIx_nat, HT.sIx_none]
  by_cases h : k ≤ xs.length
  · rw [Nat.min_eq_left h]
    exact List.take_of_length_le (by simp)
  · rw [Nat.min_eq_right (by omega)]
    simp [List.drop_eq_nil_of_le (show xs.length ≤ k by omega)]
theorem cut_to (xs : List V) (k : Nat) : cutV xs none (some (k : Int)) = xs.take k := by
  unfold cutV
  rw [HT.sIx_nat, HT.sIx_none]
  simp
theorem nodup_get {α : Type} {l : List α} (h : l.Nodup) {i j : Nat} {x : α} (hi : l[i]? = some x) (hj : l[j]? = some x) : i = j := by
  obtain ⟨a, e1⟩ := List.getElem?_eq_some_iff.mp hi
  obtain ⟨b, e2⟩ := List.getElem?_eq_some_iff.mp hj
  rcases Nat.lt_trichotomy i j with z | z | z
  · exact ((List.pairwise_iff_getElem.mp h i j a b z) (e1.trans e2.symm)).elim
  · exact z
  · exact ((List.pairwise_iff_getElem.mp h j i b a z) (e2.trans e1.symm)).elim
theorem idxOf_get {α : Type} [BEq α] [LawfulBEq α] {l : List α} (h : l.Nodup) {i : Nat} {x : α} (hi : l[i]? = some x) : l.idxOf x = i := by
  have hm : x ∈ l := List.mem_of_getElem? hi
  have h1 : l.idxOf x < l.length := List.idxOf_lt_length_of_mem hm
  have h2 : l[l.idxOf x]? = some x := by rw [List.getElem?_eq_getElem h1, List.getElem_idxOf]
  exact nodup_get h h2 hi
open Classical in
theorem wd_ascii {z : Str} (h1 : z.length ≤ 20) (h2 : ∀ c ∈ z.cps.toList, c < 128) : Wd z := ⟨h1, h2⟩
theorem PenAt.neL {H : Hp} {p w l : Addr} {t : Nat} {ss : List Str} (h : PenAt H p w t) (e : H l = some (.lst (ss.map V.str))) (h0 : ss ≠ []) : l ≠ p ∧ l ≠ w := by
  obtain ⟨m, c, ws, h1, h2, _⟩ := h.ex
  refine ⟨ne_of e h1 (by intro z; cases z), ne_of e h2 fun z => ?_⟩
  cases ss with
  | nil => exact h0 rfl
  | cons s ss =>
    injection z with z
    cases ws with
    | nil => cases z
    | cons x ws => injection z with z; cases z
end L2
set_option maxRecDepth 100000
namespace L2
open PySem PySem.Spec PyProof.Rows
section
variable {α β : Type} {R : α → β → Prop}
theorem prd_append : ∀ {xs xs' : List α} {ys ys' : List β}, Paired R xs ys → Paired R xs' ys' → Paired R (xs ++ xs') (ys ++ ys')
  | _, _, _, _, .nil, h => h
  | _, _, _, _, .cons a r, h => .cons a (prd_append r h)
theorem prd_take : ∀ {xs : List α} {ys : List β} (k : Nat), Paired R xs ys → Paired R (xs.take k) (ys.take k)
  | _, _, 0, _ => by simp only [List.take_zero]; exact .nil
  | _, _, k + 1, .nil => .nil
  | _, _, k + 1, .cons a r => .cons a (prd_take k r)
theorem prd_drop : ∀ {xs : List α} {ys : List β} (k : Nat), Paired R xs ys → Paired R (xs.drop k) (ys.drop k)
  | _, _, 0, h => by simp only [List.drop_zero]; exact h
  | _, _, k + 1, .nil => .nil
  | _, _, k + 1, .cons a r => prd_drop k r
theorem prd_mk : ∀ {xs : List α} {ys : List β}, xs.length = ys.length → (∀ i (h : i < xs.length) (h' : i < ys.length), R xs[i] ys[i]) → Paired R xs ys
  | [], [], _, _ => .nil
  | x :: xs, y :: ys, hl, h => .cons (h 0 (by simp) (by simp)) (prd_mk (by simpa using hl) fun i a b => h (i + 1) (by simpa using a) (by simpa using b))
theorem prd_get : ∀ {xs : List α} {ys : List β}, Paired R xs ys → xs.length = ys.length ∧ ∀ i (h : i < xs.length) (h' : i < ys.length), R xs[i] ys[i]
  | _, _, .nil => ⟨rfl, fun i h => absurd h (by simp)⟩
  | _, _, .cons a r => by
    obtain ⟨h1, h2⟩ := prd_get r
    refine ⟨by simp [h1], fun i h h' => ?_⟩
    cases i with
    | zero => exact a
    | succ i => exact h2 i (by simpa using h) (by simpa using h')
end
def PR (H : Hp) (x : V) (r : Key × V) : Prop := ∃ b, x = .ref b ∧ H b = some (.tup [kV r.1, r.2])
theorem pairs_iff {H : Hp} {xs : List V} {rs : List (Key × V)} : PairsAt H xs rs ↔ Paired (PR H) xs rs := by
  constructor
  · rintro ⟨hl, h⟩
    refine prd_mk hl fun i h1 h2 => ?_
    obtain ⟨b, e1, e2⟩ := h i h2
    rw [List.getElem?_eq_getElem h1] at e1
    exact ⟨b, Option.some.inj e1, e2⟩
  · intro h
    obtain ⟨hl, h'⟩ := prd_get h
    refine ⟨hl, fun i h2 => ?_⟩
    obtain ⟨b, e1, e2⟩ := h' i (by omega) h2
    exact ⟨b, by rw [List.getElem?_eq_getElem (by omega), e1], e2⟩
section
variable {H : Hp} {xs : List V} {rs : List (Str × V)}
theorem rowsK_append (a b : List (Str × V)) : rowsK (a ++ b) = rowsK a ++ rowsK b := by simp [rowsK]
theorem rowsK_take (k : Nat) : rowsK (rs.take k) = (rowsK rs).take k := by simp [rowsK, List.map_take]
theorem rowsK_drop (k : Nat) : rowsK (rs.drop k) = (rowsK rs).drop k := by simp [rowsK, List.map_drop]
theorem pairs_nil : PairsAt H [] (rowsK []) := pairs_iff.mpr .nil
theorem pairs_rot (h : PairsAt H xs (rowsK rs)) (k : Nat) : PairsAt H (xs.drop k ++ xs.take k) (rowsK (rs.drop k ++ rs.take k)) := by
  rw [rowsK_append, rowsK_take, rowsK_drop]
  have := pairs_iff.mp h
  exact pairs_iff.mpr (prd_append (prd_drop k this) (prd_take k this))
theorem pairs_snoc (h : PairsAt H xs (rowsK rs)) {b : Addr} {n : Str} {v : V} (e : H b = some (.tup [.str n, v])) : PairsAt H (xs ++ [.ref b]) (rowsK (rs ++ [(n, v)])) := by
  rw [rowsK_append]
  exact pairs_iff.mpr (prd_append (pairs_iff.mp h) (.cons ⟨b, rfl, e⟩ .nil))
end
theorem perm_rot {α : Type} (l : List α) (k : Nat) : (l.drop k ++ l.take k).Perm l := by
  have h : (l.take k ++ l.drop k).Perm l := by rw [List.take_append_drop]
  exact List.perm_append_comm.trans h
section
variable {X : Cx} {pins : List (Addr × Obj)} {σ : St} {H : Hp} {s : Shared}
theorem star1_tup {a : Addr} {x : V} {xs : List V} {Q : List Value → Shared → Prop} {E : Value → Shared → Prop} (hc : X.calm = true) (I : Inv X pins σ H s) (hq : SqT X.K H a (x :: xs))
    (h : ∀ u D s', RelV x u → H D = none → Inv X pins σ (upd H D (.lst xs)) s' → Q [u, .ref D] s') : wpAny (model X.prog X.w) X.A (unpackItems (.ref a) 2 (some 1)) Q E s := by
  obtain ⟨its, rv, hl, hz⟩ := I.tuple hq
  cases rv with
  | cons ru rr =>
    rename_i u us
    have hh : X.A.handled = none := I.ok.hd hc
    have hlt : a ≠ s.heap.objs.size := by obtain ⟨o, ho, _⟩ := hl; exact Nat.ne_of_lt (Heap.lt_size ho)
    have hll : a < s.heap.objs.size := by obtain ⟨o, ho, _⟩ := hl; exact Heap.lt_size ho
    have hlen := rr.length
    have hz' : us.length + 1 ≤ sizeLine := by simp at hz; omega
    unfold unpackItems
    refine wpAny_bind ?_
    unfold notIterableAtAll
    refine wpAny_bind (wpAny_specialOf hl.typeIs slot_tuple_iter.lookup ?_)
    refine wpAny_pure ?_
    simp only [Bool.false_eq_true, if_false]
    refine wpAny_bind (wpAny_holding (iter_tuple hl ?_))
    refine wpAny_bind (wpAny_holding (draw_tuple hlt 1 0 _ _ ⟨_, Heap.get?_push_size _ rfl, rfl, rfl⟩ (hl.push _) (by simp) fun h₁ hit₁ hs₁ => ?_))
    have hl₁ : IsTup h₁ a (u :: us).toArray := (hl.push _).extBut hs₁.extBut hlt
    rw [Nat.zero_add] at hit₁
    have hit₁' := hit₁
    obtain ⟨oi, hoi, _⟩ := hit₁'
    have hl₁' := hl₁
    obtain ⟨ol, hol, _⟩ := hl₁'
    show wpAny _ _ (if ([u] : List Value).length < 1 then _ else _) _ _ _
    rw [if_neg (by simp)]
    refine wpAny_bind (wpAny_holding (PySem.W.kun_collect (s := { s with heap := h₁ }) (T := "tuple_iterator") (.inr (.inr (.inr rfl))) (Walks.tuple (A := X.A.in1) (by simp [hh]) s.heap.objs.size a hlt (u :: us).toArray) (fun j u st => st.1.typeIs) (k := 1) (by simp) ⟨hit₁, hl₁⟩ (Heap.lt_size hoi) (Heap.lt_size hol) (fun h₂ tk hk => ?_) (by simp; omega)))
    show wpAny _ _ (if us.length < 2 - 1 - 1 then _ else _) _ _ _
    rw [if_neg (by simp)]
    show wpAny _ _ (newList (us.take us.length) >>= fun d => pure ([u] ++ [d] ++ us.drop us.length)) _ _ _
    rw [List.take_length, List.drop_length]
    have I2 : Inv X pins σ H { s with heap := h₂, toks := tk } := I.kept (t' := tk) fun b o e => hk b o (Nat.ne_of_lt (Heap.lt_size e)) (hs₁.extBut b o (Nat.ne_of_lt (Heap.lt_size e)) (Heap.get?_push_of_some _ e))
    refine wpAny_bind (wpAny_newObj_type (wpAny_pure ?_) (by first | (show us.toArray.size ≤ _; simp; omega) | trace_state))
    refine h u h₂.objs.size _ ru (I2.hok.fresh (Nat.le_refl _)) (I2.laid (t' := tk) (o := .lst xs) (fun b o e => Heap.get?_push_of_some _ e) (Nat.le_refl _) ?_)
    exact ⟨by simp at hz; omega, us, 0, rr, Heap.get?_push_size _ rfl⟩
end
section
variable {X : Cx} {e1 e2 : Expr} {p pos : Pos} {k : Nat} {g1 g2 : TG}
def gStar1 (K : PySem.W.Frag) (g1 g2 : TG) : TG := fun v σ H Q => ∃ a x xs, v = .ref a ∧ SqT K H a (x :: xs) ∧ ∀ D, H D = none → g1 x σ (upd H D (.lst xs)) fun σ1 H1 => g2 (.ref D) σ1 H1 Q
theorem pg_star1 (K : PySem.W.Frag) (hc : X.calm = true) (h1 : SG X e1 g1) (h2 : SG X e2 g2) (hK : X.K = K := by rfl) (he : assignEach [e1, .Starred e2 p] X.env = [(false, assign e1 X.env), (true, assign e2 X.env)] := by rfl) : SG X (.Tuple [e1, .Starred e2 p] k pos) (gStar1 K g1 g2) := by
  subst hK
  constructor
  intro pins s σ H v u Q I r h
  obtain ⟨a, x, xs, rfl, hq, h⟩ := h
  cases r
  rw [assign_Tuple]
  refine wpAny_bind (wpAny_standAt ?_)
  unfold unpack
  rw [he]
  refine wpAny_bind (wpAny_holding (star1_tup hc I hq fun u D s' ru hD I' => ?_))
  show wpAny _ _ (assignInOrder [assign e1 X.env, assign e2 X.env] [u, .ref D]) _ _ _
  refine assignInOrder_cons (thn (h1.h pins s' σ _ _ _ _ I' ru (h D hD)) ?_)
  rintro _ s1 ⟨σ1, H1, I1, q1⟩
  refine assignInOrder_cons (thn (h2.h pins s1 σ1 H1 (.ref D) (.ref D) _ I1 rfl q1) ?_)
  rintro _ s2 ⟨σ2, H2, I2, q2⟩
  exact assignInOrder_nil ⟨σ2, H2, I2, q2⟩
end
def KD (w : World) (K : PySem.W.Frag) (a : Addr) (kvs : List (Key × V)) : Prop := ∀ P : Program, ∃ (o : Obj) (es : Array DictEntry) (ep : Nat) (vs : List (Key × Value)), K.lookup a = some o ∧ (a == sysModules) = false ∧ o.ExactDict ∧ o.data = .dict es ep ∧ KeysOf (mixKind P w) es ∧ Pairs (mixKind P w) es.toList vs ∧ (vs.map (·.1)).Nodup ∧ KV kvs vs
section
variable {X : Cx} {pins : List (Addr × Obj)} {σ : St} {H : Hp} {s : Shared} {a : Addr} {kvs : List (Key × V)}
theorem KD.of (h : KD X.w X.K a kvs) (I : Inv X pins σ H s) : (a == sysModules) = false ∧ ∃ vs, KV kvs vs ∧ s.heap.DictOf (mixKind X.prog X.w) a vs := by
  obtain ⟨o, es, ep, vs, h1, h2, h3, h4, h5, h6, h7, h8⟩ := h X.prog
  exact ⟨h2, vs, h8, o, es, ep, I.kIn a o h1, h3, h4, h5, h6, h7⟩
variable {x : Str} {e : Expr} {pos p : Pos} {te : TE}
def tKIn (kvs : List (Key × V)) (te : TE) : TE := fun σ H Q => te σ H fun y H1 => ∃ k, y = kV k ∧ Q (.bl (valV kvs k).isSome) H1
theorem pc_kin {w : World} {K : PySem.W.Frag} (hx : ∃ a, X.mg x = some (.ref a) ∧ KD w K a kvs) (he : PE X e te) (hw : X.w = w) (hK : X.K = K) (hg : Gl X x) (hd : (x == ("__debug__" : Str)) = false) : PC X .In e (.Name x p) (tKIn kvs te) := by
  subst hw hK
  obtain ⟨a, hm, kd⟩ := hx
  intro pins s σ H Q I h
  refine thn (he pins s σ H _ I h) ?_
  rintro iv s1 ⟨y, H1, I1, ry, k, ey, q1⟩
  subst ey
  refine thn (pe_glob (v := .ref a) hg hm rfl hd pins s1 σ H1 (fun v H' => v = .ref a ∧ H' = H1) I1 ⟨rfl, rfl⟩) fun u s2 ⟨z, H2, I2, rz, ez, eH⟩ => ?_
  subst ez eH
  cases rz
  obtain ⟨h1, vs, rel, dd⟩ := kd.of I2
  refine wpAny_in_of (kV_is ry) h1 dd.mapOf ?_
  rw [← (rel.val k).isSome_eq]
  exact ⟨.bl _, _, I2.tok _, rfl, q1⟩
theorem y_kin {w : World} {K : PySem.W.Frag} (hx : ∃ a, X.mg x = some (.ref a) ∧ KD w K a kvs) (he : SE X e te) (hw : X.w = w := by rfl) (hK : X.K = K := by rfl) (hg : Gl X x := by rfl) (hd : (x == ("__debug__" : Str)) = false := by decide) : ST X (.Compare e [.In] [.Name x p] pos) (tB (tKIn kvs te)) := ⟨pt_cmp (pc_kin hx he.h hw hK hg hd) rfl⟩
def tKGet (kvs : List (Key × V)) (te : TE) : TE := fun σ H Q => te σ H fun y H1 => ∃ k v, y = kV k ∧ valV kvs k = some v ∧ Q v H1
theorem z_kget {w : World} {K : PySem.W.Frag} (hx : ∃ a, X.mg x = some (.ref a) ∧ KD w K a kvs) (he : SE X e te) (hs : NoSl e) (hw : X.w = w := by rfl) (hK : X.K = K := by rfl) (hg : Gl X x := by rfl) (hd : (x == ("__debug__" : Str)) = false := by decide) : SE X (.Subscript (.Name x p) e pos) (tKGet kvs te) := by
  subst hw hK
  obtain ⟨a, hm, kd⟩ := hx
  constructor
  intro pins s σ H Q I h
  refine subD_of PySem.F.slot_dict_getitem.lookup hs (thn (pe_glob (v := .ref a) hg hm rfl hd pins s σ H (fun v H' => v = .ref a ∧ H' = H) I ⟨rfl, rfl⟩) fun u s2 ⟨z, H2, I2, rz, ez, eH⟩ => ?_)
  subst ez eH
  cases rz
  refine thn (he.h pins s2 σ _ _ I2 h) ?_
  rintro iv s3 ⟨y, H3, I3, ry, k, v, ey, ev, q⟩
  subst ey
  obtain ⟨h1, vs, rel, dd⟩ := kd.of I3
  obtain ⟨w', hw, rw'⟩ := RelO.some_of (v := v) (o := valueAt vs k) (by rw [← ev]; exact rel.val k)
  exact ⟨dd.typeIs, wpAny_getItem_of (kV_is ry) dd.mapOf hw ⟨v, _, I3.tok _, rw', q⟩⟩
end
def keyAt (kvs : List (Key × V)) (i : Nat) : V := ((kvs[i]?).map fun kv => kV kv.1).getD .non
def Itk (a : Addr) (o : Obj) (kvs : List (Key × V)) : It := ⟨fun i H => H a = some (.frz o (.dK kvs)) ∧ i < kvs.length, fun i H x H' => H' = H ∧ x = keyAt kvs i, fun i H => H a = some (.frz o (.dK kvs)) ∧ kvs.length = i⟩
theorem itn_keys {a : Addr} {o : Obj} (kvs : List (Key × V)) : ItN (Itk a o kvs) (fun H => H a = some (.frz o (.dK kvs))) kvs.length (keyAt kvs) := fun H ok => ⟨fun i hi => ⟨⟨ok, hi⟩, fun x H' h => h⟩, ok, rfl⟩
theorem kv_get {kvs : List (Key × V)} {vs : List (Key × Value)} (r : KV kvs vs) : ∀ {i : Nat} {p : Key × V}, kvs[i]? = some p → ∃ q, vs[i]? = some q ∧ q.1 = p.1 := by
  intro i
  induction r generalizing i with
  | nil => intro p h; simp at h
  | cons a t ih =>
    intro p h
    cases i with
    | zero => simp at h; subst h; exact ⟨_, by simp, a.1.symm⟩
    | succ i => simp at h; simpa using ih h
theorem relV_key {P : Program} {w : World} {k : Key} {u : Value} (h : (mixKind P w).is k u = true) : RelV (kV k) u := by
  rcases keyIs_shape h with ⟨i, t, rfl, rfl⟩ | ⟨x, t, rfl, rfl⟩
  · exact ⟨t, rfl⟩
  · exact ⟨t, rfl⟩
theorem KV.len {kvs : List (Key × V)} {vs : List (Key × Value)} (r : KV kvs vs) : kvs.length = vs.length := Paired.length r
theorem turn_keys {P : Program} {w : World} {K : PySem.W.Frag} {tg : Expr} {a it : Addr} {o : Obj} {kvs : List (Key × V)} {ep : Nat} (hep : ∃ es, o.data = .dict es ep) : Turn P w K tg (Itk a o kvs) [it] it (fun i h => h.IsKeyIter it a i kvs.length ep) where
  mem := by simp
  obj := fun i h st b hb => by
    have e : b = it := by simpa using hb
    subst e
    obtain ⟨o, e, c, d⟩ := st
    exact ⟨o, e, fun v z => by rw [d] at z; cases z⟩
  keep := fun i h h' st k => st.at fun o e => k it (by simp) o e
  item := by
    intro X hP hw hK hc i pins s σ H E I hf st hg
    subst hP hw hK
    obtain ⟨hq, hi⟩ := hg
    obtain ⟨e, z, hd, vs, rel, ob, es, ep', h1, h2, h3, h4⟩ := (show ObjOk X.prog X.w H s.heap a (.frz o (.dK kvs)) from I.hok a _ hq)
    obtain ⟨es', he'⟩ := hep
    rw [e] at h1; cases h1
    rw [he'] at h3; injection h3 with h3a h3b
    subst h3a h3b
    obtain ⟨q, hq1, hq2⟩ := kv_get rel (List.getElem?_eq_getElem hi)
    have hl := rel.len
    obtain ⟨f0, f1, f2, f3, f4, f5⟩ := hf it (by simp)
    obtain ⟨qk, qv⟩ := q
    refine wpAny_pyNext_dict_item (knd := mixKind X.prog X.w) (kvs := vs) (ep := ep) (by rw [← hl]; exact st) ⟨o, es', e, h2, he', h4⟩ hq1 fun key h' hk st' sb => ?_
    have I1 : Inv X pins σ H { s with heap := h' } := I.turned (t' := s.toks) (fun b o hb e => (sb.2 b hb).trans e) f0 f1 f3 f4 f5
    have st2 : h'.IsKeyIter it a (i + 1) kvs.length ep := by rw [hl]; exact st'
    obtain ⟨o3, e3, c3, d3⟩ := id st2
    refine ⟨key, rfl, go_of (s := { s with heap := h' }) e3 c3 d3 (by decide) ⟨keyAt kvs i, H, I1, ?_, ⟨rfl, rfl⟩, st2, fun b hb => (hf b hb).1⟩⟩
    unfold keyAt
    rw [List.getElem?_eq_getElem hi]
    show RelV (kV kvs[i].1) key
    have hqk : qk = kvs[i].1 := hq2
    rw [← hqk]
    exact relV_key hk
  done := by
    intro X hP hw hK hc i pins s σ H E I hf st hg
    subst hP hw hK
    obtain ⟨hq, hi⟩ := hg
    obtain ⟨e, z, hd, vs, rel, ob, es, ep', h1, h2, h3, h4⟩ := (show ObjOk X.prog X.w H s.heap a (.frz o (.dK kvs)) from I.hok a _ hq)
    obtain ⟨es', he'⟩ := hep
    rw [e] at h1; cases h1
    rw [he'] at h3; injection h3 with h3a h3b
    subst h3a h3b
    have hl := rel.len
    obtain ⟨f0, f1, f2, f3, f4, f5⟩ := hf it (by simp)
    exact wpAny_pyNext_dict_end (knd := mixKind X.prog X.w) (kvs := vs) (ep := ep) (I.ok.hd hc) (by rw [← hl]; exact st) ⟨o, es', e, h2, he', h4⟩ (by simp; omega) fun h' eb => ⟨rfl, I.turned (t' := s.toks) (fun b o hb e => eb b o hb e) f0 f1 f3 f4 f5⟩
  self := fun _ _ _ _ _ st h => wpAny_pyIter_keyiter st h
theorem upd_self {H : Hp} {a : Addr} {o : HO} (h : H a = some o) : upd H a o = H := by
  funext b
  unfold upd
  by_cases e : b = a
  · rw [if_pos e, e, h]
  · rw [if_neg e]
section
variable {X : Cx}
theorem Inv.freeze {pins : List (Addr × Obj)} {σ : St} {H : Hp} {s : Shared} {a : Addr} {kvs : List (Key × V)} (I : Inv X pins σ H s) (h : Rd H a (.dK kvs)) : ∃ o es ep, o.data = .dict es ep ∧ Inv X pins σ (upd H a (.frz o (.dK kvs))) s ∧ s.heap.get? a = some o := by
  rcases h with h | ⟨o, h⟩
  · have ok := (show ObjOk X.prog X.w H s.heap a (.dK kvs) from I.hok a _ h)
    obtain ⟨z, hd, vs, rel, o, es, ep, h1, h2, h3, h4⟩ := ok
    have I2 := I.write (x := a) (e := a) (h' := s.heap) (t' := s.toks) (o := .frz o (.dK kvs)) (by rw [h]; exact True.intro) (.inl rfl) (fun b u _ q => q) ⟨o, h1⟩ ⟨h1, z, hd, vs, rel, o, es, ep, h1, h2, h3, h4⟩
    exact ⟨o, es, ep, h3, I2, h1⟩
  · obtain ⟨e, z, hd, vs, rel, ob, es, ep, h1, h2, h3, h4⟩ := (show ObjOk X.prog X.w H s.heap a (.frz o (.dK kvs)) from I.hok a _ h)
    rw [e] at h1; cases h1
    exact ⟨o, es, ep, h3, by rw [upd_self h]; exact I, e⟩
def iKeys (te : TE) : TI := fun σ H R => te σ H fun x H1 => ∃ a kvs, x = .ref a ∧ Rd H1 a (.dK kvs) ∧ ∀ o, R (Itk a o kvs) (upd H1 a (.frz o (.dK kvs)))
theorem pi_keys {tg e : Expr} {te : TE} (he : SE X e te) : SI X tg e (iKeys te) := by
  constructor
  intro pins s σ H R I h
  refine thn (he.h pins s σ H _ I h) ?_
  rintro v s1 ⟨x, H1, I1, r1, a, kvs, ex, hr, q⟩
  subst ex
  cases r1
  obtain ⟨o, es, ep, hd, I2, ho⟩ := I1.freeze hr
  obtain ⟨e, z, hdm, vs, rel, ob, es', ep', h1, h2, h3, h4⟩ := (show ObjOk X.prog X.w _ s1.heap a (.frz o (.dK kvs)) from I2.hok a _ upd_same)
  rw [e] at h1; cases h1
  rw [hd] at h3; injection h3 with h3a h3b
  subst h3a h3b
  refine wpAny_pyIter_dict (knd := mixKind X.prog X.w) (kvs := vs) (ep := ep) hdm ⟨o, es, e, h2, hd, h4⟩ ?_
  have hl := rel.len
  refine ⟨s1.heap.objs.size, [s1.heap.objs.size], _, _, _, rfl, I2.kept (t' := s1.toks) fun b o e => Heap.get?_push_of_some _ e, turn_keys (kvs := kvs) (a := a) (o := o) ⟨es, hd⟩, by rw [hl]; exact ⟨_, Heap.get?_push_size _ rfl, rfl, rfl⟩, fun b hb => ?_, q o⟩
  have e : b = s1.heap.objs.size := by simpa using hb
  subst e
  exact I2.fpOk (Nat.le_refl _) (I2.hok.fresh (Nat.le_refl _))
def rDIn (n : Bool) : R2 := fun y x H Q => ∃ a o, x = .ref a ∧ DGet H a y o ∧ Q (.bl (n ^^ o.isSome)) H
theorem op_dIn (hu : X.A.units + 1 < cLine) : OpR X (compareOp .In) (rDIn false) := by
  intro pins s σ H x y v u Q I rx ry h
  obtain ⟨a, o, rfl, g, q⟩ := h
  cases ry
  exact d_in hu I g rx fun s' I' => ⟨.bl o.isSome, H, I', rfl, by simpa using q⟩
end
theorem DGet.rd {H : Hp} {a : Addr} {kvs : List (Key × V)} {k : Key} (e : Rd H a (.dK kvs)) : DGet H a (kV k) (valV kvs k) := .inl ⟨kvs, k, e, rfl, rfl⟩
section
variable {X : Cx} {tg a b c : Expr} {ta : TA} {p pos : Pos}
end
inductive Dt where
  | str (z : Str)
  | tup (ds : List Dt)
  | oth
inductive DD (H : Hp) : V → Dt → Prop
  | str {z : Str} (h : z.length ≤ 100000) : DD H (.str z) (.str z)
  | tup {a : Addr} {xs : List V} {ds : List Dt} : H a = some (.tup xs) → xs.length = ds.length → xs.length ≤ 1000 → (∀ i (h : i < xs.length) (h' : i < ds.length), DD H xs[i] ds[i]) → DD H (.ref a) (.tup ds)
  | non : DD H .non .oth
  | bl (b : Bool) : DD H (.bl b) .oth
  | int (i : Int) : DD H (.int i) .oth
  | lst {a : Addr} {xs : List V} : H a = some (.lst xs) → DD H (.ref a) .oth
  | dct {a : Addr} {kvs : List (Key × V)} : H a = some (.dK kvs) → DD H (.ref a) .oth
theorem DD.same {H H' : Hp} (s : Same H H') {v : V} {d : Dt} (h : DD H v d) : DD H' v d := by
  induction h with
  | str h => exact .str h
  | tup e hl hn _ ih => exact .tup (s _ _ e) hl hn ih
  | non => exact .non
  | bl b => exact .bl b
  | int i => exact .int i
  | lst e => exact .lst (s _ _ e)
  | dct e => exact .dct (s _ _ e)
def Dt.isTup : Dt → Bool | .tup _ => true | _ => false
def Dt.isStr : Dt → Bool | .str _ => true | _ => false
theorem DD.ty {H : Hp} {v : V} {d : Dt} (h : DD H v d) : ∃ t, tyName H v = some t ∧ isiT t "tuple" = d.isTup ∧ isiT t "str" = d.isStr := by
  cases h with
  | str h => exact ⟨"str", rfl, by rfl, by rfl⟩
  | tup e => exact ⟨"tuple", by simp [tyName, e], by simp [isiT, Dt.isTup], by simp [isiT, Dt.isStr]⟩
  | non => exact ⟨"NoneType", rfl, by decide, by decide⟩
  | bl b => exact ⟨"bool", rfl, by decide, by decide⟩
  | int i => exact ⟨"int", rfl, by decide, by decide⟩
  | lst e => exact ⟨"list", by simp [tyName, e], by decide, by decide⟩
  | dct e => exact ⟨"dict", by simp [tyName, e], by decide, by decide⟩
theorem DD.good {H : Hp} {v : V} {d : Dt} (h : DD H v d) : ∃ p w, GoodV p w H v := by
  cases h with
  | str h => exact ⟨0, 0, h⟩
  | @tup a _ _ e => exact ⟨Nat.succ a, Nat.succ a, Nat.ne_of_lt (Nat.lt_succ_self a), Nat.ne_of_lt (Nat.lt_succ_self a), .inr (.inl ⟨_, e⟩)⟩
  | non => exact ⟨0, 0, True.intro⟩
  | bl b => exact ⟨0, 0, True.intro⟩
  | int i => exact ⟨0, 0, True.intro⟩
  | @lst a _ e => exact ⟨Nat.succ a, Nat.succ a, Nat.ne_of_lt (Nat.lt_succ_self a), Nat.ne_of_lt (Nat.lt_succ_self a), .inl ⟨_, e⟩⟩
  | @dct a _ e => exact ⟨Nat.succ a, Nat.succ a, Nat.ne_of_lt (Nat.lt_succ_self a), Nat.ne_of_lt (Nat.lt_succ_self a), .inr (.inr ⟨_, e⟩)⟩
def nameD : Dt → Bool | .str z => isName z | _ => false
def pairD : Dt → Bool | .tup [a, b] => nameD a && nameD b | _ => false
def fstS : Dt → Str | .tup (.str z :: _) => z | _ => ""
def sndS : Dt → Str | .tup (_ :: .str z :: _) => z | _ => ""
def strLt (a b : Str) : Bool := decide (a.cps.toList < b.cps.toList)
def rising : List Str → Bool
  | a :: b :: r => strLt a b && rising (b :: r)
  | _ => true
def pairsD : Dt → Bool | .tup ps => ps.all pairD && rising (ps.map fstS) | _ => false
def worded (s : Str) : Bool := s == "box" || s == "pick"
def behindN (s : Str) : Option Nat := if s == "all" then some 0 else if s == "none" then some 0 else if s == "way" then some 2 else if s == "as" then some 1 else none
def headD : Dt → Bool
  | .tup (.str s :: rest) => if worded s then (match rest with | [p] => pairsD p | _ => false) else match behindN s with | some n => decide (rest.length = n) && rest.all nameD | none => false
  | _ => false
def rowD : Dt → Bool | .tup [a, h] => nameD a && headD h | _ => false
def spT (f : Dt → Bool) : Sp := fun vs H Q _ => ∃ (x : V) (d : Dt), vs = [x] ∧ DD H x d ∧ ∀ H', Same H H' → Q (.bl (f d)) H'
theorem FnK.imp {P : Program} {w : World} {K : PySem.W.Frag} {mg : Str → Option Value} {base : Heap} {k : Nat} {x : Str} {ps : List Str} {sp sp' : Sp} (F : FnK P w K mg base k x ps sp) (h : ∀ vs H Q E, sp' vs H Q E → sp vs H Q E) : FnK P w K mg base k x ps sp' := by
  obtain ⟨f, fd, G, r⟩ := F
  exact ⟨f, fd, G.imp h, r⟩
theorem nameV_D {H : Hp} {v : V} {d : Dt} (h : DD H v d) : isNameV v = nameD d := by cases h <;> rfl
theorem spT_name {vs : List V} {H : Hp} {Q : VK} {E : XK} (h : spT nameD vs H Q E) : spName vs H Q E := by
  obtain ⟨x, d, rfl, hd, q⟩ := h
  obtain ⟨p, w, g⟩ := hd.good
  refine ⟨p, w, x, rfl, g, fun H' s => ?_⟩
  rw [nameV_D hd]; exact q H' s
theorem tcNil_i {σ : St} {H : Hp} {Q : Bool → Hp → Prop} (h : Q true H) : tcNil σ H Q := h
theorem lc_bools {J : It} {ok : Hp → Prop} {n : Nat} {item : Nat → V} {te : TE} {τ0 : St} {H1 : Hp} {D : Addr} {Q : Hp → Prop} (hJ : ItN J ok n item) (f : Nat → Bool) (hn : n < sizeLine) (hD : H1 D = none) (hok : ∀ H2, Same H1 H2 → ok H2)
    (he : ∀ i H2 (k : VK), i < n → Same H1 H2 → (∀ H3, Same H2 H3 → k (.bl (f i)) H3) → te (τ0.set 0 (some (item i))) H2 k)
    (hQ : ∀ H2, Same H1 H2 → H2 D = some (.lst (((List.range n).map f).map V.bl)) → Q H2) : ∃ W : Nat → Nat → St → Hp → Prop, (∃ m, W 0 m τ0 (upd H1 D (.lst []))) ∧ ∀ i m τ H, W i m τ H →
      (J.stop i H ∧ Q H) ∨ (J.go i H ∧ ∃ N : St → Hp → Prop, (∀ τ' H', N τ' H' → ∃ m', m' < m ∧ W (i + 1) m' τ' H') ∧ ∀ x H', J.yld i H x H' → gName 0 x τ H' fun τ2 H2 => tcNil τ2 H2 fun b H3 =>
        if b = true then te τ2 H3 fun y H4 => ∃ xs, H4 D = some (.lst xs) ∧ xs.length < sizeLine ∧ N τ2 (upd H4 D (.lst (xs ++ [y]))) else N τ2 H3) := by
  refine lc_by hJ (fun i τ H => H D = some (.lst (((List.range i).map f).map V.bl)) ∧ Same H1 H ∧ ∃ v, τ = τ0.set 0 v ∨ τ = τ0) ⟨upd_same, Same.upd hD _, none, .inr rfl⟩ (fun i τ H hi h => hok H h.2.1) ?_ ?_
  · rintro i τ H hi ⟨h1, h2, v, hv⟩
    have e : τ.set 0 (some (item i)) = τ0.set 0 (some (item i)) := by
      rcases hv with rfl | rfl
      · rw [List.set_set]
      · rfl
    have hg : ∀ (Q' : St → Hp → Prop), Q' (τ0.set 0 (some (item i))) H → gName 0 (item i) τ H Q' := fun Q' h => by unfold gName; rw [e]; exact h
    refine hg _ ?_
    refine tcNil_i ?_
    rw [if_pos rfl]
    refine he i H _ hi h2 fun H3 s3 => ?_
    refine ⟨_, s3 _ _ h1, by rw [List.length_map, List.length_map, List.length_range]; omega, ?_, (h2.trans s3).put hD, _, .inl rfl⟩
    rw [upd_same, List.range_succ, List.map_append, List.map_append]; rfl
  · rintro τ H ⟨h1, h2, _⟩
    exact hQ H h2 h1
theorem range_all_list {α : Type} (ds : List α) (d : α) (g : α → Bool) : ((List.range ds.length).map fun i => g (ds.getD i d)).all id = ds.all g := by
  rw [List.all_map, Bool.eq_iff_iff, List.all_eq_true, List.all_eq_true]
  constructor
  · intro h x hx
    obtain ⟨i, hi, rfl⟩ := List.getElem_of_mem hx
    have := h i (List.mem_range.mpr hi)
    simpa [List.getD_eq_getElem?_getD, hi] using this
  · intro h i hi
    have hi' := List.mem_range.mp hi
    have := h _ (List.getElem_mem hi')
    simpa [List.getD_eq_getElem?_getD, hi'] using this
theorem dictOf_nodup (rs : List (Key × V)) : (rs.map (·.1)).Nodup → dictOf rs = rs := by
  have gen : ∀ (rs kvs : List (Key × V)), (rs.map (·.1)).Nodup → (∀ r ∈ rs, valV kvs r.1 = none) → rs.foldl (fun kvs r => putK kvs r.1 r.2) kvs = kvs ++ rs := by
    intro rs
    induction rs with
    | nil => intro kvs _ _; simp
    | cons r rs ih =>
      intro kvs hn hk
      rw [List.map_cons, List.nodup_cons] at hn
      rw [List.foldl_cons, putK_new _ (hk r List.mem_cons_self), ih _ hn.2 fun x hx => ?_]
      · simp
      · rw [valV_snoc _ _ _ _ (hk r List.mem_cons_self), if_neg (fun e => hn.1 (List.mem_map.mpr ⟨x, hx, e⟩))]
        exact hk x (List.mem_cons_of_mem _ hx)
  intro hn
  have := gen rs [] hn (fun _ _ => rfl)
  simpa [dictOf] using this
theorem dictOf_len_nodup (rs : List (Key × V)) (h : (dictOf rs).length = rs.length) : (rs.map (·.1)).Nodup := by
  have gen : ∀ (rs kvs : List (Key × V)), (rs.foldl (fun kvs r => putK kvs r.1 r.2) kvs).length = kvs.length + rs.length → (rs.map (·.1)).Nodup ∧ ∀ r ∈ rs, valV kvs r.1 = none := by
    intro rs
    induction rs with
    | nil => intro kvs _; exact ⟨by simp, fun _ h => nomatch h⟩
    | cons r rs ih =>
      intro kvs hl
      rw [List.foldl_cons, List.length_cons] at hl
      have h1 := foldPut_len rs (putK kvs r.1 r.2)
      cases hv : valV kvs r.1 with
      | some v =>
        exfalso
        have : (putK kvs r.1 r.2).length = kvs.length := by
          unfold putK
          rw [valV_any, hv]; simp
        omega
      | none =>
        rw [putK_new _ hv] at hl h1
        obtain ⟨i1, i2⟩ := ih _ (by rw [hl]; simp; omega)
        refine ⟨?_, fun x hx => ?_⟩
        · rw [List.map_cons, List.nodup_cons]
          refine ⟨fun hm => ?_, i1⟩
          obtain ⟨x, hx, e⟩ := List.mem_map.mp hm
          have := i2 x hx
          rw [valV_snoc _ _ _ _ hv, if_pos e] at this
          cases this
        · rcases List.mem_cons.mp hx with rfl | hx
          · exact hv
          · have := i2 x hx
            rw [valV_snoc _ _ _ _ hv] at this
            by_cases e : x.1 = r.1
            · rw [if_pos e] at this; cases this
            · rw [if_neg e] at this; exact this
  exact (gen rs [] (by simpa [dictOf] using h)).1
def strD : Dt → Str | .str z => z | _ => ""
theorem rising_range : ∀ ws : List Str, ((List.range (min ws.length (ws.length - 1))).map fun i => strLt (ws.getD i "") (ws.getD (i + 1) "")).all id = rising ws
  | [] => rfl
  | [a] => rfl
  | a :: b :: r => by
    have ih := rising_range (b :: r)
    have e1 : min (a :: b :: r).length ((a :: b :: r).length - 1) = min (b :: r).length ((b :: r).length - 1) + 1 := by simp
    rw [e1, List.range_succ_eq_map, List.map_cons, List.all_cons, List.map_map]
    have e2 : ((List.range (min (b :: r).length ((b :: r).length - 1))).map ((fun i => strLt ((a :: b :: r).getD i "") ((a :: b :: r).getD (i + 1) "")) ∘ Nat.succ)).all id = rising (b :: r) := by
      rw [← ih]
      rfl
    rw [e2]
    rfl
theorem nameD_str {H : Hp} {v : V} {d : Dt} (h : DD H v d) (hn : nameD d = true) : ∃ z, v = .str z ∧ d = .str z ∧ isName z = true := by
  cases h with
  | str _ => exact ⟨_, rfl, rfl, hn⟩
  | tup _ _ _ _ => exact Bool.noConfusion hn
  | non => exact Bool.noConfusion hn
  | bl _ => exact Bool.noConfusion hn
  | int _ => exact Bool.noConfusion hn
  | lst _ => exact Bool.noConfusion hn
  | dct _ => exact Bool.noConfusion hn
theorem pairD_at {H : Hp} {v : V} {d : Dt} (h : DD H v d) (hp : pairD d = true) : ∃ b z n, v = .ref b ∧ H b = some (.tup [.str z, .str n]) ∧ d = .tup [.str z, .str n] := by
  cases h with
  | @tup b ys es e' hl' hn' hds' =>
    match es, hl', hp, hds' with
    | [d1, d2], hl', hp, hds' =>
      obtain ⟨y1, y2, rfl⟩ := len2 hl'
      simp only [pairD, Bool.and_eq_true] at hp
      obtain ⟨z1, q1, q2, _⟩ := nameD_str (hds' 0 (by simp) (by simp)) hp.1
      obtain ⟨z2, q3, q4, _⟩ := nameD_str (hds' 1 (by simp) (by simp)) hp.2
      simp only [List.getElem_cons_zero, List.getElem_cons_succ] at q1 q3
      subst q1 q2 q3 q4
      exact ⟨b, z1, z2, rfl, e', rfl⟩
  | str _ => exact Bool.noConfusion hp
  | non => exact Bool.noConfusion hp
  | bl _ => exact Bool.noConfusion hp
  | int _ => exact Bool.noConfusion hp
  | lst _ => exact Bool.noConfusion hp
  | dct _ => exact Bool.noConfusion hp
theorem valV_behind (z : Str) : valV ([(.inr "all", .int 0), (.inr "none", .int 0), (.inr "way", .int 2), (.inr "as", .int 1)] : List (Key × V)) (.inr z) = (behindN z).map fun n : Nat => V.int n := by
  have hk : ∀ a b : Str, ((Sum.inr a : Key) = Sum.inr b) ↔ (b == a) = true := fun a b => ⟨fun e => by rw [Sum.inr.inj e]; exact beq_self_eq_true _, fun h => by rw [eq_of_beq h]⟩
  have step : ∀ (a : Str) (v : V) (r : List (Key × V)), valV ((Sum.inr a, v) :: r) (.inr z) = if (z == a) = true then some v else valV r (.inr z) := fun a v r => by
    by_cases h : (z == a) = true
    · rw [if_pos h]; exact valV_pos ((hk a z).mpr h)
    · rw [if_neg h]; exact valV_neg (fun e => h ((hk a z).mp e))
  rw [step, step, step, step]
  unfold behindN
  split <;> (try split) <;> (try split) <;> (try split) <;> rfl
theorem strBeq (a b : Str) : (a == b) = (b == a) := by
  by_cases h : a = b
  · subst h; rfl
  · rw [beq_eq_false_iff_ne.mpr h, beq_eq_false_iff_ne.mpr (Ne.symm h)]
theorem worded_in (z : Str) : inV (.str z) [.str "box", .str "pick"] = worded z := by
  show (([V.str "box", V.str "pick"] : List V).any fun y => eqV y (.str z)) = _
  unfold worded
  simp only [List.any_cons, List.any_nil, Bool.or_false, eqV]
  rw [strBeq (Str.ofString "box") z, strBeq (Str.ofString "pick") z]
def strOf : Dt → Str | .str z => z | _ => ""
def namesD : Dt → List Str
  | .tup (.str s :: rest) => if worded s then (match rest with | [.tup ps] => ps.map sndS | _ => []) else rest.map strOf
  | _ => []
def sndD : Dt → Dt | .tup (_ :: h :: _) => h | _ => .oth
def asD : Dt → Option Str | .tup [.str s, .str x] => if s == "as" then some x else none | _ => none
def rowsD (ds : List Dt) : List (Str × Dt) := ds.map fun d => (fstS d, sndD d)
def nxD (rs : List (Str × Dt)) (n : Str) : Option Str := (rs.find? fun r => decide (r.1 = n)).bind fun r => asD r.2
def leadsOut (nx : Str → Option Str) : Nat → Str → Bool
  | 0, _ => false
  | n + 1, x => match nx x with | none => true | some y => leadsOut nx n y
def telD : Dt → Bool
  | .tup ds => decide (1 ≤ ds.length) && decide (ds.length ≤ 200) && ds.all rowD && decide (((rowsD ds).map (·.1)).Nodup) && ((rowsD ds).all fun r => (namesD r.2).all fun n => decide (n ∈ (rowsD ds).map (·.1))) && (((rowsD ds).map (·.1)).all fun n => leadsOut (nxD (rowsD ds)) ds.length n)
  | _ => false
theorem Rd.same {H H' : Hp} {a : Addr} {u : HO} (r : Rd H a u) (s : Same H H') : Rd H' a u := by
  rcases r with r | ⟨o, r⟩
  · exact .inl (s _ _ r)
  · exact .inr ⟨o, s _ _ r⟩
def oneP (dr : List Dt) : Bool := match dr with | [p] => pairsD p | _ => false
theorem oneP_ne {dr : List Dt} (h : dr.length ≠ 1) : oneP dr = false := by
  match dr, h with
  | [], _ => rfl
  | [_], h => exact absurd rfl h
  | _ :: _ :: _, _ => rfl
theorem headD_one {z : Str} {ds : List Dt} (h : worded z = true) : headD (.tup (.str z :: ds)) = oneP ds := by
  show (if worded z then oneP ds else _) = _
  rw [if_pos h]
theorem headD_eq (z : Str) (ds : List Dt) : headD (.tup (.str z :: ds)) = if worded z then (match ds with | [p] => pairsD p | _ => false) else match behindN z with | some n => decide (ds.length = n) && ds.all nameD | none => false := rfl
theorem headD_at {H : Hp} {v : V} {d : Dt} (h : DD H v d) (hh : headD d = true) : ∃ a z xs ds, v = .ref a ∧ d = .tup (.str z :: ds) ∧ H a = some (.tup (.str z :: xs)) ∧ xs.length = ds.length ∧ xs.length < 1000 ∧ (∀ i (h : i < xs.length) (h' : i < ds.length), DD H xs[i] ds[i]) ∧
    ((worded z = true ∧ ∃ p, ds = [p] ∧ pairsD p = true) ∨ (worded z = false ∧ ∃ n, behindN z = some n ∧ ds.length = n ∧ ds.all nameD = true)) := by
  cases h with
  | @tup a xs ds e hl hn hds =>
    match ds, hl, hh, hds with
    | .str z :: ds, hl, hh, hds =>
      match xs, hl, e, hn, hds with
      | x0 :: xs, hl, e, hn, hds =>
        have h0 := hds 0 (by simp) (by simp)
        simp only [List.getElem_cons_zero] at h0
        cases h0
        refine ⟨a, z, xs, ds, rfl, rfl, e, by simpa using hl, by simp at hn; omega, fun i h h' => hds (i + 1) (by simpa using h) (by simpa using h'), ?_⟩
        rw [headD_eq] at hh
        cases hw : worded z with
        | true =>
          rw [hw] at hh
          simp only [if_true] at hh
          match ds, hh with
          | [p], hh => exact .inl ⟨rfl, p, rfl, hh⟩
        | false =>
          rw [hw] at hh
          simp only [Bool.false_eq_true, if_false] at hh
          cases hb : behindN z with
          | none => rw [hb] at hh; exact Bool.noConfusion hh
          | some n =>
            rw [hb] at hh
            simp only [Bool.and_eq_true, decide_eq_true_eq] at hh
            exact .inr ⟨rfl, n, rfl, hh.1, hh.2⟩
    | .tup _ :: _, _, hh, _ => exact Bool.noConfusion hh
    | .oth :: _, _, hh, _ => exact Bool.noConfusion hh
    | [], _, hh, _ => exact Bool.noConfusion hh
  | str _ => exact Bool.noConfusion hh
  | non => exact Bool.noConfusion hh
  | bl _ => exact Bool.noConfusion hh
  | int _ => exact Bool.noConfusion hh
  | lst _ => exact Bool.noConfusion hh
  | dct _ => exact Bool.noConfusion hh
theorem worded_as : worded "as" = false := by decide
theorem asD_as {H : Hp} {v : V} {d : Dt} (h : DD H v d) (hh : headD d = true) : AsV H v (asD d) := by
  obtain ⟨a, z, xs, ds, rfl, rfl, e, hl, hn, hds, hc⟩ := headD_at h hh
  refine ⟨a, rfl, ?_⟩
  by_cases hz : z = "as"
  · subst hz
    rcases hc with ⟨hw, _⟩ | ⟨_, n, hb, hdl, hda⟩
    · rw [worded_as] at hw; cases hw
    · have hn1 : n = 1 := by
        have : behindN "as" = some 1 := by decide
        rw [this] at hb; cases hb; rfl
      subst hn1
      obtain ⟨d1, rfl⟩ := len1 hdl
      obtain ⟨x1, rfl⟩ := len1 hl
      simp only [List.all_cons, List.all_nil, Bool.and_true] at hda
      obtain ⟨y, q1, q2, _⟩ := nameD_str (hds 0 (by simp) (by simp)) hda
      simp only [List.getElem_cons_zero] at q1
      subst q1 q2
      exact .inr ⟨y, e, by simp [asD]⟩
  · refine .inl ⟨z, xs, e, hz, ?_⟩
    have hz' : (z == Str.ofString "as") = false := by simpa using hz
    unfold asD
    split
    · next s x heq =>
      injection heq with heq
      injection heq with h1 _
      injection h1 with h1
      rw [← h1, if_neg (by rw [hz']; exact Bool.false_ne_true)]
    · rfl
theorem asD_eq {d : Dt} {y : Str} (h : asD d = some y) : d = .tup [.str "as", .str y] := by
  unfold asD at h
  split at h
  · split at h
    · rename_i hs
      cases h
      rw [eq_of_beq hs]
    · cases h
  · cases h
theorem asD_in {d : Dt} {y : Str} (h : asD d = some y) : y ∈ namesD d := by
  rw [asD_eq h]
  have e : namesD (.tup [.str "as", .str y]) = [y] := rfl
  rw [e]
  exact List.mem_singleton.mpr rfl
theorem tNext_seq2 {t : TS} {D : Ends} {σ : St} {H : Hp} {rt : VK} {bk ct : St → Hp → Prop} (h : t D σ H) : tNext { nx := t D, rt := rt, bk := bk, ct := ct } σ H := h
structure RowsDt (H : Hp) (xs : List V) (ds : List Dt) (rs : List (Str × V)) (hs : List Dt) : Prop where
  l1 : rs.length = ds.length
  l2 : hs.length = ds.length
  ps : PairsAt H xs (rowsK rs)
  dd : ∀ i (h : i < ds.length) (h1 : i < rs.length) (h2 : i < hs.length), ds[i] = .tup [.str rs[i].1, hs[i]] ∧ DD H rs[i].2 hs[i] ∧ headD hs[i] = true ∧ isName rs[i].1 = true
theorem rowD_at {H : Hp} {v : V} {d : Dt} (h : DD H v d) (hp : rowD d = true) : ∃ b z x hd, v = .ref b ∧ H b = some (.tup [.str z, x]) ∧ d = .tup [.str z, hd] ∧ DD H x hd ∧ headD hd = true ∧ isName z = true := by
  cases h with
  | @tup b ys es e' hl' hn' hds' =>
    match es, hl', hp, hds' with
    | [d1, d2], hl', hp, hds' =>
      obtain ⟨y1, y2, rfl⟩ := len2 hl'
      simp only [rowD, Bool.and_eq_true] at hp
      obtain ⟨z1, q1, q2, q0⟩ := nameD_str (hds' 0 (by simp) (by simp)) hp.1
      have q3 := hds' 1 (by simp) (by simp)
      simp only [List.getElem_cons_zero, List.getElem_cons_succ] at q1 q2 q3
      subst q1 q2
      exact ⟨b, z1, y2, d2, rfl, e', rfl, q3, hp.2, q0⟩
  | str _ => exact Bool.noConfusion hp
  | non => exact Bool.noConfusion hp
  | bl _ => exact Bool.noConfusion hp
  | int _ => exact Bool.noConfusion hp
  | lst _ => exact Bool.noConfusion hp
  | dct _ => exact Bool.noConfusion hp
theorem rows_dt {H : Hp} : ∀ {xs : List V} {ds : List Dt}, xs.length = ds.length → (∀ i (h : i < xs.length) (h' : i < ds.length), DD H xs[i] ds[i]) → ds.all rowD = true → ∃ rs hs, RowsDt H xs ds rs hs
  | [], [], _, _, _ => ⟨[], [], rfl, rfl, pairs_nil, fun i h => absurd h (by simp)⟩
  | x :: xs, d :: ds, hl, h, ha => by
    rw [List.all_cons, Bool.and_eq_true] at ha
    obtain ⟨rs, hs, R⟩ := rows_dt (xs := xs) (ds := ds) (by simpa using hl) (fun i a b => h (i + 1) (by simpa using a) (by simpa using b)) ha.2
    obtain ⟨b, z, v, hd, e1, e2, e3, e4, e5, e6⟩ := rowD_at (h 0 (by simp) (by simp)) ha.1
    simp only [List.getElem_cons_zero] at e1 e3
    refine ⟨(z, v) :: rs, hd :: hs, by simp [R.l1], by simp [R.l2], ?_, fun i a b c => ?_⟩
    · rw [e1]
      exact pairs_iff.mpr (.cons ⟨b, rfl, e2⟩ (pairs_iff.mp R.ps))
    · cases i with
      | zero => exact ⟨e3, e4, e5, e6⟩
      | succ i => exact R.dd i (by simpa using a) (by simpa using b) (by simpa using c)
section
variable {H : Hp} {xs : List V} {ds : List Dt} {rs : List (Str × V)} {hs : List Dt}
theorem RowsDt.same {H' : Hp} (R : RowsDt H xs ds rs hs) (s : Same H H') : RowsDt H' xs ds rs hs := ⟨R.l1, R.l2, R.ps.same s, fun i a b c => let ⟨h1, h2, h3⟩ := R.dd i a b c; ⟨h1, h2.same s, h3⟩⟩
theorem RowsDt.rows (R : RowsDt H xs ds rs hs) {i : Nat} (h : i < ds.length) (h1 : i < rs.length) (h2 : i < hs.length) : (rowsD ds)[i]? = some (rs[i].1, hs[i]) := by
  unfold rowsD
  rw [List.getElem?_map, List.getElem?_eq_getElem h, (R.dd i h h1 h2).1]; rfl
theorem RowsDt.names (R : RowsDt H xs ds rs hs) : (rowsD ds).map (·.1) = rs.map (·.1) := by
  refine List.ext_getElem? fun i => ?_
  rw [List.getElem?_map, List.getElem?_map]
  by_cases h : i < ds.length
  · rw [R.rows h (by have := R.l1; omega) (by have := R.l2; omega), List.getElem?_eq_getElem (by have := R.l1; omega)]; rfl
  · rw [List.getElem?_eq_none (by unfold rowsD; simp; omega), List.getElem?_eq_none (by have := R.l1; omega)]; rfl
theorem valV_rowsK_none (n : Str) (h : n ∉ rs.map (·.1)) : valV (rowsK rs) (.inr n) = none := by
  unfold valV
  rw [List.find?_eq_none.mpr]
  · rfl
  · intro p hp e
    obtain ⟨r, hr, rfl⟩ := List.mem_map.mp hp
    exact h (List.mem_map.mpr ⟨r, hr, Sum.inr.inj (of_decide_eq_true e)⟩)
theorem valV_rowsK_at (nd : (rs.map (·.1)).Nodup) {i : Nat} (h : i < rs.length) : valV (rowsK rs) (.inr rs[i].1) = some rs[i].2 := by
  have := valV_dictOf (rowsK rs) (rowsK_nd nd) i (by simpa using h)
  rw [dictOf_nodup _ (rowsK_nd nd)] at this
  simpa using this
theorem valV_rowsK_some (nd : (rs.map (·.1)).Nodup) (n : Str) : (valV (rowsK rs) (.inr n)).isSome = decide (n ∈ rs.map (·.1)) := by
  by_cases h : n ∈ rs.map (·.1)
  · obtain ⟨r, hr, rfl⟩ := List.mem_map.mp h
    obtain ⟨i, hi, rfl⟩ := List.getElem_of_mem hr
    rw [valV_rowsK_at nd hi, decide_eq_true h]; rfl
  · rw [valV_rowsK_none n h, decide_eq_false h]; rfl
theorem RowsDt.nx (R : RowsDt H xs ds rs hs) (nd : (rs.map (·.1)).Nodup) {i : Nat} (h1 : i < rs.length) (h2 : i < hs.length) : nxD (rowsD ds) rs[i].1 = asD hs[i] := by
  have h : i < ds.length := by have := R.l1; omega
  unfold nxD
  have : (rowsD ds).find? (fun r => decide (r.1 = rs[i].1)) = some (rs[i].1, hs[i]) := by
    rw [List.find?_eq_some_iff_getElem]
    have hl : (rowsD ds).length = ds.length := by unfold rowsD; simp
    refine ⟨by simp, i, by omega, ?_, fun j hj => ?_⟩
    · have := R.rows h h1 h2
      rw [List.getElem?_eq_getElem (by omega)] at this
      exact Option.some.inj this
    · have hj1 : j < rs.length := by omega
      have := R.rows (i := j) (by omega) hj1 (by omega)
      rw [List.getElem?_eq_getElem (by omega)] at this
      rw [Option.some.inj this]
      have hne : (rs.map (·.1))[j]'(by simp; omega) ≠ (rs.map (·.1))[i]'(by simpa using h1) := fun z => (List.pairwise_iff_getElem.mp nd j i (by simp; omega) (by simpa using h1) hj) z
      simpa using hne
  rw [this]; rfl
theorem RowsDt.has (R : RowsDt H xs ds rs hs) (nd : (rs.map (·.1)).Nodup) (n : Str) (v : V) (hv : valV (rowsK rs) (.inr n) = some v) : AsV H v (nxD (rowsD ds) n) := by
  by_cases h : n ∈ rs.map (·.1)
  · obtain ⟨r, hr, rfl⟩ := List.mem_map.mp h
    obtain ⟨i, hi, rfl⟩ := List.getElem_of_mem hr
    rw [valV_rowsK_at nd hi] at hv
    cases hv
    have h2 : i < hs.length := by have := R.l1; have := R.l2; omega
    rw [R.nx nd hi h2]
    obtain ⟨_, q1, q2, _⟩ := R.dd i (by have := R.l1; omega) hi h2
    exact asD_as q1 q2
  · rw [valV_rowsK_none n h] at hv; cases hv
theorem RowsDt.inn (R : RowsDt H xs ds rs hs) (nd : (rs.map (·.1)).Nodup) (hall : (rowsD ds).all (fun r => (namesD r.2).all fun n => decide (n ∈ (rowsD ds).map (·.1))) = true) (n y : Str) (hn : (valV (rowsK rs) (.inr n)).isSome = true) (h : nxD (rowsD ds) n = some y) : (valV (rowsK rs) (.inr y)).isSome = true := by
  rw [valV_rowsK_some nd] at hn ⊢
  have hn' := of_decide_eq_true hn
  obtain ⟨r, hr, rfl⟩ := List.mem_map.mp hn'
  obtain ⟨i, hi, rfl⟩ := List.getElem_of_mem hr
  have h2 : i < hs.length := by have := R.l1; have := R.l2; omega
  rw [R.nx nd hi h2] at h
  have hm := List.mem_of_getElem? (R.rows (by have := R.l1; omega) hi h2)
  have := List.all_eq_true.mp hall _ hm
  have := List.all_eq_true.mp this y (asD_in h)
  rw [← R.names]
  exact this
theorem namesD_len {d : Dt} {v : V} (h : DD H v d) (hh : headD d = true) : (namesD d).length ≤ 1000 := by
  obtain ⟨a, z, xs, ds, rfl, rfl, e, hl, hn, hds, hc⟩ := headD_at h hh
  rcases hc with ⟨hw, p, rfl, hp⟩ | ⟨hw, n, hb, hdl, hda⟩
  · obtain ⟨x1, rfl⟩ := len1 hl
    have h1 := hds 0 (by simp) (by simp)
    simp only [List.getElem_cons_zero] at h1
    cases h1 with
    | @tup b ys es e' hl' hn' hds' =>
      have : namesD (.tup [.str z, .tup es]) = if worded z then es.map sndS else _ := rfl
      rw [this, if_pos hw, List.length_map]
      omega
    | _ => exact Bool.noConfusion hp
  · have : namesD (.tup (.str z :: ds)) = if worded z then _ else ds.map strOf := rfl
    rw [this, if_neg (by rw [hw]; exact Bool.false_ne_true), List.length_map]
    omega
theorem all_map_range {α : Type} (l : List α) (n : Nat) (hn : l.length = n) (f : Nat → Bool) (g : α → Bool) (h : ∀ i (hi : i < l.length), f i = g l[i]) : ((List.range n).map f).all id = l.all g := by
  subst hn
  rw [List.all_map, Bool.eq_iff_iff, List.all_eq_true, List.all_eq_true]
  constructor
  · intro q x hx
    obtain ⟨i, hi, rfl⟩ := List.getElem_of_mem hx
    rw [← h i hi]
    exact q i (List.mem_range.mpr hi)
  · intro q i hi
    have hi' := List.mem_range.mp hi
    show f i = true
    rw [h i hi']
    exact q _ (List.getElem_mem hi')
end
inductive TX (H : Hp) : V → Dt → Prop
  | str {z : Str} (h : z.length ≤ 100000) : TX H (.str z) (.str z)
  | tup {a : Addr} {xs : List V} {ds : List Dt} : H a = some (.tup xs) → xs.length = ds.length → xs.length ≤ 1000 → (∀ i (h : i < xs.length) (h' : i < ds.length), TX H xs[i] ds[i]) → TX H (.ref a) (.tup ds)
theorem TX.dd {H : Hp} {v : V} {d : Dt} (h : TX H v d) : DD H v d := by
  induction h with
  | str h => exact .str h
  | tup e hl hn _ ih => exact .tup e hl hn ih
theorem tt_tup1 {H : Hp} {a : Addr} {x : V} {d : Dt} (e : H a = some (.tup [x])) (h : TX H x d) : TX H (.ref a) (.tup [d]) := .tup e rfl (by simp) fun i h1 h2 => by
  match i, h1 with
  | 0, _ => exact h
theorem tt_tup2 {H : Hp} {a : Addr} {x y : V} {d d' : Dt} (e : H a = some (.tup [x, y])) (h : TX H x d) (h' : TX H y d') : TX H (.ref a) (.tup [d, d']) := .tup e rfl (by simp) fun i h1 h2 => by
  match i, h1 with
  | 0, _ => exact h
  | 1, _ => exact h'
theorem tt_tup3 {H : Hp} {a : Addr} {x y z : V} {d d' d'' : Dt} (e : H a = some (.tup [x, y, z])) (h : TX H x d) (h' : TX H y d') (h'' : TX H z d'') : TX H (.ref a) (.tup [d, d', d'']) := .tup e rfl (by simp) fun i h1 h2 => by
  match i, h1 with
  | 0, _ => exact h
  | 1, _ => exact h'
  | 2, _ => exact h''
theorem isName_len {z : Str} (h : isName z = true) : z.length ≤ 8 := by
  unfold isName at h
  simp only [Bool.and_eq_true, decide_eq_true_eq] at h
  exact h.1.1.2
theorem tt_name {H : Hp} {z : Str} (h : isName z = true) : TX H (.str z) (.str z) := .str (by have := isName_len h; omega)
theorem tt_lit {H : Hp} {z : Str} (h : z.length ≤ 100) : TX H (.str z) (.str z) := .str (by omega)
section
variable {H : Hp} {ns : List Str} {b : Addr} {P : Option Str → Prop}
structure PrsOk (H : Hp) (ns : List Str) (xs : List V) (ps : List (Str × Str)) : Prop where
  len : xs.length = ps.length
  at_ : ∀ i (h : i < xs.length) (h' : i < ps.length), ∃ c, xs[i] = .ref c ∧ H c = some (.tup [.str ps[i].1, .str ps[i].2])
  nm : ∀ p ∈ ps, isName p.1 = true ∧ isName p.2 = true ∧ p.2 ∈ ns
  ris : rising (ps.map (·.1)) = true
end
theorem leads_rank {nx : Str → Option Str} {ρ : Str → Nat} {S : Str → Prop} (hS : ∀ x y, S x → nx x = some y → S y ∧ ρ y < ρ x) : ∀ n x, S x → ρ x < n → leadsOut nx n x = true := by
  intro n
  induction n with
  | zero => intro x _ h; omega
  | succ n ih =>
    intro x hx h
    rw [leadsOut]
    cases e : nx x with
    | none => rfl
    | some y =>
      obtain ⟨h1, h2⟩ := hS x y hx e
      exact ih y h1 (by omega)
theorem telD_true {ds : List Dt} {ρ : Str → Nat} (l1 : 1 ≤ ds.length) (l2 : ds.length ≤ 200) (h1 : ds.all rowD = true) (nd : ((rowsD ds).map (·.1)).Nodup) (h2 : ((rowsD ds).all fun r => (namesD r.2).all fun n => decide (n ∈ (rowsD ds).map (·.1))) = true)
    (h3 : ∀ n ∈ (rowsD ds).map (·.1), ρ n < ds.length ∧ ∀ y, nxD (rowsD ds) n = some y → y ∈ (rowsD ds).map (·.1) ∧ ρ y < ρ n) : telD (.tup ds) = true := by
  simp only [telD]
  rw [h1, h2, decide_eq_true l1, decide_eq_true l2, decide_eq_true nd]
  simp only [Bool.true_and]
  rw [List.all_eq_true]
  intro n hn
  exact leads_rank (S := fun n => n ∈ (rowsD ds).map (·.1)) (fun x y hx e => (h3 x hx).2 y e) _ n hn (h3 n hn).1
theorem toList_inj {a b : Str} (h : a.cps.toList = b.cps.toList) : a = b := by
  cases a; cases b
  simp at h
  rw [h]
theorem strLt_trans {a b c : Str} (h1 : strLt a b = true) (h2 : strLt b c = true) : strLt a c = true := by
  unfold strLt at *
  exact decide_eq_true (List.lt_trans (of_decide_eq_true h1) (of_decide_eq_true h2))
theorem rising_of_pw : ∀ {ws : List Str}, ws.Pairwise (fun a b => strLt a b = true) → rising ws = true
  | [], _ => rfl
  | [_], _ => rfl
  | a :: b :: r, h => by
    rw [List.pairwise_cons] at h
    rw [rising, h.1 b List.mem_cons_self, rising_of_pw h.2]; rfl
theorem pw_of_sorted : ∀ {ss : List Str}, sortedS ss = true → ss.Nodup → ss.Pairwise (fun a b => strLt a b = true)
  | [], _, _ => List.Pairwise.nil
  | [a], _, _ => List.pairwise_singleton _ _
  | a :: b :: r, h, nd => by
    have h' : sortedS (b :: r) = true ∧ ltCps b.cps.toList a.cps.toList = false := by
      have : (!ltCps b.cps.toList a.cps.toList && risingS b r) = true := h
      rw [Bool.and_eq_true, Bool.not_eq_true'] at this
      exact ⟨this.2, this.1⟩
    rw [List.nodup_cons] at nd
    have ih := pw_of_sorted h'.1 nd.2
    have hab : strLt a b = true := by
      have h2 := h'.2
      rw [PyProof.Rows.ltCps_eq] at h2
      have h3 := of_decide_eq_false h2
      refine decide_eq_true (Classical.byContradiction fun h4 => ?_)
      have : a = b := toList_inj (List.le_antisymm (List.not_lt.mp h3) (List.not_lt.mp h4))
      exact nd.1 (by rw [this]; exact List.mem_cons_self)
    rw [List.pairwise_cons] at ih
    refine List.pairwise_cons.mpr ⟨fun c hc => ?_, List.pairwise_cons.mpr ih⟩
    rcases List.mem_cons.mp hc with rfl | hc
    · exact hab
    · exact strLt_trans hab (ih.1 c hc)
def strV : V → Str
  | .str z => z
  | _ => ""
theorem prs_of {H : Hp} {ns : List Str} {xs : List V} {rs : List (Str × V)} (q2 : PairsAt H xs (rowsK rs)) (hn : ∀ r ∈ rs, isName r.1 = true) (q4 : ∀ r ∈ rs, ∃ y, r.2 = .str y ∧ y ∈ ns ∧ isName y = true) (hr : rising (rs.map (·.1)) = true) : PrsOk H ns xs (rs.map fun q => (q.1, strV q.2)) := by
  have hl : xs.length = rs.length := by have := q2.1; simpa using this
  refine ⟨by simp; omega, fun i h1 h2 => ?_, fun q hq => ?_, ?_⟩
  · have h3 : i < rs.length := by omega
    obtain ⟨c', e1, e2⟩ := q2.2 i (by simpa using h3)
    rw [List.getElem?_eq_getElem h1] at e1
    refine ⟨c', Option.some.inj e1, ?_⟩
    obtain ⟨y, ey, _⟩ := q4 _ (List.getElem_mem h3)
    simp only [List.getElem_map]
    rw [ey]
    have : H c' = some (.tup [.str rs[i].1, rs[i].2]) := by simpa [rowsK, kV] using e2
    rw [ey] at this
    exact this
  · obtain ⟨q', hq', rfl⟩ := List.mem_map.mp hq
    obtain ⟨y, ey, my, ny⟩ := q4 q' hq'
    refine ⟨hn q' hq', ?_, ?_⟩
    · show isName (strV q'.2) = true
      rw [ey]; exact ny
    · show strV q'.2 ∈ ns
      rw [ey]; exact my
  · rw [List.map_map]; exact hr
theorem PrsOk.tk {H H' : Hp} {ns : List Str} {xs : List V} {ps : List (Str × Str)} (h : PrsOk H ns xs ps) (s : Tk H H') : PrsOk H' ns xs ps := ⟨h.len, fun i a b => let ⟨c, h1, h2⟩ := h.at_ i a b; ⟨c, h1, s _ _ h2⟩, h.nm, h.ris⟩
theorem pairs_mem {H : Hp} {xs : List V} {rs : List (Str × V)} (q2 : PairsAt H xs (rowsK rs)) {x : V} (hx : x ∈ xs) : ∃ b r, r ∈ rs ∧ x = .ref b ∧ H b = some (.tup [.str r.1, r.2]) := by
  obtain ⟨i, hi, rfl⟩ := List.getElem_of_mem hx
  have hl : xs.length = rs.length := by have := q2.1; simpa using this
  have h3 : i < rs.length := by omega
  obtain ⟨c', e1, e2⟩ := q2.2 i (by simpa using h3)
  rw [List.getElem?_eq_getElem hi] at e1
  exact ⟨c', rs[i], List.getElem_mem h3, Option.some.inj e1, by simpa [rowsK, kV] using e2⟩
section
variable {X : Cx}
end
section
variable {X : Cx} {pins : List (Addr × Obj)} {σ : St} {H : Hp} {s : Shared}
end
section
variable {X : Cx} {e1 e2 : Expr} {p pos : Pos} {k : Nat} {g1 g2 : TG}
def rIntB : List V → Hp → VK → Prop := fun xs H Q => ∃ b, xs = [.bl b] ∧ Q (.int (if b then 1 else 0)) H
theorem call_intB : CallR X (.type "int") rIntB := by
  intro pins s σ H xs us Q I r h
  obtain ⟨b, rfl, q⟩ := h
  obtain ⟨u, rfl, ru⟩ := r.one
  cases ru
  exact call_int_bool ⟨.int (if b then 1 else 0), H, I.tok _, ⟨_, rfl⟩, q⟩
end
section
variable {prog : Program} {w : World} {A : Around} {R : Result → Shared → Prop} {s : Shared}
end
section
variable {X : Cx} {t1 i1 t2 i2 elt : Expr} {sc : Scope} {pos : Pos} {own : List Str} {idx : List Nat} {N' : List Str} {wi wi2 : TI} {g g2 : TG} {te : TE}
end
section
variable {prog : Program} {w : World} {A : Around} {E : Value → Shared → Prop} {s : Shared}
end
section
variable {X : Cx} {e st : Expr} {te ts : TE} {p2 pos : Pos}
end
inductive Hd where
  | one (s : Str)
  | as (y : Str)
  | way (x y : Str)
  | prs (s : Str) (ps : List (Str × Str))
def Hd.nx : Hd → Option Str
  | .as y => some y
  | _ => none
def Hd.ok (ns : List Str) : Hd → Prop
  | .one s => s = "all" ∨ s = "none"
  | .as y => isName y = true ∧ y ∈ ns
  | .way x y => isName x = true ∧ isName y = true ∧ x ∈ ns ∧ y ∈ ns
  | .prs s ps => (s = "box" ∨ s = "pick") ∧ (∀ p ∈ ps, isName p.1 = true ∧ isName p.2 = true ∧ p.2 ∈ ns) ∧ rising (ps.map (·.1)) = true ∧ ps.length ≤ 10
structure PrsV (H : Hp) (xs : List V) (ps : List (Str × Str)) : Prop where
  len : xs.length = ps.length
  at_ : ∀ i (h : i < xs.length) (h' : i < ps.length), ∃ c, xs[i] = .ref c ∧ H c = some (.tup [.str ps[i].1, .str ps[i].2])
theorem PrsV.tk {H H' : Hp} {xs : List V} {ps : List (Str × Str)} (h : PrsV H xs ps) (s : Tk H H') : PrsV H' xs ps := ⟨h.len, fun i a b => let ⟨c, h1, h2⟩ := h.at_ i a b; ⟨c, h1, s _ _ h2⟩⟩
inductive HV (H : Hp) : V → Hd → Prop
  | one {b : Addr} {s : Str} : H b = some (.tup [.str s]) → HV H (.ref b) (.one s)
  | as {b : Addr} {y : Str} : H b = some (.tup [.str "as", .str y]) → HV H (.ref b) (.as y)
  | way {b : Addr} {x y : Str} : H b = some (.tup [.str "way", .str x, .str y]) → HV H (.ref b) (.way x y)
  | prs {b c : Addr} {s : Str} {xs : List V} {ps : List (Str × Str)} : H b = some (.tup [.str s, .ref c]) → H c = some (.tup xs) → PrsV H xs ps → HV H (.ref b) (.prs s ps)
theorem HV.tk {H H' : Hp} (s : Tk H H') {v : V} {h : Hd} (q : HV H v h) : HV H' v h := by
  cases q with
  | one e => exact .one (s _ _ e)
  | as e => exact .as (s _ _ e)
  | way e => exact .way (s _ _ e)
  | prs e e' p => exact .prs (s _ _ e) (s _ _ e') (p.tk s)
section
variable {H : Hp} {ns : List Str} {b : Addr} {v : V} {P : Option Str → Prop}
end
def Hd.dt : Hd → Dt
  | .one s => .tup [.str s]
  | .as y => .tup [.str "as", .str y]
  | .way x y => .tup [.str "way", .str x, .str y]
  | .prs s ps => .tup [.str s, .tup (ps.map fun p => .tup [.str p.1, .str p.2])]
theorem HV.tx {H : Hp} {ns : List Str} {v : V} {h : Hd} (q : HV H v h) (ok : h.ok ns) : TX H v h.dt := by
  cases q with
  | one e => exact tt_tup1 e (tt_lit (by rcases ok with rfl | rfl <;> decide))
  | as e => exact tt_tup2 e (tt_lit (by decide)) (tt_name ok.1)
  | way e => exact tt_tup3 e (tt_lit (by decide)) (tt_name ok.1) (tt_name ok.2.1)
  | @prs b c s xs ps e e' p =>
    have h10 := ok.2.2.2
    have hl := p.len
    refine tt_tup2 e (tt_lit (by rcases ok.1 with rfl | rfl <;> decide)) (.tup e' (by simp [p.len]) (by omega) fun i h1 h2 => ?_)
    have h3 : i < ps.length := by simpa using h2
    obtain ⟨c', q1, q2⟩ := p.at_ i h1 h3
    obtain ⟨m1, m2, _⟩ := ok.2.1 _ (List.getElem_mem h3)
    rw [q1]
    simp only [List.getElem_map]
    exact tt_tup2 q2 (tt_name m1) (tt_name m2)
abbrev Rw2 := Str × Hd
structure RV (H : Hp) (xs : List V) (rows : List Rw2) : Prop where
  len : xs.length = rows.length
  at_ : ∀ i (h : i < xs.length) (h' : i < rows.length), ∃ b v, xs[i] = .ref b ∧ H b = some (.tup [.str rows[i].1, v]) ∧ HV H v rows[i].2
theorem RV.tk {H H' : Hp} {xs : List V} {rows : List Rw2} (h : RV H xs rows) (s : Tk H H') : RV H' xs rows := ⟨h.len, fun i a b => let ⟨c, v, h1, h2, h3⟩ := h.at_ i a b; ⟨c, v, h1, s _ _ h2, h3.tk s⟩⟩
theorem RV.nil {H : Hp} : RV H [] [] := ⟨rfl, fun i h => absurd h (by simp)⟩
theorem RV.snoc {H : Hp} {xs : List V} {rows : List Rw2} (h : RV H xs rows) {b : Addr} {v : V} {r : Rw2} (e : H b = some (.tup [.str r.1, v])) (hv : HV H v r.2) : RV H (xs ++ [.ref b]) (rows ++ [r]) := by
  have hl := h.len
  refine ⟨by simp [hl], fun i h1 h2 => ?_⟩
  by_cases hlt : i < xs.length
  · rw [List.getElem_append_left hlt, List.getElem_append_left (by omega)]
    exact h.at_ i hlt (by omega)
  · have e1 : i = xs.length := by simp at h1; omega
    subst e1
    rw [List.getElem_append_right (Nat.le_refl _), List.getElem_append_right (by omega)]
    simp only [Nat.sub_self, List.getElem_cons_zero, hl]
    exact ⟨b, v, rfl, e, hv⟩
def rowDt (r : Rw2) : Dt := .tup [.str r.1, r.2.dt]
def RowsK (ns : List Str) (rows : List Rw2) : Prop := ∀ r ∈ rows, isName r.1 = true ∧ r.2.ok ns
theorem RV.mem {H : Hp} {xs : List V} {rows : List Rw2} (h : RV H xs rows) {i : Nat} (hi : i < rows.length) : ∃ b v, xs.getD i .non = .ref b ∧ H b = some (.tup [.str rows[i].1, v]) ∧ HV H v rows[i].2 := by
  have hl := h.len
  obtain ⟨b, v, q1, q2, q3⟩ := h.at_ i (by omega) hi
  exact ⟨b, v, by rw [List.getD_eq_getElem?_getD, List.getElem?_eq_getElem (by omega), q1]; rfl, q2, q3⟩
def Hd.pre : Hd → List Str
  | .one s => [s]
  | .as _ => []
  | .way _ _ => ["way"]
  | .prs s _ => [s]
section
variable {P : Program} {w : World} {A : Around} {E : Value → Shared → Prop} {s : Shared}
end
section
variable {P : Program} {w : World} {A : Around} {E : Value → Shared → Prop} {s : Shared}
end
section
variable {X : Cx}
end
section
variable {X : Cx} {pins : List (Addr × Obj)} {σ : St} {H : Hp} {s : Shared}
end
section
variable {X : Cx} {tg a b c : Expr} {ta : TA} {p pos : Pos}
end
def Hd.wds : Hd → List Str
  | .prs _ ps => ps.map (·.1)
  | _ => []
structure HG4 (H : Hp) (ns ws : List Str) (v : V) (P : Option Str → Prop) : Prop where
  ex : ∃ h, HV H v h ∧ h.ok ns ∧ P h.nx ∧ ∀ z ∈ h.wds, z ∈ ws
section
variable {H : Hp} {ns ws : List Str} {b : Addr} {v : V} {P : Option Str → Prop}
theorem HG4.tk {H' : Hp} (h : HG4 H ns ws v P) (s : Tk H H') : HG4 H' ns ws v P := let ⟨d, h1, h2⟩ := h.ex; ⟨d, h1.tk s, h2⟩
theorem HG4.imp {P' : Option Str → Prop} (h : HG4 H ns ws v P) (f : ∀ o, P o → P' o) : HG4 H ns ws v P' := let ⟨d, h1, h2, h3, h4⟩ := h.ex; ⟨d, h1, h2, f _ h3, h4⟩
theorem hg4_as {y : Str} (e : H b = some (.tup [.str "as", .str y])) (hy : isName y = true) (hm : y ∈ ns) (hP : P (some y)) : HG4 H ns ws (.ref b) P := ⟨.as y, .as e, ⟨hy, hm⟩, hP, (fun _ h => nomatch h)⟩
theorem hg4_none (e : H b = some (.tup [.str "none"])) (hP : P none) : HG4 H ns ws (.ref b) P := ⟨.one "none", .one e, .inr rfl, hP, (fun _ h => nomatch h)⟩
theorem hg4_all (e : H b = some (.tup [.str "all"])) (hP : P none) : HG4 H ns ws (.ref b) P := ⟨.one "all", .one e, .inl rfl, hP, (fun _ h => nomatch h)⟩
theorem hg4_way {x y : Str} (e : H b = some (.tup [.str "way", .str x, .str y])) (hx : isName x = true) (hy : isName y = true) (mx : x ∈ ns) (my : y ∈ ns) (hP : P none) : HG4 H ns ws (.ref b) P := ⟨.way x y, .way e, ⟨hx, hy, mx, my⟩, hP, (fun _ h => nomatch h)⟩
theorem hg4_worded {s : Str} {c : Addr} {xs : List V} {ps : List (Str × Str)} (hs : s = "box" ∨ s = "pick") (e : H b = some (.tup [.str s, .ref c])) (ec : H c = some (.tup xs)) (hn : xs.length ≤ 10) (h : PrsOk H ns xs ps) (hw : ∀ q ∈ ps, q.1 ∈ ws) (hP : P none) : HG4 H ns ws (.ref b) P :=
  ⟨.prs s ps, .prs e ec ⟨h.len, h.at_⟩, ⟨hs, h.nm, h.ris, by rw [← h.len]; exact hn⟩, hP, fun z hz => by obtain ⟨q, hq, rfl⟩ := List.mem_map.mp hz; exact hw q hq⟩
end
theorem tb_two {H : Hp} {b : Addr} {x y : Str} (e : H b = some (.tup [.str x, .str y])) (hx : Wd x) (hy : Wd y) : TB H (.ref b) 1 411 :=
  (TB.tup (k := 0) (n := 202) e fun v hv => by
    simp only [List.mem_cons, List.mem_nil_iff, or_false] at hv
    rcases hv with rfl | rfl
    · exact TB.str hx
    · exact TB.str hy).mono (by omega) (by simp)
theorem HV.tb {H : Hp} {ns ws : List Str} {v : V} {h : Hd} (q : HV H v h) (ok : h.ok ns) (hn : ∀ n ∈ ns, Wd n) (hw : ∀ z ∈ h.wds, Wd z) : TB H v 3 8273 := by
  cases q with
  | one e =>
    refine (TB.tup (k := 0) (n := 202) e fun v hv => ?_).mono (by omega) (by simp)
    rw [List.mem_singleton.mp hv]
    rcases ok with rfl | rfl <;> exact TB.str (wd_ascii (by decide) (by decide))
  | as e => exact (tb_two e (wd_ascii (by decide) (by decide)) (hn _ ok.2)).mono (by omega) (by omega)
  | way e =>
    refine (TB.tup (k := 0) (n := 202) e fun v hv => ?_).mono (by omega) (by simp)
    simp only [List.mem_cons, List.mem_nil_iff, or_false] at hv
    rcases hv with rfl | rfl | rfl
    · exact TB.str (wd_ascii (by decide) (by decide))
    · exact TB.str (hn _ ok.2.2.1)
    · exact TB.str (hn _ ok.2.2.2)
  | @prs b c s xs ps e e' p =>
    have h10 := ok.2.2.2
    have hl := p.len
    refine (TB.tup (k := 2) (n := 4133) e fun v hv => ?_).mono (by omega) (by simp)
    simp only [List.mem_cons, List.mem_nil_iff, or_false] at hv
    rcases hv with rfl | rfl
    · rcases ok.1 with rfl | rfl <;> exact (TB.str (wd_ascii (by decide) (by decide))).mono (by omega) (by omega)
    · refine (TB.tup (k := 1) (n := 411) e' fun x hx => ?_).mono (by omega) (by omega)
      obtain ⟨i, hi, rfl⟩ := List.getElem_of_mem hx
      have h3 : i < ps.length := by omega
      obtain ⟨c', q1, q2⟩ := p.at_ i hi h3
      rw [q1]
      have hm : ps[i] ∈ ps := List.getElem_mem h3
      exact tb_two q2 (hw _ (List.mem_map.mpr ⟨_, hm, rfl⟩)) (hn _ (ok.2.1 _ hm).2.2)
def Ahd (ns : List Str) (n : Str) (o : Option Str) : Prop := ∀ y, o = some y → ∃ (i j : Nat), i < j ∧ ns[i]? = some y ∧ ns[j]? = some n
structure RowsG (H : Hp) (ns ws : List Str) (rs : List (Str × V)) : Prop where
  sub : ∀ r ∈ rs, r.1 ∈ ns
  hd : ∀ r ∈ rs, HG4 H ns ws r.2 (Ahd ns r.1)
theorem RowsG.tk {H H' : Hp} {ns ws : List Str} {rs : List (Str × V)} (h : RowsG H ns ws rs) (s : Tk H H') : RowsG H' ns ws rs := ⟨h.sub, fun r hr => (h.hd r hr).tk s⟩
theorem RowsG.perm {H : Hp} {ns ws : List Str} {rs rs' : List (Str × V)} (h : RowsG H ns ws rs) (p : ∀ r ∈ rs', r ∈ rs) : RowsG H ns ws rs' := ⟨fun r hr => h.sub r (p r hr), fun r hr => h.hd r (p r hr)⟩
theorem RowsG.add {H : Hp} {ns ws : List Str} {rs : List (Str × V)} (h : RowsG H ns ws rs) {n : Str} {v : V} (h1 : n ∈ ns) (h2 : HG4 H ns ws v (Ahd ns n)) : RowsG H ns ws ((n, v) :: rs) := by
  refine ⟨fun r hr => ?_, fun r hr => ?_⟩ <;> rcases List.mem_cons.mp hr with rfl | hr
  · exact h1
  · exact h.sub r hr
  · exact h2
  · exact h.hd r hr
structure RT (H : Hp) (a : Addr) (xs : List V) (rows : List Rw2) (ns ws : List Str) : Prop where
  at_ : H a = some (.tup xs)
  rv : RV H xs rows
  nm : (rows.map (·.1)).Perm ns
  nd : ns.Nodup
  ok : RowsK ns rows
  wd : ∀ n ∈ ns, Wd n
  ah : ∀ r ∈ rows, Ahd ns r.1 r.2.nx
  ww : ∀ r ∈ rows, ∀ z ∈ r.2.wds, z ∈ ws
  pos : 1 ≤ ns.length
  few : ns.length ≤ 10
section
variable {H H' : Hp} {a : Addr} {xs : List V} {rows : List Rw2} {ns ws : List Str}
theorem RT.of {rs : List (Str × V)} (e : H a = some (.tup xs)) (ps : PairsAt H xs (rowsK rs)) (nm : (rs.map (·.1)).Perm ns) (nd : ns.Nodup) (okn : ∀ n ∈ ns, isName n = true ∧ Wd n) (pos : 1 ≤ ns.length) (few : ns.length ≤ 10) (g : RowsG H ns ws rs) : ∃ rows, RT H a xs rows ns ws := by
  have hc : ∀ i : Fin rs.length, ∃ hd : Hd, HV H rs[i.val].2 hd ∧ hd.ok ns ∧ Ahd ns rs[i.val].1 hd.nx ∧ ∀ z ∈ hd.wds, z ∈ ws := fun i => (g.hd _ (List.getElem_mem i.isLt)).ex
  obtain ⟨f, hf⟩ := Classical.axiomOfChoice hc
  have hxl : xs.length = rs.length := by have := ps.1; simpa using this
  have en : (List.ofFn fun i : Fin rs.length => ((rs[i.val].1, f i) : Rw2)).map (·.1) = rs.map (·.1) := by
    apply List.ext_getElem
    · simp
    · intro i h1 h2; simp
  have mem : ∀ r ∈ (List.ofFn fun i : Fin rs.length => ((rs[i.val].1, f i) : Rw2)), ∃ i : Fin rs.length, r = (rs[i.val].1, f i) := fun r hr => by
    obtain ⟨i, hi, rfl⟩ := List.getElem_of_mem hr
    exact ⟨⟨i, by simpa using hi⟩, by simp⟩
  refine ⟨List.ofFn fun i => (rs[i.val].1, f i), e, ⟨by simp [hxl], fun i h1 h2 => ?_⟩, by rw [en]; exact nm, nd, fun r hr => ?_, fun n hn => (okn n hn).2, fun r hr => ?_, fun r hr => ?_, pos, few⟩
  · have h3 : i < rs.length := by omega
    obtain ⟨b, e1, e2⟩ := ps.2 i (by simpa using h3)
    rw [List.getElem?_eq_getElem h1] at e1
    refine ⟨b, rs[i].2, Option.some.inj e1, ?_, ?_⟩
    · simpa [rowsK, kV] using e2
    · simpa using (hf ⟨i, h3⟩).1
  · obtain ⟨i, rfl⟩ := mem r hr
    exact ⟨(okn _ (g.sub _ (List.getElem_mem i.isLt))).1, (hf i).2.1⟩
  · obtain ⟨i, rfl⟩ := mem r hr
    exact (hf i).2.2.1
  · obtain ⟨i, rfl⟩ := mem r hr
    exact (hf i).2.2.2
end
section
variable {H H' : Hp} {a b : Addr} {xs ys : List V} {rows rows2 : List Rw2} {ns ws ws' : List Str} {f g : Str → Str}
end
theorem dget_at {H : Hp} {d : Addr} {kvs : List (Key × V)} {x : Str} {v : V} (e : H d = some (.dK kvs)) (h : valV kvs (.inr x) = some v) : DGet H d (.str x) (some v) := by rw [← h]; exact DGet.k (k := Sum.inr x) e
def cntN (val : Nat → Str) : Nat → Nat
  | 0 => 0
  | i + 1 => if val i ∈ (List.range i).map val then cntN val i else cntN val i + 1
theorem cntN_le (val : Nat → Str) : ∀ i, cntN val i ≤ i
  | 0 => Nat.le_refl _
  | i + 1 => by have := cntN_le val i; unfold cntN; split <;> omega
theorem cntN_nodup (val : Nat → Str) : ∀ i, (cntN val i = i ↔ ((List.range i).map val).Nodup)
  | 0 => by simp [cntN]
  | i + 1 => by
    have ih := cntN_nodup val i
    have hl := cntN_le val i
    rw [List.range_succ, List.map_append, List.map_cons, List.map_nil, List.nodup_append]
    unfold cntN
    split
    · rename_i h
      constructor
      · intro e; omega
      · intro ⟨_, _, q⟩; exact absurd rfl (q _ h _ List.mem_cons_self)
    · rename_i h
      constructor
      · intro e
        refine ⟨ih.mp (by omega), by simp, fun a ha b hb e => ?_⟩
        rw [List.mem_singleton.mp hb] at e
        rw [e] at ha; exact h ha
      · intro ⟨q, _, _⟩
        have := ih.mpr q; omega
def inS (val : Nat → Str) (i : Nat) : Key → Bool
  | .inr z => decide (z ∈ (List.range i).map val)
  | .inl _ => false
section
variable {prog : Program} {w : World} {A : Around} {R : Result → Shared → Prop} {I : Addr} {fp wr : List Addr} {G : Array GenState → Array GenState → Prop} {n : Nat} {P : Nat → Value → Prop} {St : Nat → Shared → Prop}
theorem set_keep {h h' : Heap} {S : Addr} {f : Key → Bool} {m : Nat} (q : h.SetOf (mixKind prog w) S f m) (k : ∀ o, h.get? S = some o → h'.get? S = some o) : h'.SetOf (mixKind prog w) S f m := let ⟨o, es, ep, t, ho, r⟩ := q; ⟨o, es, ep, t, k _ ho, r⟩
theorem set_text_loop (W : WalksS prog w A.in1 I fp wr G n P St) (S : Addr) (hS : S ∉ fp) (val : Nat → Str) (hv : ∀ i v, P i v → ∃ t, v = .str (val i) t) (hb : n + 1 < scanBound) : ∀ (k i : Nat) (s : Shared), n - i = k → i ≤ n → St i s → s.heap.SetOf (mixKind prog w) S (inS val i) (cntN val i) →
    (∀ s', Moved (S :: wr) G s s' → s'.heap.SetOf (mixKind prog w) S (inS val n) (cntN val n) → R (.ok (.ret .none)) s') → codeAny (model prog w) A (.builtin "set.update.loop" ⟨[.ref S, .ref I], []⟩) R s := by
  have hw : S ∉ wr := fun h => hS (W.sub _ h)
  have up : ∀ b ∈ wr, b ∈ S :: wr := fun b hb => List.mem_cons_of_mem _ hb
  intro k
  induction k with
  | zero =>
    intro i s hk hi st q hR
    obtain rfl : i = n := by omega
    refine codeAny_builtin F.entry_set_update_loop ?_
    rw [Around.under_plainId F.plain_set_update_loop _]
    show wpAny _ A.in1 (pyNext (.ref I) >>= _) _ _ s
    exact wpAny_bind (W.done s _ _ st fun s' hm => wpAny_pure (hR s' (hm.mono up) (set_keep q fun o e => hm.heap S o hw e)))
  | succ k ih =>
    intro i s hk hi st q hR
    have hlt : i < n := by omega
    refine codeAny_builtin F.entry_set_update_loop ?_
    rw [Around.under_plainId F.plain_set_update_loop _]
    show wpAny _ A.in1 (pyNext (.ref I) >>= _) _ _ s
    refine wpAny_bind (W.item i s _ _ hlt st fun v s' hP st' hm => ?_)
    obtain ⟨t, rfl⟩ := hv i v hP
    have q' := set_keep q fun o e => hm.heap S o hw e
    show wpAny _ A.in1 (holding [Value.str (val i) t] (setAdd S (.str (val i) t)) >>= _) _ _ s'
    refine wpAny_bind (wpAny_holding ?_)
    unfold setAdd
    refine wpAny_holding (wpAny_bind ((mixKind prog w).pyHash (k := .inr (val i)) (mixKind_str _ _ _ _) ?_))
    have hroom : cntN val i + 1 < scanBound := by have := cntN_le val i; omega
    refine wpAny_setAddHashed_of (knd := mixKind prog w) (s := { s' with toks := s'.toks + 1 }) (mixKind_str _ _ _ _) rfl q' hroom fun h' hsb q2 => ?_
    have e1 : ∀ z, (inS val i z || decide (z = .inr (val i))) = inS val (i + 1) z := fun z => by
      cases z with
      | inl _ => rfl
      | inr z =>
        simp only [inS, List.range_succ, List.map_append, List.map_cons, List.map_nil, List.mem_append, List.mem_singleton, Bool.decide_or]
        congr 1
        rw [Bool.eq_iff_iff, decide_eq_true_iff, decide_eq_true_iff]
        exact ⟨fun e => Sum.inr.inj e, fun e => by rw [e]⟩
    have e2 : (if inS val i (.inr (val i)) = true then cntN val i else cntN val i + 1) = cntN val (i + 1) := by
      unfold cntN inS
      simp only [decide_eq_true_eq]
      cases i <;> rfl
    have q3 : h'.SetOf (mixKind prog w) S (inS val (i + 1)) (cntN val (i + 1)) := by
      rw [← e2, ← (funext e1 : (fun z => inS val i z || decide (z = .inr (val i))) = inS val (i + 1))]
      exact q2
    have keepb : ∀ b o, b ≠ S → s'.heap.get? b = some o → h'.get? b = some o := fun b o hb e => by rw [hsb.2 b hb]; exact e
    refine wpAny_pure ⟨plainId_quiet F.plain_set_update_loop _, ih (i + 1) _ (by omega) hlt (W.frame _ s' _ _ st' (Nat.le_succ _) fun b hb o e => keepb b o (fun z => hS (by rw [← z]; exact hb)) e) q3 fun s'' hm2 q4 => hR s'' (Moved.trans W.gtrans ((hm.mono up).then_heap (Nat.le_succ _) fun b o hb e => keepb b o (fun z => hb (by rw [z]; exact List.mem_cons_self)) e) hm2) q4⟩
end
def SetQ (prog : Program) (w : World) (E : Value → Shared → Prop) (s : Shared) (val : Nat → Str) (n : Nat) : Result → Shared → Prop := wants (fun r s₂ => r = .none ∧ ∃ h' tk, s₂ = { s with heap := h', toks := tk } ∧ h'.SetOf (mixKind prog w) s.heap.objs.size (inS val n) (cntN val n) ∧ ∀ b o, b < s.heap.objs.size → s.heap.get? b = some o → h'.get? b = some o) E
abbrev newS (led : Bool) : Obj := { cls := .type "set", dict := none, data := .set #[] 0 (.fresh 0 0 led) }
section
variable {prog : Program} {w : World} {A : Around} {E : Value → Shared → Prop} {s : Shared}
set_option maxHeartbeats 3200000 in
theorem call_set_texts {l : Addr} {items : Array Value} {zs : List Str} {Q : Value → Shared → Prop} (hh : A.handled = none) (hl : s.heap.IsList l items) (hi : ∀ (i : Nat) (v : Value), items[i]? = some v → ∃ t, v = Value.str (zs.getD i "") t) (hb : items.size + 1 < scanBound)
    (h : ∀ (h' : Heap) (tk : Nat), h'.SetOf (mixKind prog w) s.heap.objs.size (inS (fun i => zs.getD i "") items.size) (cntN (fun i => zs.getD i "") items.size) → (∀ b o, b < s.heap.objs.size → s.heap.get? b = some o → h'.get? b = some o) → Q (.ref s.heap.objs.size) { s with heap := h', toks := tk }) :
    wpAny (model prog w) A (call (.type "set") [.ref l]) Q E s := by
  obtain ⟨c, tl, hmro⟩ := F.called_set.mro
  have hmade := F.called_set.made
  have hsub := F.called_set.sub
  refine wpAny_call (codeAny_of_tree ?_)
  show wpAny _ _ (callAny (.type "set") _) _ _ s
  refine wpAny_pure ⟨Code.quiet_builtin _ (by decide +kernel), codeAny_builtin F.entry_type_call ?_⟩
  rw [Around.under_plain (weight_type_call_type "set" [.ref l] []) rfl]
  have h1 := F.called_set.notType
  have h2 := F.called_set.canCreate
  have hct := F.typeCall_set_1 (.ref l)
  repeat (any_goals (first | assumption | wp_step))
  refine codeAny_mono (code_set_new_1 (.ref l) (E := E) (Q₁ := fun obj s₁ => ∃ led : Bool, obj = .ref s.heap.objs.size ∧ s₁ = { s with heap := s.heap.push (newS led) }) fun led => ⟨led, rfl, rfl⟩) fun r s₁ hr => ?_
  cases r with
  | error e => exact hr
  | ok fl =>
    cases fl with
    | ret obj =>
      obtain ⟨led, rfl, rfl⟩ := hr
      have hS : (s.heap.push (newS led)).get? s.heap.objs.size = some (newS led) := Heap.get?_push_size _ rfl
      have hT : Shared.TypeIs { s with heap := s.heap.push (newS led) } (.ref s.heap.objs.size) "set" := ⟨_, hS, rfl⟩
      have hli := F.called_set.init.lookup
      have hbi := F.called_set.init.bind (.ref s.heap.objs.size)
      repeat (any_goals (first | assumption | wp_step))
      refine codeAny_mono (codeAny_call_builtin (R := SetQ prog w E s (fun i => zs.getD i "") items.size) F.called_set.init.plain F.entry_set_init (check_set_init_1 hT ?_)) fun r₂ s₂ hr₂ => ?_
      · obtain ⟨⟨oc, od, oda, osl⟩, hol, hcl, nl, hdl⟩ := hl
        simp only at hcl hdl
        subst hcl hdl
        have hol' : (s.heap.push (newS led)).get? l = some { cls := .type "list", dict := od, data := .seq items nl, slots := osl } := Heap.get?_push_of_some _ hol
        have hsls := F.sub_list_set
        have hslf := F.sub_list_frozenset
        have hne : (Value.type "list" == Value.type "dict") = false := by decide
        have hl1 : (s.heap.push (newS led)).IsList l items := ⟨_, hol', rfl, nl, rfl⟩
        unfold Builtin.«set.__init__» noKeywords Builtin.Frozenset.updateFrom
        generalize hPI : pyIter = PI
        wp_walk
        subst hPI
        refine wpAny_pyIter_list hl1 (wpAny_bind (wpAny_runValue ?_))
        have hlS : l < s.heap.objs.size := Heap.lt_size hol
        have hz : (s.heap.push (newS led)).objs.size = s.heap.objs.size + 1 := Heap.size_push ..
        have hnI : l ≠ (s.heap.push (newS led)).objs.size := by rw [hz]; exact Nat.ne_of_lt (Nat.lt_succ_of_lt hlS)
        have hSf : s.heap.objs.size ∉ [(s.heap.push (newS led)).objs.size, l] := by
          rw [hz]
          simp only [List.mem_cons, List.mem_nil_iff, or_false, not_or]
          exact ⟨Nat.ne_of_lt (Nat.lt_succ_self _), Nat.ne_of_gt hlS⟩
        have q0 : ((s.heap.push (newS led)).push { cls := .type "list_iterator", data := .fields #[.ref l, .int 0 0] }).SetOf (mixKind prog w) s.heap.objs.size (inS (fun i => zs.getD i "") 0) (cntN (fun i => zs.getD i "") 0) := by
          have e0 : inS (fun i => zs.getD i "") 0 = fun _ => false := by funext z; cases z <;> rfl
          rw [e0]
          exact ⟨_, #[], 0, _, Heap.get?_push_of_some _ hS, ⟨rfl, rfl, rfl⟩, rfl, fun e he => by simp at he, fun k => by simp, by unfold scanBound; decide, rfl, rfl⟩
        refine set_text_loop ((Walks.list (by simp [hh]) _ l hnI items).toS) s.heap.objs.size hSf (fun i => zs.getD i "") hi hb items.size 0 _ rfl (Nat.zero_le _) ⟨⟨_, Heap.get?_push_size _ rfl, rfl, rfl⟩, (hl1.push _)⟩ q0 fun s' hm q => ?_
        obtain ⟨h', g', d', tk', os'⟩ := s'
        have eg : g' = s.gens := hm.gens
        have ed : d' = s.drawn := hm.drawn
        have eo : os' = s.os := hm.os
        subst eg ed eo
        show wpAny _ _ _ _ _ _
        refine wpAny_pure ?_
        show wpAny _ _ (ret Value.none) _ _ _
        refine wpAny_pure ⟨rfl, h', tk', rfl, q, fun b o hbb e => hm.heap b o ?_ (Heap.get?_push_of_some _ (Heap.get?_push_of_some _ e))⟩
        simp only [List.mem_cons, List.mem_nil_iff, or_false, not_or]
        exact ⟨Nat.ne_of_lt hbb, by rw [hz]; exact Nat.ne_of_lt (Nat.lt_succ_of_lt hbb)⟩
      · cases r₂ with
        | error e => exact hr₂
        | ok fl₂ =>
          cases fl₂ with
          | ret r =>
            obtain ⟨rfl, h', tk, rfl, hS', hk'⟩ := hr₂
            repeat (any_goals (first | assumption | wp_step))
            exact h _ _ hS' hk'
          | _ => exact hr₂.elim
    | _ => exact hr.elim
end
section
variable {X : Cx}
def tLenSet (te : TE) : TE := fun σ H Q => te σ H fun x H1 => ∃ (l : Addr) (zs : List Str), x = .ref l ∧ H1 l = some (.lst (zs.map V.str)) ∧ zs.length ≤ 1000 ∧ Q (.int (cntN (fun i => zs.getD i "") zs.length : Nat)) H1
theorem z_lenset {e : Expr} {te : TE} {p p2 pos pos2 : Pos} (hc : X.calm = true) (hg : Gl X "len") (hm : X.mg "len" = none) (hg2 : Gl X "set") (hm2 : X.mg "set" = none) (he : SE X e te) (hs : starEach [e] X.env = [(false, eval e X.env)] := by rfl) (hs3 : starEach [Expr.Call (.Name "set" p2) [e] [] pos2] X.env = [(false, eval (.Call (.Name "set" p2) [e] [] pos2) X.env)] := by rfl) :
    SE X (.Call (.Name "len" p) [.Call (.Name "set" p2) [e] [] pos2] [] pos) (tLenSet te) := by
  constructor
  intro pins s0 σ H Q I0 h
  refine wpAny_Call_Name_kw (ld_blt I0 hg hm PySem.boot_len ?_)
  refine PyProof.Rows.callWith_builtin1 ?_ hs3 rfl
  rw [hs3]
  refine Calls.spliced_cons ?_
  refine Call_ (ld_blt I0 hg2 hm2 boot_set (PyProof.Rows.callWith_type1 ?_ hs rfl))
  rw [hs]
  refine Calls.spliced_cons (thn (he.h pins s0 σ H _ I0 h) fun u s ⟨x, H1, I, r, l, zs, ex, hl, hz, q⟩ => Calls.spliced_nil ?_)
  subst ex
  obtain rfl : u = Value.ref l := r
  obtain ⟨its, rv, p, _⟩ := I.list (SqL.of hl)
  have hlen : its.length = zs.length := by have := rv.length; simpa using this.symm
  have hsz : its.toArray.size = zs.length := by simpa using hlen
  refine call_set_texts (zs := zs) (I.ok.hd hc) p.isList (fun i v hv => ?_) (by rw [hsz]; unfold scanBound; omega) fun h' tk q' hk => Calls.spliced_nil ?_
  · have hi : i < zs.length := by
      rcases Nat.lt_or_ge i zs.length with h' | h'
      · exact h'
      · rw [Array.getElem?_eq_none (by omega)] at hv; cases hv
    obtain ⟨w1, e1, r1⟩ := rv.get (i := i) (x := .str (zs.getD i "")) (by rw [List.getElem?_map, List.getD_eq_getElem?_getD, List.getElem?_eq_getElem hi]; rfl)
    have e2 : its.toArray[i]? = some w1 := by simpa using e1
    rw [e2] at hv
    cases hv
    exact r1
  · rw [hsz] at q'
    obtain ⟨o, es, ep, t, ho, hex, hd, hel, hmem, hb, hf, hn⟩ := q'
    have I2 : Inv X pins σ H1 { s with heap := h', toks := tk } := I.kept (t' := tk) fun b o e => hk b o (Heap.lt_size e) e
    refine call_len_set ho hex hd hf (by unfold scanBound at hb; omega) ?_
    rw [hn]
    exact ⟨.int _, H1, I2.tok _, ⟨_, rfl⟩, q⟩
end
section
variable {prog : Program} {w : World} {A : Around} {E : Value → Shared → Prop} {s : Shared} {I : Addr} {fp wr : List Addr} {G : Array GenState → Array GenState → Prop} {n : Nat} {P : Nat → Value → Prop} {St : Nat → Shared → Prop}
end
section
variable {X : Cx}
end
theorem inAbc_mem (c : Nat) : inAbc c = decide (c ∈ ABC.cps.toList) := StrLaws.found_one ABC c
theorem takeW_all {α : Type} (p : α → Bool) : ∀ l : List α, ((l.takeWhile p).length = l.length ↔ l.all p = true)
  | [] => by simp
  | a :: l => by
    have ih := takeW_all p l
    rw [List.takeWhile_cons, List.all_cons]
    cases h : p a with
    | false => simp
    | true => simp only [if_true, List.length_cons, Nat.add_right_cancel_iff, Bool.true_and]; exact ih
theorem goes_abc (c : Nat) : ABC.cps.contains c = inAbc c := by
  rw [inAbc_mem, Bool.eq_iff_iff, Array.contains_iff_mem, decide_eq_true_eq, Array.mem_toList_iff]
theorem strip_abc (z : Str) : (Txt.stripChars z ABC == "") = z.cps.toList.all inAbc := by
  have hz : z.cps.toList.length = z.length := by simp [Str.length]
  have e0 : Txt.stripChars z ABC = Builtin.Str.strSub z (stripLo ABC.cps.contains true z) (stripHi ABC.cps.contains true z (stripLo ABC.cps.contains true z)) := PyProof.Rows.stripBy_eq _ _ _ _
  obtain ⟨l1, l2, l3⟩ := PyProof.Rows.lo_facts ABC.cps.contains z
  obtain ⟨h1, h2, h3, h4⟩ := PyProof.Rows.hi_facts ABC.cps.contains z _ l1
  have hlo : stripLo ABC.cps.contains true z = (z.cps.toList.takeWhile ABC.cps.contains).length := by simp [stripLo]
  have hall : (stripLo ABC.cps.contains true z = z.length ↔ z.cps.toList.all inAbc = true) := by
    rw [hlo, ← hz, takeW_all]
    have : (fun c => ABC.cps.contains c) = inAbc := funext goes_abc
    show z.cps.toList.all (fun c => ABC.cps.contains c) = true ↔ _
    rw [this]
  have hl : (Builtin.Str.strSub z (stripLo ABC.cps.contains true z) (stripHi ABC.cps.contains true z (stripLo ABC.cps.contains true z))).cps.toList.length = stripHi ABC.cps.contains true z (stripLo ABC.cps.contains true z) - stripLo ABC.cps.contains true z := by
    rw [StrLaws.strSub_toList, List.length_take, List.length_drop, hz]; omega
  rw [e0]
  generalize stripLo ABC.cps.contains true z = lo at *
  generalize stripHi ABC.cps.contains true z lo = hi at *
  cases ha : z.cps.toList.all inAbc with
  | true =>
    have : lo = z.length := hall.mpr ha
    have e : (Builtin.Str.strSub z lo hi).cps.toList = [] := List.length_eq_zero_iff.mp (by omega)
    rw [beq_iff_eq]
    exact toList_inj e
  | false =>
    have : lo ≠ z.length := fun e => by rw [hall.mp e] at ha; cases ha
    have hlt : lo < hi := by
      refine Nat.lt_of_not_le fun hle => ?_
      have g1 := h3 lo (by omega) (by omega)
      rcases l3 with h | h
      · exact this h
      · rw [g1] at h; cases h
    refine beq_eq_false_iff_ne.mpr fun e => ?_
    rw [e] at hl
    have : (("" : Str).cps.toList.length) = 0 := rfl
    omega
section
variable {X : Cx}
def rStrip : V → List V → Hp → VK → Prop := fun x vs H Q => match x, vs with
  | .str z, [.str y] => z.length ≤ 1000000 ∧ Q (.str (Txt.stripChars z y)) H
  | _, _ => False
theorem mt_strip : MtM X "str.strip" rStrip := by
  intro pins s σ H x vs v us Q I rx rv h
  unfold rStrip at h
  split at h
  · next z y =>
    obtain ⟨hz, q⟩ := h
    obtain ⟨t, rfl⟩ := (show ∃ t, v = Value.str z t from rx)
    obtain ⟨u, rfl, ru⟩ := rv.one
    obtain ⟨t', rfl⟩ := (show ∃ t, u = Value.str y t from ru)
    have hsz : sizeLine = 16777216 := sizeLine_eq
    exact SC.stripChars (fun t' k => ⟨.str _, H, I.kept (t' := k) (fun b o e => e), ⟨_, rfl⟩, q⟩) (by omega)
  · exact h.elim
def rLeS : R2 := fun x y H Q => ∃ a b : Str, x = .str a ∧ y = .str b ∧ Q (.bl (!strLt b a)) H
theorem op_leS : OpR X (compareOp .LtE) rLeS := by
  intro pins s σ H x y v u Q I rx ry h
  obtain ⟨a, b, rfl, rfl, q⟩ := h
  obtain ⟨t, rfl⟩ := (show ∃ t, v = Value.str a t from rx)
  obtain ⟨t', rfl⟩ := (show ∃ t, u = Value.str b t from ry)
  exact PySem.P.le_str (fin_bl I q (by simp [strLt]))
end
inductive DA (P : Addr → Prop) (H : Hp) : Bool → V → PyData → Dt → Prop
  | str {m : Bool} {z : Str} (h : z.length ≤ 100000) : DA P H m (.str z) (.str z) (.str z)
  | non {m : Bool} : DA P H m .non .none .oth
  | bl {m : Bool} (b : Bool) : DA P H m (.bl b) (.bool b) .oth
  | int {m : Bool} (i : Int) : DA P H m (.int i) (.int i) .oth
  | tup {m : Bool} {a : Addr} {xs : List V} {ps : List PyData} {ds : List Dt} : P a → H a = some (.tup xs) → xs.length = ps.length → xs.length = ds.length → xs.length ≤ 1000 → (∀ i (h : i < xs.length) (h' : i < ps.length) (h'' : i < ds.length), DA P H m xs[i] ps[i] ds[i]) → DA P H m (.ref a) (.tuple ps) (.tup ds)
  | lst {a : Addr} {xs : List V} {ps : List PyData} {ds : List Dt} : P a → H a = some (.lst xs) → xs.length = ps.length → xs.length = ds.length → (∀ i (h : i < xs.length) (h' : i < ps.length) (h'' : i < ds.length), DA P H true xs[i] ps[i] ds[i]) → DA P H true (.ref a) (.list ps) .oth
  | dc0 {a : Addr} : P a → H a = some (.dK []) → DA P H false (.ref a) (.dict []) .oth
  | dc1 {a : Addr} {z : Str} {x : V} {p : PyData} {d : Dt} : P a → H a = some (.dK [(.inr z, x)]) → DA P H false x p d → DA P H false (.ref a) (.dict [(.str z, p)]) .oth
theorem DA.keep {P : Addr → Prop} {H H' : Hp} (s : ∀ a u, P a → H a = some u → H' a = some u) {m : Bool} {v : V} {p : PyData} {d : Dt} (h : DA P H m v p d) : DA P H' m v p d := by
  induction h with
  | str h => exact .str h
  | non => exact .non
  | bl b => exact .bl b
  | int i => exact .int i
  | tup q e h1 h2 h3 _ ih => exact .tup q (s _ _ q e) h1 h2 h3 ih
  | lst q e h1 h2 _ ih => exact .lst q (s _ _ q e) h1 h2 ih
  | dc0 q e => exact .dc0 q (s _ _ q e)
  | dc1 q e _ ih => exact .dc1 q (s _ _ q e) ih
theorem DA.same {P : Addr → Prop} {H H' : Hp} (s : Same H H') {m : Bool} {v : V} {p : PyData} {d : Dt} (h : DA P H m v p d) : DA P H' m v p d := h.keep fun a u _ e => s _ _ e
theorem DA.wide {P P' : Addr → Prop} {H : Hp} (w : ∀ a, P a → P' a) {m : Bool} {v : V} {p : PyData} {d : Dt} (h : DA P H m v p d) : DA P' H m v p d := by
  induction h with
  | str h => exact .str h
  | non => exact .non
  | bl b => exact .bl b
  | int i => exact .int i
  | tup q e h1 h2 h3 _ ih => exact .tup (w _ q) e h1 h2 h3 ih
  | lst q e h1 h2 _ ih => exact .lst (w _ q) e h1 h2 ih
  | dc0 q e => exact .dc0 (w _ q) e
  | dc1 q e _ ih => exact .dc1 (w _ q) e ih
theorem DA.dd {P : Addr → Prop} {H : Hp} {m : Bool} {v : V} {p : PyData} {d : Dt} (h : DA P H m v p d) : DD H v d := by
  induction h with
  | str h => exact .str h
  | non => exact .non
  | bl b => exact .bl b
  | int i => exact .int i
  | tup _ e h1 h2 h3 _ ih => exact .tup e h2 h3 fun i a b => ih i a (by omega) b
  | lst _ e h1 h2 _ ih => exact .lst e
  | dc0 _ e => exact .dct e
  | dc1 _ e _ ih => exact .dct e
theorem reads_all {h : Heap} {m : Bool} : ∀ {xs : List V} {us : List Value} {ps : List PyData}, Vals xs us → xs.length = ps.length → (∀ i (a : i < xs.length) (b : i < ps.length) (u : Value), RelV xs[i] u → ∃ as, Reads h u ps[i] as ∧ (m = true → ps[i].hasDict = false) ∧ (m = false → sysModules ∉ as)) → ∃ as, ReadsAll h us ps as ∧ (m = true → PyData.hasDictAll ps = false) ∧ (m = false → sysModules ∉ as)
  | [], _, [], .nil, _, _ => ⟨[], .nil, (fun _ => by simp [PyData.hasDictAll]), (fun _ => by simp)⟩
  | x :: xs, _, p :: ps, .cons r rs, hl, q => by
    obtain ⟨as, ra, a1, a2⟩ := q 0 (by simp) (by simp) _ r
    obtain ⟨bs, rb, b1, b2⟩ := reads_all rs (by simpa using hl) fun i a b u ru => q (i + 1) (by simpa using a) (by simpa using b) u ru
    refine ⟨as ++ bs, .cons ra rb, fun hm => ?_, fun hm => ?_⟩
    · have h1 : p.hasDict = false := a1 hm
      simp [PyData.hasDictAll, h1, b1 hm]
    · rw [List.mem_append]
      exact fun z => z.elim (a2 hm) (b2 hm)
theorem DA.reads {PP : Addr → Prop} {P : Program} {w : World} {H : Hp} {h : Heap} (ok : HOk P w H h) {m : Bool} {v : V} {p : PyData} {d : Dt} (q : DA PP H m v p d) : ∀ u, RelV v u → ∃ as, Reads h u p as ∧ (m = true → p.hasDict = false) ∧ (m = false → sysModules ∉ as) := by
  induction q with
  | @str m z _ => intro u r; obtain ⟨t, rfl⟩ := (show ∃ t, u = Value.str z t from r); exact ⟨[], .str z t, (fun _ => by simp [PyData.hasDict]), (fun _ => by simp)⟩
  | non => intro u r; cases (show u = Value.none from r); exact ⟨[], .none, (fun _ => by simp [PyData.hasDict]), (fun _ => by simp)⟩
  | bl b => intro u r; cases (show u = Value.bool b from r); exact ⟨[], .bool b, (fun _ => by simp [PyData.hasDict]), (fun _ => by simp)⟩
  | int i => intro u r; obtain ⟨t, rfl⟩ := (show ∃ t, u = Value.int i t from r); exact ⟨[], .int i t, (fun _ => by simp [PyData.hasDict]), (fun _ => by simp)⟩
  | @tup m a xs ps ds _ e h1 h2 h3 _ ih =>
    intro u r
    cases (show u = Value.ref a from r)
    obtain ⟨_, its, rv, o, ho, hc, n, hd⟩ := (show ObjOk P w H h a (.tup xs) from ok a _ e)
    obtain ⟨as, ra, a1, a2⟩ := reads_all (m := m) rv h1 fun i x y u ru => ih i x y (by omega) u ru
    exact ⟨as, .tuple ho hc hd (by simpa using ra), (fun hm => by simp [PyData.hasDict, a1 hm]), a2⟩
  | @lst a xs ps ds _ e h1 h2 _ ih =>
    intro u r
    cases (show u = Value.ref a from r)
    obtain ⟨_, its, n, rv, ho⟩ := (show ObjOk P w H h a (.lst xs) from ok a _ e)
    obtain ⟨as, ra, a1, a2⟩ := reads_all (m := true) rv h1 fun i x y u ru => ih i x y (by omega) u ru
    exact ⟨a :: as, .list ho rfl rfl (by simpa using ra), (fun hm => by simp [PyData.hasDict, a1 hm]), (fun hm => by cases hm)⟩
  | @dc0 a _ e =>
    intro u r
    cases (show u = Value.ref a from r)
    obtain ⟨_, hd, vs, rel, o, es, ep, ho, hx, hdat, hk, hp⟩ := dk_of ok e
    cases rel
    obtain ⟨q1, _⟩ := hp
    have e0 : es.toList = [] := by cases hq : es.toList with
      | nil => rfl
      | cons x l => rw [hq] at q1; cases q1
    have r0 : Reads h (.ref a) (.dict ([] : List (PyData × PyData))) (a :: [] ++ []) := .dict ho hx.1 hdat (by rw [e0]; exact .nil) (by rw [e0]; exact .nil)
    exact ⟨_, r0, (fun hm => by cases hm), fun _ => by simpa using (Ne.symm (by simpa using hd) : sysModules ≠ a)⟩
  | @dc1 a z x p d _ e _ ih =>
    intro u r
    cases (show u = Value.ref a from r)
    obtain ⟨_, hd, vs, rel, o, es, ep, ho, hx, hdat, hk, hp⟩ := dk_of ok e
    obtain ⟨q1, _⟩ := hp
    cases rel with
    | @cons _ kv _ _ r1 r2 =>
      cases r2
      obtain ⟨k1, rv⟩ := r1
      generalize hes : es.toList = l at q1
      cases q1 with
      | @cons en kv l l' qk qv rest =>
        cases rest
        obtain ⟨as, ra, _, a2⟩ := ih _ rv
        have hkey : (mixKind P w).is (.inr z) en.key = true := by
          have : kv.1 = .inr z := k1.symm
          rw [← this]; exact qk
        obtain ⟨t, et⟩ := (show ∃ t, en.key = Value.str z t from relV_key (k := .inr z) hkey)
        have r0 : Reads h (.ref a) (.dict [(.str z, p)]) (a :: ([] ++ []) ++ (as ++ [])) := .dict ho hx.1 hdat (by rw [hes]; show ReadsAll h [en.key] [.str z] _; rw [et]; exact .cons (.str z t) .nil) (by rw [hes]; show ReadsAll h [en.val] [p] _; rw [qv]; exact .cons ra .nil)
        refine ⟨_, r0, (fun hm => by cases hm), fun _ hm => ?_⟩
        simp only [List.append_nil, List.mem_cons, List.cons_append, List.nil_append] at hm
        rcases hm with hm | hm
        · exact (by simpa using hd : a ≠ sysModules) hm.symm
        · exact a2 rfl hm
structure DB (P : Addr → Prop) (H : Hp) (m : Bool) (v : V) (k n : Nat) : Prop where
  ex : ∃ p d, DA P H m v p d ∧ p.depth ≤ k ∧ p.shown.length ≤ n ∧ p.showable = true
section
variable {P P' : Addr → Prop} {H H' : Hp} {m : Bool} {v : V} {k n k' n' : Nat} {a : Addr} {xs : List V}
theorem DB.keep (h : DB P H m v k n) (s : ∀ a u, P a → H a = some u → H' a = some u) : DB P H' m v k n := let ⟨p, d, h1, h2⟩ := h.ex; ⟨p, d, h1.keep s, h2⟩
theorem DB.wide (h : DB P H m v k n) (w : ∀ a, P a → P' a) : DB P' H m v k n := let ⟨p, d, h1, h2⟩ := h.ex; ⟨p, d, h1.wide w, h2⟩
theorem DB.same (h : DB P H m v k n) (s : Same H H') : DB P H' m v k n := let ⟨p, d, h1, h2⟩ := h.ex; ⟨p, d, h1.same s, h2⟩
theorem DB.mono (h : DB P H m v k n) (hk : k ≤ k') (hn : n ≤ n') : DB P H m v k' n' := let ⟨p, d, h1, h2, h3, h4⟩ := h.ex; ⟨p, d, h1, by omega, by omega, h4⟩
theorem DB.str {z : Str} (h : Wd z) : DB P H m (.str z) 0 202 := by
  refine ⟨.str z, .str z, .str (by have := h.1; omega), by simp [PyData.depth], ?_, by simp [PyData.showable]⟩
  simp only [PyData.shown]
  have := StrLaws.reprText_len z (fun c hc => Nat.lt_of_lt_of_le (h.2 c hc) (by decide))
  have := h.1
  omega
theorem DB.non : DB P H m .non 0 202 := ⟨.none, .oth, .non, by simp [PyData.depth], by simp only [PyData.shown]; decide, by simp [PyData.showable]⟩
theorem DB.int {i : Int} (h1 : (toString i : Str).length ≤ 202) (h2 : i.natAbs.log2 < 1920) : DB P H m (.int i) 0 202 := ⟨.int i, .oth, .int i, by simp [PyData.depth], by simpa only [PyData.shown] using h1, by simp [PyData.showable, h2]⟩
theorem db_all (h : ∀ x ∈ xs, DB P H m x k n) : ∃ (ps : List PyData) (ds : List Dt), xs.length = ps.length ∧ xs.length = ds.length ∧ (∀ i (a : i < xs.length) (b : i < ps.length) (c : i < ds.length), DA P H m xs[i] ps[i] ds[i]) ∧ PyData.depthAll ps ≤ k ∧ ((PyData.shownAll ps).map (·.length)).sum ≤ xs.length * n ∧ (PyData.shownAll ps).length = xs.length ∧ PyData.showableAll ps = true := by
  have hc : ∀ i : Fin xs.length, ∃ pd : PyData × Dt, DA P H m xs[i.val] pd.1 pd.2 ∧ pd.1.depth ≤ k ∧ pd.1.shown.length ≤ n ∧ pd.1.showable = true := fun i => by
    obtain ⟨p, d, r⟩ := (h _ (List.getElem_mem i.isLt)).ex
    exact ⟨(p, d), r⟩
  obtain ⟨f, hf⟩ := Classical.axiomOfChoice hc
  have hm : ∀ q ∈ List.ofFn (fun i => (f i).1), q.depth ≤ k ∧ q.shown.length ≤ n ∧ q.showable = true := fun q hq => by
    obtain ⟨i, rfl⟩ := List.mem_ofFn.mp hq
    exact (hf i).2
  have e2 : PyData.shownAll (List.ofFn fun i => (f i).1) = (List.ofFn fun i => (f i).1).map PyData.shown := shownAll_eq_map _
  have h3 : (PyData.shownAll (List.ofFn fun i => (f i).1)).length = xs.length := by rw [e2]; simp
  refine ⟨List.ofFn fun i => (f i).1, List.ofFn fun i => (f i).2, by simp, by simp, fun i a b c => ?_, depthAll_le fun q hq => (hm q hq).1, ?_, h3, showableAll_of fun q hq => (hm q hq).2.2⟩
  · have := (hf ⟨i, a⟩).1
    simpa using this
  · have h2 := sum_le (ts := PyData.shownAll (List.ofFn fun i => (f i).1)) (n := n) fun t ht => by
      rw [e2] at ht
      obtain ⟨q, hq, rfl⟩ := List.mem_map.mp ht
      exact (hm q hq).2.1
    rw [h3] at h2
    exact h2
theorem DB.tup (hP : P a) (e : H a = some (.tup xs)) (hl : xs.length ≤ 1000) (h : ∀ x ∈ xs, DB P H m x k n) : DB P H m (.ref a) (k + 1) (xs.length * (n + 2) + 3) := by
  obtain ⟨ps, ds, l1, l2, q, d1, d2, d3, d4⟩ := db_all h
  refine ⟨.tuple ps, .tup ds, .tup hP e l1 l2 hl q, by simp only [PyData.depth]; omega, ?_, by simpa only [PyData.showable] using d4⟩
  simp only [PyData.shown]
  have h1 := tupleText_len_le (PyData.shownAll ps)
  rw [d3] at h1
  rw [Nat.mul_add]; omega
theorem DB.lst (hP : P a) (e : H a = some (.lst xs)) (h : ∀ x ∈ xs, DB P H true x k n) : DB P H true (.ref a) (k + 1) (xs.length * (n + 2) + 3) := by
  obtain ⟨ps, ds, l1, l2, q, d1, d2, d3, d4⟩ := db_all h
  refine ⟨.list ps, .oth, .lst hP e l1 l2 q, by simp only [PyData.depth]; omega, ?_, by simpa only [PyData.showable] using d4⟩
  simp only [PyData.shown]
  have h1 := listText_len_le (PyData.shownAll ps)
  rw [d3] at h1
  rw [Nat.mul_add]; omega
theorem DB.dc0 (hP : P a) (e : H a = some (.dK [])) : DB P H false (.ref a) 1 202 := ⟨.dict [], .oth, .dc0 hP e, by simp [PyData.depth, PyData.depthKv], by simp only [PyData.shown, PyData.shownKv]; decide, by simp [PyData.showable, PyData.showableKv]⟩
theorem DB.dc1 {z : Str} (hP : P a) (e : H a = some (.dK [(.inr z, v)])) (hz : Wd z) (h : DB P H false v k n) : DB P H false (.ref a) (k + 1) (n + 300) := by
  obtain ⟨p, d, q, d1, d2, d3⟩ := h.ex
  refine ⟨.dict [(.str z, p)], .oth, .dc1 hP e q, by simp [PyData.depth, PyData.depthKv]; omega, ?_, by simp [PyData.showable, PyData.showableKv, d3]⟩
  simp only [PyData.shown, PyData.shownKv]
  have h1 := dictText_len_le [reprText z ++ ": " ++ p.shown]
  have h2 := StrLaws.reprText_len z (fun c hc => Nat.lt_of_lt_of_le (hz.2 c hc) (by decide))
  have h3 := hz.1
  have h4 : (": " : Str).length = 2 := rfl
  simp only [List.map_cons, List.map_nil, List.sum_cons, List.sum_nil, List.length_cons, List.length_nil, Str.length_append] at h1
  omega
end
section
variable {X : Cx}
def rReprM : List V → Hp → VK → Prop := fun xs H Q => ∃ (PP : Addr → Prop) (m : Bool) (v : V) (p : PyData) (d : Dt), xs = [v] ∧ DA PP H m v p d ∧ p.showable = true ∧ p.shown.length ≤ sizeLine ∧ p.depth ≤ 60 ∧ Q (.str p.shown) H
theorem call_reprM (hg : X.A.guards = some []) (hu : X.A.units + 64 < cLine) : CallR X (.builtin "repr") rReprM := by
  intro pins s σ H xs us Q I r h
  obtain ⟨PP, m, v, p, d, rfl, hd, h1, h3, h4, q⟩ := h
  obtain ⟨u, rfl, ru⟩ := r.one
  obtain ⟨as, ra, a1, a2⟩ := hd.reads I.hok u ru
  have hsm : p.hasDict = true → sysModules ∉ as := fun hx => by
    cases m with
    | true => rw [a1 rfl] at hx; cases hx
    | false => exact a2 rfl
  have fin : ∀ (h' : Heap) (u : Tok) (tk : Nat), (∀ b o, s.heap.get? b = some o → h'.get? b = some o) → EP X pins σ Q (.str p.shown u) { s with heap := h', toks := tk } := fun h' u tk hk => ⟨.str p.shown, H, I.kept (t' := tk) hk, ⟨u, rfl⟩, q⟩
  cases ra with
  | none => exact PySem.P.repr_of_none (by simpa only [PyData.shown] using fin s.heap _ _ fun _ _ e => e)
  | bool b => exact PySem.P.repr_of_bool (by simpa only [PyData.shown] using fin s.heap _ _ fun _ _ e => e)
  | int i t => exact PySem.P.repr_of_int (by simpa [PyData.showable] using h1) (by simpa only [PyData.shown] using fin s.heap _ _ fun _ _ e => e)
  | str x t => exact PySem.P.repr_of_str (by simpa only [PyData.shown] using fin s.heap _ _ fun _ _ e => e) (by simpa only [PyData.shown] using h3)
  | list e1 e2 e3 e4 => exact repr_of_reads' (.list e1 e2 e3 e4) h1 hsm hg (by omega) (fun _ _ e => e) fin h3
  | tuple e1 e2 e3 e4 => exact repr_of_reads' (.tuple e1 e2 e3 e4) h1 hsm hg (by omega) (fun _ _ e => e) fin h3
  | dict e1 e2 e3 e4 e5 => exact repr_of_reads' (.dict e1 e2 e3 e4 e5) h1 hsm hg (by omega) (fun _ _ e => e) fin h3
end
def BB : Nat → Nat
  | 0 => 202
  | k + 1 => 4 * (BB k + 2) + 3
theorem BB_le : ∀ {k k' : Nat}, k ≤ k' → BB k ≤ BB k'
  | 0, 0, _ => Nat.le_refl _
  | k + 1, 0, h => absurd h (by omega)
  | k, k' + 1, h => by
    rcases Nat.lt_or_eq_of_le h with h | h
    · have := BB_le (show k ≤ k' by omega)
      show _ ≤ 4 * (BB k' + 2) + 3
      omega
    · subst h; exact Nat.le_refl _
section
variable {P : Addr → Prop} {m : Bool} {σ : St} {H0 : Hp} {te : TE} {ta : TA} {k c : Nat}
def Gd (P : Addr → Prop) (m : Bool) (σ : St) (H0 : Hp) (te : TE) (k : Nat) : Prop := ∀ (H : Hp) (Q : VK), Same H0 H → (∀ v H', Same H H' → DB P H' m v k (BB k) → Q v H') → te σ H Q
def GdA (P : Addr → Prop) (m : Bool) (σ : St) (H0 : Hp) (ta : TA) (k c : Nat) : Prop := ∀ (H : Hp) (Q : List V → Hp → Prop), Same H0 H → (∀ vs H', Same H H' → vs.length = c → (∀ v ∈ vs, DB P H' m v k (BB k)) → Q vs H') → ta σ H Q
def GdL (P : Addr → Prop) (σ : St) (H0 : Hp) (ta : TA) (k c : Nat) : Prop := ∀ (H : Hp) (Q : List V → Hp → Prop), Same H0 H → (∀ vs H', Same H H' → vs.length = c → (∀ v ∈ vs, ∃ m, DB P H' m v k (BB k)) → Q vs H') → ta σ H Q
theorem DB.up {H : Hp} {v : V} (h : DB P H m v 0 202) : DB P H m v k (BB k) := h.mono (Nat.zero_le _) (BB_le (Nat.zero_le k))
theorem gd_v {i : Nat} {v : V} (e : σ[i]? = some (some v)) (h : ∀ m, DB P H0 m v 0 202) : Gd P m σ H0 (tV i) k := fun H Q s q => by
  unfold tV
  rw [e]
  exact q v H (Same.refl H) (((h m).same s).up)
theorem gd_c {v : V} (h : ∀ H, DB P H m v 0 202) : Gd P m σ H0 (tC v) k := fun H Q s q => q v H (Same.refl H) ((h H).up)
theorem gd_tup (hP : ∀ a, H0 a = none → P a) (h : GdA P m σ H0 ta k c) (hc : c ≤ 4) : Gd P m σ H0 (tTup ta) (k + 1) := fun H Q s q => by
  refine h H _ s fun vs H1 s1 hl hv => ⟨by have : sizeLine = 16777216 := sizeLine_eq; omega, fun p hp => ?_⟩
  have s2 := Same.upd hp (.tup vs)
  refine q _ _ (s1.trans s2) ((DB.tup (hP _ ((s.trans s1).free hp)) upd_same (by omega) fun x hx => (hv x hx).same s2).mono (Nat.le_refl _) ?_)
  show _ ≤ 4 * (BB k + 2) + 3
  have := Nat.mul_le_mul_right (BB k + 2) (show vs.length ≤ 4 by omega)
  omega
theorem gd_lst (hP : ∀ a, H0 a = none → P a) (h : GdA P true σ H0 ta k c) (hc : c ≤ 4) : Gd P true σ H0 (tLst ta) (k + 1) := fun H Q s q => by
  refine h H _ s fun vs H1 s1 hl hv => ⟨by have : sizeLine = 16777216 := sizeLine_eq; omega, fun p hp => ?_⟩
  have s2 := Same.upd hp (.lst vs)
  refine q _ _ (s1.trans s2) ((DB.lst (hP _ ((s.trans s1).free hp)) upd_same fun x hx => (hv x hx).same s2).mono (Nat.le_refl _) ?_)
  show _ ≤ 4 * (BB k + 2) + 3
  have := Nat.mul_le_mul_right (BB k + 2) (show vs.length ≤ 4 by omega)
  omega
theorem gd_dn (hP : ∀ a, H0 a = none → P a) : Gd P false σ H0 tDNewK (k + 1) := fun H Q s q p hp => q _ _ (Same.upd hp _) ((DB.dc0 (hP _ (s.free hp)) upd_same).mono (by omega) (BB_le (Nat.zero_le (k + 1))))
theorem gda_nil : GdA P m σ H0 tNil k 0 := fun H Q s q => q [] H (Same.refl H) rfl (fun _ h => nomatch h)
theorem gda_cons (h : Gd P m σ H0 te k) (hr : GdA P m σ H0 ta k c) : GdA P m σ H0 (tCons te ta) k (c + 1) := fun H Q s q => by
  refine h H _ s fun v H1 s1 hv => hr H1 _ (s.trans s1) fun vs H2 s2 hl hvs => q (v :: vs) H2 (s1.trans s2) (by simp [hl]) fun x hx => ?_
  rcases List.mem_cons.mp hx with rfl | hx
  · exact hv.same s2
  · exact hvs x hx
theorem gdl_nil : GdL P σ H0 tNil k 0 := fun H Q s q => q [] H (Same.refl H) rfl (fun _ h => nomatch h)
theorem gdl_cons (h : ∃ m, Gd P m σ H0 te k) (hr : GdL P σ H0 ta k c) : GdL P σ H0 (tCons te ta) k (c + 1) := fun H Q s q => by
  obtain ⟨m, h⟩ := h
  refine h H _ s fun v H1 s1 hv => hr H1 _ (s.trans s1) fun vs H2 s2 hl hvs => q (v :: vs) H2 (s1.trans s2) (by simp [hl]) fun x hx => ?_
  rcases List.mem_cons.mp hx with rfl | hx
  · exact ⟨m, hv.same s2⟩
  · exact hvs x hx
end
theorem DA.of {P : Addr → Prop} {H : Hp} {m : Bool} {v : V} {d : Dt} (hP : ∀ a xs, H a = some (.tup xs) → P a) (h : TX H v d) : ∀ {p : PyData}, TDen H v p → DA P H m v p d := by
  induction h with
  | str h => intro p q; cases q; exact .str h
  | tup e hl hn _ ih =>
    intro p q
    cases q with
    | tup e' hl' q' =>
      rw [e] at e'
      cases e'
      exact .tup (hP _ _ e) e hl' hl hn fun i a b c => ih i a c (q' i a b)
theorem DB.of {P : Addr → Prop} {H : Hp} {m : Bool} {v : V} {d : Dt} {k n : Nat} (hP : ∀ a xs, H a = some (.tup xs) → P a) (h : TX H v d) (t : TB H v k n) : DB P H m v k n := by
  obtain ⟨p, h1, h2, h3, h4, _⟩ := t
  exact ⟨p, d, DA.of hP h h1, h2, h3, h4⟩
section
variable {X : Cx} {pos : Pos}
end
theorem inV_strs (y : Str) (zs : List Str) : inV (.str y) (zs.map V.str) = decide (y ∈ zs) := by
  rw [Bool.eq_iff_iff, decide_eq_true_iff]
  unfold inV
  rw [List.any_map, List.any_eq_true]
  constructor
  · rintro ⟨a, ha, e⟩
    have e' : (a == y) = true := e
    rw [← eq_of_beq e']; exact ha
  · intro h
    exact ⟨y, h, (beq_self_eq_true y : (y == y) = true)⟩
theorem flat_strs (zs : List Str) : (zs.map V.str).all flatV = true := by
  rw [List.all_map, List.all_eq_true]
  intro x _; rfl
def inN (zs : List Str) : Dt → Bool | .str z => decide (z ∈ zs) | _ => false
def pairsL (zs : List Str) : Str → List Dt → Bool
  | _, [] => true
  | last, .tup [a, b] :: ds => nameD a && strLt last (strD a) && inN zs b && pairsL zs (strD a) ds
  | _, _ :: _ => false
def prsT (zs : List Str) : List Dt → Bool
  | [.tup ps] => pairsL zs "" ps
  | _ => false
theorem prsT_ne {zs : List Str} : ∀ {l : List Dt}, l.length ≠ 1 → prsT zs l = false
  | [], _ => rfl
  | [_], h => (h rfl).elim
  | x :: y :: r, _ => by cases x <;> rfl
def headT (zs : List Str) : Dt → Bool
  | .tup (.str s :: rest) => if s == "all" || s == "none" then rest.isEmpty else if s == "way" || s == "as" then decide (rest.length = (if s == "way" then 2 else 1)) && rest.all (inN zs) else if worded s then prsT zs rest else false
  | _ => false
theorem inN_eq {zs : List Str} (hz : ∀ z ∈ zs, isName z = true) (d : Dt) : inN zs d = (nameD d && decide (strOf d ∈ zs)) := by
  cases d with
  | str z =>
    show decide (z ∈ zs) = (isName z && decide (z ∈ zs))
    by_cases h : z ∈ zs
    · rw [decide_eq_true h, hz z h]; rfl
    · rw [decide_eq_false h, Bool.and_false]
  | _ => rfl
theorem all_inN {zs : List Str} (hz : ∀ z ∈ zs, isName z = true) : ∀ ds : List Dt, ds.all (inN zs) = (ds.all nameD && (ds.map strOf).all fun n => decide (n ∈ zs))
  | [] => rfl
  | d :: ds => by
    rw [List.all_cons, List.all_cons, List.map_cons, List.all_cons, all_inN hz ds, inN_eq hz]
    cases nameD d <;> cases decide (strOf d ∈ zs) <;> cases ds.all nameD <;> rfl
theorem pairsL_eq {zs : List Str} (hz : ∀ z ∈ zs, isName z = true) : ∀ (ps : List Dt) (last : Str), pairsL zs last ps = (ps.all pairD && rising (last :: ps.map fstS) && (ps.map sndS).all fun n => decide (n ∈ zs))
  | [], _ => rfl
  | .str _ :: _, _ => rfl
  | .oth :: _, _ => rfl
  | .tup [] :: _, _ => rfl
  | .tup [_] :: _, _ => rfl
  | .tup (_ :: _ :: _ :: _) :: _, _ => rfl
  | .tup [a, b] :: ps, last => by
    have ih := pairsL_eq hz ps (strD a)
    rw [pairsL, ih, inN_eq hz, List.all_cons, List.map_cons, List.map_cons, List.all_cons]
    have e1 : pairD (.tup [a, b]) = (nameD a && nameD b) := rfl
    have e2 : sndS (.tup [a, b]) = strOf b := by cases b <;> rfl
    have e3 : nameD a = true → fstS (.tup [a, b]) = strD a := by
      intro h
      cases a with
      | str z => rfl
      | _ => exact Bool.noConfusion h
    rw [e1, e2]
    cases ha : nameD a with
    | false => simp
    | true =>
      rw [e3 ha]
      have e4 : rising (last :: strD a :: ps.map fstS) = (strLt last (strD a) && rising (strD a :: ps.map fstS)) := rfl
      rw [e4]
      cases strLt last (strD a) <;> cases nameD b <;> cases decide (strOf b ∈ zs) <;> cases ps.all pairD <;> cases rising (strD a :: ps.map fstS) <;> rfl
theorem rising_empty {ws : List Str} (h : ∀ w ∈ ws, isName w = true) : rising ("" :: ws) = rising ws := by
  cases ws with
  | nil => rfl
  | cons a r =>
    have : strLt "" a = true := by
      have h1 := h a List.mem_cons_self
      unfold isName at h1
      simp only [Bool.and_eq_true, decide_eq_true_eq] at h1
      have h2 := h1.1.1.1
      unfold strLt
      refine decide_eq_true ?_
      cases hc : a.cps.toList with
      | nil =>
        have : a.length = 0 := by rw [show a.length = a.cps.toList.length by simp [Str.length], hc]; rfl
        omega
      | cons c l => exact List.nil_lt_cons c l
    show (strLt "" a && rising (a :: r)) = _
    rw [this, Bool.true_and]
theorem pairD_fst {d : Dt} (h : pairD d = true) : isName (fstS d) = true := by
  match d, h with
  | .str _, h => exact Bool.noConfusion h
  | .oth, h => exact Bool.noConfusion h
  | .tup [], h => exact Bool.noConfusion h
  | .tup [_], h => exact Bool.noConfusion h
  | .tup (_ :: _ :: _ :: _), h => exact Bool.noConfusion h
  | .tup [a, b], h =>
    simp only [pairD, Bool.and_eq_true] at h
    cases a with
    | str z => exact h.1
    | tup _ => exact Bool.noConfusion h.1
    | oth => exact Bool.noConfusion h.1
theorem prsT_eq {zs : List Str} (hz : ∀ z ∈ zs, isName z = true) (ps : List Dt) : pairsL zs "" ps = (pairsD (.tup ps) && (ps.map sndS).all fun n => decide (n ∈ zs)) := by
  rw [pairsL_eq hz]
  show _ = (ps.all pairD && rising (ps.map fstS) && _)
  cases h : ps.all pairD with
  | false => simp
  | true =>
    rw [rising_empty fun w hw => ?_]
    obtain ⟨d, hd, rfl⟩ := List.mem_map.mp hw
    exact pairD_fst (List.all_eq_true.mp h d hd)
theorem headT_eq {zs : List Str} (hz : ∀ z ∈ zs, isName z = true) (d : Dt) : headT zs d = (headD d && (namesD d).all fun n => decide (n ∈ zs)) := by
  match d with
  | .str _ => rfl
  | .oth => rfl
  | .tup [] => rfl
  | .tup (.tup _ :: _) => rfl
  | .tup (.oth :: _) => rfl
  | .tup (.str s :: rest) =>
    by_cases h1 : (s == "all" || s == "none") = true
    · have hw : worded s = false := by
        rw [Bool.or_eq_true] at h1
        rcases h1 with h | h <;> rw [eq_of_beq h] <;> decide +kernel
      have hb : behindN s = some 0 := by
        rw [Bool.or_eq_true] at h1
        rcases h1 with h | h <;> rw [eq_of_beq h] <;> decide +kernel
      simp only [headT, h1, if_true, headD, namesD, hw, hb, Bool.false_eq_true, if_false]
      cases rest with
      | nil => rfl
      | cons x r => simp
    · have h1' : (s == "all" || s == "none") = false := by simpa using h1
      by_cases h2 : (s == "way" || s == "as") = true
      · have hw : worded s = false := by
          rw [Bool.or_eq_true] at h2
          rcases h2 with h | h <;> rw [eq_of_beq h] <;> decide +kernel
        have hb : behindN s = some (if s == "way" then 2 else 1) := by
          rw [Bool.or_eq_true] at h2
          rcases h2 with h | h <;> rw [eq_of_beq h] <;> decide +kernel
        simp only [headT, h1', h2, if_true, headD, namesD, hw, hb, Bool.false_eq_true, if_false]
        rw [all_inN hz, Bool.and_assoc]
      · have h2' : (s == "way" || s == "as") = false := by simpa using h2
        cases hw : worded s with
        | true =>
          simp only [headT, h1', h2', headD, namesD, hw, if_true, Bool.false_eq_true, if_false]
          match rest with
          | [] => rfl
          | [.tup ps] => exact prsT_eq hz ps
          | [.str _] => rfl
          | [.oth] => rfl
          | x :: y :: r => cases x <;> rfl
        | false =>
          have hb : behindN s = none := by
            have : ∀ z : Str, (s == "all" || s == "none") = false → (s == "way" || s == "as") = false → behindN s = none := fun _ a b => by
              simp only [Bool.or_eq_false_iff] at a b
              simp only [behindN, a.1, a.2, b.1, b.2, Bool.false_eq_true, if_false]
            exact this s h1' h2'
          simp only [headT, h1', h2', headD, hw, hb, Bool.false_eq_true, if_false, Bool.false_and]
theorem stps_add {nx : Str → Option Str} : ∀ (a b : Nat) (x : Str), stps nx (a + b) x = stps nx b (stps nx a x)
  | 0, b, x => by rw [Nat.zero_add]; rfl
  | a + 1, b, x => by rw [show a + 1 + b = (a + b) + 1 by omega]; exact stps_add a b (stp nx x)
theorem leads_iff {nx : Str → Option Str} : ∀ (n : Nat) (x : Str), (leadsOut nx n x = true ↔ ∃ k, k < n ∧ nx (stps nx k x) = none)
  | 0, x => by simp [leadsOut]
  | n + 1, x => by
    rw [leadsOut]
    cases e : nx x with
    | none => simp only [true_iff]; exact ⟨0, by omega, e⟩
    | some y =>
      have ih := leads_iff (nx := nx) n y
      have es : stp nx x = y := by simp [stp, e]
      show leadsOut nx n y = true ↔ _
      rw [ih]
      constructor
      · rintro ⟨k, hk, h⟩
        exact ⟨k + 1, by omega, by show nx (stps nx k (stp nx x)) = none; rw [es]; exact h⟩
      · rintro ⟨k, hk, h⟩
        cases k with
        | zero => rw [show stps nx 0 x = x from rfl, e] at h; cases h
        | succ k => exact ⟨k, by omega, by rw [← es]; exact h⟩
theorem leads_end {nx : Str → Option Str} {S : List Str} (hS : ∀ x ∈ S, ∀ y, nx x = some y → y ∈ S) {x : Str} (hx : x ∈ S) : leadsOut nx S.length x = decide (nx (stps nx S.length x) = none) := by
  have inS : ∀ k, stps nx k x ∈ S := by
    intro k
    induction k with
    | zero => exact hx
    | succ k ih =>
      rw [stps_succ]
      unfold stp
      cases e : nx (stps nx k x) with
      | none => exact ih
      | some y => exact hS _ ih y e
  rw [Bool.eq_iff_iff, leads_iff, decide_eq_true_iff]
  constructor
  · rintro ⟨k, hk, h⟩
    rw [show S.length = k + (S.length - k) by omega, stps_add, stps_stay _ h]
    exact h
  · intro h
    refine Classical.byContradiction fun hno => ?_
    have hall : ∀ k, k < S.length → nx (stps nx k x) ≠ none := fun k hk e => hno ⟨k, hk, e⟩
    have hnd : ¬ ((List.range (S.length + 1)).map fun k => stps nx k x).Nodup := fun nd => by
      have := length_le_of_nodup_of_subset _ S nd fun a ha => by
        obtain ⟨k, _, rfl⟩ := List.mem_map.mp ha
        exact inS k
      simp at this
      omega
    rw [List.Nodup, List.pairwise_map, List.pairwise_iff_getElem] at hnd
    refine hnd fun i j hi hj hij e => ?_
    simp only [List.length_range] at hi hj
    simp only [List.getElem_range] at e
    have e1 : stps nx S.length x = stps nx (S.length - j + i) x := by
      rw [show S.length = j + (S.length - j) by omega, stps_add, ← e, ← stps_add]
      congr 1
      omega
    rw [e1] at h
    exact hall _ (by omega) h
section
variable {X : Cx} {tg iter kx vx : Expr} {ifs : List Expr} {sc : Scope} {pos : Pos} {own : List Str} {idx : List Nat} {N' : List Str} {wi : TI} {g : TG} {tc : TC} {tk tw : TE}
end
section
variable {X : Cx} {e o value : Expr} {es : List Expr} {te ta tv : TE} {t : TA} {f x : Str} {pos pos' p : Pos} {C : Addr} {k : Nat} {ps : List Str} {sp : Sp}
end
section
variable {X : Cx}
end
section
variable {X : Cx} {elts : List Expr} {k : Nat} {tpos apos cpos : Pos} {o : Expr} {to : TE}
end
end L2
set_option maxRecDepth 100000
namespace PySem
end PySem
namespace L2
open PySem PySem.Spec PyProof.Rows
section
variable {X : Cx}
end
end L2
set_option maxRecDepth 100000
namespace L2
open PySem PySem.Spec PyProof.Rows
section
variable {X : Cx} {pins : List (Addr × Obj)} {σ : St} {H : Hp} {s : Shared}
theorem countP_pair {α β : Type} (p : α → Bool) (q : β → Bool) : ∀ (xs : List α) (ys : List β), xs.length = ys.length → (∀ i (h : i < xs.length) (h' : i < ys.length), p xs[i] = q ys[i]) → xs.countP p = ys.countP q
  | [], [], _, _ => rfl
  | x :: xs, y :: ys, hl, h => by
    have h0 := h 0 (by simp) (by simp)
    simp only [List.getElem_cons_zero] at h0
    rw [List.countP_cons, List.countP_cons, h0, countP_pair p q xs ys (by simpa using hl) fun i a b => by
      have := h (i + 1) (Nat.succ_lt_succ a) (Nat.succ_lt_succ b)
      simp only [List.getElem_cons_succ] at this
      exact this]
  | [], _ :: _, hl, _ => by simp at hl
  | _ :: _, [], hl, _ => by simp at hl
end
section
variable {X : Cx} {o e : Expr} {es : List Expr} {apos cpos : Pos} {to : TE} {t : TA}
end
def Sx (x : Addr) (H H' : Hp) : Prop := ∀ b o, b ≠ x → H b = some o → H' b = some o
theorem Sx.upd {x : Addr} {H : Hp} {o : HO} : Sx x H (upd H x o) := fun c u n h => by rw [upd_ne n]; exact h
section
variable {H : Hp} {a : Addr} {xs : List V} {rows : List Rw2} {ns ws : List Str}
end
section
variable {X : Cx}
end
theorem hu20_of {A : Around} {k : Nat} (hr : Room k A) : A.units + 20 < cLine := by have := hr.un; omega
section
variable {P : Program} {w : World} {A : Around} {E : Value → Shared → Prop} {s : Shared} {it d : Addr} {i n ep : Nat} {od : Obj} {es : Array DictEntry} {ok ov : Value} {Q : Option Value → Shared → Prop}
end
section
variable {X : Cx} {elts : List Expr} {k : Nat} {tpos apos cpos : Pos} {o : Expr} {to : TE}
end
section
variable {X : Cx} {tg : Expr} {apos cpos : Pos} {o : Expr} {to : TE}
end
section
variable {X : Cx}
end
theorem Paired.at {α β : Type} {R : α → β → Prop} {xs : List α} {ys : List β} (h : Paired R xs ys) : ∀ i (h1 : i < xs.length) (h2 : i < ys.length), R xs[i] ys[i] := by
  induction h with
  | nil => intro i h1; exact absurd h1 (by simp)
  | cons a _ ih =>
    intro i h1 h2
    cases i with
    | zero => exact a
    | succ i => exact ih i (by simpa using h1) (by simpa using h2)
end L2
set_option maxRecDepth 100000
namespace L2
open PySem PySem.Spec PyProof.Rows HT
section
variable {prog : Program} {w : World} {A : Around} {E : Value → Shared → Prop} {s : Shared}
theorem getItem_whole {t sl : Addr} {items : Array Value} {vl vu : Value} {lo hi : Option Int} {Q : Value → Shared → Prop} (ht : IsTup s.heap t items) (hs : s.heap.IsSliceOf sl vl vu .none) (pl : IsPart vl lo) (pu : IsPart vu hi)
    (hw : sIx items.size 0 lo = 0 ∧ sIx items.size items.size hi = items.size) (h : Q (.ref t) s) : wpAny (model prog w) A (getItem (.ref t) (.ref sl)) Q E s := by
  obtain ⟨os, hos, hcs, hds⟩ := id hs
  have hTs : s.TypeIs (.ref sl) "slice" := ⟨os, hos, hcs⟩
  unfold getItem
  refine wpAny_holding ?_
  refine wpAny_bind (wpAny_sequenceKey ht.typeIs (by decide) ?_)
  refine wpAny_bind (wpAny_callSpecial?_slot (name := Str.ofString "__getitem__") ht.typeIs slot_tuple_getitem (wpAny_call_entry slot_tuple_getitem ht.typeIs entry_tuple_getitem ?_ (args_tuple_getitem _ _)))
  show wpAny _ _ (Builtin.Tuple.tupleItemsOf (.ref t) >>= _) _ _ s
  refine wpAny_bind (tupleItemsOf_ ht (wpAny_bind (wpAny_typeOf hTs ?_)))
  rw [if_pos (by decide)]
  refine wpAny_bind (sliceApplied_gen hs pl pu ?_)
  have hy : (((sIx items.size 0 lo : Nat) : Int) == 0 && (1 : Int) == 1 && (sIx items.size items.size hi - sIx items.size 0 lo) == items.size) = true := by
    rw [hw.1, hw.2]; simp
  show wpAny _ _ (if (((sIx items.size 0 lo : Nat) : Int) == 0 && (1 : Int) == 1 && (sIx items.size items.size hi - sIx items.size 0 lo) == items.size) = true then _ else _) _ _ s
  rw [if_pos hy]
  refine wpAny_bind (wpAny_bind (wpAny_typeOf ht.typeIs (wpAny_pure ?_)))
  rw [if_pos (by decide)]
  exact wpAny_bind (wpAny_rule (wpAny_pure ⟨_, rfl, wpAny_pure h⟩))
end
section
variable {X : Cx}
def rSlW (K : PySem.W.Frag) : V → Option Int → Option Int → Hp → VK → Prop := fun x lo hi H Q => ∃ a xs, x = .ref a ∧ SqT K H a xs ∧ (sIx xs.length 0 lo = 0 ∧ sIx xs.length xs.length hi = xs.length) ∧ Q x H
theorem sl_whole : SlR X (rSlW X.K) := by
  intro pins s σ H x v vl vu lo hi sl Q I rx hs pl pu h
  obtain ⟨a, xs, rfl, hx, hw, q⟩ := h
  cases rx
  obtain ⟨its, r, ht, hz⟩ := I.tuple hx
  have hlen : its.toArray.size = xs.length := by rw [List.size_toArray]; exact r.length.symm
  exact ⟨"tuple", _, slot_tuple_getitem.lookup, ht.typeIs, getItem_whole ht hs pl pu (by rw [hlen]; exact hw) ⟨.ref a, H, I, rfl, q⟩⟩
theorem sl_KT (K : PySem.W.Frag) (h : X.K = K := by rfl) : SlR X (fun x lo hi H Q => rSlT K x lo hi H Q ∨ rSlW K x lo hi H Q) := by subst h; exact sl_tup.or sl_whole
end
def RowAt (H : Hp) (x : V) (r : Rw2) : Prop := ∃ b v, x = .ref b ∧ H b = some (.tup [.str r.1, v]) ∧ HV H v r.2
theorem rv_iff {H : Hp} {xs : List V} {rows : List Rw2} : RV H xs rows ↔ Paired (RowAt H) xs rows := ⟨fun h => prd_mk h.len fun i h1 h2 => h.at_ i h1 h2, fun h => let ⟨h1, h2⟩ := prd_get h; ⟨h1, h2⟩⟩
theorem RV.rot {H : Hp} {xs : List V} {rows : List Rw2} (h : RV H xs rows) (k : Nat) : RV H (xs.drop k ++ xs.take k) (rows.drop k ++ rows.take k) := by
  have := rv_iff.mp h
  exact rv_iff.mpr (prd_append (prd_drop k this) (prd_take k this))
end L2
set_option maxRecDepth 100000
namespace L2
open PySem PySem.Spec PyProof.Rows
section
variable {prog : Program} {w : World} {A : Around} {R : Result → Shared → Prop} {s : Shared}
end
section
variable {X : Cx} {t1 i1 t2 i2 elt : Expr} {ifs : List Expr} {tc : TC} {sc : Scope} {pos : Pos} {own : List Str} {idx : List Nat} {N' : List Str} {wi wi2 : TI} {g g2 : TG} {te : TE}
end
section
variable {X : Cx} {tg e : Expr} {te : TE}
end
section
variable {P : Program} {w : World} {A : Around} {E : Value → Shared → Prop} {s : Shared} {it d : Addr} {i n ep : Nat} {od : Obj} {es : Array DictEntry} {Q : Option Value → Shared → Prop}
end
section
variable {X : Cx} {tg : Expr} {apos cpos : Pos} {o : Expr} {to : TE}
end
section
variable {P : Program} {w : World} {A : Around} {E : Value → Shared → Prop} {s : Shared}
end
section
variable {X : Cx} {tg a : Expr} {ta : TA} {p p2 pos pos2 : Pos}
end
section
variable {X : Cx}
end
section
variable {H : Hp} {a : Addr} {xs : List V} {rows : List Rw2} {ns ws : List Str}
end
section
variable {X : Cx} {pos : Pos}
theorem z_bm0 (K : PySem.W.Frag) {o : Expr} {T : String} {name : Str} {id : String} {r : V → List V → Hp → VK → Prop} {to : TE} {apos cpos : Pos} (pa : PlainAttrs T) (slot : Slot T name id) (hty : typeOf (.builtin id) = pure (.type "method_descriptor")) (hm : MtM X id r) (ho : SE X o to) (h : X.K = K := by rfl)
    (hbase : attributeBase o name X.env (eval o X.env) = eval o X.env := by rfl) (hline : (apos.endLine == cpos.line) = true := by rfl) : SE X (.Call (.Attribute o name apos) [] [] cpos) (tBM0 K T r to) := by
  subst h; exact ⟨pe_bm0 pa slot hty hm ho.h hbase hline⟩
end
open AutoSeq1 (wpAny_loadPart')
theorem dict_eq_declines_str (l : Addr) (dat : Data) (dd : Option Addr) (sl : Array (Option Value)) (b : Str) (u : Tok) :
    Meets (Builtin.«dict.__eq__» ⟨[.ref l, .str b u], []⟩) (fun _ R s => s.heap.get? l = some { cls := .type "dict", dict := dd, data := dat, slots := sl } ∧ R (.ok (.ret .notImplemented)) s) :=
  .of_wp fun prog w A R s h => by obtain ⟨hp, g, d, tk, os⟩ := s; obtain ⟨hl, h⟩ := h; have f1 := F.sub_str_dict; wp_walk using wpAny_loadPart' hl, wpAny_load hl; exact ⟨_, rfl, h⟩
theorem dict_eq_declines_tuple (l b : Addr) (dat : Data) (items2 : Array Value) (n2 : Nat) (dd dd2 : Option Addr) (sl sl2 : Array (Option Value)) :
    Meets (Builtin.«dict.__eq__» ⟨[.ref l, .ref b], []⟩) (fun _ R s => s.heap.get? l = some { cls := .type "dict", dict := dd, data := dat, slots := sl } ∧ s.heap.get? b = some { cls := .type "tuple", dict := dd2, data := .seq items2 n2, slots := sl2 } ∧ R (.ok (.ret .notImplemented)) s) :=
  .of_wp fun prog w A R s h => by obtain ⟨hp, g, d, tk, os⟩ := s; obtain ⟨hl, hb, h⟩ := h; have f1 := F.sub_tuple_dict; wp_walk using wpAny_loadPart' hl, wpAny_load hl, wpAny_loadPart' hb, wpAny_load hb; exact ⟨_, rfl, h⟩
theorem tuple_eq_declines_dict (l b : Addr) (dat : Data) (items2 : Array Value) (n2 : Nat) (dd dd2 : Option Addr) (sl sl2 : Array (Option Value)) :
    Meets (Builtin.«tuple.__eq__» ⟨[.ref b, .ref l], []⟩) (fun _ R s => s.heap.get? l = some { cls := .type "dict", dict := dd, data := dat, slots := sl } ∧ s.heap.get? b = some { cls := .type "tuple", dict := dd2, data := .seq items2 n2, slots := sl2 } ∧ R (.ok (.ret .notImplemented)) s) :=
  .of_wp fun prog w A R s h => by obtain ⟨hp, g, d, tk, os⟩ := s; obtain ⟨hl, hb, h⟩ := h; have f1 := F.sub_dict_tuple; wp_walk using wpAny_loadPart' hl, wpAny_load hl, wpAny_loadPart' hb, wpAny_load hb; exact ⟨_, rfl, h⟩
theorem str_eq_declines_dict (l : Addr) (es : Array DictEntry) (ep : Nat) (dd : Option Addr) (sl : Array (Option Value)) (b : Str) (u : Tok) :
    Meets (Builtin.«str.__eq__» ⟨[.str b u, .ref l], []⟩) (fun _ R s => s.heap.get? l = some { cls := .type "dict", dict := dd, data := .dict es ep, slots := sl } ∧ R (.ok (.ret .notImplemented)) s) :=
  .of_wp fun prog w A R s h => by obtain ⟨hp, g, d, tk, os⟩ := s; obtain ⟨hl, h⟩ := h; wp_walk using wpAny_loadPart' hl, wpAny_load hl; exact ⟨_, rfl, h⟩
section
variable {A : Around} {s : Shared}
theorem rc_dict_str {l : Addr} {o : Obj} {es : Array DictEntry} {ep : Nat} (b : Str) (u : Tok) (ho : s.heap.get? l = some o) (hc : o.cls = .type "dict") (hd : o.data = .dict es ep) (hu : A.units < cLine) : SeqAt.RcAt A s (.ref l) (.str b u) false := fun prog w E Q h => by
  obtain ⟨cls, dd, data, sl⟩ := o
  simp only at hc hd
  subst hc hd
  exact SeqAt.rc_eq_decline_or (k := false) ⟨_, ho, rfl⟩ (typeIs_str s b u) (by decide) F.sub_str_dict F.slot_dict_eq F.slot_str_eq_refl
    (fun _ hq => call_meets F.slot_dict_eq ⟨_, ho, rfl⟩ F.entry_dict_eq (F.args_dict_eq_2 _ _) (dict_eq_declines_str l (.dict es ep) dd sl b u) ⟨ho, hq⟩)
    (fun _ hq => call_meets F.slot_str_eq_refl (typeIs_str s b u) F.entry_str_eq (F.args_str_eq_2 _ _) (str_eq_declines_dict l es ep dd sl b u) ⟨ho, hq⟩)
    (fun _ hq => wpAny_of_eq (rfl : isSame (.ref l) (.str b u) = pure false) hq) (.inr hu) h
theorem eq_dict_str {l : Addr} {o : Obj} {es : Array DictEntry} {ep : Nat} (b : Str) (u : Tok) (ho : s.heap.get? l = some o) (hc : o.cls = .type "dict") (hd : o.data = .dict es ep) (hu : A.units < cLine) : SeqAt.EqAt A s (.ref l) (.str b u) false := fun prog w E Q h => by
  unfold eqBool
  refine wpAny_holding ?_
  refine wpAny_ite_split (fun hab => absurd (eq_of_beq hab) nofun) (fun _ => ?_)
  exact wpAny_bind (rc_dict_str b u ho hc hd hu prog w E _ (wpAny_truthy_bool h))
theorem rc_dict_tuple {l b : Addr} {o : Obj} {items2 : Array Value} (ho : s.heap.get? l = some o) (hc : o.cls = .type "dict") (hb : s.heap.IsTuple b items2) (hu : A.units < cLine) : l ≠ b ∧ SeqAt.RcAt A s (.ref l) (.ref b) false := by
  obtain ⟨cls, dd, data, sl⟩ := o
  obtain ⟨⟨cls2, dd2, data2, sl2⟩, ho2, hc2, n2, hd2⟩ := id hb
  simp only at hc hc2 hd2
  subst hc hc2 hd2
  have hne : l ≠ b := fun e => by
    subst e
    rw [ho] at ho2
    have := congrArg Obj.cls (Option.some.inj ho2)
    simp at this
  refine ⟨hne, fun prog w E Q h => ?_⟩
  exact (SeqAt.rc_eq_decline_or (k := false) ⟨_, ho, rfl⟩ ⟨_, ho2, rfl⟩ (by decide) F.sub_tuple_dict F.slot_dict_eq F.slot_tuple_eq_refl
    (fun _ hq => call_meets F.slot_dict_eq ⟨_, ho, rfl⟩ F.entry_dict_eq (F.args_dict_eq_2 _ _) (dict_eq_declines_tuple l b data items2 n2 dd dd2 sl sl2) ⟨ho, ho2, hq⟩)
    (fun _ hq => call_meets F.slot_tuple_eq_refl ⟨_, ho2, rfl⟩ F.entry_tuple_eq (F.args_tuple_eq_2 _ _) (tuple_eq_declines_dict l b data items2 n2 dd dd2 sl sl2) ⟨ho, ho2, hq⟩)
    (fun _ hq => wpAny_isSame_ref_other hne ho ho2 (by simp) hq) (.inr hu) h)
end
def Dt.isS (z : Str) : Dt → Bool
  | .str y => y == z
  | _ => false
def Dt.is1 (z : Str) : Dt → Bool
  | .tup [.str y] => y == z
  | _ => false
section
variable {X : Cx} {pins : List (Addr × Obj)} {σ : St} {H : Hp} {s : Shared}
theorem DD.eqS (I : Inv X pins σ H s) {x : V} {d : Dt} (h : DD H x d) {A : Around} (hu : A.units < cLine) {v : Value} (r : RelV x v) (z : Str) (t : Tok) : SeqAt.EqAt A s v (.str z t) (d.isS z) := by
  cases h with
  | @str y h => obtain ⟨t', rfl⟩ := (show ∃ t, v = Value.str y t from r); exact SeqAt.EqAt.str_str y t' z t
  | @tup a xs ds e hl hn hd =>
    cases (show v = Value.ref a from r)
    obtain ⟨i1, r1, p1, _⟩ := I.tuple (SqT.of e)
    exact SeqAt.EqAt.tuple_str z t p1 hu
  | non => cases (show v = Value.none from r); exact SeqAt.EqAt.none_str z t
  | bl b => cases (show v = Value.bool b from r); exact SeqAt.EqAt.bool_str b z t
  | int i => obtain ⟨t', rfl⟩ := (show ∃ t, v = Value.int i t from r); exact SeqAt.EqAt.int_str i t' z t
  | @lst a xs e =>
    cases (show v = Value.ref a from r)
    obtain ⟨_, its, n, rv, ho⟩ := (show ObjOk X.prog X.w H s.heap a (.lst xs) from I.hok a _ e)
    exact SeqAt.EqAt.list_str z t ⟨_, ho, rfl, _, rfl⟩ hu
  | @dct a kvs e =>
    cases (show v = Value.ref a from r)
    obtain ⟨_, hd, vs, rel, o, es, ep, ho, hx, hdat, hk, hp⟩ := dk_of I.hok e
    exact eq_dict_str z t ho hx.1 hdat hu
theorem DD.rcT (I : Inv X pins σ H s) {x : V} {d : Dt} (h : DD H x d) {A : Around} (hu : A.units + 2 < cLine) {v : Value} (r : RelV x v) {b : Addr} {z : Str} (hb : SqT X.K H b [.str z]) : SeqAt.RcAt A s v (.ref b) (d.is1 z) ∧ SeqAt.EqAt A s v (.ref b) (d.is1 z) := by
  obtain ⟨i2, r2, p2, _⟩ := I.tuple hb
  cases r2 with
  | cons ra rb =>
    cases rb
    obtain ⟨t2, rfl⟩ := (show ∃ t, _ = Value.str z t from ra)
    cases h with
    | @str y h => obtain ⟨t', rfl⟩ := (show ∃ t, v = Value.str y t from r); exact ⟨SeqAt.RcAt.str_tuple y t' p2 (by omega), SeqAt.EqAt.str_tuple y t' p2 (by omega)⟩
    | @tup a xs ds e hl hn hd =>
      cases (show v = Value.ref a from r)
      obtain ⟨i1, r1, p1, _⟩ := I.tuple (SqT.of e)
      have hl1 := r1.length
      have hrc : SeqAt.RcAt A s (.ref a) (.ref b) ((Dt.tup ds).is1 z) := by
        have hA1 : A.in1.units < cLine := by rw [Around.in1_units]; omega
        have := SeqAt.RcAt.tuples (A := A) (e := fun j => (ds.getD j .oth).isS z) p1 p2 (by omega) fun j g1 g2 => by
          have hj : j = 0 := by simp at g2; omega
          subst hj
          have g1' : 0 < xs.length := by simp at g1; omega
          obtain ⟨w1, f1, q1⟩ := r1.get (List.getElem?_eq_getElem g1')
          have e1 : i1.toArray[0] = w1 := by
            simp at f1 g1
            rw [List.getElem?_eq_getElem (by omega)] at f1
            simpa using Option.some.inj f1
          rw [e1]
          have e2 : ds.getD 0 .oth = ds[0]'(by omega) := by rw [List.getD_eq_getElem?_getD, List.getElem?_eq_getElem (by omega)]; rfl
          simp only [e2]
          exact DD.eqS I (hd 0 g1' (by omega)) hA1 q1 z t2
        have ee : ((List.range (min i1.toArray.size ([Value.str z t2] : List Value).toArray.size)).all (fun j => (ds.getD j .oth).isS z) && i1.toArray.size == ([Value.str z t2] : List Value).toArray.size) = (Dt.tup ds).is1 z := by
          have hs : i1.toArray.size = ds.length := by simp; omega
          rw [hs]
          match ds with
          | [] => rfl
          | [d0] =>
            have : (List.range (min [d0].length ([Value.str z t2] : List Value).toArray.size)) = [0] := by rfl
            rw [this]
            cases d0 <;> simp [Dt.is1, Dt.isS]
          | d0 :: d1 :: dr => simp [Dt.is1]
        rw [← ee]
        exact this
      refine ⟨hrc, ?_⟩
      by_cases hab : a = b
      · subst hab
        have e9 := I.tuple_inj (SqT.of e) hb
        subst e9
        match ds, hl with
        | [d0], _ =>
          have h0 := hd 0 (by simp) (by simp)
          simp only [List.getElem_cons_zero] at h0
          cases h0
          have : (Dt.tup [.str z]).is1 z = true := by simp [Dt.is1]
          rw [this]
          exact SeqAt.EqAt.same _
      · exact SeqAt.EqAt.of_refs hab hrc
    | non => cases (show v = Value.none from r); exact ⟨SeqAt.RcAt.none_tuple p2 (by omega), SeqAt.EqAt.none_tuple p2 (by omega)⟩
    | bl b' => cases (show v = Value.bool b' from r); exact ⟨SeqAt.RcAt.bool_tuple b' p2 (by omega), SeqAt.EqAt.bool_tuple b' p2 (by omega)⟩
    | int i => obtain ⟨t', rfl⟩ := (show ∃ t, v = Value.int i t from r); exact ⟨SeqAt.RcAt.int_tuple i t' p2 (by omega), SeqAt.EqAt.int_tuple i t' p2 (by omega)⟩
    | @lst a xs e =>
      cases (show v = Value.ref a from r)
      obtain ⟨_, its, n, rv, ho⟩ := (show ObjOk X.prog X.w H s.heap a (.lst xs) from I.hok a _ e)
      have pl : s.heap.IsList a its.toArray := ⟨_, ho, rfl, _, rfl⟩
      exact ⟨SeqAt.RcAt.list_tuple pl p2 (by omega), SeqAt.EqAt.list_tuple pl p2 (by omega)⟩
    | @dct a kvs e =>
      cases (show v = Value.ref a from r)
      obtain ⟨_, hd, vs, rel, o, es, ep, ho, hx, hdat, hk, hp⟩ := dk_of I.hok e
      obtain ⟨h1, h2⟩ := rc_dict_tuple (A := A) ho hx.1 p2 (by omega)
      exact ⟨h2, SeqAt.EqAt.of_refs h1 h2⟩
def rEqH (K : PySem.W.Frag) : R2 := fun x y H Q => ∃ d b z, DD H x d ∧ y = .ref b ∧ SqT K H b [.str z] ∧ Q (.bl (d.is1 z)) H
theorem op_eqH (K : PySem.W.Frag) (hu : X.A.units + 20 < cLine) (hK : X.K = K := by rfl) : OpR X (compareOp .Eq) (rEqH K) := by
  subst hK
  intro pins s σ H x y v u Q I rx ry h
  obtain ⟨d, b, z, hd, rfl, hb, q⟩ := h
  cases ry
  exact (hd.rcT I (A := X.A) (by omega) rx hb).1 _ _ _ _ ⟨.bl (d.is1 z), H, I, rfl, q⟩
theorem DD.det {x : V} {d : Dt} (h : DD H x d) : ∀ {d'}, DD H x d' → d = d' := by
  induction h with
  | str _ => intro d' h'; cases h'; rfl
  | tup e hl hn _ ih =>
    intro d' h'
    cases h' with
    | tup e' hl' hn' hh' =>
      rw [e] at e'
      cases e'
      congr 1
      exact List.ext_getElem (by omega) fun i a b => ih i (by omega) (by omega) (hh' i (by omega) (by omega))
    | lst e' => rw [e] at e'; cases e'
    | dct e' => rw [e] at e'; cases e'
  | non => intro d' h'; cases h'; rfl
  | bl b => intro d' h'; cases h'; rfl
  | int i => intro d' h'; cases h'; rfl
  | lst e =>
    intro d' h'
    cases h' with
    | tup e' => rw [e] at e'; cases e'
    | lst e' => rfl
    | dct e' => rfl
  | dct e =>
    intro d' h'
    cases h' with
    | tup e' => rw [e] at e'; cases e'
    | lst e' => rfl
    | dct e' => rfl
theorem DD.inj {x x' : V} {d d' : Dt} (h : DD H x d) (h' : DD H x' d') {v : Value} (r : RelV x v) (r' : RelV x' v) : d = d' := by
  have e : x = x' := r.inj r'
  subst e
  exact h.det h'
def rCountH (K : PySem.W.Frag) : V → List V → Hp → VK → Prop := fun x vs H Q => ∃ (p q : Addr) (xs : List V) (ds : List Dt) (z : Str), x = .ref p ∧ vs = [.ref q] ∧ H p = some (.lst xs) ∧ SqT K H q [.str z] ∧ xs.length = ds.length ∧ (∀ i (h : i < xs.length) (h' : i < ds.length), DD H xs[i] ds[i]) ∧ Q (.int (ds.countP (Dt.is1 z) : Nat)) H
theorem mt_countH (K : PySem.W.Frag) (hu : X.A.units + 20 < cLine) (hK : X.K = K := by rfl) : MtM X "list.count" (rCountH K) := by
  subst hK
  intro pins s σ H x vs v us Q I rx rv h
  obtain ⟨p, q, xs, ds, z, rfl, rfl, hp, rq, hl2, hd, qq⟩ := h
  obtain ⟨u, rfl, ru⟩ := rv.one
  cases rx
  cases ru
  obtain ⟨_, its, n, rv, ho⟩ := (show ObjOk X.prog X.w H s.heap p (.lst xs) from I.hok p _ hp)
  have hl := rv.length
  let ev : Value → Bool := fun y => @decide (∃ x d, RelV x y ∧ DD H x d ∧ d.is1 z = true) (Classical.propDecidable _)
  have hev : ∀ {x : V} {d : Dt} {y : Value}, RelV x y → DD H x d → ev y = d.is1 z := fun {x d y} r hx => by
    cases e : d.is1 z with
    | true => exact @decide_eq_true _ (Classical.propDecidable _) ⟨x, d, r, hx, e⟩
    | false =>
      refine @decide_eq_false _ (Classical.propDecidable _) ?_
      rintro ⟨x', d', r', h', e'⟩
      rw [h'.inj hx r' r, e] at e'
      cases e'
  have key : ∀ i (h : i < its.length) (h' : i < ds.length), ∃ x, RelV x its[i] ∧ DD H x ds[i] := fun i h h' => by
    obtain ⟨w1, f1, q1⟩ := rv.get (List.getElem?_eq_getElem (show i < xs.length by omega))
    rw [List.getElem?_eq_getElem h] at f1
    have f2 : its[i] = w1 := by simpa using f1
    rw [f2]
    exact ⟨_, q1, hd i (by omega) h'⟩
  refine call_meets PySem.F.slot_list_count ⟨_, ho, rfl⟩ PySem.F.entry_list_count (PySem.F.args_list_count_2 _ _) (SeqAt.list_countAt p its.toArray n none #[] (.ref q) ev) ⟨ho, fun y hy => ?_, ?_⟩
  · have hy' : y ∈ its := by simpa using hy
    obtain ⟨i, hi, rfl⟩ := List.getElem_of_mem hy'
    obtain ⟨x, e1, e2⟩ := key i hi (by omega)
    rw [hev e1 e2]
    exact (e2.rcT I (A := X.A.in1) (by rw [Around.in1_units]; omega) e1 rq).2
  · have ec : (its.toArray.toList.countP ev) = ds.countP (Dt.is1 z) := by
      refine countP_pair _ _ _ _ (by simp; omega) fun i h1 h2 => ?_
      obtain ⟨x, e1, e2⟩ := key i (by simpa using h1) h2
      have e3 : its.toArray.toList[i] = its[i]'(by simpa using h1) := by simp
      rw [e3, hev e1 e2]
    rw [ec]
    exact ⟨.int (ds.countP (Dt.is1 z) : Nat), H, I.tok _, ⟨_, rfl⟩, qq⟩
def rUpper : V → List V → Hp → VK → Prop := fun x vs H Q => ∃ z, x = .str z ∧ vs = [] ∧ Wd z ∧ Wd (Txt.upper z) ∧ Q (.str (Txt.upper z)) H
theorem mt_upper : MtM X "str.upper" rUpper := by
  intro pins s σ H x vs v us Q I rx rv h
  obtain ⟨z, rfl, rfl, hz, hw, q⟩ := h
  obtain ⟨t, rfl⟩ := (show ∃ t, v = Value.str z t from rx)
  cases rv
  have hsz : sizeLine = 16777216 := sizeLine_eq
  have := hw.1
  exact SC.upper (by unfold Builtin.Str.tooLong; simp; omega) ⟨.str _, H, I.kept (t' := s.toks + 1) (fun b o e => e), ⟨_, rfl⟩, q⟩
end
theorem upper_wd {z : Str} (h : Wd z) : Wd (Txt.upper z) := by
  obtain ⟨h1, h2⟩ := h
  have gen : ∀ l : List Nat, (∀ c ∈ l, c < 128) → (Txt.upper ⟨l.toArray⟩).cps.toList.length = l.length ∧ ∀ c ∈ (Txt.upper ⟨l.toArray⟩).cps.toList, c < 128 := by
    intro l
    induction l with
    | nil => intro _; exact ⟨by rfl, fun c hc => by cases hc⟩
    | cons a l ih =>
      intro hl
      have ha := hl a (by simp)
      obtain ⟨i1, i2⟩ := ih fun c hc => hl c (List.mem_cons_of_mem _ hc)
      have e : (⟨(a :: l).toArray⟩ : Str) = (⟨#[a]⟩ : Str) ++ (⟨l.toArray⟩ : Str) := by
        apply PySem.Str.ext'
        rw [PySem.Str.cps_append]
        simp
      rw [e, PySem.W.KOpn.upper_app, PySem.W.KOpn.upper_one ha, PySem.Str.cps_append, Array.toList_append]
      refine ⟨by simp [i1], fun c hc => ?_⟩
      rcases List.mem_append.mp hc with hc | hc
      · have : c = (if 97 ≤ a ∧ a ≤ 122 then a - 32 else a) := by simpa using hc
        rw [this]
        split <;> omega
      · exact i2 c hc
  have e : z = ⟨z.cps.toList.toArray⟩ := by cases z; simp
  have := gen z.cps.toList h2
  rw [← e] at this
  refine ⟨?_, this.2⟩
  have hl : (Txt.upper z).length = z.length := by
    have q := this.1
    simp [Str.length] at q ⊢
    exact q
  omega
theorem slice_1 {K : PySem.W.Frag} {H : Hp} {a : Addr} {xs : List V} {Q : VK} (e : H a = some (.tup xs)) (q : ∀ p H', Same H H' → H' p = some (.tup (xs.take 1)) → Q (.ref p) H') :
    rSlT K (.ref a) none (some 1) H Q ∨ rSlW K (.ref a) none (some 1) H Q := by
  have h1 : HT.sIx xs.length xs.length (some ((1 : Nat) : Int)) = min 1 xs.length := HT.sIx_nat _ _ _
  by_cases h : xs.length ≤ 1
  · refine .inr ⟨a, xs, rfl, SqT.of e, ⟨rfl, ?_⟩, q a H (Same.refl H) ?_⟩
    · show HT.sIx xs.length xs.length (some ((1 : Nat) : Int)) = _
      rw [h1]; omega
    · rw [List.take_of_length_le h]; exact e
  · refine .inl ⟨a, xs, rfl, SqT.of e, fun ⟨_, z⟩ => ?_, fun p hp => ?_⟩
    · have z' : HT.sIx xs.length xs.length (some ((1 : Nat) : Int)) = xs.length := z
      rw [h1] at z'; omega
    · rw [show cutV xs none (some (1 : Int)) = xs.take 1 from cut_to xs 1]
      exact q p _ (Same.upd hp _) upd_same
def hdO : Dt → Dt | .tup [_, h] => h | _ => .oth
def twoD : Dt → Bool | .tup [_, _] => true | _ => false
def hdF (h : Dt) : Dt := if h.is1 "hole" then .tup [.str "all"] else h
def rowF : Dt → Dt | .tup [a, h] => .tup [a, hdF h] | d => d
def wayH : Dt → Bool | .tup (.str z :: _) => z == "way" | _ => false
def holD : Dt → Bool
  | .tup ds => decide (ds.length ≤ 12) && decide ((ds.map hdO).countP (Dt.is1 "hole") ≤ 6) && telD (.tup (ds.map rowF)) && ds.all fun d => !wayH (hdO d)
  | _ => false
theorem two_of {d : Dt} (h : twoD d = true) : ∃ a b, d = .tup [a, b] := by
  match d, h with
  | .tup [a, b], _ => exact ⟨a, b, rfl⟩
theorem telD_rows {ds : List Dt} (h : telD (.tup ds) = true) : ds.all rowD = true := by
  simp only [telD, Bool.and_eq_true] at h
  exact h.1.1.1.2
theorem two_rowF {d : Dt} (h : rowD (rowF d) = true) : twoD d = true := by
  match d, h with
  | .str _, h => exact Bool.noConfusion h
  | .oth, h => exact Bool.noConfusion h
  | .tup [], h => exact Bool.noConfusion h
  | .tup [_], h => exact Bool.noConfusion h
  | .tup [_, _], _ => rfl
  | .tup (_ :: _ :: _ :: _), h => exact Bool.noConfusion h
theorem not_two {ds : List Dt} (h : ds.all twoD = false) : telD (.tup (ds.map rowF)) = false := by
  cases e : telD (.tup (ds.map rowF)) with
  | false => rfl
  | true =>
    have h1 := telD_rows e
    rw [List.all_map] at h1
    have : ds.all twoD = true := List.all_eq_true.mpr fun d hd => two_rowF (List.all_eq_true.mp h1 d hd)
    rw [this] at h; cases h
theorem way_hdF (h : Dt) : wayH (hdF h) = wayH h := by
  unfold hdF
  split
  · next e =>
    match h, e with
    | .tup [.str y], e =>
      have : y = "hole" := eq_of_beq e
      subst this
      rfl
  · rfl
theorem DD.two {H : Hp} {v : V} {d : Dt} (h : DD H v d) (t : twoD d = true) : ∃ b x y dx dy, v = .ref b ∧ d = .tup [dx, dy] ∧ H b = some (.tup [x, y]) ∧ DD H x dx ∧ DD H y dy := by
  obtain ⟨dx, dy, rfl⟩ := two_of t
  cases h with
  | @tup b ys es e' hl' hn' hds' =>
    obtain ⟨y1, y2, rfl⟩ := len2 hl'
    exact ⟨b, y1, y2, dx, dy, rfl, rfl, e', hds' 0 (by simp) (by simp), hds' 1 (by simp) (by simp)⟩
theorem DD.tup2 {H : Hp} {b : Addr} {x y : V} {dx dy : Dt} (e : H b = some (.tup [x, y])) (h1 : DD H x dx) (h2 : DD H y dy) : DD H (.ref b) (.tup [dx, dy]) := .tup e rfl (by simp) fun i a b => by
  match i, a with
  | 0, _ => exact h1
  | 1, _ => exact h2
theorem DD.tup1 {H : Hp} {b : Addr} {x : V} {dx : Dt} (e : H b = some (.tup [x])) (h1 : DD H x dx) : DD H (.ref b) (.tup [dx]) := .tup e rfl (by simp) fun i a b => by
  match i, a with
  | 0, _ => exact h1
def FillAt (H3 H4 : Hp) (ws : List V) (ds : List Dt) : Prop := ∀ j (h : j < ws.length) (h' : j < ds.length), ∃ c x1 hv dx dy, ws[j] = .ref c ∧ H4 c = some (.tup [x1, hv]) ∧ ds[j] = .tup [dx, dy] ∧ DD H3 x1 dx ∧ (DD H3 hv (hdF dy) ∨ ∃ b, hv = .ref b ∧ H4 b = some (.tup [.str "all"]) ∧ hdF dy = .tup [.str "all"])
theorem FillAt.nil {H3 H4 : Hp} {ds : List Dt} : FillAt H3 H4 [] ds := fun j h => absurd h (by simp)
theorem FillAt.add {H3 H4 H6 : Hp} {ws : List V} {ds : List Dt} {c : Addr} {x1 hv : V} {dx dy : Dt} (f : FillAt H3 H4 ws ds) (tk : Tk H4 H6) (hl : ws.length < ds.length) (e : H6 c = some (.tup [x1, hv])) (ed : ds[ws.length] = .tup [dx, dy]) (h1 : DD H3 x1 dx) (h2 : DD H3 hv (hdF dy) ∨ ∃ b, hv = .ref b ∧ H6 b = some (.tup [.str "all"]) ∧ hdF dy = .tup [.str "all"]) : FillAt H3 H6 (ws ++ [.ref c]) ds := fun j h h' => by
  by_cases hj : j < ws.length
  · obtain ⟨c', x', hv', dx', dy', q1, q2, q3, q4, q5⟩ := f j hj h'
    refine ⟨c', x', hv', dx', dy', by rw [List.getElem_append_left hj]; exact q1, tk _ _ q2, q3, q4, q5.imp id fun ⟨b, r1, r2, r3⟩ => ⟨b, r1, tk _ _ r2, r3⟩⟩
  · have : j = ws.length := by simp at h; omega
    subst this
    exact ⟨c, x1, hv, dx, dy, by simp, e, ed, h1, h2⟩
theorem FillAt.dd {H3 H4 : Hp} {ws : List V} {ds : List Dt} (f : FillAt H3 H4 ws ds) (s : Same H3 H4) (j : Nat) (h : j < ws.length) (h' : j < ds.length) : DD H4 ws[j] (rowF ds[j]) := by
  obtain ⟨c, x1, hv, dx, dy, q1, q2, q3, q4, q5⟩ := f j h h'
  rw [q1, q3]
  refine DD.tup2 q2 (q4.same s) ?_
  rcases q5 with q5 | ⟨b, rfl, q6, q7⟩
  · exact q5.same s
  · rw [q7]; exact DD.tup1 q6 (.str (by decide))
theorem FillAt.tk {H3 H4 H6 : Hp} {ws : List V} {ds : List Dt} (f : FillAt H3 H4 ws ds) (tk : Tk H4 H6) : FillAt H3 H6 ws ds := fun j h h' => by
  obtain ⟨c', x', hv', dx', dy', q1, q2, q3, q4, q5⟩ := f j h h'
  exact ⟨c', x', hv', dx', dy', q1, tk _ _ q2, q3, q4, q5.imp id fun ⟨b, r1, r2, r3⟩ => ⟨b, r1, tk _ _ r2, r3⟩⟩
def RowG (H H' : Hp) (v : V) (d : Dt) : Prop := DD H v (rowF d) ∨ ∃ c x1 b dx, v = .ref c ∧ H' c = some (.tup [x1, .ref b]) ∧ H' b = some (.tup [.str "all"]) ∧ DD H x1 dx ∧ rowF d = .tup [dx, .tup [.str "all"]]
theorem RowG.tk {H H' H'' : Hp} {v : V} {d : Dt} (h : RowG H H' v d) (t : Tk H' H'') : RowG H H'' v d := h.imp id fun ⟨c, x1, b, dx, h1, h2, h3, h4⟩ => ⟨c, x1, b, dx, h1, t _ _ h2, t _ _ h3, h4⟩
theorem RowG.dd {H H' : Hp} {v : V} {d : Dt} (h : RowG H H' v d) (s : Same H H') : DD H' v (rowF d) := by
  rcases h with h | ⟨c, x1, b, dx, rfl, h2, h3, h4, h5⟩
  · exact h.same s
  · rw [h5]; exact DD.tup2 h2 (h4.same s) (DD.tup1 h3 (.str (by decide)))
def FillG (H H' : Hp) (ws : List V) (ds : List Dt) : Prop := ∀ j (h : j < ws.length) (h' : j < ds.length), RowG H H' ws[j] ds[j]
theorem FillG.tk {H H' H'' : Hp} {ws : List V} {ds : List Dt} (h : FillG H H' ws ds) (t : Tk H' H'') : FillG H H'' ws ds := fun j a b => (h j a b).tk t
theorem FillG.add {H H' : Hp} {ws : List V} {ds : List Dt} {v : V} (f : FillG H H' ws ds) (hl : ws.length < ds.length) (h : RowG H H' v ds[ws.length]) : FillG H H' (ws ++ [v]) ds := fun j a b => by
  by_cases hj : j < ws.length
  · rw [List.getElem_append_left hj]; exact f j hj b
  · have : j = ws.length := by simp at a; omega
    subst this
    simpa using h
theorem way_rowF (d : Dt) : wayH (hdO (rowF d)) = wayH (hdO d) := by
  match d with
  | .str _ => rfl
  | .oth => rfl
  | .tup [] => rfl
  | .tup [_] => rfl
  | .tup [_, h] => exact way_hdF h
  | .tup (_ :: _ :: _ :: _) => rfl
theorem hdO_ne {ds : List Dt} (h : ds.length ≠ 2) : hdO (.tup ds) = .oth ∧ rowF (.tup ds) = .tup ds := by
  match ds with
  | [] => exact ⟨rfl, rfl⟩
  | [_] => exact ⟨rfl, rfl⟩
  | [_, _] => exact absurd rfl h
  | _ :: _ :: _ :: _ => exact ⟨rfl, rfl⟩
theorem rowF_id {d : Dt} (h : (hdO d).is1 "hole" = false) : rowF d = d := by
  match d with
  | .str _ => rfl
  | .oth => rfl
  | .tup [] => rfl
  | .tup [_] => rfl
  | .tup [a, b] =>
    show Dt.tup [a, hdF b] = _
    unfold hdF
    have : b.is1 "hole" = false := h
    rw [this]; rfl
  | .tup (_ :: _ :: _ :: _) => rfl
theorem wayH_take (ds : List Dt) : (Dt.tup (ds.take 1)).is1 "way" = wayH (.tup ds) := by
  match ds with
  | [] => rfl
  | .str z :: r => rfl
  | .tup _ :: r => rfl
  | .oth :: r => rfl
theorem Hd.pure {ns : List Str} {h : Hd} (ok : h.ok ns) : headD h.dt = true ∧ (∀ n ∈ namesD h.dt, n ∈ ns) ∧ asD h.dt = h.nx := by
  cases h with
  | one s => rcases ok with rfl | rfl <;> exact ⟨by decide, (fun n hn => by revert hn; exact fun h => nomatch h), rfl⟩
  | as y =>
    refine ⟨?_, fun n hn => ?_, rfl⟩
    · show headD (.tup [.str "as", .str y]) = true
      rw [headD_eq]
      show (decide (1 = 1) && ([Dt.str y].all nameD)) = true
      simp [nameD, ok.1]
    · have hn' : n ∈ namesD (.tup [.str "as", .str y]) := hn
      have : n = y := by simpa [namesD, worded_as, strOf] using hn'
      rw [this]; exact ok.2
  | way x y =>
    refine ⟨?_, fun n hn => ?_, rfl⟩
    · show headD (.tup [.str "way", .str x, .str y]) = true
      rw [headD_eq]
      show (decide (2 = 2) && ([Dt.str x, Dt.str y].all nameD)) = true
      simp [nameD, ok.1, ok.2.1]
    · have e1 : namesD (.tup [.str "way", .str x, .str y]) = [x, y] := rfl
      have hn' : n ∈ namesD (.tup [.str "way", .str x, .str y]) := hn
      rw [e1] at hn'
      simp only [List.mem_cons, List.mem_nil_iff, or_false] at hn'
      rcases hn' with rfl | rfl
      · exact ok.2.2.1
      · exact ok.2.2.2
  | prs s ps =>
    obtain ⟨hs, nm, ris, _⟩ := ok
    have hw : worded s = true := by rcases hs with rfl | rfl <;> decide
    have ef : (ps.map fun p : Str × Str => Dt.tup [.str p.1, .str p.2]).map fstS = ps.map (·.1) := by rw [List.map_map]; rfl
    have es : (ps.map fun p : Str × Str => Dt.tup [.str p.1, .str p.2]).map sndS = ps.map (·.2) := by rw [List.map_map]; rfl
    refine ⟨?_, fun n hn => ?_, rfl⟩
    · show headD (.tup [.str s, .tup (ps.map fun p => .tup [.str p.1, .str p.2])]) = true
      rw [headD_eq, if_pos hw]
      show pairsD (.tup (ps.map fun p => .tup [.str p.1, .str p.2])) = true
      simp only [pairsD, Bool.and_eq_true]
      refine ⟨?_, by rw [ef]; exact ris⟩
      rw [List.all_map, List.all_eq_true]
      intro p hp
      obtain ⟨m1, m2, _⟩ := nm p hp
      show pairD (.tup [.str p.1, .str p.2]) = true
      simp [pairD, nameD, m1, m2]
    · have e1 : namesD (.tup [.str s, .tup (ps.map fun p => .tup [.str p.1, .str p.2])]) = if worded s then (ps.map fun p : Str × Str => Dt.tup [.str p.1, .str p.2]).map sndS else _ := rfl
      have hn' : n ∈ namesD (.tup [.str s, .tup (ps.map fun p => .tup [.str p.1, .str p.2])]) := hn
      rw [e1, if_pos hw, es] at hn'
      obtain ⟨p, hp, rfl⟩ := List.mem_map.mp hn'
      exact (nm p hp).2.2
theorem tel_pure {rows : List Rw2} {ns : List Str} (nm : (rows.map (·.1)).Perm ns) (nd : ns.Nodup) (ok : RowsK ns rows) (ah : ∀ r ∈ rows, Ahd ns r.1 r.2.nx) (pos : 1 ≤ rows.length) (few : rows.length ≤ 200) : telD (.tup (rows.map rowDt)) = true := by
  have er : rowsD (rows.map rowDt) = rows.map fun r => (r.1, r.2.dt) := by unfold rowsD; rw [List.map_map]; rfl
  have en : (rowsD (rows.map rowDt)).map (·.1) = rows.map (·.1) := by rw [er, List.map_map]; rfl
  have ndr : (rows.map (·.1)).Nodup := nm.nodup_iff.mpr nd
  have nl : ns.length = rows.length := by have := nm.length_eq; simpa using this.symm
  refine telD_true (ρ := fun n => ns.idxOf n) (by simpa using pos) (by simpa using few) ?_ (by rw [en]; exact ndr) ?_ fun n hn => ?_
  · rw [List.all_map, List.all_eq_true]
    intro r hr
    show rowD (.tup [.str r.1, r.2.dt]) = true
    obtain ⟨h1, h2⟩ := ok r hr
    have h3 : nameD (.str r.1) = true := h1
    simp only [rowD, Bool.and_eq_true]
    exact ⟨h3, (Hd.pure h2).1⟩
  · rw [er, List.all_map, List.all_eq_true]
    intro r hr
    show ((namesD r.2.dt).all _) = true
    rw [List.all_eq_true]
    intro n hn
    rw [decide_eq_true_eq, ← er, en]
    exact nm.mem_iff.mpr ((Hd.pure (ok r hr).2).2.1 n hn)
  · rw [en] at hn
    refine ⟨?_, fun y e => ?_⟩
    · have := List.idxOf_lt_length_of_mem (nm.mem_iff.mp hn)
      show ns.idxOf n < _
      simp; omega
    · have hx : ∃ r ∈ rows, r.1 = n ∧ asD r.2.dt = some y := by
        unfold nxD at e
        rw [er] at e
        cases hf : (rows.map fun r : Rw2 => (r.1, r.2.dt)).find? (fun r => decide (r.1 = n)) with
        | none => rw [hf] at e; cases e
        | some q =>
          rw [hf] at e
          have h1 := List.mem_of_find?_eq_some hf
          have h2 := List.find?_some hf
          obtain ⟨r, hr, rfl⟩ := List.mem_map.mp h1
          exact ⟨r, hr, by simpa using h2, e⟩
      obtain ⟨r, hr, rfl, ea⟩ := hx
      rw [(Hd.pure (ok r hr).2).2.2] at ea
      obtain ⟨i, j, hij, h1, h2⟩ := ah r hr y ea
      refine ⟨by rw [en, nm.mem_iff]; exact List.mem_of_getElem? h1, ?_⟩
      show ns.idxOf y < ns.idxOf r.1
      rw [idxOf_get nd h1, idxOf_get nd h2]
      exact hij
def Hd.hol : Hd → Bool | .one s => s == "hole" | _ => false
def Hd.isW : Hd → Bool | .way _ _ => true | _ => false
def Hd.fil (h : Hd) : Hd := if h.hol then .one "all" else h
def filR (r : Rw2) : Rw2 := (r.1, r.2.fil)
theorem Hd.hol_dt (h : Hd) : h.dt.is1 "hole" = h.hol := by cases h <;> rfl
theorem Hd.way_dt {ns : List Str} {h : Hd} (hh : h.isW = false) (ok : h.fil.ok ns) : wayH h.dt = false := by
  cases h with
  | one s =>
    cases e : (Hd.one s).hol with
    | true => have : s = "hole" := eq_of_beq e; subst this; rfl
    | false =>
      have : (Hd.one s).fil = .one s := by unfold Hd.fil; rw [e]; rfl
      rw [this] at ok
      rcases ok with rfl | rfl <;> rfl
  | as y => rfl
  | way x y => cases hh
  | prs s ps =>
    have ok' : (Hd.prs s ps).ok ns := ok
    rcases ok'.1 with rfl | rfl <;> rfl
theorem rowF_dt (r : Rw2) : rowF (rowDt r) = rowDt (filR r) := by
  show Dt.tup [.str r.1, hdF r.2.dt] = Dt.tup [.str r.1, r.2.fil.dt]
  unfold hdF Hd.fil
  rw [Hd.hol_dt]
  split <;> rfl
structure TH (H : Hp) (a : Addr) (xs : List V) (rows : List Rw2) (ns ws : List Str) : Prop where
  at_ : H a = some (.tup xs)
  rv : RV H xs rows
  nm : (rows.map (·.1)).Perm ns
  nd : ns.Nodup
  ok : RowsK ns (rows.map filR)
  wd : ∀ n ∈ ns, Wd n
  ah : ∀ r ∈ rows, Ahd ns r.1 r.2.nx
  ww : ∀ r ∈ rows, ∀ z ∈ r.2.wds, z ∈ ws
  pos : 1 ≤ ns.length
  few : ns.length ≤ 10
  nw : ∀ r ∈ rows, r.2.isW = false
  hl : rows.countP (fun r => r.2.hol) ≤ 6
theorem fil_nx (h : Hd) : h.fil.nx = h.nx := by
  unfold Hd.fil
  split
  · cases h <;> first | rfl | (next e => cases e)
  · rfl
section
variable {H H' : Hp} {a : Addr} {xs : List V} {rows : List Rw2} {ns ws : List Str}
theorem TH.tk (h : TH H a xs rows ns ws) (s : Tk H H') : TH H' a xs rows ns ws := ⟨s _ _ h.at_, h.rv.tk s, h.nm, h.nd, h.ok, h.wd, h.ah, h.ww, h.pos, h.few, h.nw, h.hl⟩
theorem TH.rl (h : TH H a xs rows ns ws) : rows.length = ns.length := by have := h.nm.length_eq; simpa using this
theorem TH.hol (h : TH H a xs rows ns ws) : holD (.tup (rows.map rowDt)) = true := by
  have hrl := h.rl
  have few := h.few
  have pos := h.pos
  have en : (rows.map filR).map (·.1) = rows.map (·.1) := by rw [List.map_map]; rfl
  have e1 : (rows.map rowDt).map rowF = (rows.map filR).map rowDt := by
    rw [List.map_map, List.map_map]
    exact List.map_congr_left fun r _ => rowF_dt r
  have e2 : ((rows.map rowDt).map hdO).countP (Dt.is1 "hole") = rows.countP (fun r => r.2.hol) := by
    rw [List.map_map, List.countP_map]
    congr 1
    funext r
    exact Hd.hol_dt r.2
  have e3 : ((rows.map rowDt).all fun d => !wayH (hdO d)) = true := by
    rw [List.all_map, List.all_eq_true]
    intro r hr
    show (!wayH r.2.dt) = true
    rw [Hd.way_dt (ns := ns) (h.nw r hr) (h.ok (filR r) (List.mem_map.mpr ⟨r, hr, rfl⟩)).2]; rfl
  have e4 : telD (.tup ((rows.map filR).map rowDt)) = true := tel_pure (by rw [en]; exact h.nm) h.nd h.ok (fun r hr => by
    obtain ⟨r', hr', rfl⟩ := List.mem_map.mp hr
    show Ahd ns r'.1 r'.2.fil.nx
    rw [fil_nx]; exact h.ah r' hr') (by simp; omega) (by simp; omega)
  simp only [holD, e1, e2, e3, e4, decide_eq_true h.hl, Bool.and_true, List.length_map]
  exact decide_eq_true (by omega)
theorem HV.dd' {v : V} {h : Hd} (q : HV H v h) (ok : h.fil.ok ns) : DD H v h.dt := by
  cases e : h.hol with
  | false =>
    have : h.fil = h := by unfold Hd.fil; rw [e]; rfl
    rw [this] at ok
    exact (q.tx ok).dd
  | true =>
    cases q with
    | @one b s e1 =>
      have : s = "hole" := eq_of_beq e
      subst this
      exact DD.tup1 e1 (.str (by decide))
    | _ => cases e
theorem TH.dd (h : TH H a xs rows ns ws) : DD H (.ref a) (.tup (rows.map rowDt)) := by
  have hrl := h.rl
  have few := h.few
  have hl := h.rv.len
  refine .tup h.at_ (by simp [hl]) (by omega) fun i h1 h2 => ?_
  have h3 : i < rows.length := by simpa using h2
  obtain ⟨b, v, q1, q2, q3⟩ := h.rv.at_ i h1 h3
  obtain ⟨m1, m2⟩ := h.ok (filR rows[i]) (List.mem_map.mpr ⟨_, List.getElem_mem h3, rfl⟩)
  have m1' : isName rows[i].1 = true := m1
  rw [q1]
  simp only [List.getElem_map]
  exact DD.tup2 q2 (.str (by have := isName_len m1'; omega)) (q3.dd' m2)
theorem RT.th (h : RT H a xs rows ns ws) (nw : ∀ r ∈ rows, r.2.isW = false) : TH H a xs rows ns ws := by
  have hh : ∀ r ∈ rows, r.2.hol = false := fun r hr => by
    have := (h.ok r hr).2
    cases e : r.2 with
    | one s => rw [e] at this; rcases this with rfl | rfl <;> rfl
    | _ => rfl
  refine ⟨h.at_, h.rv, h.nm, h.nd, fun r hr => ?_, h.wd, h.ah, h.ww, h.pos, h.few, nw, ?_⟩
  · obtain ⟨r', hr', rfl⟩ := List.mem_map.mp hr
    have : filR r' = r' := by show (r'.1, r'.2.fil) = r'; unfold Hd.fil; rw [hh r' hr']; rfl
    rw [this]; exact h.ok r' hr'
  · have : rows.countP (fun r => r.2.hol) = 0 := List.countP_eq_zero.mpr fun r hr => by rw [hh r hr]; exact Bool.false_ne_true
    omega
end
def HdH (ns ws : List Str) (n : Str) (h : Hd) : Prop := h.fil.ok ns ∧ Ahd ns n h.nx ∧ (∀ z ∈ h.wds, z ∈ ws) ∧ h.isW = false
theorem ok_fil {ns : List Str} {h : Hd} (ok : h.ok ns) : h.hol = false ∧ h.fil = h := by
  have e : h.hol = false := by
    cases h with
    | one s => rcases ok with rfl | rfl <;> rfl
    | _ => rfl
  exact ⟨e, by unfold Hd.fil; rw [e]; rfl⟩
theorem HG4.hdH {H : Hp} {ns ws : List Str} {b : Addr} {z n : Str} {ys : List V} (h : HG4 H ns ws (.ref b) (Ahd ns n)) (e : H b = some (.tup (.str z :: ys))) (hz : z ≠ "way") : ∃ h, HV H (.ref b) h ∧ HdH ns ws n h ∧ h.hol = false := by
  obtain ⟨d, h1, h2, h3, h4⟩ := h.ex
  obtain ⟨e1, e2⟩ := ok_fil h2
  refine ⟨d, h1, ⟨by rw [e2]; exact h2, h3, h4, ?_⟩, e1⟩
  cases h1 with
  | way e8 =>
    rw [e] at e8
    injection e8 with e8
    injection e8 with e8
    injection e8 with e8 _
    injection e8 with e8
    exact (hz e8).elim
  | _ => rfl
theorem hole_hdH {H : Hp} {ns ws : List Str} {b : Addr} {n : Str} (e : H b = some (.tup [.str "hole"])) : HV H (.ref b) (.one "hole") ∧ HdH ns ws n (.one "hole") := ⟨.one e, .inl rfl, (fun _ h => nomatch h), (fun _ h => nomatch h), rfl⟩
end L2
set_option maxRecDepth 100000
set_option maxHeartbeats 400000
--LEVEL 9
namespace T1
open PySem L2
def top (i : Nat) : Stmt := PySem.Challenge.pw_coilkind_k64_holed_tellings_known.main.body.getD i (.Pass ⟨0, 0, 0, 0⟩)
abbrev s_is_name : Stmt := top 4
abbrev s_are_rising : Stmt := top 5
abbrev s_is_telling : Stmt := top 10
abbrev s_heads_of : Stmt := top 11
abbrev s_is_row : Stmt := top 12
abbrev s_is_head : Stmt := top 13
abbrev s_is_pairs : Stmt := top 14
abbrev s_is_pair : Stmt := top 15
abbrev s_names_in : Stmt := top 16
abbrev s_has_rows : Stmt := top 17
abbrev s_leads_out : Stmt := top 18
abbrev s_is_holed : Stmt := top 23
abbrev s_law_tpen : Stmt := top 25
abbrev s_law_tdraw : Stmt := top 26
abbrev s_law_tnames : Stmt := top 27
abbrev s_law_tpairs : Stmt := top 28
abbrev s_law_thead : Stmt := top 29
abbrev s_law_ttelling : Stmt := top 30
abbrev s_law_tholed : Stmt := top 31
abbrev s_law_tis_name : Stmt := top 33
abbrev s_law_tis_head : Stmt := top 34
abbrev s_law_tis_telling : Stmt := top 35
abbrev s_law_tdue : Stmt := top 36
abbrev s_law_tbad_heads : Stmt := top 37
abbrev s_law_tother : Stmt := top 38
abbrev s_law : Stmt := top 39
structure Txt (K : PySem.W.Frag) (mg : Str → Option Value) (w : World) : Prop where
  n_len : mg "len" = none
  n_isinstance : mg "isinstance" = none
  n_all : mg "all" = none
  n_range : mg "range" = none
  n_str : mg "str" = none
  n_bool : mg "bool" = none
  n_int : mg "int" = none
  n_list : mg "list" = none
  n_tuple : mg "tuple" = none
  n_dict : mg "dict" = none
  n_sorted : mg "sorted" = none
  n_repr : mg "repr" = none
  n_enumerate : mg "enumerate" = none
  n_zip : mg "zip" = none
  n_set : mg "set" = none
  c_LETTERS : ∃ u, mg "LETTERS" = some u ∧ RelV (.str "abcdefghijklmnopqrstuvwxyz") u
  c_LONGEST : ∃ u, mg "LONGEST" = some u ∧ RelV (.int 8) u
  c_NO_NAMES : ∃ a, mg "NO_NAMES" = some (.ref a) ∧ ∀ H, SqT K H a [.str "all", .str "none", .str "way", .str "box", .str "pick"]
  c_MOST_ROWS_tellings : ∃ u, mg "MOST_ROWS_tellings" = some u ∧ RelV (.int 200) u
  c_NAMES_BEHIND : ∃ a, mg "NAMES_BEHIND" = some (.ref a) ∧ KD w K a [(.inr "all", .int 0), (.inr "none", .int 0), (.inr "way", .int 2), (.inr "as", .int 1)]
  c_WORDED : ∃ a, mg "WORDED" = some (.ref a) ∧ ∀ H, SqT K H a [.str "box", .str "pick"]
  c_MOST_ROWS_sayings : ∃ u, mg "MOST_ROWS_sayings" = some u ∧ RelV (.int 12) u
  c_MOST_HOLES : ∃ u, mg "MOST_HOLES" = some u ∧ RelV (.int 6) u
  c_HOLE : ∃ a, mg "HOLE" = some (.ref a) ∧ ∀ H, SqT K H a [.str "hole"]
  t_is_name : FnT K mg "is_name" s_is_name ["thing"]
  t_are_rising : FnT K mg "are_rising" s_are_rising ["words"]
  t_is_telling : FnT K mg "is_telling" s_is_telling ["thing"]
  t_heads_of : FnT K mg "heads_of" s_heads_of ["T"]
  t_is_row : FnT K mg "is_row" s_is_row ["thing"]
  t_is_head : FnT K mg "is_head" s_is_head ["thing"]
  t_is_pairs : FnT K mg "is_pairs" s_is_pairs ["thing"]
  t_is_pair : FnT K mg "is_pair" s_is_pair ["thing"]
  t_names_in : FnT K mg "names_in" s_names_in ["head"]
  t_has_rows : FnT K mg "has_rows" s_has_rows ["heads", "head"]
  t_leads_out : FnT K mg "leads_out" s_leads_out ["heads", "name"]
  t_is_holed : FnT K mg "is_holed" s_is_holed ["thing"]
  t_law_tpen : FnT K mg "_law_tpen" s_law_tpen ["script"]
  t_law_tdraw : FnT K mg "_law_tdraw" s_law_tdraw ["pen", "many"]
  t_law_tnames : FnT K mg "_law_tnames" s_law_tnames ["pen", "many"]
  t_law_tpairs : FnT K mg "_law_tpairs" s_law_tpairs ["pen", "words", "names"]
  t_law_thead : FnT K mg "_law_thead" s_law_thead ["pen", "sort", "words", "names"]
  t_law_ttelling : FnT K mg "_law_ttelling" s_law_ttelling ["pen", "most", "words", "sorts"]
  t_law_tholed : FnT K mg "_law_tholed" s_law_tholed ["pen", "words"]
  t_law_tis_name : FnT K mg "_law_tis_name" s_law_tis_name ["thing"]
  t_law_tis_head : FnT K mg "_law_tis_head" s_law_tis_head ["head", "names"]
  t_law_tis_telling : FnT K mg "_law_tis_telling" s_law_tis_telling ["thing"]
  t_law_tdue : FnT K mg "_law_tdue" s_law_tdue ["thing"]
  t_law_tbad_heads : FnT K mg "_law_tbad_heads" s_law_tbad_heads ["name", "other", "words"]
  t_law_tother : FnT K mg "_law_tother" s_law_tother ["pen", "holed", "words"]
  t_law : FnT K mg "law" s_law ["script"]
theorem sc_is_name : FnScope ["thing"] ["thing"] (defScope s_is_name) := ⟨rfl, rfl, rfl, by decide +kernel, rfl, by decide +kernel, by decide +kernel⟩
theorem sc_are_rising : FnScope ["words"] ["words"] (defScope s_are_rising) := ⟨rfl, rfl, rfl, by decide +kernel, rfl, by decide +kernel, by decide +kernel⟩
theorem sc_is_telling : FnScope ["thing", "heads"] ["thing"] (defScope s_is_telling) := ⟨rfl, rfl, rfl, by decide +kernel, rfl, by decide +kernel, by decide +kernel⟩
theorem sc_heads_of : FnScope ["T"] ["T"] (defScope s_heads_of) := ⟨rfl, rfl, rfl, by decide +kernel, rfl, by decide +kernel, by decide +kernel⟩
theorem sc_is_row : FnScope ["thing"] ["thing"] (defScope s_is_row) := ⟨rfl, rfl, rfl, by decide +kernel, rfl, by decide +kernel, by decide +kernel⟩
theorem sc_is_head : FnScope ["thing", "sort", "rest"] ["thing"] (defScope s_is_head) := ⟨rfl, rfl, rfl, by decide +kernel, rfl, by decide +kernel, by decide +kernel⟩
theorem sc_is_pairs : FnScope ["thing"] ["thing"] (defScope s_is_pairs) := ⟨rfl, rfl, rfl, by decide +kernel, rfl, by decide +kernel, by decide +kernel⟩
theorem sc_is_pair : FnScope ["thing"] ["thing"] (defScope s_is_pair) := ⟨rfl, rfl, rfl, by decide +kernel, rfl, by decide +kernel, by decide +kernel⟩
theorem sc_names_in : FnScope ["head"] ["head"] (defScope s_names_in) := ⟨rfl, rfl, rfl, by decide +kernel, rfl, by decide +kernel, by decide +kernel⟩
theorem sc_has_rows : FnScope ["heads", "head"] ["heads", "head"] (defScope s_has_rows) := ⟨rfl, rfl, rfl, by decide +kernel, rfl, by decide +kernel, by decide +kernel⟩
theorem sc_leads_out : FnScope ["heads", "name", "turn"] ["heads", "name"] (defScope s_leads_out) := ⟨rfl, rfl, rfl, by decide +kernel, rfl, by decide +kernel, by decide +kernel⟩
theorem sc_is_holed : FnScope ["thing", "heads", "T"] ["thing"] (defScope s_is_holed) := ⟨rfl, rfl, rfl, by decide +kernel, rfl, by decide +kernel, by decide +kernel⟩
theorem sc_law_tpen : FnScope ["script", "mixed", "cell"] ["script"] (defScope s_law_tpen) := ⟨rfl, rfl, rfl, by decide +kernel, rfl, by decide +kernel, by decide +kernel⟩
theorem sc_law_tdraw : FnScope ["pen", "many", "found", "one", "two"] ["pen", "many"] (defScope s_law_tdraw) := ⟨rfl, rfl, rfl, by decide +kernel, rfl, by decide +kernel, by decide +kernel⟩
theorem sc_law_tnames : FnScope ["pen", "many", "letters", "ahead", "first", "found", "k", "name"] ["pen", "many"] (defScope s_law_tnames) := ⟨rfl, rfl, rfl, by decide +kernel, rfl, by decide +kernel, by decide +kernel⟩
theorem sc_law_tpairs : FnScope ["pen", "words", "names", "some"] ["pen", "words", "names"] (defScope s_law_tpairs) := ⟨rfl, rfl, rfl, by decide +kernel, rfl, by decide +kernel, by decide +kernel⟩
theorem sc_law_thead : FnScope ["pen", "sort", "words", "names"] ["pen", "sort", "words", "names"] (defScope s_law_thead) := ⟨rfl, rfl, rfl, by decide +kernel, rfl, by decide +kernel, by decide +kernel⟩
theorem sc_law_ttelling : FnScope ["pen", "most", "words", "sorts", "names", "rows", "k", "name", "sort", "head", "turn"] ["pen", "most", "words", "sorts"] (defScope s_law_ttelling) := ⟨rfl, rfl, rfl, by decide +kernel, rfl, by decide +kernel, by decide +kernel⟩
theorem sc_law_tholed : FnScope ["pen", "words", "names", "rows", "k", "name", "sort", "head", "turn"] ["pen", "words"] (defScope s_law_tholed) := ⟨rfl, rfl, rfl, by decide +kernel, rfl, by decide +kernel, by decide +kernel⟩
theorem sc_law_tis_name : FnScope ["thing"] ["thing"] (defScope s_law_tis_name) := ⟨rfl, rfl, rfl, by decide +kernel, rfl, by decide +kernel, by decide +kernel⟩
theorem sc_law_tis_head : FnScope ["head", "names", "many", "last", "pair"] ["head", "names"] (defScope s_law_tis_head) := ⟨rfl, rfl, rfl, by decide +kernel, rfl, by decide +kernel, by decide +kernel⟩
theorem sc_law_tis_telling : FnScope ["thing", "names", "heads", "name", "here", "turn"] ["thing"] (defScope s_law_tis_telling) := ⟨rfl, rfl, rfl, by decide +kernel, rfl, by decide +kernel, by decide +kernel⟩
theorem sc_law_tdue : FnScope ["thing", "rows", "holes", "row"] ["thing"] (defScope s_law_tdue) := ⟨rfl, rfl, rfl, by decide +kernel, rfl, by decide +kernel, by decide +kernel⟩
theorem sc_law_tbad_heads : FnScope ["name", "other", "words", "some"] ["name", "other", "words"] (defScope s_law_tbad_heads) := ⟨rfl, rfl, rfl, by decide +kernel, rfl, by decide +kernel, by decide +kernel⟩
theorem sc_law_tother : FnScope ["pen", "holed", "words", "rows", "at", "name", "other", "way", "many", "some", "odd"] ["pen", "holed", "words"] (defScope s_law_tother) := ⟨rfl, rfl, rfl, by decide +kernel, rfl, by decide +kernel, by decide +kernel⟩
theorem sc_law : FnScope ["script", "pen", "words", "k", "holed", "turn", "thing", "shown", "found", "told"] ["script"] (defScope s_law) := ⟨rfl, rfl, rfl, by decide +kernel, rfl, by decide +kernel, by decide +kernel⟩
section
variable {P : Program} {w : World} {K : PySem.W.Frag} {mg : Str → Option Value} {base : Heap}
theorem ok_law_tdraw (T : Txt K mg w) : FnK P w K mg base 1 "_law_tdraw" ["pen", "many"] spDraw := by
  refine T.t_law_tdraw.okS sc_law_tdraw (fun vs H Q E h => ?_) (fun f cdv A outer s H vs Q E hr h => ?_)
  · obtain ⟨p, w', m, t, rfl, _⟩ := h
    rfl
  · obtain ⟨p, w', m, t, rfl, hp, ⟨hm0, hm1⟩, ht, k⟩ := h
    have hu := hu_of hr
    have npw := hp.ne
    have htm : t < 1000000000000 := ht
    refine ⟨_, (sb_cons (s_if (w_and (y_cmpR op_gtD (z_callB (call_lenK K) (by rfl) T.n_len PySem.boot_len (sa_Subscript (z_dget hu (zv 0) z_str (fun _ _ => rfl)) sa_nil)) z_int (nomark _)) (w_and1 (y_cmpR op_ltD (z_ix (ix_K K) (z_dget hu (zv 0) z_str (fun _ _ => rfl)) z_int (fun _ _ => rfl)) (zv 1) (nomark _)))).pt (sb_one (s_expr (z_bm K PySem.F.plainAttrs_list PySem.F.slot_list_pop PySem.F.type_list_pop mt_popAt (z_dget hu (zv 0) z_str (fun _ _ => rfl)) (sa_Constant z_int sa_nil)))) sb_nil)
      (sb_cons (s_if (y_cmpR op_gtD (z_callB (call_lenK K) (by rfl) T.n_len PySem.boot_len (sa_Subscript (z_dget hu (zv 0) z_str (fun _ _ => rfl)) sa_nil)) z_int (nomark _)) (sb_cons (s_set (i := 2) sc_law_tdraw.nd rfl (Or.inl rfl) (z_op op_modD (z_ix (ix_K K) (z_dget hu (zv 0) z_str (fun _ _ => rfl)) z_int (fun _ _ => rfl)) (zv 1)))
      (sb_cons (s_asg (z_op op_divD (z_ix (ix_K K) (z_dget hu (zv 0) z_str (fun _ _ => rfl)) z_int (fun _ _ => rfl)) (zv 1)) (g_sub (z_dget hu (zv 0) z_str (fun _ _ => rfl)) z_int set_list))
      (sb_one (s_ret (zv 2))))) sb_nil)
      (sb_cons (s_dput hu (zv 0) z_str (z_op op_addD (z_dget hu (zv 0) z_str (fun _ _ => rfl)) z_int) rfl)
      (sb_cons (s_set (i := 3) sc_law_tdraw.nd rfl (Or.inl rfl) (z_op op_modD (z_op op_addD (z_dget hu (zv 0) z_str (fun _ _ => rfl)) (z_op op_mulD (z_op op_mulD z_int (z_dget hu (zv 0) z_str (fun _ _ => rfl))) (z_dget hu (zv 0) z_str (fun _ _ => rfl)))) z_int))
      (sb_cons (s_set (i := 4) sc_law_tdraw.nd rfl (Or.inl rfl) (z_op op_modD (z_op op_addD (z_op op_addD (z_op op_mulD (zv 3) (zv 3)) (z_op op_mulD z_int (z_dget hu (zv 0) z_str (fun _ _ => rfl)))) z_int) z_int))
      (sb_one (s_ret (z_op op_modD (z_op op_divD (z_op op_modD (z_op op_addD (z_op op_mulD (zv 4) (zv 4)) (zv 3)) z_int) z_int) (zv 1))))))))), ?_⟩
    obtain ⟨mx, c, ws, h1, h2, ⟨hx0, hx1⟩, hc0, hc1⟩ := hp.ex
    have gW : ∀ {H1 : Hp} {c1 : Int}, H1 p = some (.dK (penD w' mx c1)) → DGet H1 p (.str "wide") (some (.ref w')) := fun h => DGet.k (k := Sum.inr "wide") h
    have gT : ∀ {H1 : Hp} {c1 : Int}, H1 p = some (.dK (penD w' mx c1)) → DGet H1 p (.str "turn") (some (.int c1)) := fun h => DGet.k (k := Sum.inr "turn") h
    have gM : ∀ {H1 : Hp} {c1 : Int}, H1 p = some (.dK (penD w' mx c1)) → DGet H1 p (.str "mixed") (some (.int mx)) := fun h => DGet.k (k := Sum.inr "mixed") h
    refine tSeq_by (fun σ' H1 => σ' = [some (.ref p), some (.int m), none, none, none] ∧ ∃ ws1 : List Int, H1 p = some (.dK (penD w' mx c)) ∧ H1 w' = some (.lst (ws1.map V.int)) ∧ Sm p w' H H1) ?_ ?_
    · intro nx hnx
      refine ⟨p, .ref w', rfl, gW h1, .inl ⟨_, .inl (SqL.of h2), _, rfl, ?_⟩⟩
      refine ite2 (fun hl => ?_) (fun hl => ?_)
      · cases ws with
        | nil => simp at hl
        | cons x0 ws =>
          refine ⟨p, .ref w', rfl, gW h1, _, .int x0, .inl (SqL.of h2), atI_zero _ _, _, rfl, ?_⟩
          refine ite2 (fun hl2 => ?_) (fun hl2 => ?_)
          · refine ⟨p, .ref w', rfl, gW h1, ?_, w', _, 0, 0, .int x0, rfl, rfl, h2, by decide, by decide, (by rw [List.length_map]; exact (ixN_seq (ixN_zero _)).1), rfl, ?_⟩
            · exact .inl ⟨rfl, _, SqL.of h2⟩
            · exact hnx _ _ ⟨rfl, ws, by rw [upd_ne npw]; exact h1, upd_same, fun b o hb h3 h4 => by rw [upd_ne h4]; exact hb⟩
          · exact hnx _ _ ⟨rfl, x0 :: ws, h1, h2, Sm.refl⟩
      · exact hnx _ _ ⟨rfl, ws, h1, h2, Sm.refl⟩
    · rintro σ' H1 ⟨rfl, ws1, g1, g2, sm⟩
      refine tSeq_by (fun σ' H2 => σ' = [some (.ref p), some (.int m), none, none, none] ∧ H2 = H1) ?_ ?_
      · intro nx hnx
        refine ⟨p, .ref w', rfl, gW g1, .inl ⟨_, .inl (SqL.of g2), _, rfl, ?_⟩⟩
        refine ite2 (fun hl => ?_) (fun hl => ?_)
        · cases ws1 with
          | nil => simp at hl
          | cons x0 ws1 =>
            refine ⟨p, .ref w', rfl, gW g1, _, .int x0, .inl (SqL.of g2), atI_zero _ _, hm0, ?_⟩
            refine ⟨p, .ref w', rfl, gW g1, _, .int x0, .inl (SqL.of g2), atI_zero _ _, ⟨hm0, hm1⟩, ?_⟩
            refine ⟨p, .ref w', rfl, gW g1, w', _, 0, 0, rfl, rfl, g2, ixN_zero _, ?_⟩
            refine k _ _ (Int.emod_nonneg _ (by omega)) (Int.emod_lt_of_pos _ hm0) ⟨mx, c, x0 / m :: ws1, ?_, upd_same, ⟨hx0, hx1⟩, hc0, by omega⟩ (sm.trans fun b o hb h3 h4 => by rw [upd_ne h4]; exact hb)
            rw [upd_ne npw]; exact g1
        · exact hnx _ _ ⟨rfl, rfl⟩
      · rintro σ' H2 ⟨rfl, rfl⟩
        have g3 : upd H2 p (.dK (penD w' mx (c + 1))) p = some (.dK (penD w' mx (c + 1))) := upd_same
        have b1 : (0 : Int) ≤ c + 1 ∧ c + 1 ≤ 1000000000000 := by omega
        refine ⟨p, .int c, rfl, gT g1, p, _, rfl, DPut.k (k := Sum.inr "turn") g1 (show 3 < sizeLine by decide), ?_⟩
        show tSeq _ _ _ _ (upd H2 p (.dK (penD w' mx (c + 1))))
        refine ⟨p, _, rfl, gM g3, p, _, rfl, gT g3, .inl ⟨by omega, by omega⟩, p, _, rfl, gT g3, .inl ⟨?_, ?_⟩, by decide, ?_⟩
        · show -(2 ^ 64) < 7919 * (c + 1); omega
        · show 7919 * (c + 1) < 2 ^ 64; omega
        generalize ho : (mx + 7919 * (c + 1) * (c + 1)) % 2147483629 = one
        have ho0 : 0 ≤ one := by rw [← ho]; exact Int.emod_nonneg _ (by decide)
        have ho1 : one < 2147483629 := by rw [← ho]; exact Int.emod_lt_of_pos _ (by decide)
        refine ⟨.inl ⟨by omega, by omega⟩, p, _, rfl, gT g3, .inl ⟨by decide, by decide⟩, by decide, ?_⟩
        generalize ht' : (one * one + 40692 * (c + 1) + 3) % 998244353 = two
        have ht0 : 0 ≤ two := by rw [← ht']; exact Int.emod_nonneg _ (by decide)
        have ht1 : two < 998244353 := by rw [← ht']; exact Int.emod_lt_of_pos _ (by decide)
        refine ⟨.inl ⟨by omega, by omega⟩, by decide, ⟨by decide, by decide⟩, hm0, ?_⟩
        refine k _ _ (Int.emod_nonneg _ (by omega)) (Int.emod_lt_of_pos _ hm0) ⟨mx, c + 1, ws1, g3, ?_, ⟨hx0, hx1⟩, by omega, by omega⟩ (sm.trans fun b o hb h3 h4 => by rw [upd_ne h3]; exact hb)
        rw [upd_ne npw.symm]; exact g2
theorem ok_law_tpen (T : Txt K mg w) : FnK P w K mg base 1 "_law_tpen" ["script"] (spPen K) := by
  refine T.t_law_tpen.okS sc_law_tpen (fun vs H Q E h => ?_) (fun f cdv A outer s H vs Q E hr h => ?_)
  · obtain ⟨a, ns, rfl, _⟩ := h
    rfl
  · obtain ⟨a, ns, rfl, hS, hl, k⟩ := h
    refine ⟨_, (sb_cons (s_set (i := 1) sc_law_tpen.nd rfl (Or.inl rfl) z_int)
      (sb_cons (s_for PassesOwn.never rfl (i_K K (zv 0)) (g_name (i := 2) sc_law_tpen.nd rfl (Or.inl rfl)) (sb_one (s_set (i := 1) sc_law_tpen.nd rfl (Or.inl rfl) (z_op op_modD (z_op op_addD (z_op op_addD (z_op op_mulD (zv 1) z_int) (z_op op_modD (zv 2) z_int)) z_int) z_int))))
      (sb_one (s_ret (z_disp (zz_cons z_str (zv 1) (zz_cons z_str z_int (zz_cons z_str (z_lc (own := ["cell"]) (idx := []) (N' := ["cell"]) (⟨rfl, by decide +kernel, by decide +kernel, (show ∀ y ∈ Scope.names _, y.2 = NameKind.free → ((defScope s_law_tpen).names.lookup y.1 = some NameKind.cell ∨ (defScope s_law_tpen).names.lookup y.1 = some NameKind.free) by decide +kernel), (show ∀ j ∈ ([] : List Nat), (Scope.names _).lookup ((["script", "mixed", "cell"] : List Str).getD j "") = some NameKind.free ∧ j < (["script", "mixed", "cell"] : List Str).length by decide +kernel), rfl⟩) rfl (i_K K (zv 0)) (fun _ _ _ _ _ _ => (g_name (i := 0) (show List.Nodup (["cell"] : List Str) by decide +kernel) rfl (Or.inl rfl))) (fun _ _ _ _ _ _ => (c_one (y_cmpR op_geD (zv 0) (z_op op_powD z_int z_int) (nomark _)))) (fun _ _ _ _ _ _ => (zv 0))) zz_nil))) rfl rfl (by simp) (by decide)))))), ?_⟩
    refine .inl ⟨⟨_, hS⟩, for_by (itn_list (ns.map V.int)) (fun i σ H' => H' = H ∧ ∃ (m : Int) (v : Option V), σ = [some (.ref a), some (.int m), v] ∧ 0 ≤ m ∧ m < 2147483629) ⟨rfl, 7, none, rfl, by decide, by decide⟩ (fun i τ H' _ h => by rw [h.1]; exact hS) ?_ ?_⟩
    · rintro i σ H' hi ⟨rfl, m, v, rfl, hm0, hm1⟩
      rw [List.length_map] at hi
      rw [mapInt_getD ns i hi]
      exact ⟨.inl ⟨by omega, by omega⟩, by decide, by decide, rfl, _, _, rfl, Int.emod_nonneg _ (by decide), Int.emod_lt_of_pos _ (by decide)⟩
    · rintro σ H' ⟨rfl, m, v, rfl, hm0, hm1⟩
      intro p hp
      have hS2 : ∀ o, SqL K (upd H' p o) a (ns.map V.int) := fun o => (Same.upd hp o).seq hS
      refine .inl ⟨⟨_, hS2 _⟩, fun D hD => ?_⟩
      have npD : D ≠ p := fun e => by rw [e, upd_same] at hD; cases hD
      have hD0 : H' D = none := by rw [upd_ne npD] at hD; exact hD
      have sD : ∀ o, Same (upd H' p (.dK [])) (upd (upd H' p (.dK [])) D o) := fun o => Same.upd hD o
      refine lc_pure (itn_list (ns.map V.int)) (fun i => decide ((10 : Int) ^ 15 ≤ ns.getD i 0)) (fun i => .int (ns.getD i 0)) (by rw [List.length_map]; exact small1000 (by omega)) (fun ys => (sD _).seq (hS2 _)) (fun i hi ys k' hk => ?_) (fun i hi _ ys k' hk => ?_) ?_
      · rw [List.length_map] at hi
        rw [mapInt_getD ns i hi]
        exact ⟨⟨by decide, by decide, by decide⟩, _, rfl, hk⟩
      · rw [List.length_map] at hi
        rw [mapInt_getD ns i hi]
        exact hk
      · refine ⟨by rw [upd_ne npD.symm, upd_same], penD D m 0, rfl, (show 3 ≤ 15 by decide), ?_⟩
        refine k p D _ hp hD0 ⟨m, 0, ((List.range (ns.map V.int).length).filter fun i => decide ((10 : Int) ^ 15 ≤ ns.getD i 0)).map (fun i => ns.getD i 0), upd_same, ?_, ⟨hm0, hm1⟩, by decide, by decide⟩ ?_
        · rw [upd_ne npD, upd_same, List.map_map]; rfl
        · intro b o hb
          rw [upd_ne (ne_of_none hb hp), upd_ne (ne_of_none hb hD0), upd_ne (ne_of_none hb hp)]
          exact hb
theorem ok_is_name (T : Txt K mg w) : FnK P w K mg base 1 "is_name" ["thing"] spName := by
  refine T.t_is_name.okS sc_is_name (fun vs H Q E h => ?_) (fun f cdv A outer s H vs Q E hr h => ?_)
  · obtain ⟨p, w', x, rfl, _⟩ := h
    rfl
  · obtain ⟨p, w', x, rfl, hg, k⟩ := h
    refine ⟨_, (sb_cons (s_if (w_or (y_not (y_val (z_callB call_isiD (by rfl) T.n_isinstance PyProof.Rows.boot_isinstance (sa_Name (zv 0) (sa_Name (z_bltn (v := .ty "str") (by rfl) T.n_str PyProof.Rows.boot_str rfl) sa_nil))))) (w_or1 (y_not (y_chain op_leI op_leI z_int (z_callB (call_lenK K) (by rfl) T.n_len PySem.boot_len (sa_Name (zv 0) sa_nil)) (z_gl T.c_LONGEST))))).pt (sb_one (s_ret z_bl)) sb_nil)
      (sb_one (s_ret (z_and (z_cmpR (op_notInK K) (zv 0) (z_glK K T.c_NO_NAMES) rfl) (z_one (z_callB (call_allK K rfl) (by rfl) T.n_all PyProof.Rows.boot_all (sa_ListComp (z_lc (own := ["sign"]) (idx := []) (N' := ["sign"]) (⟨rfl, by decide +kernel, by decide +kernel, (show ∀ y ∈ Scope.names _, y.2 = NameKind.free → ((defScope s_is_name).names.lookup y.1 = some NameKind.cell ∨ (defScope s_is_name).names.lookup y.1 = some NameKind.free) by decide +kernel), (show ∀ j ∈ ([] : List Nat), (Scope.names _).lookup ((["thing"] : List Str).getD j "") = some NameKind.free ∧ j < (["thing"] : List Str).length by decide +kernel), rfl⟩) rfl (i_K K (zv 0)) (fun _ _ _ _ _ _ => (g_name (i := 0) (show List.Nodup (["sign"] : List Str) by decide +kernel) rfl (Or.inl rfl))) (fun _ _ _ _ _ _ => c_nil) (fun _ _ _ _ _ _ => (z_cmpR (op_inK K) (zv 0) (z_gl T.c_LETTERS) rfl))) sa_nil))))))), ?_⟩
    obtain ⟨t, ht, hts⟩ := goodTy hg
    refine ⟨by decide, t, ht, _, rfl, ?_⟩
    cases hs : isiT t "str" with
    | false =>
      refine iteT ?_
      have := k H (Same.refl H)
      rw [notStr (fun hz => by rw [hts.mpr hz] at hs; cases hs)] at this
      exact this
    | true =>
      obtain ⟨z, rfl⟩ := hts.mp hs
      have hz : z.length ≤ 100000 := hg
      have hz' : z.length ≤ sizeLine := by have : sizeLine = 16777216 := sizeLine_eq; omega
      refine iteF ?_
      have fin : ∀ b, isName z = b → Q (.bl b) H := fun b e => by have := k H (Same.refl H); rw [← e]; exact this
      refine ⟨hz', _, rfl, ?_⟩
      refine ite2 (fun h1 => ?_) (fun h1 => ?_)
      · refine ⟨_, rfl, ?_⟩
        have h1' : 1 ≤ z.length := by have := of_decide_eq_true h1; omega
        refine iteNB (fun h2 => ?_) (fun h2 => ?_)
        rotate_left
        · refine fin false ?_
          have h2' : ¬ z.length ≤ 8 := by have := of_decide_eq_false h2; omega
          simp [isName, h2']
        · have h2' : z.length ≤ 8 := by have := of_decide_eq_true h2; omega
          intro a ha
          refine ⟨_, .inr ha, rfl, rfl, _, rfl, ?_⟩
          have hin : inV (.str z) (NON.map V.str) = NON.any fun y => y == z := by
            show (NON.map V.str).any (fun y => eqV y (.str z)) = _
            rw [List.any_map]; rfl
          refine ite2 (fun h3 => ?_) (fun h3 => ?_)
          · intro D hD
            refine lc_pure (itn_str z) (fun _ => true) (fun i => .bl (inAbc (z.cps.getD i 0))) (small1000 (by have : z.cps.size = z.length := rfl; omega)) (fun _ => True.intro) (fun i hi ys k' hk => hk) (fun i hi _ ys k' hk => ⟨_, rfl, by rw [Bool.false_xor]; exact hk⟩) ?_
            refine ⟨(List.range z.cps.size).map fun i => inAbc (z.cps.getD i 0), ?_, ?_⟩
            · rw [List.map_map]
              have : ((List.range z.cps.size).filter fun _ => true) = List.range z.cps.size := by simp
              rw [this]
              exact SqL.of upd_same
            · rw [range_all_str]
              have e : isNameV (.str z) = z.cps.toList.all inAbc := by
                have h3' : (NON.any fun y => y == z) = false := by rw [← hin]; simpa using h3
                simp [isNameV, isName, h1', h2', h3']
              rw [← e]
              exact k _ (Same.upd hD _)
          · refine fin false ?_
            have h3' : (NON.any fun y => y == z) = true := by rw [← hin]; simpa using h3
            simp [isName, h3']
      · refine ⟨_, rfl, iteT (fin false ?_)⟩
        have h1' : ¬ 1 ≤ z.length := by have : ¬ (1 : Int) ≤ z.length := fun q => h1 (decide_eq_true q); omega
        simp [isName, h1']
theorem ok_is_nameD (T : Txt K mg w) : FnK P w K mg base 1 "is_name" ["thing"] (spT nameD) := (ok_is_name T).imp fun _ _ _ _ h => spT_name h
def pair2D : Dt → Bool | .tup [_, b] => nameD b | _ => false
def fstD : Dt → Dt | .tup (d :: _) => d | _ => .oth
theorem pairsD_two (ds : List Dt) : pairsD (.tup ds) = (ds.all pair2D && ((ds.map fstD).all nameD && rising ((ds.map fstD).map strD))) := by
  have e1 : ds.all pairD = (ds.all pair2D && (ds.map fstD).all nameD) := by
    rw [List.all_map]
    induction ds with
    | nil => rfl
    | cons d ds ih =>
      have e : pairD d = (pair2D d && (nameD ∘ fstD) d) := by
        match d with
        | .str _ => rfl
        | .oth => rfl
        | .tup [] => rfl
        | .tup [_] => rfl
        | .tup [a, b] => exact Bool.and_comm _ _
        | .tup (a :: b :: c :: r) => rfl
      rw [List.all_cons, List.all_cons, List.all_cons, ih, e]
      cases pair2D d <;> cases (nameD ∘ fstD) d <;> cases ds.all pair2D <;> rfl
  have e2 : (ds.map fstD).map strD = ds.map fstS := by
    rw [List.map_map]
    refine List.map_congr_left fun d _ => ?_
    match d with
    | .str _ => rfl
    | .oth => rfl
    | .tup [] => rfl
    | .tup (.str z :: _) => rfl
    | .tup (.tup _ :: _) => rfl
    | .tup (.oth :: _) => rfl
  show (ds.all pairD && rising (ds.map fstS)) = _
  rw [e1, e2, Bool.and_assoc]
theorem pair2D_at {H : Hp} {v : V} {d : Dt} (h : DD H v d) (hp : pair2D d = true) : ∃ b x y d1 d2, v = .ref b ∧ H b = some (.tup [x, y]) ∧ d = .tup [d1, d2] ∧ DD H x d1 := by
  cases h with
  | @tup b ys es e' hl' hn' hds' =>
    match es, hl', hp, hds' with
    | [d1, d2], hl', hp, hds' =>
      obtain ⟨y1, y2, rfl⟩ := len2 hl'
      exact ⟨b, y1, y2, d1, d2, rfl, e', rfl, hds' 0 (by simp) (by simp)⟩
  | str _ => exact Bool.noConfusion hp
  | non => exact Bool.noConfusion hp
  | bl _ => exact Bool.noConfusion hp
  | int _ => exact Bool.noConfusion hp
  | lst _ => exact Bool.noConfusion hp
  | dct _ => exact Bool.noConfusion hp
def spRis : Sp := fun vs H Q _ => ∃ (L : Addr) (xs : List V) (ds : List Dt), vs = [.ref L] ∧ H L = some (.lst xs) ∧ xs.length = ds.length ∧ xs.length ≤ 1000 ∧ (∀ i (h : i < xs.length) (h' : i < ds.length), DD H xs[i] ds[i]) ∧ ∀ H', Same H H' → Q (.bl (ds.all nameD && rising (ds.map strD))) H'
theorem ok_are_rising (T : Txt K mg w) : FnK P w K mg base 2 "are_rising" ["words"] spRis := by
  have F_is_name : FnK P w K mg base 1 "is_name" ["thing"] (spT nameD) := ok_is_nameD T
  refine T.t_are_rising.okS sc_are_rising (fun vs H Q E h => ?_) (fun f cdv A outer s H vs Q E hr h => ?_)
  · obtain ⟨L, xs, ds, rfl, _⟩ := h
    rfl
  · obtain ⟨L, xs, ds, rfl, gL, hl, hn, hds, k⟩ := h
    have hu0 := Nat.lt_of_succ_lt (hu_of hr)
    have hsz : sizeLine = 16777216 := sizeLine_eq
    refine ⟨_, (sb_one (s_ret (z_and (z_callB (call_allK K rfl) (by rfl) T.n_all PyProof.Rows.boot_all (sa_ListComp (z_lc (own := ["word"]) (idx := []) (N' := ["word"]) (⟨rfl, by decide +kernel, by decide +kernel, (show ∀ y ∈ Scope.names _, y.2 = NameKind.free → ((defScope s_are_rising).names.lookup y.1 = some NameKind.cell ∨ (defScope s_are_rising).names.lookup y.1 = some NameKind.free) by decide +kernel), (show ∀ j ∈ ([] : List Nat), (Scope.names _).lookup ((["words"] : List Str).getD j "") = some NameKind.free ∧ j < (["words"] : List Str).length by decide +kernel), rfl⟩) rfl (i_K K (zv 0)) (fun _ _ _ _ _ _ => (g_name (i := 0) (show List.Nodup (["word"] : List Str) by decide +kernel) rfl (Or.inl rfl))) (fun _ _ _ _ _ _ => c_nil) (fun _ _ _ _ _ _ => (z_fn F_is_name (hr.mono (by decide)) (sa_Name (zv 0) sa_nil)))) sa_nil)) (z_one (z_callB (call_allK K rfl) (by rfl) T.n_all PyProof.Rows.boot_all (sa_ListComp (z_lc (own := ["ahead", "behind"]) (idx := []) (N' := ["ahead", "behind"]) (⟨rfl, by decide +kernel, by decide +kernel, (show ∀ y ∈ Scope.names _, y.2 = NameKind.free → ((defScope s_are_rising).names.lookup y.1 = some NameKind.cell ∨ (defScope s_are_rising).names.lookup y.1 = some NameKind.free) by decide +kernel), (show ∀ j ∈ ([] : List Nat), (Scope.names _).lookup ((["words"] : List Str).getD j "") = some NameKind.free ∧ j < (["words"] : List Str).length by decide +kernel), rfl⟩) rfl (pi_zipK K (by rfl) T.n_zip (sa_Name (zv 0) (sa_Subscript (z_slice (sl_K K) (zv 0) (zo_some z_int) zo_none) sa_nil))) (fun _ _ _ _ _ _ => (g_tup K (n := 2) rfl (gs_cons (g_name (i := 0) (show List.Nodup (["ahead", "behind"] : List Str) by decide +kernel) rfl (Or.inl rfl)) (gs_cons (g_name (i := 1) (show List.Nodup (["ahead", "behind"] : List Str) by decide +kernel) rfl (Or.inl rfl)) gs_nil)))) (fun _ _ _ _ _ _ => c_nil) (fun _ _ _ _ _ _ => (z_cmpR op_ltD (zv 0) (zv 1) (nomark _)))) sa_nil)))))), ?_⟩
    refine Or.inl ⟨⟨xs, SqL.of gL⟩, fun D hD => ?_⟩
    refine lc_bools (itn_list xs) (fun i => nameD (ds.getD i .oth)) (by omega) hD (fun H2 s2 => SqL.of (s2 _ _ gL)) (fun i H2 k' hi s2 hk => ?_) (fun H2 s2 hl2 => ?_)
    · refine ⟨_, ds.getD i .oth, rfl, ?_, hk⟩
      have h3 := hds i hi (by omega)
      have e1 : xs.getD i .non = xs[i] := by simp [List.getD_eq_getElem?_getD, hi]
      have e2 : ds.getD i .oth = ds[i]'(by omega) := by rw [List.getD_eq_getElem?_getD, List.getElem?_eq_getElem (by omega)]; rfl
      show DD H2 (xs.getD i .non) _
      rw [e1, e2]
      exact h3.same s2
    · refine ⟨_, SqL.of hl2, _, rfl, ?_⟩
      rw [hl, range_all_list ds .oth nameD]
      refine iteB (fun h3 => ?_) (fun h3 => ?_)
      rotate_left
      · have := k H2 s2
        simp only [h3, Bool.false_and] at this
        exact this
      · obtain ⟨ws, hws, rfl⟩ : ∃ ws : List Str, ds.map strD = ws ∧ xs = ws.map V.str := by
          refine ⟨_, rfl, ?_⟩
          apply List.ext_getElem
          · simp [hl]
          · intro i h1 h2
            have h4 := List.all_eq_true.mp h3 _ (List.getElem_mem (show i < ds.length by omega))
            obtain ⟨z, q1, q2, _⟩ := nameD_str (hds i h1 (by omega)) h4
            rw [q1]; simp [q2, strD]
        have q1 := s2 _ _ gL
        refine ⟨1, rfl, Or.inr (Or.inl ⟨L, _, rfl, SqL.of q1, fun p1 hp1 => ?_⟩)⟩
        have n21 : L ≠ p1 := ne_of_none q1 hp1
        refine ⟨L, p1, _, _, rfl, SqL.of (by rw [upd_ne n21]; exact q1), SqL.of upd_same, fun D3 hD3 => ?_⟩
        have ec : cutV (ws.map V.str) (some 1) none = (ws.drop 1).map V.str := by
          have := cut_from (ws.map V.str) 1
          rw [List.map_drop]; exact this
        rw [ec] at hD3 ⊢
        refine lc_pair (itp_zip (ws.map V.str) ((ws.drop 1).map V.str)) (fun i τ H4 => H4 D3 = some (.lst (((List.range i).map fun i => strLt (ws.getD i "") (ws.getD (i + 1) "")).map V.bl)) ∧ Same (upd H2 p1 (.lst ((ws.drop 1).map V.str))) H4 ∧ ∃ v1 v2, τ = [v1, v2]) ⟨upd_same, Same.upd hD3 _, none, none, rfl⟩
          (fun i τ H4 _ h => ⟨SqL.of (h.2.1 _ _ (by rw [upd_ne n21]; exact q1)), SqL.of (h.2.1 _ _ upd_same)⟩) ?_ ?_
        · rintro i τ H4 T0 hi ⟨r1, r2, u1, u2, rfl⟩ hT0
          simp only [List.length_map, List.length_drop] at hi
          have e6 : (ws.map V.str).getD i .non = .str (ws.getD i "") := mapStr_getD ws i (by omega)
          have e7 : ((ws.drop 1).map V.str).getD i .non = .str (ws.getD (i + 1) "") := by
            rw [mapStr_getD (ws.drop 1) i (by rw [List.length_drop]; omega)]
            congr 1
            rw [List.getD_eq_getElem?_getD, List.getD_eq_getElem?_getD, List.getElem?_drop, Nat.add_comm]
          rw [e6, e7]
          refine tcNil_i ?_
          rw [if_pos rfl]
          simp only [List.length_map] at hn
          refine ⟨_, (Same.upd hT0 _) _ _ r1, by simp; omega, ?_, ((r2.trans (Same.upd hT0 _)).put hD3), _, _, rfl⟩
          rw [upd_same, List.range_succ, List.map_append, List.map_append]; rfl
        · rintro τ H4 ⟨r1, r2, u1, u2, rfl⟩
          refine ⟨_, SqL.of r1, ?_⟩
          have sAll : Same H H4 := (s2.trans (Same.upd hp1 _)).trans r2
          have := k H4 sAll
          simp only [h3, Bool.true_and] at this
          have er : ((List.range (min (ws.map V.str).length ((ws.drop 1).map V.str).length)).map fun i => strLt (ws.getD i "") (ws.getD (i + 1) "")).all id = rising ws := by
            simp only [List.length_map, List.length_drop]
            exact rising_range ws
          rw [er, ← hws]
          exact this
theorem ok_is_pair (T : Txt K mg w) : FnK P w K mg base 2 "is_pair" ["thing"] (spT pair2D) := by
  have F_is_name : FnK P w K mg base 1 "is_name" ["thing"] (spT nameD) := ok_is_nameD T
  refine T.t_is_pair.okS sc_is_pair (fun vs H Q E h => ?_) (fun f cdv A outer s H vs Q E hr h => ?_)
  · obtain ⟨x, d, rfl, _⟩ := h
    rfl
  · obtain ⟨x, d, rfl, hd, k⟩ := h
    have hu0 := Nat.lt_of_succ_lt (hu_of hr)
    refine ⟨_, (sb_one (s_ret (z_and (z_callB call_isiD (by rfl) T.n_isinstance PyProof.Rows.boot_isinstance (sa_Name (zv 0) (sa_Name (z_bltn (v := .ty "tuple") (by rfl) T.n_tuple PyProof.Rows.boot_tuple rfl) sa_nil))) (z_and (z_cmpR (op_eqD hu0) (z_callB (call_lenK K) (by rfl) T.n_len PySem.boot_len (sa_Name (zv 0) sa_nil)) z_int (nomark _)) (z_one (z_fn F_is_name (hr.mono (by decide)) (sa_Subscript (z_ix (ix_K K) (zv 0) z_int (fun _ _ => rfl)) sa_nil))))))), ?_⟩
    obtain ⟨t, ht, h1, h2⟩ := hd.ty
    refine ⟨by decide, t, ht, _, rfl, ?_⟩
    rw [h1]
    have k0 := k H (Same.refl H)
    cases hd with
    | @tup a xs ds e hl hn hds =>
      refine iteT ?_
      refine Or.inl ⟨xs, .inr (SqT.of e), rfl, _, rfl, iteB (fun h3 => ?_) (fun h3 => ?_)⟩
      · rw [Bool.false_xor, decV_int] at h3
        have hx2 : xs.length = 2 := by have := of_decide_eq_true h3; omega
        obtain ⟨x1, x2, rfl⟩ : ∃ x1 x2, xs = [x1, x2] := len2 hx2
        obtain ⟨d1, d2, rfl⟩ : ∃ d1 d2, ds = [d1, d2] := len2 hl.symm
        refine ⟨_, x2, .inr (SqT.of e), rfl, x2, d2, rfl, hds 1 (by simp) (by simp), fun H2 s2 => ?_⟩
        exact k H2 s2
      · rw [Bool.false_xor, decV_int] at h3
        have hx2 : xs.length ≠ 2 := by have := of_decide_eq_false h3; omega
        have e1 : pair2D (.tup ds) = false := by
          match ds, hl with
          | [], _ => rfl
          | [_], _ => rfl
          | [_, _], hl => exact absurd hl hx2
          | _ :: _ :: _ :: _, _ => rfl
        rw [e1] at k0
        exact k0
    | _ => exact iteF k0
theorem ok_is_pairs (T : Txt K mg w) : FnK P w K mg base 3 "is_pairs" ["thing"] (spT pairsD) := by
  have F_is_pair : FnK P w K mg base 2 "is_pair" ["thing"] (spT pair2D) := ok_is_pair T
  have F_are_rising : FnK P w K mg base 2 "are_rising" ["words"] spRis := ok_are_rising T
  refine T.t_is_pairs.okS sc_is_pairs (fun vs H Q E h => ?_) (fun f cdv A outer s H vs Q E hr h => ?_)
  · obtain ⟨x, d, rfl, _⟩ := h
    rfl
  · obtain ⟨x, d, rfl, hd, k⟩ := h
    have hu0 := Nat.lt_of_succ_lt (hu_of hr)
    have hsz : sizeLine = 16777216 := sizeLine_eq
    refine ⟨_, (sb_cons (s_if (w_or (y_not (y_val (z_callB call_isiD (by rfl) T.n_isinstance PyProof.Rows.boot_isinstance (sa_Name (zv 0) (sa_Name (z_bltn (v := .ty "tuple") (by rfl) T.n_tuple PyProof.Rows.boot_tuple rfl) sa_nil))))) (w_or1 (y_not (y_val (z_callB (call_allK K rfl) (by rfl) T.n_all PyProof.Rows.boot_all (sa_ListComp (z_lc (own := ["pair"]) (idx := []) (N' := ["pair"]) (⟨rfl, by decide +kernel, by decide +kernel, (show ∀ y ∈ Scope.names _, y.2 = NameKind.free → ((defScope s_is_pairs).names.lookup y.1 = some NameKind.cell ∨ (defScope s_is_pairs).names.lookup y.1 = some NameKind.free) by decide +kernel), (show ∀ j ∈ ([] : List Nat), (Scope.names _).lookup ((["thing"] : List Str).getD j "") = some NameKind.free ∧ j < (["thing"] : List Str).length by decide +kernel), rfl⟩) rfl (i_K K (zv 0)) (fun _ _ _ _ _ _ => (g_name (i := 0) (show List.Nodup (["pair"] : List Str) by decide +kernel) rfl (Or.inl rfl))) (fun _ _ _ _ _ _ => c_nil) (fun _ _ _ _ _ _ => (z_fn F_is_pair (hr.mono (by decide)) (sa_Name (zv 0) sa_nil)))) sa_nil)))))).pt (sb_one (s_ret z_bl)) sb_nil)
      (sb_one (s_ret (z_fn F_are_rising (hr.mono (by decide)) (sa_ListComp (z_lc (own := ["word", "x"]) (idx := []) (N' := ["word", "x"]) (⟨rfl, by decide +kernel, by decide +kernel, (show ∀ y ∈ Scope.names _, y.2 = NameKind.free → ((defScope s_is_pairs).names.lookup y.1 = some NameKind.cell ∨ (defScope s_is_pairs).names.lookup y.1 = some NameKind.free) by decide +kernel), (show ∀ j ∈ ([] : List Nat), (Scope.names _).lookup ((["thing"] : List Str).getD j "") = some NameKind.free ∧ j < (["thing"] : List Str).length by decide +kernel), rfl⟩) rfl (i_K K (zv 0)) (fun _ _ _ _ _ _ => (g_tup K (n := 2) rfl (gs_cons (g_name (i := 0) (show List.Nodup (["word", "x"] : List Str) by decide +kernel) rfl (Or.inl rfl)) (gs_cons (g_name (i := 1) (show List.Nodup (["word", "x"] : List Str) by decide +kernel) rfl (Or.inl rfl)) gs_nil)))) (fun _ _ _ _ _ _ => c_nil) (fun _ _ _ _ _ _ => (zv 0))) sa_nil))))), ?_⟩
    obtain ⟨t, ht, h1, h2⟩ := hd.ty
    refine ⟨by decide, t, ht, _, rfl, ?_⟩
    rw [h1]
    have k0 := k H (Same.refl H)
    cases hd with
    | @tup a xs ds e hl hn hds =>
      refine iteF ?_
      refine Or.inr ⟨⟨xs, SqT.of e⟩, fun D hD => ?_⟩
      refine lc_bools (itn_tup xs) (fun i => pair2D (ds.getD i .oth)) (by omega) hD (fun H2 s2 => SqT.of (s2 _ _ e)) (fun i H2 k' hi s2 hk => ?_) (fun H2 s2 hl2 => ?_)
      · refine ⟨_, ds.getD i .oth, rfl, ?_, hk⟩
        have h3 := hds i hi (by omega)
        have e1 : xs.getD i .non = xs[i] := by simp [List.getD_eq_getElem?_getD, hi]
        have e2 : ds.getD i .oth = ds[i]'(by omega) := by rw [List.getD_eq_getElem?_getD, List.getElem?_eq_getElem (by omega)]; rfl
        show DD H2 (xs.getD i .non) _
        rw [e1, e2]
        exact h3.same s2
      · refine ⟨_, SqL.of hl2, _, rfl, ?_⟩
        rw [hl, range_all_list ds .oth pair2D]
        refine iteNB (fun h3 => ?_) (fun h3 => ?_)
        rotate_left
        · have := k H2 s2
          rw [pairsD_two, h3, Bool.false_and] at this
          exact this
        · have hpair : ∀ i (h : i < xs.length), ∃ b x y d1 d2, xs[i] = .ref b ∧ H b = some (.tup [x, y]) ∧ ds[i]? = some (.tup [d1, d2]) ∧ DD H x d1 := fun i hi => by
            have h4 := List.all_eq_true.mp h3 _ (List.getElem_mem (show i < ds.length by omega))
            have h5 := hds i hi (by omega)
            obtain ⟨b, x, y, d1, d2, e1, e2, e3, e4⟩ := pair2D_at h5 h4
            exact ⟨b, x, y, d1, d2, e1, e2, by rw [List.getElem?_eq_getElem (by omega), e3], e4⟩
          have e2 := s2 _ _ e
          refine Or.inr ⟨⟨xs, SqT.of e2⟩, fun D2 hD2 => ?_⟩
          refine lc_by (itn_tup xs) (fun i τ H3 => (∃ us : List V, H3 D2 = some (.lst us) ∧ us.length = i ∧ ∀ j (h : j < us.length) (h' : j < ds.length), DD H us[j] (fstD ds[j])) ∧ Same H2 H3 ∧ ∃ v1 v2, τ = [v1, v2]) ⟨⟨[], upd_same, rfl, fun j h => nomatch h⟩, Same.upd hD2 _, none, none, rfl⟩ (fun i τ H3 _ h => SqT.of (h.2.1 _ _ e2)) ?_ ?_
          · rintro i τ H3 hi ⟨⟨us, q1, q1l, q1d⟩, q2, v1, v2, rfl⟩
            obtain ⟨b, x, y, d1, d2, e3, e4, e5, e6⟩ := hpair i hi
            have e1 : xs.getD i .non = .ref b := by rw [List.getD_eq_getElem?_getD, List.getElem?_eq_getElem hi, e3]; rfl
            rw [e1]
            refine g2_at (q2 _ _ (s2 _ _ e4)) ?_
            refine ⟨_, q1, by omega, ⟨us ++ [x], upd_same, by simp; omega, fun j hj hj' => ?_⟩, (q2.put hD2), _, _, rfl⟩
            by_cases hju : j < us.length
            · rw [List.getElem_append_left hju]; exact q1d j hju hj'
            · have ej : j = i := by simp at hj; omega
              subst ej
              have e7 : ds[j] = .tup [d1, d2] := by rw [List.getElem?_eq_getElem hj'] at e5; exact Option.some.inj e5
              rw [List.getElem_append_right (by omega), e7]
              simp only [q1l, Nat.sub_self, List.getElem_cons_zero]
              exact e6
          · rintro τ H3 ⟨⟨us, q1, q1l, q1d⟩, q2, v1, v2, rfl⟩
            refine ⟨D2, us, ds.map fstD, rfl, q1, by simp; omega, by omega, fun j hj hj' => ?_, fun H4 s4 => ?_⟩
            · rw [List.getElem_map]
              exact (q1d j hj (by simpa using hj')).same (s2.trans q2)
            · have := k H4 ((s2.trans q2).trans s4)
              rw [pairsD_two, h3, Bool.true_and] at this
              exact this
    | _ => exact iteT k0
theorem ok_is_head (T : Txt K mg w) : FnK P w K mg base 4 "is_head" ["thing"] (spT headD) := by
  have F_is_name : FnK P w K mg base 1 "is_name" ["thing"] (spT nameD) := ok_is_nameD T
  have F_is_pairs : FnK P w K mg base 3 "is_pairs" ["thing"] (spT pairsD) := ok_is_pairs T
  refine T.t_is_head.okS sc_is_head (fun vs H Q E h => ?_) (fun f cdv A outer s H vs Q E hr h => ?_)
  · obtain ⟨x, d, rfl, _⟩ := h
    rfl
  · obtain ⟨x, d, rfl, hd, k⟩ := h
    have hu0 := Nat.lt_of_succ_lt (hu_of hr)
    have hsz : sizeLine = 16777216 := sizeLine_eq
    refine ⟨_, (sb_cons (s_if (w_or (y_not (y_val (z_callB call_isiD (by rfl) T.n_isinstance PyProof.Rows.boot_isinstance (sa_Name (zv 0) (sa_Name (z_bltn (v := .ty "tuple") (by rfl) T.n_tuple PyProof.Rows.boot_tuple rfl) sa_nil))))) (w_or1 (y_cmpR (op_eqD hu0) (z_callB (call_lenK K) (by rfl) T.n_len PySem.boot_len (sa_Name (zv 0) sa_nil)) z_int (nomark _)))).pt (sb_one (s_ret z_bl)) sb_nil)
      (sb_cons (s_asg (zv 0) (pg_star1 K rfl (g_name (i := 1) sc_is_head.nd rfl (Or.inl rfl)) (g_name (i := 2) sc_is_head.nd rfl (Or.inl rfl))))
      (sb_cons (s_if (y_not (y_val (z_callB call_isiD (by rfl) T.n_isinstance PyProof.Rows.boot_isinstance (sa_Name (zv 1) (sa_Name (z_bltn (v := .ty "str") (by rfl) T.n_str PyProof.Rows.boot_str rfl) sa_nil))))) (sb_one (s_ret z_bl)) sb_nil)
      (sb_cons (s_if (y_cmpR (op_inK K) (zv 1) (z_glK K T.c_WORDED) rfl) (sb_one (s_ret (z_and (z_cmpR (op_eqD hu0) (z_callB (call_lenK K) (by rfl) T.n_len PySem.boot_len (sa_Name (zv 2) sa_nil)) z_int (nomark _)) (z_one (z_fn F_is_pairs (hr.mono (by decide)) (sa_Subscript (z_ix (ix_K K) (zv 2) z_int (fun _ _ => rfl)) sa_nil)))))) sb_nil)
      (sb_cons (s_if (y_kin T.c_NAMES_BEHIND (zv 1)) (sb_one (s_ret (z_and (z_cmpR (op_eqD hu0) (z_callB (call_lenK K) (by rfl) T.n_len PySem.boot_len (sa_Name (zv 2) sa_nil)) (z_kget T.c_NAMES_BEHIND (zv 1) (fun _ _ => rfl)) (nomark _)) (z_one (z_callB (call_allK K rfl) (by rfl) T.n_all PyProof.Rows.boot_all (sa_ListComp (z_lc (own := ["x"]) (idx := []) (N' := ["x"]) (⟨rfl, by decide +kernel, by decide +kernel, (show ∀ y ∈ Scope.names _, y.2 = NameKind.free → ((defScope s_is_head).names.lookup y.1 = some NameKind.cell ∨ (defScope s_is_head).names.lookup y.1 = some NameKind.free) by decide +kernel), (show ∀ j ∈ ([] : List Nat), (Scope.names _).lookup ((["thing", "sort", "rest"] : List Str).getD j "") = some NameKind.free ∧ j < (["thing", "sort", "rest"] : List Str).length by decide +kernel), rfl⟩) rfl (i_K K (zv 2)) (fun _ _ _ _ _ _ => (g_name (i := 0) (show List.Nodup (["x"] : List Str) by decide +kernel) rfl (Or.inl rfl))) (fun _ _ _ _ _ _ => c_nil) (fun _ _ _ _ _ _ => (z_fn F_is_name (hr.mono (by decide)) (sa_Name (zv 0) sa_nil)))) sa_nil)))))) sb_nil)
      (sb_one (s_ret z_bl))))))), ?_⟩
    obtain ⟨t, ht, h1, h2⟩ := hd.ty
    refine ⟨by decide, t, ht, _, rfl, ?_⟩
    rw [h1]
    have k0 := k H (Same.refl H)
    cases hd with
    | @tup a xs ds e hl hn hds =>
      refine iteF ?_
      refine Or.inl ⟨xs, .inr (SqT.of e), rfl, _, rfl, iteB (fun h3 => ?_) (fun h3 => ?_)⟩
      · rw [Bool.false_xor, decV_int] at h3
        have hx : ds = [] := by have := of_decide_eq_true h3; exact List.length_eq_zero_iff.mp (by omega)
        subst hx
        exact k0
      · rw [Bool.false_xor, decV_int] at h3
        have hx : xs.length ≠ 0 := by have := of_decide_eq_false h3; omega
        obtain ⟨x0, xr, rfl⟩ : ∃ x0 xr, xs = x0 :: xr := lenS hx
        obtain ⟨d0, dr, rfl⟩ : ∃ d0 dr, ds = d0 :: dr := lenS (by rw [← hl]; exact Nat.succ_ne_zero _)
        have hl' : xr.length = dr.length := by simpa using hl
        have hn' : xr.length < 1000 := by simp at hn; omega
        have hd0 : DD H x0 d0 := hds 0 (by simp) (by simp)
        have hdr : ∀ i (h : i < xr.length) (h' : i < dr.length), DD H xr[i] dr[i] := fun i h h' => hds (i + 1) (by simpa using h) (by simpa using h')
        refine tNext_seq ?_
        refine ⟨a, x0, xr, rfl, SqT.of e, fun R hR => ?_⟩
        have s1 := Same.upd hR (.lst xr)
        have hR1 : upd H R (.lst xr) R = some (.lst xr) := upd_same
        generalize upd H R (.lst xr) = H1 at s1 hR1
        have k1 := k H1 s1
        obtain ⟨t0, ht0, _, h20⟩ := (hd0.same s1).ty
        refine ⟨by decide, t0, ht0, _, rfl, ?_⟩
        rw [h20]
        cases hd0 with
        | @str z hz =>
          refine iteF ?_
          refine tNext_seq ?_
          intro aW hW
          refine ⟨_, .inr hW, rfl, rfl, _, rfl, ?_⟩
          rw [Bool.false_xor, worded_in]
          refine iteB (fun h4 => ?_) (fun h4 => ?_)
          · refine Or.inl ⟨xr, .inl (SqL.of hR1), rfl, _, rfl, iteB (fun h5 => ?_) (fun h5 => ?_)⟩
            · rw [Bool.false_xor, decV_int] at h5
              have hx1 : xr.length = 1 := by have := of_decide_eq_true h5; omega
              obtain ⟨x1, rfl⟩ : ∃ x1, xr = [x1] := len1 hx1
              obtain ⟨d1, rfl⟩ : ∃ d1, dr = [d1] := len1 hl'.symm
              refine ⟨_, x1, .inl (SqL.of hR1), rfl, x1, d1, rfl, (hdr 0 (by simp) (by simp)).same s1, fun H2 s2 => ?_⟩
              have := k H2 (s1.trans s2)
              rw [headD_eq, if_pos h4] at this
              exact this
            · rw [Bool.false_xor, decV_int] at h5
              have hx1 : dr.length ≠ 1 := by have := of_decide_eq_false h5; omega
              rw [headD_one h4, oneP_ne hx1] at k1
              exact k1
          · refine tNext_seq ?_
            refine ⟨.inr z, rfl, _, rfl, ?_⟩
            rw [valV_behind]
            rw [headD_eq, if_neg (by rw [h4]; exact Bool.false_ne_true)] at k1 k
            cases hb : behindN z with
            | none =>
              rw [hb] at k1
              exact iteF k1
            | some n =>
              rw [hb] at k1 k
              refine iteT ?_
              refine Or.inl ⟨xr, .inl (SqL.of hR1), .inr z, .int n, rfl, by rw [valV_behind, hb]; rfl, rfl, _, rfl, iteB (fun h5 => ?_) (fun h5 => ?_)⟩
              · rw [Bool.false_xor, decV_int] at h5
                have hx1 : dr.length = n := by have := of_decide_eq_true h5; omega
                refine Or.inl ⟨⟨xr, SqL.of hR1⟩, fun D hD => ?_⟩
                refine lc_bools (itn_list xr) (fun i => nameD (dr.getD i .oth)) (by omega) hD (fun H2 s2 => SqL.of (s2 _ _ hR1)) (fun i H2 k' hi s2 hk => ?_) (fun H2 s2 hl2 => ?_)
                · refine ⟨_, dr.getD i .oth, rfl, ?_, hk⟩
                  have h6 := hdr i hi (by omega)
                  have e1 : xr.getD i .non = xr[i] := by simp [List.getD_eq_getElem?_getD, hi]
                  have e2 : dr.getD i .oth = dr[i]'(by omega) := by rw [List.getD_eq_getElem?_getD, List.getElem?_eq_getElem (by omega)]; rfl
                  show DD H2 (xr.getD i .non) _
                  rw [e1, e2]
                  exact (h6.same s1).same s2
                · refine ⟨_, SqL.of hl2, ?_⟩
                  rw [hl', range_all_list dr .oth nameD]
                  have := k H2 (s1.trans s2)
                  simp only [hx1, decide_true, Bool.true_and] at this
                  exact this
              · rw [Bool.false_xor, decV_int] at h5
                have hx1 : ¬ dr.length = n := by have := of_decide_eq_false h5; omega
                simp only [hx1, decide_false, Bool.false_and] at k1
                exact k1
        | tup _ _ _ _ => exact iteT k1
        | non => exact iteT k1
        | bl _ => exact iteT k1
        | int _ => exact iteT k1
        | lst _ => exact iteT k1
        | dct _ => exact iteT k1
    | str _ => exact iteT k0
    | non => exact iteT k0
    | bl _ => exact iteT k0
    | int _ => exact iteT k0
    | lst _ => exact iteT k0
    | dct _ => exact iteT k0
theorem ok_is_row (T : Txt K mg w) : FnK P w K mg base 5 "is_row" ["thing"] (spT rowD) := by
  have F_is_name : FnK P w K mg base 1 "is_name" ["thing"] (spT nameD) := ok_is_nameD T
  have F_is_head : FnK P w K mg base 4 "is_head" ["thing"] (spT headD) := ok_is_head T
  refine T.t_is_row.okS sc_is_row (fun vs H Q E h => ?_) (fun f cdv A outer s H vs Q E hr h => ?_)
  · obtain ⟨x, d, rfl, _⟩ := h
    rfl
  · obtain ⟨x, d, rfl, hd, k⟩ := h
    have hu0 := Nat.lt_of_succ_lt (hu_of hr)
    refine ⟨_, (sb_one (s_ret (z_and (z_callB call_isiD (by rfl) T.n_isinstance PyProof.Rows.boot_isinstance (sa_Name (zv 0) (sa_Name (z_bltn (v := .ty "tuple") (by rfl) T.n_tuple PyProof.Rows.boot_tuple rfl) sa_nil))) (z_and (z_cmpR (op_eqD hu0) (z_callB (call_lenK K) (by rfl) T.n_len PySem.boot_len (sa_Name (zv 0) sa_nil)) z_int (nomark _)) (z_and (z_fn F_is_name (hr.mono (by decide)) (sa_Subscript (z_ix (ix_K K) (zv 0) z_int (fun _ _ => rfl)) sa_nil)) (z_one (z_fn F_is_head (hr.mono (by decide)) (sa_Subscript (z_ix (ix_K K) (zv 0) z_int (fun _ _ => rfl)) sa_nil)))))))), ?_⟩
    obtain ⟨t, ht, h1, h2⟩ := hd.ty
    refine ⟨by decide, t, ht, _, rfl, ?_⟩
    rw [h1]
    have k0 := k H (Same.refl H)
    cases hd with
    | @tup a xs ds e hl hn hds =>
      refine iteT ?_
      refine Or.inl ⟨xs, .inr (SqT.of e), rfl, _, rfl, iteB (fun h3 => ?_) (fun h3 => ?_)⟩
      · rw [Bool.false_xor, decV_int] at h3
        have hx2 : xs.length = 2 := by have := of_decide_eq_true h3; omega
        obtain ⟨x1, x2, rfl⟩ : ∃ x1 x2, xs = [x1, x2] := len2 hx2
        obtain ⟨d1, d2, rfl⟩ : ∃ d1 d2, ds = [d1, d2] := len2 hl.symm
        refine ⟨_, x1, .inr (SqT.of e), rfl, x1, d1, rfl, hds 0 (by simp) (by simp), fun H1 s1 => ⟨_, rfl, iteB (fun h4 => ?_) (fun h4 => ?_)⟩⟩
        · refine ⟨_, x2, .inr (SqT.of (s1 _ _ e)), rfl, x2, d2, rfl, (hds 1 (by simp) (by simp)).same s1, fun H2 s2 => ?_⟩
          have := k H2 (s1.trans s2)
          simp only [rowD, h4, Bool.true_and] at this
          exact this
        · have := k H1 s1
          simp only [rowD, h4, Bool.false_and] at this
          exact this
      · rw [Bool.false_xor, decV_int] at h3
        have hx2 : xs.length ≠ 2 := by have := of_decide_eq_false h3; omega
        have e1 : rowD (.tup ds) = false := by
          match ds, hl with
          | [], _ => rfl
          | [_], _ => rfl
          | [_, _], hl => exact absurd hl hx2
          | _ :: _ :: _ :: _, _ => rfl
        rw [e1] at k0
        exact k0
    | _ => exact iteF k0
def spNamesIn : Sp := fun vs H Q _ => ∃ (x : V) (d : Dt), vs = [x] ∧ DD H x d ∧ headD d = true ∧ ∀ L H', H L = none → H' L = some (.lst ((namesD d).map V.str)) → Same H H' → Q (.ref L) H'
theorem ok_names_in (T : Txt K mg w) : FnK P w K mg base 1 "names_in" ["head"] spNamesIn := by
  refine T.t_names_in.okS sc_names_in (fun vs H Q E h => ?_) (fun f cdv A outer s H vs Q E hr h => ?_)
  · obtain ⟨x, d, rfl, _⟩ := h
    rfl
  · obtain ⟨x, d, rfl, hd, hh, k⟩ := h
    have hsz : sizeLine = 16777216 := sizeLine_eq
    refine ⟨_, (sb_cons (s_if (y_cmpR (op_inK K) (z_ix (ix_K K) (zv 0) z_int (fun _ _ => rfl)) (z_glK K T.c_WORDED) rfl) (sb_one (s_ret (z_lc (own := ["word", "x"]) (idx := []) (N' := ["word", "x"]) (⟨rfl, by decide +kernel, by decide +kernel, (show ∀ y ∈ Scope.names _, y.2 = NameKind.free → ((defScope s_names_in).names.lookup y.1 = some NameKind.cell ∨ (defScope s_names_in).names.lookup y.1 = some NameKind.free) by decide +kernel), (show ∀ j ∈ ([] : List Nat), (Scope.names _).lookup ((["head"] : List Str).getD j "") = some NameKind.free ∧ j < (["head"] : List Str).length by decide +kernel), rfl⟩) rfl (i_K K (z_ix (ix_K K) (zv 0) z_int (fun _ _ => rfl))) (fun _ _ _ _ _ _ => (g_tup K (n := 2) rfl (gs_cons (g_name (i := 0) (show List.Nodup (["word", "x"] : List Str) by decide +kernel) rfl (Or.inl rfl)) (gs_cons (g_name (i := 1) (show List.Nodup (["word", "x"] : List Str) by decide +kernel) rfl (Or.inl rfl)) gs_nil)))) (fun _ _ _ _ _ _ => c_nil) (fun _ _ _ _ _ _ => (zv 1))))) sb_nil)
      (sb_one (s_ret (z_callTy (call_lstK K) (by rfl) T.n_list PyProof.Rows.boot_list (sa_Subscript (z_slice (sl_K K) (zv 0) (zo_some z_int) zo_none) sa_nil))))), ?_⟩
    obtain ⟨a, z, xs, ds, rfl, rfl, e, hl, hn, hds, hc⟩ := headD_at hd hh
    refine ⟨_, .str z, .inr (SqT.of e), atI_zero _ _, ?_⟩
    intro aW hW
    refine ⟨_, .inr hW, rfl, rfl, _, rfl, ?_⟩
    rw [Bool.false_xor, worded_in]
    rcases hc with ⟨hw, p, rfl, hp⟩ | ⟨hw, n, hb, hdl, hda⟩
    · rw [hw]
      refine iteT ?_
      obtain ⟨x1, rfl⟩ := len1 hl
      have h1 := hds 0 (by simp) (by simp)
      simp only [List.getElem_cons_zero] at h1
      refine ⟨_, x1, .inr (SqT.of e), rfl, ?_⟩
      cases h1 with
      | @tup b ys es e' hl' hn' hds' =>
        simp only [pairsD, Bool.and_eq_true] at hp
        refine Or.inr ⟨⟨ys, SqT.of e'⟩, fun D hD => ?_⟩
        refine lc_by (itn_tup ys) (fun i τ H3 => H3 D = some (.lst (((es.take i).map sndS).map V.str)) ∧ Same H H3 ∧ ∃ v1 v2, τ = [v1, v2]) ⟨upd_same, Same.upd hD _, none, none, rfl⟩ (fun i τ H3 _ h => SqT.of (h.2.1 _ _ e')) ?_ ?_
        · rintro i τ H3 hi ⟨q1, q2, v1, v2, rfl⟩
          have h4 := List.all_eq_true.mp hp.1 _ (List.getElem_mem (show i < es.length by omega))
          obtain ⟨c, z', n', e1, e2, e3⟩ := pairD_at (hds' i hi (by omega)) h4
          have eg : ys.getD i .non = .ref c := by rw [List.getD_eq_getElem?_getD, List.getElem?_eq_getElem hi, e1]; rfl
          rw [eg]
          refine g2_at (q2 _ _ e2) ?_
          refine ⟨_, q1, by simp; omega, ?_, (q2.put hD), _, _, rfl⟩
          rw [upd_same, List.take_add_one, List.getElem?_eq_getElem (by omega), e3]
          simp [sndS]
        · rintro τ H3 ⟨q1, q2, v1, v2, rfl⟩
          rw [hl', List.take_length] at q1
          refine k D H3 hD ?_ q2
          rw [q1]
          show _ = some (HO.lst ((if worded z then es.map sndS else _).map V.str))
          rw [if_pos hw]
      | _ => exact Bool.noConfusion hp
    · rw [hw]
      refine iteF ?_
      refine ⟨1, rfl, Or.inr (Or.inr ⟨a, _, rfl, SqT.of e, ?_, fun p1 hp1 => ⟨p1, _, rfl, .inr (SqT.of upd_same), fun L hL => ?_⟩⟩)⟩
      · intro ⟨h1, _⟩
        have : HT.sIx (V.str z :: xs).length 0 (some ((1 : Nat) : Int)) = 0 := h1
        rw [HT.sIx_nat] at this
        simp at this
      · have s1 := (Same.upd hp1 (.tup (cutV (V.str z :: xs) (some 1) none))).trans (Same.upd hL (.lst (cutV (V.str z :: xs) (some 1) none)))
        refine k L _ ((Same.upd hp1 _).free hL) ?_ s1
        rw [upd_same]
        have ec : cutV (V.str z :: xs) (some 1) none = xs := by
          have := cut_from (V.str z :: xs) 1
          exact this
        rw [ec]
        show _ = some (HO.lst ((if worded z then _ else ds.map strOf).map V.str))
        rw [if_neg (by rw [hw]; exact Bool.false_ne_true)]
        congr 2
        refine List.ext_getElem (by simp [hl]) fun i h1 h2 => ?_
        have hi : i < ds.length := by omega
        obtain ⟨y, q1, q2, _⟩ := nameD_str (hds i h1 hi) (List.all_eq_true.mp hda _ (List.getElem_mem hi))
        rw [q1]
        simp [q2, strOf]
def spHasRows : Sp := fun vs H Q _ => ∃ (h : Addr) (x : V) (d : Dt) (kvs : List (Key × V)), vs = [.ref h, x] ∧ Rd H h (.dK kvs) ∧ DD H x d ∧ headD d = true ∧ (namesD d).length ≤ 1000 ∧ ∀ H', Same H H' → Q (.bl ((namesD d).all fun n => (valV kvs (.inr n)).isSome)) H'
theorem ok_has_rows (T : Txt K mg w) : FnK P w K mg base 2 "has_rows" ["heads", "head"] spHasRows := by
  have F_names_in : FnK P w K mg base 1 "names_in" ["head"] spNamesIn := ok_names_in T
  refine T.t_has_rows.okS sc_has_rows (fun vs H Q E h => ?_) (fun f cdv A outer s H vs Q E hr h => ?_)
  · obtain ⟨h, x, d, kvs, rfl, _⟩ := h
    rfl
  · obtain ⟨hh, x, d, kvs, rfl, hrd, hd, hhd, hln, k⟩ := h
    have hu := hu_of hr
    have hsz : sizeLine = 16777216 := sizeLine_eq
    refine ⟨_, (sb_one (s_ret (z_callB (call_allK K rfl) (by rfl) T.n_all PyProof.Rows.boot_all (sa_ListComp (z_lc (own := ["x"]) (idx := [0]) (N' := ["x", "heads"]) (⟨rfl, by decide +kernel, by decide +kernel, (show ∀ y ∈ Scope.names _, y.2 = NameKind.free → ((defScope s_has_rows).names.lookup y.1 = some NameKind.cell ∨ (defScope s_has_rows).names.lookup y.1 = some NameKind.free) by decide +kernel), (show ∀ j ∈ ([0] : List Nat), (Scope.names _).lookup ((["heads", "head"] : List Str).getD j "") = some NameKind.free ∧ j < (["heads", "head"] : List Str).length by decide +kernel), rfl⟩) rfl (i_K K (z_fn F_names_in (hr.mono (by decide)) (sa_Name (zv 1) sa_nil))) (fun _ _ _ _ _ _ => (g_name (i := 0) (show List.Nodup (["x", "heads"] : List Str) by decide +kernel) rfl (Or.inl rfl))) (fun _ _ _ _ _ _ => c_nil) (fun _ _ _ _ _ _ => (z_cmpR (op_dIn hu) (zv 0) (zv 1) rfl))) sa_nil)))), ?_⟩
    refine ⟨x, d, rfl, hd, hhd, fun L H1 hL0 hL s1 => Or.inl ⟨⟨_, SqL.of hL⟩, fun D hD => ?_⟩⟩
    refine lc_bools (itn_list ((namesD d).map V.str)) (fun i => (valV kvs (.inr ((namesD d).getD i ""))).isSome) (by rw [List.length_map]; omega) hD (fun H2 s2 => SqL.of (s2 _ _ hL)) (fun i H2 k' hi s2 hk => ?_) (fun H2 s2 hl2 => ?_)
    · rw [List.length_map] at hi
      rw [mapStr_getD (namesD d) i hi]
      refine ⟨hh, _, rfl, DGet.rd (k := Sum.inr ((namesD d).getD i "")) ((hrd.same s1).same s2), ?_⟩
      rw [Bool.false_xor]
      exact hk H2 (Same.refl _)
    · refine ⟨_, SqL.of hl2, ?_⟩
      rw [List.length_map, range_all_list (namesD d) "" (fun n => (valV kvs (.inr n)).isSome)]
      exact k H2 (s1.trans s2)
def spLeads : Sp := fun vs H Q _ => ∃ (h : Addr) (x : Str) (kvs : List (Key × V)) (nx : Str → Option Str), vs = [.ref h, .str x] ∧ Rd H h (.dK kvs) ∧ kvs.length ≤ 1000 ∧ (∀ n v, valV kvs (.inr n) = some v → AsV H v (nx n)) ∧ (∀ n y, (valV kvs (.inr n)).isSome = true → nx n = some y → (valV kvs (.inr y)).isSome = true) ∧ (valV kvs (.inr x)).isSome = true ∧
  Q (.bl (leadsOut nx kvs.length x)) H
theorem ok_leads_out (T : Txt K mg w) : FnK P w K mg base 1 "leads_out" ["heads", "name"] spLeads := by
  refine T.t_leads_out.okS sc_leads_out (fun vs H Q E h => ?_) (fun f cdv A outer s H vs Q E hr h => ?_)
  · obtain ⟨h, x, kvs, nx, rfl, _⟩ := h
    rfl
  · obtain ⟨h, x, kvs, nx, rfl, hrd, hln, has, hin, hx, k⟩ := h
    have hu := hu_of hr
    have hu0 := Nat.lt_of_succ_lt (hu_of hr)
    refine ⟨_, (sb_cons (s_for PassesOwn.never rfl (i_range1 (by rfl) T.n_range (sa_Call (z_callB (call_lenK K) (by rfl) T.n_len PySem.boot_len (sa_Name (zv 0) sa_nil)) sa_nil)) (g_name (i := 2) sc_leads_out.nd rfl (Or.inl rfl)) (sb_cons (s_if (y_cmpR (op_neD hu0) (z_ix (ix_K K) (z_dget hu (zv 0) (zv 1) (fun _ _ => rfl)) z_int (fun _ _ => rfl)) z_str (nomark _)) (sb_one (s_ret z_bl)) sb_nil)
      (sb_one (s_set (i := 1) sc_leads_out.nd rfl (Or.inl rfl) (z_ix (ix_K K) (z_dget hu (zv 0) (zv 1) (fun _ _ => rfl)) z_int (fun _ _ => rfl))))))
      (sb_one (s_ret z_bl))), ?_⟩
    refine tSeq_by (fun σ' H' => H' = H ∧ leadsOut nx kvs.length x = false) ?_ (by rintro σ' H' ⟨e1, e2⟩; (subst e1; rw [e2] at k; exact k))
    intro nx' hnx
    refine .inr ⟨kvs, hrd, kvs.length, rfl, by omega, by omega, for_by (itn_range 0 (kvs.length : Int).toNat) (fun i σ' H' => H' = H ∧ ∃ y v2, σ' = [some (.ref h), some (.str y), v2] ∧ (valV kvs (.inr y)).isSome = true ∧ leadsOut nx (kvs.length - i) y = leadsOut nx kvs.length x) ⟨rfl, x, none, rfl, hx, rfl⟩ (fun _ _ _ _ _ => True.intro) ?_ ?_⟩
    · rintro i σ' H' hi ⟨rfl, y, v2, rfl, hy, hlo⟩
      have hi' : i < kvs.length := by omega
      obtain ⟨v, hv⟩ := Option.isSome_iff_exists.mp hy
      have hdg : DGet H' h (.str y) (some v) := by rw [← hv]; exact DGet.rd (k := Sum.inr y) hrd
      obtain ⟨b, rfl, hb⟩ := has y v hv
      rw [show kvs.length - i = (kvs.length - (i + 1)) + 1 by omega, leadsOut] at hlo
      rcases hb with ⟨z, ys, h1, h2, h3⟩ | ⟨z, h1, h3⟩
      · refine ⟨h, _, rfl, hdg, _, .str z, .inr (SqT.of h1), atI_zero _ _, rfl, _, rfl, ?_⟩
        rw [decide_eq_false (fun e => h2 (V.str.inj e))]
        refine iteT ?_
        rw [h3] at hlo
        rw [← hlo] at k
        exact k
      · refine ⟨h, _, rfl, hdg, _, .str "as", .inr (SqT.of h1), atI_zero _ _, rfl, _, rfl, ?_⟩
        refine iteF ?_
        rw [h3] at hlo
        exact ⟨h, _, rfl, hdg, _, .str z, .inr (SqT.of h1), rfl, rfl, z, _, rfl, hin y z hy h3, hlo⟩
    · rintro σ' H' ⟨rfl, y, v2, rfl, hy, hlo⟩
      refine hnx _ _ ⟨rfl, ?_⟩
      rw [← hlo, Int.toNat_natCast, Nat.sub_self]; rfl
theorem rowEq {rs : List (Str × V)} (i : Nat) (h : i < (rowsK rs).length) (h' : i < rs.length) : (rowsK rs)[i] = (Sum.inr rs[i].1, rs[i].2) := by simp [rowsK]
def TelAt (H : Hp) (a : Addr) (xs : List V) (rs : List (Str × V)) : Prop := H a = some (.tup xs) ∧ PairsAt H xs (rowsK rs) ∧ rs.length ≤ 1000
def spHeads : Sp := fun vs H Q _ => ∃ (a : Addr) (xs : List V) (rs : List (Str × V)), vs = [.ref a] ∧ TelAt H a xs rs ∧ ∀ d, H d = none → Q (.ref d) (upd H d (.dK (dictOf (rowsK rs))))
theorem ok_heads_of (T : Txt K mg w) : FnK P w K mg base 1 "heads_of" ["T"] spHeads := by
  refine T.t_heads_of.okS sc_heads_of (fun vs H Q E h => ?_) (fun f cdv A outer s H vs Q E hr h => ?_)
  · obtain ⟨a, xs, rs, rfl, _⟩ := h
    rfl
  · obtain ⟨a, xs, rs, rfl, ⟨hx, hp, hlen⟩, k⟩ := h
    refine ⟨_, (sb_one (s_ret (z_dc (own := ["name", "head"]) (idx := []) (N' := ["name", "head"]) (⟨rfl, by decide +kernel, by decide +kernel, (show ∀ y ∈ Scope.names _, y.2 = NameKind.free → ((defScope s_heads_of).names.lookup y.1 = some NameKind.cell ∨ (defScope s_heads_of).names.lookup y.1 = some NameKind.free) by decide +kernel), (show ∀ j ∈ ([] : List Nat), (Scope.names _).lookup ((["T"] : List Str).getD j "") = some NameKind.free ∧ j < (["T"] : List Str).length by decide +kernel), rfl⟩) rfl (i_K K (zv 0)) (fun _ _ _ _ _ _ => (g_tup K (n := 2) rfl (gs_cons (g_name (i := 0) (show List.Nodup (["name", "head"] : List Str) by decide +kernel) rfl (Or.inl rfl)) (gs_cons (g_name (i := 1) (show List.Nodup (["name", "head"] : List Str) by decide +kernel) rfl (Or.inl rfl)) gs_nil)))) (fun _ _ _ _ _ _ => c_nil) (fun _ _ _ _ _ _ => (zv 0)) (fun _ _ _ _ _ _ => (zv 1))))), ?_⟩
    refine Or.inr ⟨⟨xs, SqT.of hx⟩, fun D hD => ?_⟩
    have J := itn_tup (K := K) (a := a) xs
    have hsz : sizeLine = 16777216 := sizeLine_eq
    have hxl : xs.length = rs.length := by have := hp.1; simpa using this
    have sD : ∀ o, Same H (upd H D o) := fun o => Same.upd hD o
    refine ⟨fun i m τ H' => m = xs.length - i ∧ i ≤ xs.length ∧ (∃ v1 v2, τ = [v1, v2]) ∧ H' = upd H D (.dK (dictOf ((rowsK rs).take i))), ⟨_, rfl, Nat.zero_le _, ⟨none, none, rfl⟩, rfl⟩, ?_⟩
    rintro i m τ H' ⟨rfl, hi, ⟨v1, v2, rfl⟩, rfl⟩
    obtain ⟨k1, k2⟩ := J _ (show SqT K (upd H D _) a xs from SqT.of (sD _ _ _ hx))
    by_cases hlt : i < xs.length
    · have hir : i < rs.length := by omega
      have hik : i < (rowsK rs).length := by simpa using hir
      refine .inr ⟨(k1 i hlt).1, fun τ' H' => (∃ v1 v2, τ' = [v1, v2]) ∧ H' = upd H D (.dK (dictOf ((rowsK rs).take (i + 1)))), fun τ' H' ⟨h1, h2⟩ => ⟨xs.length - (i + 1), by omega, rfl, hlt, h1, h2⟩, fun x H' y => ?_⟩
      obtain ⟨e, e2⟩ := (k1 i hlt).2 x H' y
      subst e e2
      obtain ⟨b, hb1, hb2⟩ := hp.2 i hik
      rw [rowEq i hik hir] at hb2
      have eb : xs.getD i .non = .ref b := by rw [List.getD_eq_getElem?_getD, hb1]; rfl
      show gTup K 2 _ (xs.getD i .non) _ _ _
      rw [eb]
      refine ⟨b, _, rfl, SqT.of (sD _ _ _ hb2), rfl, _, _, rfl, _, _, rfl, rfl, ?_⟩
      refine ⟨dictOf ((rowsK rs).take i), .inr rs[i].1, rfl, upd_same, ?_, ⟨_, _, rfl⟩, ?_⟩
      · have := dictOf_len ((rowsK rs).take i)
        rw [List.length_take] at this
        omega
      · rw [upd_upd, dictOf_take (rowsK rs) i hik, rowEq i hik hir]
    · have e : i = xs.length := by omega
      subst e
      refine .inl ⟨k2, ?_⟩
      rw [List.take_of_length_le (by simp; omega)]
      exact k D hD
theorem ok_is_telling (T : Txt K mg w) : FnK P w K mg base 6 "is_telling" ["thing"] (spT telD) := by
  have F_is_row : FnK P w K mg base 5 "is_row" ["thing"] (spT rowD) := ok_is_row T
  have F_heads_of : FnK P w K mg base 1 "heads_of" ["T"] spHeads := ok_heads_of T
  have F_has_rows : FnK P w K mg base 2 "has_rows" ["heads", "head"] spHasRows := ok_has_rows T
  have F_leads_out : FnK P w K mg base 1 "leads_out" ["heads", "name"] spLeads := ok_leads_out T
  refine T.t_is_telling.okS sc_is_telling (fun vs H Q E h => ?_) (fun f cdv A outer s H vs Q E hr h => ?_)
  · obtain ⟨x, d, rfl, _⟩ := h
    rfl
  · obtain ⟨x, d, rfl, hd, k⟩ := h
    have hu := hu_of hr
    have hu0 := Nat.lt_of_succ_lt (hu_of hr)
    have hsz : sizeLine = 16777216 := sizeLine_eq
    refine ⟨_, (sb_cons (s_if (w_or (y_not (y_val (z_callB call_isiD (by rfl) T.n_isinstance PyProof.Rows.boot_isinstance (sa_Name (zv 0) (sa_Name (z_bltn (v := .ty "tuple") (by rfl) T.n_tuple PyProof.Rows.boot_tuple rfl) sa_nil))))) (w_or1 (y_not (y_chain op_leI op_leI z_int (z_callB (call_lenK K) (by rfl) T.n_len PySem.boot_len (sa_Name (zv 0) sa_nil)) (z_gl T.c_MOST_ROWS_tellings))))).pt (sb_one (s_ret z_bl)) sb_nil)
      (sb_cons (s_if (y_not (y_val (z_callB (call_allK K rfl) (by rfl) T.n_all PyProof.Rows.boot_all (sa_ListComp (z_lc (own := ["row"]) (idx := []) (N' := ["row"]) (⟨rfl, by decide +kernel, by decide +kernel, (show ∀ y ∈ Scope.names _, y.2 = NameKind.free → ((defScope s_is_telling).names.lookup y.1 = some NameKind.cell ∨ (defScope s_is_telling).names.lookup y.1 = some NameKind.free) by decide +kernel), (show ∀ j ∈ ([] : List Nat), (Scope.names _).lookup ((["thing", "heads"] : List Str).getD j "") = some NameKind.free ∧ j < (["thing", "heads"] : List Str).length by decide +kernel), rfl⟩) rfl (i_K K (zv 0)) (fun _ _ _ _ _ _ => (g_name (i := 0) (show List.Nodup (["row"] : List Str) by decide +kernel) rfl (Or.inl rfl))) (fun _ _ _ _ _ _ => c_nil) (fun _ _ _ _ _ _ => (z_fn F_is_row (hr.mono (by decide)) (sa_Name (zv 0) sa_nil)))) sa_nil)))) (sb_one (s_ret z_bl)) sb_nil)
      (sb_cons (s_set (i := 1) sc_is_telling.nd rfl (Or.inr rfl) (z_fn F_heads_of (hr.mono (by decide)) (sa_Name (zv 0) sa_nil)))
      (sb_cons (s_if (w_or (y_cmpR (op_neD hu0) (z_callB (call_lenK K) (by rfl) T.n_len PySem.boot_len (sa_Name (zv 1) sa_nil)) (z_callB (call_lenK K) (by rfl) T.n_len PySem.boot_len (sa_Name (zv 0) sa_nil)) (nomark _)) (w_or1 (y_not (y_val (z_callB (call_allK K rfl) (by rfl) T.n_all PyProof.Rows.boot_all (sa_ListComp (z_lc (own := ["name"]) (idx := [1]) (N' := ["name", "heads"]) (⟨rfl, by decide +kernel, by decide +kernel, (show ∀ y ∈ Scope.names _, y.2 = NameKind.free → ((defScope s_is_telling).names.lookup y.1 = some NameKind.cell ∨ (defScope s_is_telling).names.lookup y.1 = some NameKind.free) by decide +kernel), (show ∀ j ∈ ([1] : List Nat), (Scope.names _).lookup ((["thing", "heads"] : List Str).getD j "") = some NameKind.free ∧ j < (["thing", "heads"] : List Str).length by decide +kernel), rfl⟩) rfl (pi_keys (zv 1)) (fun _ _ _ _ _ _ => (g_name (i := 0) (show List.Nodup (["name", "heads"] : List Str) by decide +kernel) rfl (Or.inl rfl))) (fun _ _ _ _ _ _ => c_nil) (fun _ _ _ _ _ _ => (z_fn F_has_rows (hr.mono (by decide)) (sa_Name (zv 1) (sa_Subscript (z_dget hu (zv 1) (zv 0) (fun _ _ => rfl)) sa_nil))))) sa_nil)))))).pt (sb_one (s_ret z_bl)) sb_nil)
      (sb_one (s_ret (z_callB (call_allK K rfl) (by rfl) T.n_all PyProof.Rows.boot_all (sa_ListComp (z_lc (own := ["name"]) (idx := [1]) (N' := ["name", "heads"]) (⟨rfl, by decide +kernel, by decide +kernel, (show ∀ y ∈ Scope.names _, y.2 = NameKind.free → ((defScope s_is_telling).names.lookup y.1 = some NameKind.cell ∨ (defScope s_is_telling).names.lookup y.1 = some NameKind.free) by decide +kernel), (show ∀ j ∈ ([1] : List Nat), (Scope.names _).lookup ((["thing", "heads"] : List Str).getD j "") = some NameKind.free ∧ j < (["thing", "heads"] : List Str).length by decide +kernel), rfl⟩) rfl (pi_keys (zv 1)) (fun _ _ _ _ _ _ => (g_name (i := 0) (show List.Nodup (["name", "heads"] : List Str) by decide +kernel) rfl (Or.inl rfl))) (fun _ _ _ _ _ _ => c_nil) (fun _ _ _ _ _ _ => (z_fn F_leads_out (hr.mono (by decide)) (sa_Name (zv 1) (sa_Name (zv 0) sa_nil))))) sa_nil)))))))), ?_⟩
    obtain ⟨t, ht, h1, h2⟩ := hd.ty
    refine ⟨by decide, t, ht, _, rfl, ?_⟩
    rw [h1]
    have k0 := k H (Same.refl H)
    cases hd with
    | @tup a xs ds e hl hn hds =>
      refine iteF ?_
      refine Or.inl ⟨xs, .inr (SqT.of e), _, rfl, ite2 (fun h3 => ?_) (fun h3 => ?_)⟩
      rotate_left
      · refine ⟨_, rfl, iteT ?_⟩
        have : ¬ (1 : Int) ≤ xs.length := fun q => h3 (decide_eq_true q)
        have e1 : telD (.tup ds) = false := by simp [telD, show ¬ 1 ≤ ds.length by omega]
        rw [e1] at k0
        exact k0
      have h3' : 1 ≤ ds.length := by have := of_decide_eq_true h3; omega
      refine ⟨_, rfl, iteNB (fun h4 => ?_) (fun h4 => ?_)⟩
      rotate_left
      · have : ¬ ds.length ≤ 200 := by have := of_decide_eq_false h4; omega
        have e1 : telD (.tup ds) = false := by simp [telD, this]
        rw [e1] at k0
        exact k0
      have h4' : ds.length ≤ 200 := by have := of_decide_eq_true h4; omega
      refine tNext_seq ?_
      refine Or.inr ⟨⟨xs, SqT.of e⟩, fun D hD => ?_⟩
      refine lc_bools (itn_tup xs) (fun i => rowD (ds.getD i .oth)) (by omega) hD (fun H2 s2 => SqT.of (s2 _ _ e)) (fun i H2 k' hi s2 hk => ?_) (fun H2 s2 hl2 => ?_)
      · refine ⟨_, ds.getD i .oth, rfl, ?_, hk⟩
        have h5 := hds i hi (by omega)
        have e1 : xs.getD i .non = xs[i] := by simp [List.getD_eq_getElem?_getD, hi]
        have e2 : ds.getD i .oth = ds[i]'(by omega) := by rw [List.getD_eq_getElem?_getD, List.getElem?_eq_getElem (by omega)]; rfl
        show DD H2 (xs.getD i .non) _
        rw [e1, e2]
        exact h5.same s2
      refine ⟨_, SqL.of hl2, _, rfl, ?_⟩
      rw [hl, range_all_list ds .oth rowD]
      refine iteNB (fun h5 => ?_) (fun h5 => ?_)
      rotate_left
      · have := k H2 s2
        have e1 : telD (.tup ds) = false := by simp [telD, h5]
        rw [e1] at this
        exact this
      obtain ⟨rs, hs, R⟩ := rows_dt hl hds h5
      have hrl : rs.length = ds.length := R.l1
      have hhl : hs.length = ds.length := R.l2
      have R2 := R.same s2
      refine tNext_seq ?_
      refine tSeq_set ⟨a, xs, rs, rfl, ⟨s2 _ _ e, R2.ps, by omega⟩, fun h hh => ?_⟩
      have hh0 : H h = none := s2.free hh
      refine .inr ⟨_, .inl upd_same, .inl ⟨xs, .inr (SqT.of ((Same.upd hh _) _ _ (s2 _ _ e))), rfl, _, rfl, ?_⟩⟩
      refine iteB (fun h6 => ?_) (fun h6 => ?_)
      · have hnn : ¬ (rs.map (·.1)).Nodup := fun nd => by
          rw [dictOf_nodup _ (rowsK_nd nd), decV_int] at h6
          simp [hrl, hl] at h6
        have e1 : telD (.tup ds) = false := by
          simp only [telD]
          rw [R.names, decide_eq_false hnn]
          simp
        refine iteT ?_
        have := k _ (s2.trans (Same.upd hh (.dK (dictOf (rowsK rs)))))
        rw [e1] at this
        exact this
      · rw [decV_int] at h6
        have hle : (dictOf (rowsK rs)).length = (rowsK rs).length := by
          have h7 : decide (((dictOf (rowsK rs)).length : Int) = (xs.length : Int)) = true := by
            revert h6
            cases decide (((dictOf (rowsK rs)).length : Int) = (xs.length : Int)) <;> simp
          have := of_decide_eq_true h7
          simp; omega
        have ndK := dictOf_len_nodup _ hle
        have nd : (rs.map (·.1)).Nodup := by
          have e2 : (rowsK rs).map (·.1) = (rs.map (·.1)).map (Sum.inr : Str → Key) := by simp [rowsK, List.map_map, Function.comp_def]
          rw [e2] at ndK
          exact List.Pairwise.imp (fun {a b} hab z => hab (by rw [z])) (List.pairwise_map.mp ndK)
        rw [dictOf_nodup _ ndK]
        have sh : Same H (upd H2 h (.dK (rowsK rs))) := s2.put hh0
        have key : ∀ i (hi : i < rs.length), keyAt (rowsK rs) i = .str rs[i].1 := fun i hi => by
          unfold keyAt
          rw [show (rowsK rs)[i]? = some (Sum.inr rs[i].1, rs[i].2) by simp [rowsK, hi]]; rfl
        have hkl : (rowsK rs).length = ds.length := by simp; omega
        refine ⟨h, rowsK rs, rfl, .inl upd_same, fun o D2 hD2 => ?_⟩
        rw [upd_upd] at hD2 ⊢
        have sf : Same H (upd H2 h (.frz o (.dK (rowsK rs)))) := s2.put hh0
        have hfz : upd H2 h (.frz o (.dK (rowsK rs))) h = some (.frz o (.dK (rowsK rs))) := upd_same
        generalize upd H2 h (.frz o (.dK (rowsK rs))) = H3 at hD2 sf hfz
        have R3 := R.same sf
        refine lc_bools (itn_keys (rowsK rs)) (fun i => (namesD (hs.getD i .oth)).all fun n => (valV (rowsK rs) (.inr n)).isSome) (by omega) hD2 (fun H4 s4 => s4 _ _ hfz) (fun i H4 k' hi s4 hk => ?_) (fun H4 s4 hl4 => ?_)
        · have hi1 : i < rs.length := by simpa using hi
          rw [key i hi1]
          have hi2 : i < hs.length := by omega
          obtain ⟨_, q1, q2, _⟩ := R3.dd i (by omega) hi1 hi2
          have rd4 : Rd H4 h (.dK (rowsK rs)) := .inr ⟨o, s4 _ _ hfz⟩
          refine ⟨h, rs[i].2, rfl, ?_, h, rs[i].2, hs[i], rowsK rs, rfl, rd4, q1.same s4, q2, namesD_len q1 q2, ?_⟩
          · rw [← valV_rowsK_at nd hi1]; exact DGet.rd (k := Sum.inr rs[i].1) rd4
          · have e2 : hs.getD i .oth = hs[i] := by rw [List.getD_eq_getElem?_getD, List.getElem?_eq_getElem hi2]; rfl
            rw [e2] at hk
            exact hk
        · refine ⟨_, SqL.of hl4, _, rfl, ?_⟩
          have eall : ((List.range (rowsK rs).length).map fun i => (namesD (hs.getD i .oth)).all fun n => (valV (rowsK rs) (.inr n)).isSome).all id = (rowsD ds).all (fun r => (namesD r.2).all fun n => decide (n ∈ (rowsD ds).map (·.1))) := by
            refine all_map_range _ _ (by unfold rowsD; simp; omega) _ _ fun i hi => ?_
            have hi0 : i < ds.length := by unfold rowsD at hi; simpa using hi
            have hi2 : i < hs.length := by omega
            have e3 := R.rows hi0 (by omega) hi2
            rw [List.getElem?_eq_getElem hi] at e3
            rw [Option.some.inj e3]
            have e2 : hs.getD i .oth = hs[i] := by rw [List.getD_eq_getElem?_getD, List.getElem?_eq_getElem hi2]; rfl
            rw [e2]
            have e4 : (fun n => (valV (rowsK rs) (.inr n)).isSome) = fun n => decide (n ∈ (rowsD ds).map (·.1)) := by
              funext n
              rw [valV_rowsK_some nd, R.names]
            rw [e4]
          rw [eall]
          refine iteNB (fun h7 => ?_) (fun h7 => ?_)
          rotate_left
          · have e1 : telD (.tup ds) = false := by simp only [telD, h7]; simp
            have := k H4 (sf.trans s4)
            rw [e1] at this
            exact this
          refine tNext_seq2 ?_
          have rd4 : Rd H4 h (.dK (rowsK rs)) := .inr ⟨o, s4 _ _ hfz⟩
          refine ⟨h, rowsK rs, rfl, rd4, fun o2 D3 hD3 => ?_⟩
          have sg : Same H (upd H4 h (.frz o2 (.dK (rowsK rs)))) := (sf.trans s4).put hh0
          have hfz2 : upd H4 h (.frz o2 (.dK (rowsK rs))) h = some (.frz o2 (.dK (rowsK rs))) := upd_same
          generalize upd H4 h (.frz o2 (.dK (rowsK rs))) = H5 at hD3 sg hfz2
          have R5 := R.same sg
          refine lc_bools (itn_keys (rowsK rs)) (fun i => leadsOut (nxD (rowsD ds)) (rowsK rs).length ((rs.map (·.1)).getD i ("" : Str))) (by omega) hD3 (fun H6 s6 => s6 _ _ hfz2) (fun i H6 k' hi s6 hk => ?_) (fun H6 s6 hl6 => ?_)
          · have hi1 : i < rs.length := by simpa using hi
            rw [key i hi1]
            have R6 := R5.same s6
            refine ⟨h, rs[i].1, rowsK rs, nxD (rowsD ds), rfl, .inr ⟨o2, s6 _ _ hfz2⟩, by omega, R6.has nd, R6.inn nd h7, ?_, ?_⟩
            · rw [valV_rowsK_at nd hi1]; rfl
            · have e2 : (rs.map (·.1)).getD i ("" : Str) = rs[i].1 := by rw [List.getD_eq_getElem?_getD, List.getElem?_map, List.getElem?_eq_getElem hi1]; rfl
              have := hk H6 (Same.refl _)
              rw [e2] at this
              exact this
          · refine ⟨_, SqL.of hl6, ?_⟩
            have eall2 : ((List.range (rowsK rs).length).map fun i => leadsOut (nxD (rowsD ds)) (rowsK rs).length ((rs.map (·.1)).getD i ("" : Str))).all id = ((rowsD ds).map (·.1)).all (fun n => leadsOut (nxD (rowsD ds)) ds.length n) := by
              rw [R.names, hkl]
              refine all_map_range _ _ (by simp; omega) _ _ fun i hi => ?_
              rw [List.getD_eq_getElem?_getD, List.getElem?_eq_getElem hi]; rfl
            rw [eall2]
            have := k H6 (sg.trans s6)
            have e1 : telD (.tup ds) = ((rowsD ds).map (·.1)).all (fun n => leadsOut (nxD (rowsD ds)) ds.length n) := by
              have hnd' : ((rowsD ds).map (·.1)).Nodup := by rw [R.names]; exact nd
              simp only [telD]
              rw [h5, h7, decide_eq_true h3', decide_eq_true h4', decide_eq_true hnd']
              simp only [Bool.true_and]
            rw [e1] at this
            exact this
    | _ => exact iteT k0
def Abc (z : Str) : Prop := ∀ c ∈ z.cps.toList, 97 ≤ c ∧ c < 123
theorem abc_lt : ∀ c ∈ ABC.cps.toList, 97 ≤ c ∧ c < 123 := by decide
theorem abcI (n : Nat) : atI ABC.cps.toList ((n : Int) % 26) = some (97 + n % 26) := by
  have h := abc_at (97 + n % 26) (by omega)
  rw [show 97 + n % 26 - 97 = n % 26 by omega] at h
  have := atI_nat h
  rw [show ((n : Int) % 26) = ((n % 26 : Nat) : Int) by omega]
  exact this
theorem inAbc_t {c : Nat} (h : 97 ≤ c ∧ c < 123) : inAbc c = true := by
  unfold inAbc
  rw [abc_find c h]; rfl
structure NmOf (ah : Str) (c : Nat) (z : Str) : Prop where
  nm : isName z = true
  pl : z.cps.toList[ah.cps.toList.length]? = some c
  wd : Wd z
theorem str_app_toList (a b : Str) : (a ++ b).cps.toList = a.cps.toList ++ b.cps.toList := by
  show (a.cps ++ b.cps).toList = _
  simp
theorem nm_plain {ah : Str} {c : Nat} (h1 : ah.length ≤ 7) (h2 : Abc ah) (hc : 97 ≤ c ∧ c < 123) (hn : (NON.any fun y => y == (ah ++ ⟨#[c]⟩ : Str)) = false) : NmOf ah c (ah ++ ⟨#[c]⟩) := by
  have hl : (ah ++ ⟨#[c]⟩ : Str).cps.toList = ah.cps.toList ++ [c] := str_app_toList _ _
  have el : (ah ++ ⟨#[c]⟩ : Str).length = ah.length + 1 := by rw [Str.length_append]; rfl
  refine ⟨?_, by rw [hl]; simp, by omega, fun d hd => ?_⟩
  rotate_left
  · rw [hl] at hd
    rcases List.mem_append.mp hd with hd | hd
    · have := h2 d hd; omega
    · rw [List.mem_singleton.mp hd]; omega
  unfold isName
  simp only [Bool.and_eq_true, decide_eq_true_eq]
  refine ⟨⟨⟨by omega, by omega⟩, by rw [hn]; rfl⟩, ?_⟩
  rw [hl, List.all_append, Bool.and_eq_true]
  refine ⟨List.all_eq_true.mpr fun d hd => inAbc_t (h2 d hd), ?_⟩
  rw [List.all_cons, inAbc_t hc]; rfl
theorem nm_q {ah : Str} {c : Nat} (hn : (NON.any fun y => y == (ah ++ ⟨#[c]⟩ : Str)) = true) : NmOf ah c (ah ++ ⟨#[c]⟩ ++ ("q" : Str)) := by
  have hl : (ah ++ ⟨#[c]⟩ : Str).cps.toList = ah.cps.toList ++ [c] := str_app_toList _ _
  have at0 : (ah ++ ⟨#[c]⟩ ++ ("q" : Str)).cps.toList[ah.cps.toList.length]? = some c := by
    rw [str_app_toList, hl, List.append_assoc]; simp
  rw [List.any_eq_true] at hn
  obtain ⟨y, hy, e⟩ := hn
  rw [← (eq_of_beq e : y = _)] at at0 ⊢
  simp only [NON, List.mem_cons, List.mem_nil_iff, or_false] at hy
  rcases hy with rfl | rfl | rfl | rfl | rfl <;> exact ⟨by decide +kernel, at0, wd_ascii (by decide) (by decide)⟩
theorem inV_non (z : Str) : inV (V.str z) [V.str "all", V.str "none", V.str "way", V.str "box", V.str "pick"] = NON.any fun y => y == z := by
  unfold inV
  rfl
def spNames : Sp := fun vs H Q _ => ∃ (p w : Addr) (m : Int) (t : Nat), vs = [.ref p, .int m] ∧ PenAt H p w t ∧ (1 ≤ m ∧ m ≤ 26) ∧ t + 20 < TMAX ∧
  ∀ (L : Addr) (ns : List Str) (H' : Hp), H L = none → H' L = some (.lst (ns.map V.str)) → (ns.length : Int) = m → ns.Nodup → (∀ n ∈ ns, isName n = true ∧ Wd n) → PenAt H' p w (t + 20) → Sm p w H H' → Q (.ref L) H'
theorem ok_law_tnames (T : Txt K mg w) : FnK P w K mg base 2 "_law_tnames" ["pen", "many"] spNames := by
  have F_law_tdraw : FnK P w K mg base 1 "_law_tdraw" ["pen", "many"] spDraw := ok_law_tdraw T
  refine T.t_law_tnames.okS sc_law_tnames (fun vs H Q E h => ?_) (fun f cdv A outer s H vs Q E hr h => ?_)
  · obtain ⟨p, w', m, t, rfl, _⟩ := h
    rfl
  · obtain ⟨p, w', m, t, rfl, hp, ⟨hm1, hm2⟩, ht, k⟩ := h
    have ht' : t + 20 < 1000000000000 := ht
    have hsz : sizeLine = 16777216 := sizeLine_eq
    refine ⟨_, (sb_cons (s_set (i := 2) sc_law_tnames.nd rfl (Or.inr rfl) z_str)
      (sb_cons (s_set (i := 3) sc_law_tnames.nd rfl (Or.inl rfl) (z_bm K PySem.F.plainAttrs_str PySem.F.slot_str_join PySem.F.type_str_join (mt_joinK K) z_str (sa_ListComp (z_lc (own := ["k"]) (idx := [0, 2]) (N' := ["k", "pen", "letters"]) (⟨rfl, by decide +kernel, by decide +kernel, (show ∀ y ∈ Scope.names _, y.2 = NameKind.free → ((defScope s_law_tnames).names.lookup y.1 = some NameKind.cell ∨ (defScope s_law_tnames).names.lookup y.1 = some NameKind.free) by decide +kernel), (show ∀ j ∈ ([0, 2] : List Nat), (Scope.names _).lookup ((["pen", "many", "letters", "ahead", "first", "found", "k", "name"] : List Str).getD j "") = some NameKind.free ∧ j < (["pen", "many", "letters", "ahead", "first", "found", "k", "name"] : List Str).length by decide +kernel), rfl⟩) rfl (i_range1 (by rfl) T.n_range (sa_Subscript (z_ix (ix_K K) (z_lst (sa_Constant z_int (sa_Constant z_int (sa_Constant z_int (sa_Constant z_int (sa_Constant z_int (sa_Constant z_int sa_nil))))))) (z_fn F_law_tdraw (hr.mono (by decide)) (sa_Name (zv 0) (sa_Constant z_int sa_nil))) (fun _ _ => rfl)) sa_nil)) (fun _ _ _ _ _ _ => (g_name (i := 0) (show List.Nodup (["k", "pen", "letters"] : List Str) by decide +kernel) rfl (Or.inl rfl))) (fun _ _ _ _ _ _ => c_nil) (fun _ _ _ _ _ _ => (z_ix (ix_K K) (zv 2) (z_fn F_law_tdraw (hr.mono (by decide)) (sa_Name (zv 1) (sa_Constant z_int sa_nil))) (fun _ _ => rfl)))) sa_nil)))
      (sb_cons (s_set (i := 4) sc_law_tnames.nd rfl (Or.inl rfl) (z_fn F_law_tdraw (hr.mono (by decide)) (sa_Name (zv 0) (sa_Constant z_int sa_nil))))
      (sb_cons (s_set (i := 5) sc_law_tnames.nd rfl (Or.inl rfl) (z_lst sa_nil))
      (sb_cons (s_for PassesOwn.never rfl (i_range1 (by rfl) T.n_range (sa_Name (zv 1) sa_nil)) (g_name (i := 6) sc_law_tnames.nd rfl (Or.inl rfl)) (sb_cons (s_set (i := 7) sc_law_tnames.nd rfl (Or.inl rfl) (z_op op_addD (zv 3) (z_ix (ix_K K) (zv 2) (z_op op_modD (z_op op_addD (zv 4) (z_op op_mulD z_int (zv 6))) z_int) (fun _ _ => rfl))))
      (sb_cons (s_if (y_cmpR (op_inK K) (zv 7) (z_tup (sa_Constant z_str (sa_Constant z_str (sa_Constant z_str (sa_Constant z_str (sa_Constant z_str sa_nil)))))) rfl) (sb_one (s_set (i := 7) sc_law_tnames.nd rfl (Or.inl rfl) (z_op op_addD (zv 7) z_str))) sb_nil)
      (sb_one (s_expr (z_bm K PySem.F.plainAttrs_list PySem.F.slot_list_append PySem.F.type_list_append mt_append (zv 5) (sa_Name (zv 7) sa_nil)))))))
      (sb_one (s_ret (zv 5)))))))), ?_⟩
    refine tSeq_setC ?_
    refine tSeq_set ⟨rfl, (show 6 ≤ sizeLine by decide), fun L0 hL0 => ⟨p, w', 6, t, rfl, hp.same (Same.upd hL0 _), ⟨by decide, by decide⟩, by show t < 1000000000000; omega, fun r H1 r0 r1 hp1 sm1 => ?_⟩⟩
    have nL0 := hp.ne1 hL0
    have nL0' := hp.ne2 hL0
    have hl0 := sm1 _ _ upd_same nL0 nL0'
    obtain ⟨c, hc1, hc2⟩ := atI_some ([.int 0, .int 0, .int 1, .int 2, .int 3, .int 7] : List V) r r0 (by show r < 6; omega)
    have hcj : ∃ j : Int, c = .int j ∧ 0 ≤ j ∧ j ≤ 7 := by
      have hm := List.mem_of_getElem? hc1
      simp only [List.mem_cons, List.mem_nil_iff, or_false] at hm
      rcases hm with rfl | rfl | rfl | rfl | rfl | rfl <;> exact ⟨_, rfl, by decide, by decide⟩
    obtain ⟨j, rfl, j0, j7⟩ := hcj
    have smA : Sm p w' H H1 := (Same.upd hL0 _).sm.trans sm1
    refine ⟨_, _, .inl (SqL.of hl0), hc2, j, rfl, by omega, by omega, fun D hD => ?_⟩
    have nDp : D ≠ p := hp1.ne1 hD
    have nDw : D ≠ w' := hp1.ne2 hD
    have hD0 : H D = none := smA.free hD nDp nDw
    refine lc_by (itn_range 0 j.toNat) (fun i τ H2 => ∃ (v : Option V) (ys : List Str), τ = [v, some (.ref p), some (.str ABC)] ∧ H2 D = some (.lst (ys.map V.str)) ∧ ys.length = i ∧ (∀ y ∈ ys, y.length = 1 ∧ Abc y) ∧ PenAt H2 p w' (t + 1 + i) ∧ Sm p w' H H2)
      ⟨none, [], rfl, upd_same, rfl, (fun _ h => nomatch h), hp1.same (Same.upd hD _), smA.upd hD0⟩ (fun _ _ _ _ _ => True.intro) ?_ ?_
    · rintro i τ H2 hi ⟨v, ys, rfl, h1, h2, h3, h4, h5⟩
      refine ⟨p, w', 26, t + 1 + i, rfl, h4, ⟨by decide, by decide⟩, by show t + 1 + i < 1000000000000; omega, fun r2 H3 a0 a1 hp3 sm3 => ?_⟩
      obtain ⟨c, hc1, hc⟩ := atI_some ABC.cps.toList r2 a0 (by have : ABC.cps.toList.length = 26 := rfl; omega)
      refine ⟨by decide, c, hc, ys.map V.str, sm3 _ _ h1 nDp nDw, by rw [List.length_map]; exact small1000 (by omega), ?_⟩
      refine ⟨_, ys ++ [⟨#[c]⟩], rfl, ?_, by simp [h2], fun y hy => ?_, hp3.upd nDp nDw, (h5.trans sm3).upd hD0⟩
      · rw [upd_same, List.map_append]; rfl
      · rcases List.mem_append.mp hy with hy | hy
        · exact h3 y hy
        · rw [List.mem_singleton.mp hy]
          refine ⟨rfl, fun d hd => ?_⟩
          have hd' : d = c := by simpa using hd
          rw [hd']
          exact abc_lt c (List.mem_of_getElem? hc1)
    · rintro τ H2 ⟨v, ys, rfl, h1, h2, h3, h4, h5⟩
      refine ⟨ys, SqL.of h1, ?_, ?_⟩
      · rw [PyProof.Rows.sumLen_of_ones ys (fun y hy => (h3 y hy).1), h2]
        show j.toNat + j.toNat * 0 ≤ 16777216
        omega
      have ahl : (Txt.join (Str.ofString "") ys).length ≤ 7 := by rw [join0_length ys _ rfl (fun y hy => (h3 y hy).1)]; omega
      have aha : Abc (Txt.join (Str.ofString "") ys) := fun c hc => by
        rcases mem_join hc with hc | ⟨y, hy, hc⟩
        · exact nomatch hc
        · exact (h3 y hy).2 c hc
      generalize Txt.join (Str.ofString "") ys = ah at ahl aha
      refine tSeq_set ⟨p, w', 26, _, rfl, h4, ⟨by decide, by decide⟩, by show t + 1 + j.toNat < 1000000000000; omega, fun f0 H3 f00 f01 hp3 sm3 => ?_⟩
      refine tSeq_set ⟨(show 0 ≤ sizeLine by decide), fun L hL => ?_⟩
      have nLp : L ≠ p := hp3.ne1 hL
      have nLw : L ≠ w' := hp3.ne2 hL
      have sm4 : Sm p w' H H3 := h5.trans sm3
      have hL0' : H L = none := sm4.free hL nLp nLw
      refine tSeq_by (fun σ' H' => ∃ (v6 v7 : Option V) (ns : List Str), σ' = [some (.ref p), some (.int m), some (.str ABC), some (.str ah), some (.int f0), some (.ref L), v6, v7] ∧ H' L = some (.lst (ns.map V.str)) ∧ ns.length = m.toNat ∧ (∀ i (h : i < ns.length), NmOf ah (97 + (f0.toNat + 7 * i) % 26) ns[i]) ∧ PenAt H' p w' (t + 1 + j.toNat + 1) ∧ Sm p w' H H') ?_ ?_
      · intro nx hnx
        refine ⟨m, rfl, by omega, by omega, for_by (itn_range 0 m.toNat) (fun i σ' H' => ∃ (v6 v7 : Option V) (ns : List Str), σ' = [some (.ref p), some (.int m), some (.str ABC), some (.str ah), some (.int f0), some (.ref L), v6, v7] ∧ H' L = some (.lst (ns.map V.str)) ∧ ns.length = i ∧ (∀ i (h : i < ns.length), NmOf ah (97 + (f0.toNat + 7 * i) % 26) ns[i]) ∧ PenAt H' p w' (t + 1 + j.toNat + 1) ∧ Sm p w' H H')
          ⟨none, none, [], rfl, upd_same, rfl, (fun i h => absurd h (by simp)), hp3.same (Same.upd hL _), sm4.upd hL0'⟩ (fun _ _ _ _ _ => True.intro) ?_ ?_⟩
        · rintro i σ' H' hi ⟨v6, v7, ns, rfl, q1, q2, q3, q4, q5⟩
          have hi26 : i < 26 := by omega
          have ea : atI ABC.cps.toList ((f0 + 7 * (0 + (i : Int))) % 26) = some (97 + (f0.toNat + 7 * i) % 26) := by
            have := abcI (f0.toNat + 7 * i)
            rw [show ((f0.toNat + 7 * i : Nat) : Int) = f0 + 7 * (0 + (i : Int)) by omega] at this
            exact this
          refine tSeq_set ⟨.inl ⟨by decide, by decide⟩, (by decide), (by decide), _, ea, (show ah.length + 1 ≤ sizeLine by omega), ?_⟩
          refine tSeq_by (fun σ2 H2 => ∃ z, σ2 = [some (.ref p), some (.int m), some (.str ABC), some (.str ah), some (.int f0), some (.ref L), some (.int (0 + (i : Int))), some (.str z)] ∧ NmOf ah (97 + (f0.toNat + 7 * i) % 26) z ∧ Same H' H2) ?_ ?_
          · intro nx' hnx'
            refine ⟨(show 5 ≤ sizeLine by decide), fun tt htt => ⟨_, .inr (SqT.of upd_same), rfl, rfl, _, rfl, ite2 (fun hh => ?_) (fun hh => ?_)⟩⟩
            · refine ⟨(show (ah ++ ⟨#[97 + (f0.toNat + 7 * i) % 26]⟩ : Str).length + 1 ≤ sizeLine by rw [Str.length_append]; show ah.length + 1 + 1 ≤ _; omega), ?_⟩
              refine hnx' _ _ ⟨_, rfl, nm_q ?_, Same.upd htt _⟩
              rw [Bool.false_xor, inV_non] at hh
              exact hh
            · refine hnx' _ _ ⟨_, rfl, nm_plain ahl aha (by omega) ?_, Same.upd htt _⟩
              rw [Bool.false_xor, inV_non] at hh
              exact Bool.eq_false_iff.mpr hh
          · rintro σ2 H2 ⟨z, rfl, hz, s2⟩
            refine ⟨.inl ⟨rfl, _, SqL.of (s2 _ _ q1)⟩, L, _, .str z, rfl, rfl, s2 _ _ q1, by rw [List.length_map]; exact small1000 (by omega), ?_⟩
            refine ⟨_, _, ns ++ [z], rfl, by rw [upd_same, List.map_append]; rfl, by simp [q2], fun i' h' => ?_, (q4.same s2).upd nLp nLw, (q5.trans s2.sm).upd hL0'⟩
            by_cases hlt : i' < ns.length
            · rw [List.getElem_append_left hlt]; exact q3 i' hlt
            · have e : i' = ns.length := by simp at h'; omega
              subst e
              rw [List.getElem_append_right (Nat.le_refl _)]
              simp only [Nat.sub_self, List.getElem_cons_zero]
              rw [q2]; exact hz
        · rintro σ' H' ⟨v6, v7, ns, rfl, q⟩
          exact hnx _ _ ⟨v6, v7, ns, rfl, q⟩
      · rintro σ' H' ⟨v6, v7, ns, rfl, q1, q2, q3, q4, q5⟩
        refine k L ns H' hL0' q1 (by omega) ?_ ?_ (q4.mono (by omega)) q5
        · refine List.pairwise_iff_getElem.mpr fun a b ha hb hab z => ?_
          have h1 := (q3 a ha).pl
          have h2 := (q3 b hb).pl
          rw [z, h2] at h1
          have h3 := Option.some.inj h1
          omega
        · intro n hn
          obtain ⟨i, hi, rfl⟩ := List.getElem_of_mem hn
          exact ⟨(q3 i hi).nm, (q3 i hi).wd⟩
structure TxtsAt (H : Hp) (l : Addr) (ss : List Str) : Prop where
  e : H l = some (.lst (ss.map V.str))
  ne : ss ≠ []
  few : ss.length ≤ 60
  wd : ∀ z ∈ ss, Wd z
theorem TxtsAt.sm {H H' : Hp} {p w l : Addr} {t : Nat} {ss : List Str} (h : TxtsAt H l ss) (hp : PenAt H p w t) (s : Sm p w H H') : TxtsAt H' l ss := ⟨s _ _ h.e (hp.neL h.e h.ne).1 (hp.neL h.e h.ne).2, h.ne, h.few, h.wd⟩
theorem TxtsAt.same {H H' : Hp} {l : Addr} {ss : List Str} (h : TxtsAt H l ss) (s : Same H H') : TxtsAt H' l ss := ⟨s _ _ h.e, h.ne, h.few, h.wd⟩
theorem TxtsAt.at {H : Hp} {l : Addr} {ss : List Str} (h : TxtsAt H l ss) (r : Int) (h0 : 0 ≤ r) (h1 : r < ss.length) : ∃ z, atI (ss.map V.str) r = some (.str z) ∧ ss[r.toNat]? = some z ∧ Wd z := by
  obtain ⟨c, hc1, hc2⟩ := atI_some (ss.map V.str) r h0 (by rw [List.length_map]; exact h1)
  rw [List.getElem?_map] at hc1
  cases e : ss[r.toNat]? with
  | none => rw [e] at hc1; cases hc1
  | some z =>
    rw [e] at hc1
    cases hc1
    exact ⟨z, hc2, rfl, h.wd z (List.mem_of_getElem? e)⟩
theorem TxtsAt.pos {H : Hp} {l : Addr} {ss : List Str} (h : TxtsAt H l ss) : 0 < ss.length := List.length_pos_iff.mpr h.ne
theorem tb2 {H : Hp} {b : Addr} {x y : Str} (e : H b = some (.tup [.str x, .str y])) (hx : Wd x) (hy : Wd y) : TB H (.ref b) 1 411 :=
  (TB.tup (k := 0) (n := 202) e fun v hv => by
    simp only [List.mem_cons, List.mem_nil_iff, or_false] at hv
    rcases hv with rfl | rfl
    · exact TB.str hx
    · exact TB.str hy).mono (by omega) (by simp)
def spPairs : Sp := fun vs H Q _ => ∃ (p w wd nm : Addr) (t : Nat) (ws ns : List Str), vs = [.ref p, .ref wd, .ref nm] ∧ PenAt H p w t ∧ t + 30 < TMAX ∧ TxtsAt H wd ws ∧ ws.length ≤ 10 ∧ (ws.Nodup ∧ ∀ z ∈ ws, isName z = true) ∧ TxtsAt H nm ns ∧ (∀ z ∈ ns, isName z = true) ∧
  ∀ (b : Addr) (xs : List V) (ps : List (Str × Str)) (H' : Hp), H' b = some (.tup xs) → PrsOk H' ns xs ps → (∀ q ∈ ps, q.1 ∈ ws) → xs.length ≤ 10 → TB H' (.ref b) 2 4133 → PenAt H' p w (t + 30) → Sm p w H H' → Q (.ref b) H'
theorem ok_law_tpairs (T : Txt K mg w) : FnK P w K mg base 2 "_law_tpairs" ["pen", "words", "names"] spPairs := by
  have F_law_tdraw : FnK P w K mg base 1 "_law_tdraw" ["pen", "many"] spDraw := ok_law_tdraw T
  refine T.t_law_tpairs.okS sc_law_tpairs (fun vs H Q E h => ?_) (fun f cdv A outer s H vs Q E hr h => ?_)
  · obtain ⟨p, w', wd, nm, t, ws, ns, rfl, _⟩ := h
    rfl
  · obtain ⟨p, w', wd, nm, t, ws, ns, rfl, hp, ht, hw, hw10, ⟨hwd, hwn⟩, hn, hnn, k⟩ := h
    have ht' : t + 30 < 1000000000000 := ht
    have hsz : sizeLine = 16777216 := sizeLine_eq
    have hu0 := Nat.lt_of_succ_lt (hu_of hr)
    refine ⟨_, (sb_cons (s_lc (i := 3) (own := ["word"]) (idx := [0]) (N' := ["word", "pen"]) (⟨rfl, by decide +kernel, by decide +kernel, (show ∀ y ∈ Scope.names _, y.2 = NameKind.free → ((defScope s_law_tpairs).names.lookup y.1 = some NameKind.cell ∨ (defScope s_law_tpairs).names.lookup y.1 = some NameKind.free) by decide +kernel), (show ∀ j ∈ ([0] : List Nat), (Scope.names _).lookup ((["pen", "words", "names", "some"] : List Str).getD j "") = some NameKind.free ∧ j < (["pen", "words", "names", "some"] : List Str).length by decide +kernel), rfl⟩) rfl (i_K K (z_callB (call_sortedK K) (by rfl) T.n_sorted PyProof.Rows.boot_sorted (sa_Name (zv 1) sa_nil))) (fun _ _ _ _ _ _ => (g_name (i := 0) (show List.Nodup (["word", "pen"] : List Str) by decide +kernel) rfl (Or.inl rfl))) (fun _ _ _ _ _ _ => (c_one (y_cmpR (op_eqD hu0) (z_fn F_law_tdraw (hr.mono (by decide)) (sa_Name (zv 1) (sa_Constant z_int sa_nil))) z_int (nomark _)))) (fun _ _ _ _ _ _ => (zv 0)) sc_law_tpairs.nd rfl rfl)
      (sb_one (s_ret (z_callTy (call_tupK K) (by rfl) T.n_tuple PyProof.Rows.boot_tuple (sa_ListComp (z_lc (own := ["word"]) (idx := [0, 2]) (N' := ["word", "pen", "names"]) (⟨rfl, by decide +kernel, by decide +kernel, (show ∀ y ∈ Scope.names _, y.2 = NameKind.free → ((defScope s_law_tpairs).names.lookup y.1 = some NameKind.cell ∨ (defScope s_law_tpairs).names.lookup y.1 = some NameKind.free) by decide +kernel), (show ∀ j ∈ ([0, 2] : List Nat), (Scope.names _).lookup ((["pen", "words", "names", "some"] : List Str).getD j "") = some NameKind.free ∧ j < (["pen", "words", "names", "some"] : List Str).length by decide +kernel), rfl⟩) rfl (i_K K (zv 3)) (fun _ _ _ _ _ _ => (g_name (i := 0) (show List.Nodup (["word", "pen", "names"] : List Str) by decide +kernel) rfl (Or.inl rfl))) (fun _ _ _ _ _ _ => c_nil) (fun _ _ _ _ _ _ => (z_tup (sa_Name (zv 0) (sa_Subscript (z_ix (ix_K K) (zv 2) (z_fn F_law_tdraw (hr.mono (by decide)) (sa_Name (zv 1) (sa_Call (z_callB (call_lenK K) (by rfl) T.n_len PySem.boot_len (sa_Name (zv 2) sa_nil)) sa_nil))) (fun _ _ => rfl)) sa_nil))))) sa_nil))))), ?_⟩
    refine tSeq_set ⟨wd, ws, rfl, SqL.of hw.e, by omega, fun l ss hl hperm hsorted => ?_⟩
    have hsl : ss.length = ws.length := hperm.length_eq
    have wds : ∀ z ∈ ss, Wd z := fun z hz => hw.wd z (hperm.mem_iff.mp hz)
    have wns : ∀ z ∈ ss, isName z = true := fun z hz => hwn z (hperm.mem_iff.mp hz)
    have pws := pw_of_sorted hsorted (hperm.nodup_iff.mpr hwd)
    refine Or.inl ⟨⟨_, SqL.of upd_same⟩, fun D hD => ?_⟩
    have s1 : Same H (upd H l (.lst (ss.map V.str))) := Same.upd hl _
    have hp1 := hp.same s1
    have nDp : D ≠ p := hp1.ne1 hD
    have nDw : D ≠ w' := hp1.ne2 hD
    have nDl : D ≠ l := fun e => by rw [e, upd_same] at hD; cases hD
    have nlp : l ≠ p := hp.ne1 hl
    have nlw : l ≠ w' := hp.ne2 hl
    have hD0 : H D = none := s1.free hD
    refine lc_by (itn_list (ss.map V.str)) (fun i τ H2 => ∃ (v : Option V) (os : List Str), τ = [v, some (.ref p)] ∧ H2 D = some (.lst (os.map V.str)) ∧ os.Sublist (ss.take i) ∧ H2 l = some (.lst (ss.map V.str)) ∧ PenAt H2 p w' (t + i) ∧ Sm p w' H H2)
      ⟨none, [], rfl, upd_same, List.Sublist.refl _, by rw [upd_ne nDl.symm]; exact upd_same, hp1.same (Same.upd hD _), s1.sm.upd hD0⟩ (by rintro i τ H2 _ ⟨_, _, _, _, _, q, _⟩; exact SqL.of q) ?_ ?_
    · rintro i τ H2 hi ⟨v, os, rfl, q1, q2, q4, q5, q6⟩
      rw [List.length_map] at hi
      rw [mapStr_getD ss i hi]
      have hti : ss.take (i + 1) = ss.take i ++ [ss.getD i ""] := by
        rw [List.take_add_one, List.getD_eq_getElem?_getD, List.getElem?_eq_getElem hi]; rfl
      generalize ss.getD i "" = z at hti
      have hol : os.length ≤ i := by have := q2.length_le; simp at this; omega
      refine ⟨p, w', 2, t + i, rfl, q5, ⟨by decide, by decide⟩, by show t + i < 1000000000000; omega, fun r H3 r0 r1 hp3 sm3 => ?_⟩
      refine ⟨rfl, _, rfl, ?_⟩
      have g4 := sm3 _ _ q4 nlp nlw
      have g1 := sm3 _ _ q1 nDp nDw
      refine iteB (fun _ => ?_) (fun _ => ?_)
      · refine ⟨_, g1, by rw [List.length_map]; exact small1000 (by omega), _, os ++ [z], rfl, by rw [upd_same, List.map_append]; rfl, by rw [hti]; exact q2.append (List.Sublist.refl _), by rw [upd_ne nDl.symm]; exact g4, hp3.upd nDp nDw, (q6.trans sm3).upd hD0⟩
      · exact ⟨_, os, rfl, g1, by rw [hti]; exact q2.trans (List.sublist_append_left _ _), g4, hp3, q6.trans sm3⟩
    · rintro τ H2 ⟨v, os, rfl, q1, q2', q4, q5, q6⟩
      rw [List.length_map] at q2' q5
      rw [List.take_length] at q2'
      have q2 : os.length ≤ ss.length := q2'.length_le
      have q3 : ∀ z ∈ os, Wd z := fun z hz => wds z (q2'.subset hz)
      have q3n : ∀ z ∈ os, isName z = true := fun z hz => wns z (q2'.subset hz)
      have q3r : rising os = true := rising_of_pw (pws.sublist q2')
      refine Or.inl ⟨⟨_, SqL.of q1⟩, fun D2 hD2 => ?_⟩
      have n2p : D2 ≠ p := q5.ne1 hD2
      have n2w : D2 ≠ w' := q5.ne2 hD2
      have n2D : D2 ≠ D := fun e => by rw [e, q1] at hD2; cases hD2
      have hD20 : H D2 = none := q6.free hD2 n2p n2w
      refine lc_by (itn_list (os.map V.str)) (fun i τ H3 => ∃ (v : Option V) (xs : List V) (rs : List (Str × V)), τ = [v, some (.ref p), some (.ref nm)] ∧ H3 D2 = some (.lst xs) ∧ PairsAt H3 xs (rowsK rs) ∧ rs.map (·.1) = os.take i ∧ (∀ r ∈ rs, ∃ y, r.2 = .str y ∧ y ∈ ns ∧ Wd y) ∧ H3 D = some (.lst (os.map V.str)) ∧ PenAt H3 p w' (t + ws.length + i) ∧ Sm p w' H H3)
        ⟨none, [], [], rfl, upd_same, pairs_nil, rfl, (fun _ h => nomatch h), by rw [upd_ne n2D.symm]; exact q1, (q5.same (Same.upd hD2 _)).mono (by omega), q6.upd hD20⟩ (by rintro i τ H2 _ ⟨_, _, _, _, _, _, _, _, q, _⟩; exact SqL.of q) ?_ ?_
      · rintro i τ H3 hi ⟨v, xs, rs, rfl, r1, r2, r2n, r3, r4, r5, r6⟩
        rw [List.length_map] at hi
        rw [mapStr_getD os i hi]
        have hti : os.take (i + 1) = os.take i ++ [os.getD i ""] := by
          rw [List.take_add_one, List.getD_eq_getElem?_getD, List.getElem?_eq_getElem hi]; rfl
        generalize os.getD i "" = z at hti
        have hrl : rs.length = i := by have := congrArg List.length r2n; simp at this; omega
        have hxl : xs.length = i := by have := r2.1; simp at this; omega
        have hn3 := hn.sm hp r6
        have hnpos := hn3.pos
        have hnfew := hn3.few
        refine .inl ⟨_, .inl (SqL.of hn3.e), p, w', _, t + ws.length + i, rfl, r5, ⟨by rw [List.length_map]; omega, by rw [List.length_map]; omega⟩, by show t + ws.length + i < 1000000000000; omega, fun r H4 a0 a1 hp4 sm4 => ?_⟩
        rw [List.length_map] at a1
        have hn4 := hn3.sm r5 sm4
        obtain ⟨n, hna, hni, hnw⟩ := hn4.at r a0 a1
        refine ⟨_, _, .inl (SqL.of hn4.e), hna, (show 2 ≤ sizeLine by decide), fun b hb => ?_⟩
        have g1 := sm4 _ _ r1 n2p n2w
        have g4 := sm4 _ _ r4 nDp nDw
        have nbD : D2 ≠ b := ne_of_none g1 hb
        have nbD' : D ≠ b := ne_of_none g4 hb
        have tk4 : Tk H3 H4 := r5.ts sm4
        have tk5 : Tk H3 (upd (upd H4 b (.tup [.str z, .str n])) D2 (.lst (xs ++ [.ref b]))) := (tk4.trans (Same.upd hb _).ts).set (by rw [upd_ne nbD]; exact g1) (by intro _ z; cases z)
        have hb5 : upd (upd H4 b (.tup [.str z, .str n])) D2 (.lst (xs ++ [.ref b])) b = some (.tup [.str z, .str n]) := by rw [upd_ne nbD.symm]; exact upd_same
        refine ⟨xs, by rw [upd_ne nbD]; exact g1, by omega, _, xs ++ [.ref b], rs ++ [(z, .str n)], rfl, upd_same, pairs_snoc (r2.ts tk5) hb5, by rw [List.map_append, r2n, hti]; rfl, fun r' hr' => ?_, by rw [upd_ne n2D.symm, upd_ne nbD']; exact g4, ((hp4.same (Same.upd hb _)).upd n2p n2w), ((r6.trans sm4).trans (Same.upd hb _).sm).upd hD20⟩
        rcases List.mem_append.mp hr' with hx | hx
        · exact r3 r' hx
        · rw [List.mem_singleton.mp hx]
          exact ⟨n, rfl, List.mem_of_getElem? hni, hnw⟩
      · rintro τ H3 ⟨v, xs, rs, rfl, r1, r2, r2n, r3, r4, r5, r6⟩
        rw [List.length_map] at r2n r5
        rw [List.take_length] at r2n
        have hrl : rs.length = os.length := by rw [← r2n, List.length_map]
        have hxl : xs.length = os.length := by have := r2.1; simp at this; omega
        refine ⟨D2, xs, rfl, .inl ⟨SqL.of r1, fun b hb => ?_⟩⟩
        have tk : Tk H3 (upd H3 b (.tup xs)) := (Same.upd hb _).ts
        have hmem : ∀ r' ∈ rs, r'.1 ∈ os := fun r' hr' => by rw [← r2n]; exact List.mem_map.mpr ⟨r', hr', rfl⟩
        refine k b xs _ _ upd_same (prs_of (r2.ts tk) (fun r' hr' => q3n _ (hmem r' hr')) (fun r' hr' => by obtain ⟨y, e1, e2, _⟩ := r3 r' hr'; exact ⟨y, e1, e2, hnn y e2⟩) (by rw [r2n]; exact q3r)) (fun q hq => by obtain ⟨q', hq', rfl⟩ := List.mem_map.mp hq; exact hperm.mem_iff.mp (q2'.subset (hmem q' hq'))) (by omega) ((TB.tup (k := 1) (n := 411) upd_same fun x hx => ?_).mono (by omega) (by rw [hxl]; omega)) ((r5.same (Same.upd hb _)).mono (by omega)) (r6.trans (Same.upd hb _).sm)
        obtain ⟨c, r', hr', rfl, e⟩ := pairs_mem r2 hx
        obtain ⟨y, e1, e2, e3⟩ := r3 r' hr'
        rw [e1] at e
        exact tb2 (tk _ _ e) (q3 _ (hmem r' hr')) e3
def spHead64 : Sp := fun vs H Q _ => ∃ (p w wd nm : Addr) (sort : Str) (t : Nat) (ws ns : List Str), vs = [.ref p, .str sort, .ref wd, .ref nm] ∧ PenAt H p w t ∧ t + 40 < TMAX ∧ TxtsAt H wd ws ∧ ws.length ≤ 10 ∧ (ws.Nodup ∧ ∀ z ∈ ws, isName z = true) ∧ TxtsAt H nm ns ∧ (∀ z ∈ ns, isName z = true) ∧ (sort ∈ (["all", "none", "way", "box", "pick", "as", "hole"] : List Str)) ∧
  ∀ (b : Addr) (ys : List V) (H' : Hp), H' b = some (.tup (.str sort :: ys)) → (sort = "hole" → ys = []) → (sort ≠ "as" → sort ≠ "hole" → HG4 H' ns ws (.ref b) (fun o => o = none)) → TB H' (.ref b) 3 8273 → PenAt H' p w (t + 40) → Sm p w H H' → Q (.ref b) H'
theorem ok_law_thead64 (T : Txt K mg w) : FnK P w K mg base 3 "_law_thead" ["pen", "sort", "words", "names"] spHead64 := by
  have F_law_tdraw : FnK P w K mg base 1 "_law_tdraw" ["pen", "many"] spDraw := ok_law_tdraw T
  have F_law_tpairs : FnK P w K mg base 2 "_law_tpairs" ["pen", "words", "names"] spPairs := ok_law_tpairs T
  refine T.t_law_thead.okS sc_law_thead (fun vs H Q E h => ?_) (fun f cdv A outer s H vs Q E hr h => ?_)
  · obtain ⟨p, w', wd, nm, sort, t, ws, ns, rfl, _⟩ := h
    rfl
  · obtain ⟨p, w', wd, nm, sort, t, ws, ns, rfl, hp, ht, hw, hw10, hwn, hn, hnn, hsort, k⟩ := h
    have hso : Wd sort := by
      simp only [List.mem_cons, List.mem_nil_iff, or_false] at hsort
      rcases hsort with rfl | rfl | rfl | rfl | rfl | rfl | rfl <;> exact wd_ascii (by decide) (by decide)
    have ht' : t + 40 < 1000000000000 := ht
    have hsz : sizeLine = 16777216 := sizeLine_eq
    have hu0 := Nat.lt_of_succ_lt (hu_of hr)
    have hnpos := hn.pos
    have hnfew := hn.few
    refine ⟨_, (sb_cons (s_if (y_cmpR (op_eqD hu0) (zv 1) z_str (nomark _)) (sb_one (s_ret (z_tup (sa_Constant z_str (sa_Subscript (z_ix (ix_K K) (zv 3) (z_fn F_law_tdraw (hr.mono (by decide)) (sa_Name (zv 0) (sa_Call (z_callB (call_lenK K) (by rfl) T.n_len PySem.boot_len (sa_Name (zv 3) sa_nil)) sa_nil))) (fun _ _ => rfl)) (sa_Subscript (z_ix (ix_K K) (zv 3) (z_fn F_law_tdraw (hr.mono (by decide)) (sa_Name (zv 0) (sa_Call (z_callB (call_lenK K) (by rfl) T.n_len PySem.boot_len (sa_Name (zv 3) sa_nil)) sa_nil))) (fun _ _ => rfl)) sa_nil)))))) sb_nil)
      (sb_cons (s_if (w_or (y_cmpR (op_eqD hu0) (zv 1) z_str (nomark _)) (w_or1 (y_cmpR (op_eqD hu0) (zv 1) z_str (nomark _)))).pt (sb_one (s_ret (z_tup (sa_Name (zv 1) (sa_Call (z_fn F_law_tpairs (hr.mono (by decide)) (sa_Name (zv 0) (sa_Name (zv 2) (sa_Name (zv 3) sa_nil)))) sa_nil))))) sb_nil)
      (sb_one (s_ret (z_tup (sa_Name (zv 1) sa_nil)))))), ?_⟩
    refine ⟨rfl, _, rfl, iteB (fun h1 => ?_) (fun h1 => ?_)⟩
    · rw [Bool.false_xor, decV_str] at h1
      have e1 : sort = "way" := eq_of_beq h1
      refine .inl ⟨_, .inl (SqL.of hn.e), p, w', _, t, rfl, hp, ⟨by rw [List.length_map]; omega, by rw [List.length_map]; omega⟩, by show t < 1000000000000; omega, fun r H1 a0 a1 hp1 sm1 => ?_⟩
      rw [List.length_map] at a1
      have hn1 := hn.sm hp sm1
      obtain ⟨x, hxa, hxi, hxw⟩ := hn1.at r a0 a1
      refine ⟨_, _, .inl (SqL.of hn1.e), hxa, .inl ⟨_, .inl (SqL.of hn1.e), p, w', _, t + 1, rfl, hp1, ⟨by rw [List.length_map]; omega, by rw [List.length_map]; omega⟩, by show t + 1 < 1000000000000; omega, fun r2 H2 b0 b1 hp2 sm2 => ?_⟩⟩
      rw [List.length_map] at b1
      have hn2 := hn1.sm hp1 sm2
      obtain ⟨y, hya, hyi, hyw⟩ := hn2.at r2 b0 b1
      refine ⟨_, _, .inl (SqL.of hn2.e), hya, (show 3 ≤ sizeLine by decide), fun b hb => ?_⟩
      rw [e1] at k
      refine k b [.str x, .str y] _ upd_same (fun z => absurd z (by decide)) (fun _ _ => hg4_way upd_same (hnn _ (List.mem_of_getElem? hxi)) (hnn _ (List.mem_of_getElem? hyi)) (List.mem_of_getElem? hxi) (List.mem_of_getElem? hyi) rfl) ((TB.tup (k := 0) (n := 202) upd_same fun v hv => ?_).mono (by omega) (by simp)) ((hp2.same (Same.upd hb _)).mono (by omega)) ((sm1.trans sm2).trans (Same.upd hb _).sm)
      simp only [List.mem_cons, List.mem_nil_iff, or_false] at hv
      rcases hv with rfl | rfl | rfl
      · rw [← e1]; exact TB.str hso
      · exact TB.str hxw
      · exact TB.str hyw
    · rw [Bool.false_xor, decV_str] at h1
      have fin : sort ∈ (["all", "none", "as", "hole"] : List Str) → tRet (tTup (tCons (tV 1) tNil)) { nx := fun x H' => Q V.non H', rt := Q } [some (.ref p), some (.str sort), some (.ref wd), some (.ref nm)] H := by
        intro hs3
        refine ⟨(show 1 ≤ sizeLine by decide), fun b hb => ?_⟩
        refine k b [] _ upd_same (fun _ => rfl) (fun hne hnh => by
          simp only [List.mem_cons, List.mem_nil_iff, or_false] at hs3
          rcases hs3 with rfl | rfl | rfl | rfl
          · exact hg4_all upd_same rfl
          · exact hg4_none upd_same rfl
          · exact (hne rfl).elim
          · exact (hnh rfl).elim) ((TB.tup (k := 0) (n := 202) upd_same fun v hv => ?_).mono (by omega) (by simp)) ((hp.same (Same.upd hb _)).mono (by omega)) ((Same.upd hb _).sm)
        rw [List.mem_singleton.mp hv]; exact TB.str hso
      have prs : (sort = "box" ∨ sort = "pick") → tRet (tTup (tCons (tV 1) (tCons (tCall spPairs [] E0 (tCons (tV 0) (tCons (tV 2) (tCons (tV 3) tNil)))) tNil))) { nx := fun x H' => Q V.non H', rt := Q } [some (.ref p), some (.str sort), some (.ref wd), some (.ref nm)] H := by
        intro hs2
        refine ⟨p, w', wd, nm, t, ws, ns, rfl, hp, by show t + 30 < 1000000000000; omega, hw, hw10, hwn, hn, hnn, fun c xs ps H1 hc hprs hpw hxl htb hp1 sm1 => ?_⟩
        refine ⟨(show 2 ≤ sizeLine by decide), fun b hb => ?_⟩
        have s5 := Same.upd hb (.tup [.str sort, .ref c])
        refine k b [.ref c] _ upd_same (fun z => by rcases hs2 with h | h <;> (rw [h] at z; exact absurd z (by decide))) (fun _ _ => hg4_worded hs2 upd_same (s5 _ _ hc) (by omega) (hprs.tk s5.ts) hpw rfl) ((TB.tup (k := 2) (n := 4133) upd_same fun v hv => ?_).mono (by omega) (by simp)) ((hp1.same (Same.upd hb _)).mono (by omega)) (sm1.trans (Same.upd hb _).sm)
        simp only [List.mem_cons, List.mem_nil_iff, or_false] at hv
        rcases hv with rfl | rfl
        · exact (TB.str hso).mono (by omega) (by omega)
        · exact htb.ts (Same.upd hb _).ts
      refine ⟨rfl, _, rfl, iteB (fun h2 => ?_) (fun h2 => ?_)⟩
      · rw [Bool.false_xor, decV_str] at h2
        exact iteT (prs (.inl (eq_of_beq h2)))
      · rw [Bool.false_xor, decV_str] at h2
        refine ⟨rfl, _, rfl, iteB (fun h3 => ?_) (fun h3 => ?_)⟩
        · rw [Bool.false_xor, decV_str] at h3
          exact prs (.inr (eq_of_beq h3))
        · rw [Bool.false_xor, decV_str] at h3
          refine fin ?_
          simp only [List.mem_cons, List.mem_nil_iff, or_false] at hsort ⊢
          rcases hsort with rfl | rfl | rfl | rfl | rfl | rfl | rfl
          · exact .inl rfl
          · exact .inr (.inl rfl)
          · exact absurd h1 (by decide)
          · exact absurd h2 (by decide)
          · exact absurd h3 (by decide)
          · exact .inr (.inr (.inl rfl))
          · exact .inr (.inr (.inr rfl))
theorem mem67 {z : Str} (h : z ∈ (["all", "none", "way", "box", "pick", "as"] : List Str)) : z ∈ (["all", "none", "way", "box", "pick", "as", "hole"] : List Str) ∧ z ≠ "hole" := by
  refine ⟨?_, fun e => by subst e; exact absurd h (by decide)⟩
  simp only [List.mem_cons, List.mem_nil_iff, or_false] at h ⊢
  rcases h with h | h | h | h | h | h <;> simp [h]
def NoW (ss : List Str) (H : Hp) (rs : List (Str × V)) : Prop := ("way" : Str) ∉ ss → ∀ r ∈ rs, ∃ b z ys, r.2 = .ref b ∧ H b = some (.tup (.str z :: ys)) ∧ z ≠ "way"
theorem NoW.tk {ss : List Str} {H H' : Hp} {rs : List (Str × V)} (h : NoW ss H rs) (t : Tk H H') : NoW ss H' rs := fun hs r hr => (h hs r hr).imp fun b ⟨z, ys, h1, h2, h3⟩ => ⟨z, ys, h1, t _ _ h2, h3⟩
theorem NoW.perm {ss : List Str} {H : Hp} {rs rs' : List (Str × V)} (h : NoW ss H rs) (p : ∀ r ∈ rs', r ∈ rs) : NoW ss H rs' := fun hs r hr => h hs r (p r hr)
theorem NoW.add {ss : List Str} {H : Hp} {rs : List (Str × V)} {n : Str} {v : V} (h : NoW ss H rs) (q : ("way" : Str) ∉ ss → ∃ b z ys, v = .ref b ∧ H b = some (.tup (.str z :: ys)) ∧ z ≠ "way") : NoW ss H (rs ++ [(n, v)]) := fun hs r hr => by
  rcases List.mem_append.mp hr with hr | hr
  · exact h hs r hr
  · rw [List.mem_singleton.mp hr]; exact q hs
theorem noW_rows {ss : List Str} {H : Hp} {xs : List V} {rs : List (Str × V)} {rows : List Rw2} (ps : PairsAt H xs (rowsK rs)) (h : NoW ss H rs) (hs : ("way" : Str) ∉ ss) (rv : RV H xs rows) : ∀ r ∈ rows, r.2.isW = false := fun r hr => by
  obtain ⟨i, hi, rfl⟩ := List.getElem_of_mem hr
  have hl := rv.len
  have hrs : xs.length = rs.length := by have := ps.1; simpa using this
  obtain ⟨b, v, q1, q2, q3⟩ := rv.at_ i (by omega) hi
  obtain ⟨b', e1, e2⟩ := ps.2 i (by simp; omega)
  rw [List.getElem?_eq_getElem (by omega), q1] at e1
  cases e1
  have e3 : H b = some (.tup [.str (rs[i]'(by omega)).1, (rs[i]'(by omega)).2]) := by simpa [rowsK, kV] using e2
  rw [q2] at e3
  have ev : v = (rs[i]'(by omega)).2 := by
    injection e3 with e3
    injection e3 with e3
    injection e3 with _ e3
    injection e3 with e3 _
  obtain ⟨c, z, ys, w1, w2, w3⟩ := h hs _ (List.getElem_mem (show i < rs.length by omega))
  rw [← ev] at w1
  subst w1
  cases e9 : rows[i].2 with
  | way x y =>
    rw [e9] at q3
    cases q3 with
    | way e8 =>
      rw [w2] at e8
      injection e8 with e8
      injection e8 with e8
      injection e8 with e8 _
      injection e8 with e8
      exact (w3 e8).elim
  | _ => rfl
def spTelling : Sp := fun vs H Q _ => ∃ (p w wd so : Addr) (most : Int) (t : Nat) (ws ss : List Str), vs = [.ref p, .int most, .ref wd, .ref so] ∧ PenAt H p w t ∧ t + 1000 < TMAX ∧ (1 ≤ most ∧ most ≤ 10) ∧ TxtsAt H wd ws ∧ ws.length ≤ 10 ∧ (ws.Nodup ∧ ∀ z ∈ ws, isName z = true) ∧ TxtsAt H so ss ∧ (∀ z ∈ ss, z ∈ (["all", "none", "way", "box", "pick", "as"] : List Str)) ∧
  ∀ (a : Addr) (xs : List V) (rows : List Rw2) (ns : List Str) (H' : Hp), RT H' a xs rows ns ws → (("way" : Str) ∉ ss → ∀ r ∈ rows, r.2.isW = false) → (ns.length : Int) ≤ most → PenAt H' p w (t + 1000) → Sm p w H H' → Q (.ref a) H'
theorem ok_law_ttelling (T : Txt K mg w) : FnK P w K mg base 4 "_law_ttelling" ["pen", "most", "words", "sorts"] spTelling := by
  have F_law_tdraw : FnK P w K mg base 1 "_law_tdraw" ["pen", "many"] spDraw := ok_law_tdraw T
  have F_law_tnames : FnK P w K mg base 2 "_law_tnames" ["pen", "many"] spNames := ok_law_tnames T
  have F_law_thead : FnK P w K mg base 3 "_law_thead" ["pen", "sort", "words", "names"] spHead64 := ok_law_thead64 T
  refine T.t_law_ttelling.okS sc_law_ttelling (fun vs H Q E h => ?_) (fun f cdv A outer s H vs Q E hr h => ?_)
  · obtain ⟨p, w', wd, so, most, t, ws, ss, rfl, _⟩ := h
    rfl
  · obtain ⟨p, w', wd, so, most, t, ws, ss, rfl, hp, ht, ⟨hm1, hm2⟩, hw, hw10, hwn, hso, hson, k⟩ := h
    have ht' : t + 1000 < 1000000000000 := ht
    have hsz : sizeLine = 16777216 := sizeLine_eq
    have hu0 := Nat.lt_of_succ_lt (hu_of hr)
    refine ⟨_, (sb_cons (s_set (i := 4) sc_law_ttelling.nd rfl (Or.inl rfl) (z_fn F_law_tnames (hr.mono (by decide)) (sa_Name (zv 0) (sa_BinOp (z_op op_addD z_int (z_fn F_law_tdraw (hr.mono (by decide)) (sa_Name (zv 0) (sa_Name (zv 1) sa_nil)))) sa_nil))))
      (sb_cons (s_set (i := 5) sc_law_ttelling.nd rfl (Or.inl rfl) (z_lst sa_nil))
      (sb_cons (s_for PassesOwn.never rfl (pi_enumK K (by rfl) T.n_enumerate (sa_Name (zv 4) sa_nil)) (g_tup K (n := 2) rfl (gs_cons (g_name (i := 6) sc_law_ttelling.nd rfl (Or.inl rfl)) (gs_cons (g_name (i := 7) sc_law_ttelling.nd rfl (Or.inl rfl)) gs_nil))) (sb_cons (s_set (i := 8) sc_law_ttelling.nd rfl (Or.inl rfl) (z_ix (ix_K K) (zv 3) (z_fn F_law_tdraw (hr.mono (by decide)) (sa_Name (zv 0) (sa_Call (z_callB (call_lenK K) (by rfl) T.n_len PySem.boot_len (sa_Name (zv 3) sa_nil)) sa_nil))) (fun _ _ => rfl)))
      (sb_cons (s_set (i := 9) sc_law_ttelling.nd rfl (Or.inl rfl) (z_fn F_law_thead (hr.mono (by decide)) (sa_Name (zv 0) (sa_Name (zv 8) (sa_Name (zv 2) (sa_Name (zv 4) sa_nil))))))
      (sb_cons (s_if (y_cmpR (op_eqD hu0) (zv 8) z_str (nomark _)) (sb_one (s_set (i := 9) sc_law_ttelling.nd rfl (Or.inl rfl) (z_ifExp (y_cmpR (op_eqD hu0) (zv 6) z_int (nomark _)) (z_tup (sa_Constant z_str sa_nil)) (z_tup (sa_Constant z_str (sa_Subscript (z_ix (ix_K K) (zv 4) (z_fn F_law_tdraw (hr.mono (by decide)) (sa_Name (zv 0) (sa_Name (zv 6) sa_nil))) (fun _ _ => rfl)) sa_nil)))))) sb_nil)
      (sb_one (s_expr (z_bm K PySem.F.plainAttrs_list PySem.F.slot_list_append PySem.F.type_list_append mt_append (zv 5) (sa_Tuple (z_tup (sa_Name (zv 7) (sa_Name (zv 9) sa_nil))) sa_nil))))))))
      (sb_cons (s_set (i := 10) sc_law_ttelling.nd rfl (Or.inl rfl) (z_fn F_law_tdraw (hr.mono (by decide)) (sa_Name (zv 0) (sa_Call (z_callB (call_lenK K) (by rfl) T.n_len PySem.boot_len (sa_Name (zv 5) sa_nil)) sa_nil))))
      (sb_one (s_ret (z_callTy (call_tupK K) (by rfl) T.n_tuple PyProof.Rows.boot_tuple (sa_BinOp (z_op op_addD (z_slice (sl_K K) (zv 5) (zo_some (zv 10)) zo_none) (z_slice (sl_K K) (zv 5) zo_none (zo_some (zv 10)))) sa_nil)))))))), ?_⟩
    refine tSeq_set ⟨p, w', most, t, rfl, hp, ⟨by omega, by omega⟩, by show t < 1000000000000; omega, fun r0 H1 ra rb hp1 sm1 => ⟨p, w', 1 + r0, t + 1, rfl, hp1, ⟨by omega, by omega⟩, by show t + 1 + 20 < 1000000000000; omega, fun L ns H2 hL0 hL hnl hnd hwd hp2 sm2 => ?_⟩⟩
    have hnl' : ns.length ≤ 10 ∧ 1 ≤ ns.length := by omega
    have tL : TxtsAt H2 L ns := ⟨hL, by intro e; rw [e] at hnl'; simp at hnl', by omega, fun n hn => (hwd n hn).2⟩
    have sm02 : Sm p w' H H2 := sm1.trans sm2
    refine tSeq_set ⟨(show 0 ≤ sizeLine by decide), fun R hR => ?_⟩
    have nRp : R ≠ p := hp2.ne1 hR
    have nRw : R ≠ w' := hp2.ne2 hR
    have hR0 : H R = none := sm02.free hR nRp nRw
    have nRL : R ≠ L := fun e => by rw [e, hL] at hR; cases hR
    refine tSeq_by (fun σ' H' => ∃ (v6 v7 v8 v9 : Option V) (xs : List V) (rs : List (Str × V)), σ' = [some (.ref p), some (.int most), some (.ref wd), some (.ref so), some (.ref L), some (.ref R), v6, v7, v8, v9, none] ∧ H' R = some (.lst xs) ∧ PairsAt H' xs (rowsK rs) ∧ rs.map (·.1) = ns ∧ RowsG H' ns ws rs ∧ NoW ss H' rs ∧ PenAt H' p w' (t + 21 + 60 * 10) ∧ Sm p w' H H') ?_ ?_
    · intro nx hnx
      refine ⟨L, _, rfl, SqL.of (by rw [upd_ne nRL.symm]; exact hL), for_pair (itp_enum (ns.map V.str)) (fun i σ' H' => ∃ (v6 v7 v8 v9 : Option V) (xs : List V) (rs : List (Str × V)), σ' = [some (.ref p), some (.int most), some (.ref wd), some (.ref so), some (.ref L), some (.ref R), v6, v7, v8, v9, none] ∧ H' R = some (.lst xs) ∧ PairsAt H' xs (rowsK rs) ∧ rs.map (·.1) = ns.take i ∧ RowsG H' ns ws rs ∧ NoW ss H' rs ∧ TxtsAt H' L ns ∧ PenAt H' p w' (t + 21 + 60 * i) ∧ Sm p w' H H')
        ⟨none, none, none, none, [], [], rfl, upd_same, pairs_nil, rfl, ⟨(fun _ h => nomatch h), (fun _ h => nomatch h)⟩, (fun _ _ h => nomatch h), tL.same (Same.upd hR _), hp2.same (Same.upd hR _), sm02.upd hR0⟩ (by rintro i τ H' _ ⟨_, _, _, _, _, _, _, _, _, _, _, _, tl, _⟩; exact SqL.of tl.e) ?_ ?_⟩
      · rintro i σ' H3 T0 hi ⟨v6, v7, v8, v9, xs, rs, rfl, q1, q2, q3, q4, qn, q5, q6, q7⟩ hT0
        rw [List.length_map] at hi
        rw [mapStr_getD ns i hi]
        have hni : ns[i]? = some (ns.getD i "") := by rw [List.getD_eq_getElem?_getD, List.getElem?_eq_getElem hi]; rfl
        generalize ns.getD i "" = nm at hni
        generalize hH4 : upd H3 T0 (.tup [.int (i : Int), .str nm]) = H4
        have s4 : Same H3 H4 := by rw [← hH4]; exact Same.upd hT0 _
        have hp4 := q6.same s4
        have sm4 : Sm p w' H H4 := q7.trans s4.sm
        have so4 := hso.sm hp sm4
        have hspos := so4.pos
        have hsfew := so4.few
        have hi10 : i < 10 := by omega
        refine tSeq_set (.inl ⟨_, .inl (SqL.of so4.e), p, w', _, t + 21 + 60 * i, rfl, hp4, ⟨by rw [List.length_map]; omega, by rw [List.length_map]; omega⟩, by show t + 21 + 60 * i < 1000000000000; omega, fun r H5 a0 a1 hp5 sm5 => ?_⟩)
        rw [List.length_map] at a1
        have sm05 : Sm p w' H H5 := sm4.trans sm5
        have so5 := hso.sm hp sm05
        obtain ⟨sort, hsa, hsi, hsw⟩ := so5.at r a0 a1
        refine ⟨_, _, .inl (SqL.of so5.e), hsa, ?_⟩
        have tL5 := (q5.same s4).sm hp4 sm5
        refine tSeq_set ⟨p, w', wd, L, sort, t + 21 + 60 * i + 1, ws, ns, rfl, hp5, by show t + 21 + 60 * i + 1 + 40 < 1000000000000; omega, hw.sm hp sm05, hw10, hwn, tL5, fun z hz => (hwd z hz).1, (mem67 (hson _ (List.mem_of_getElem? hsi))).1, fun b ys H6 hb _ hhd htb hp6 sm6 => ?_⟩
        have sm06 : Sm p w' H H6 := sm05.trans sm6
        have tk56 : Tk H3 H6 := (s4.ts.trans (hp4.ts sm5)).trans (hp5.ts sm6)
        have tL6 := tL5.sm hp5 sm6
        have qR6 : H6 R = some (.lst xs) := sm6 _ _ (sm5 _ _ (s4 _ _ q1) nRp nRw) nRp nRw
        refine tSeq_by (fun σ' H7 => ∃ (hv : V) (v8' : Option V), σ' = [some (.ref p), some (.int most), some (.ref wd), some (.ref so), some (.ref L), some (.ref R), some (.int (i : Int)), some (.str nm), v8', some hv, none] ∧ HG4 H7 ns ws hv (Ahd ns nm) ∧ (("way" : Str) ∉ ss → ∃ b z ys, hv = .ref b ∧ H7 b = some (.tup (.str z :: ys)) ∧ z ≠ "way") ∧ Tk H6 H7 ∧ H7 R = some (.lst xs) ∧ TxtsAt H7 L ns ∧ PenAt H7 p w' (t + 21 + 60 * i + 50) ∧ Sm p w' H H7) ?_ ?_
        · intro nx' hnx'
          refine ⟨rfl, _, rfl, iteB (fun h1 => ?_) (fun h1 => ?_)⟩
          · refine ⟨rfl, _, rfl, iteB (fun h2 => ?_) (fun h2 => ?_)⟩
            · refine ⟨(show 1 ≤ sizeLine by decide), fun c hc => ?_⟩
              refine hnx' _ _ ⟨.ref c, _, rfl, hg4_all upd_same (fun _ h => nomatch h), (fun _ => ⟨c, _, _, rfl, upd_same, by decide⟩), (Same.upd hc _).ts, (Same.upd hc _) _ _ qR6, tL6.same (Same.upd hc _), (hp6.same (Same.upd hc _)).mono (by omega), sm06.trans (Same.upd hc _).sm⟩
            · rw [Bool.false_xor, decV_int] at h2
              have hi0 : 0 < i := by have := of_decide_eq_false h2; omega
              refine ⟨p, w', (i : Int), _, rfl, hp6, ⟨by omega, by omega⟩, by show t + 21 + 60 * i + 1 + 40 < 1000000000000; omega, fun r2 H7 b0 b1 hp7 sm7 => ?_⟩
              have tL7 := tL6.sm hp6 sm7
              obtain ⟨y, hya, hyi, hyw⟩ := tL7.at r2 b0 (by omega)
              refine ⟨_, _, .inl (SqL.of tL7.e), hya, (show 2 ≤ sizeLine by decide), fun c hc => ?_⟩
              refine hnx' _ _ ⟨.ref c, _, rfl, hg4_as upd_same (hwd _ (List.mem_of_getElem? hyi)).1 (List.mem_of_getElem? hyi) (fun y' e => ?_), (fun _ => ⟨c, _, _, rfl, upd_same, by decide⟩), (hp6.ts sm7).trans (Same.upd hc _).ts, (Same.upd hc _) _ _ (sm7 _ _ qR6 nRp nRw), tL7.same (Same.upd hc _), (hp7.same (Same.upd hc _)).mono (by omega), (sm06.trans sm7).trans (Same.upd hc _).sm⟩
              · cases e
                exact ⟨r2.toNat, i, by omega, hyi, hni⟩
          · rw [Bool.false_xor, decV_str] at h1
            have hne : sort ≠ "as" := fun e => by rw [e] at h1; simp at h1
            exact hnx' _ _ ⟨.ref b, _, rfl, (hhd hne (mem67 (hson _ (List.mem_of_getElem? hsi))).2).imp (fun o e y e' => by rw [e] at e'; cases e'), (fun hnw => ⟨b, _, _, rfl, hb, fun z => hnw (z ▸ List.mem_of_getElem? hsi)⟩), Tk.refl, qR6, tL6, hp6.mono (by omega), sm06⟩
        · rintro σ' H7 ⟨hv, v8', rfl, g1, gw, g3, g4, g5, g6, g7⟩
          refine ⟨.inl ⟨rfl, _, SqL.of g4⟩, (show 2 ≤ sizeLine by decide), fun c hc => ?_⟩
          have ncR : R ≠ c := ne_of_none g4 hc
          have hxl : xs.length = i := by
            have h1 := q2.1
            have h2 := congrArg List.length q3
            simp at h1 h2
            omega
          refine ⟨R, xs, .ref c, rfl, rfl, by rw [upd_ne ncR]; exact g4, by omega, ?_⟩
          have tk8 : Tk H7 (upd (upd H7 c (.tup [.str nm, hv])) R (.lst (xs ++ [.ref c]))) := ((Same.upd hc _).ts).set (by rw [upd_ne ncR]; exact g4) (by intro _ z; cases z)
          have hc8 : upd (upd H7 c (.tup [.str nm, hv])) R (.lst (xs ++ [.ref c])) c = some (.tup [.str nm, hv]) := by rw [upd_ne ncR.symm]; exact upd_same
          have tk38 : Tk H3 (upd (upd H7 c (.tup [.str nm, hv])) R (.lst (xs ++ [.ref c]))) := (tk56.trans g3).trans tk8
          have nLR : L ≠ R := nRL.symm
          refine ⟨_, _, _, _, xs ++ [.ref c], rs ++ [(nm, hv)], rfl, upd_same, pairs_snoc (q2.ts tk38) hc8, ?_, ?_, (qn.tk tk38).add fun h => (gw h).imp fun b ⟨z, ys, w1, w2, w3⟩ => ⟨z, ys, w1, tk8 _ _ w2, w3⟩, ⟨by rw [upd_ne nLR, upd_ne (ne_of_none g5.e hc)]; exact g5.e, g5.ne, g5.few, g5.wd⟩, ((g6.same (Same.upd hc _)).upd nRp nRw).mono (by omega), (g7.trans (Same.upd hc _).sm).upd hR0⟩
          · rw [List.map_append, q3, List.take_add_one, hni]; rfl
          · have := ((q4.tk tk38).add (n := nm) (v := hv) (List.mem_of_getElem? hni) (g1.tk tk8))
            exact this.perm fun r hr => by
              rcases List.mem_append.mp hr with hr | hr
              · exact List.mem_cons_of_mem _ hr
              · rw [List.mem_singleton.mp hr]; exact List.mem_cons_self
      · rintro σ' H' ⟨v6, v7, v8, v9, xs, rs, rfl, q1, q2, q3, q4, qn, q5, q6, q7⟩
        rw [List.length_map, List.take_length] at q3
        rw [List.length_map] at q6
        exact hnx _ _ ⟨v6, v7, v8, v9, xs, rs, rfl, q1, q2, q3, q4, qn, q6.mono (by omega), q7⟩
    · rintro σ' H3 ⟨v6, v7, v8, v9, xs, rs, rfl, q1, q2, q3, q4, qn, q6, q7⟩
      have hrl : rs.length = ns.length := by rw [← q3, List.length_map]
      have hxl : xs.length = rs.length := by have := q2.1; simpa using this
      refine tSeq_set (.inl ⟨_, .inl (SqL.of q1), p, w', _, _, rfl, q6, ⟨by omega, by omega⟩, by show t + 21 + 60 * 10 < 1000000000000; omega, fun r H4 a0 a1 hp4 sm4 => ?_⟩)
      have g1 : H4 R = some (.lst xs) := sm4 _ _ q1 nRp nRw
      have er : r = ((r.toNat : Nat) : Int) := by omega
      refine ⟨r, rfl, Or.inr (Or.inl ⟨R, xs, rfl, SqL.of g1, fun p1 hp1' => ?_⟩)⟩
      have n1R : R ≠ p1 := ne_of_none g1 hp1'
      refine ⟨r, rfl, Or.inr (Or.inl ⟨R, xs, rfl, SqL.of (by rw [upd_ne n1R]; exact g1), fun p2 hp2' => ?_⟩)⟩
      have n12 : p1 ≠ p2 := fun e => by rw [← e, upd_same] at hp2'; cases hp2'
      refine ⟨_, _, by rw [upd_ne n12]; exact upd_same, upd_same, ?_, fun p3 hp3' => ⟨p3, _, rfl, .inl ⟨SqL.of upd_same, fun a ha => ?_⟩⟩⟩
      · have h1 := cutV_length xs (some r) none
        have h2 := cutV_length xs none (some r)
        omega
      · have e1 : cutV xs (some r) none = xs.drop r.toNat := by rw [er]; exact cut_from xs r.toNat
        have e2 : cutV xs none (some r) = xs.take r.toNat := by rw [er]; exact cut_to xs r.toNat
        rw [e1, e2] at ha ⊢
        have s5 := (((Same.upd hp1' (.lst (xs.drop r.toNat))).trans (Same.upd (by rw [e1] at hp2'; exact hp2') (.lst (xs.take r.toNat)))).trans (Same.upd (by rw [e1, e2] at hp3'; exact hp3') (.lst (xs.drop r.toNat ++ xs.take r.toNat)))).trans (Same.upd ha (.tup (xs.drop r.toNat ++ xs.take r.toNat)))
        have tk5 := (q6.ts sm4).trans s5.ts
        have pm := perm_rot rs r.toNat
        have pmn : ((rs.drop r.toNat ++ rs.take r.toNat).map (·.1)).Perm (rs.map (·.1)) := pm.map _
        have rok := (q4.tk tk5).perm (fun r' hr' => pm.mem_iff.mp hr')
        obtain ⟨rows, rt⟩ := RT.of upd_same (pairs_rot (q2.ts tk5) r.toNat) (by rw [← q3]; exact pmn) hnd hwd (by omega) (by omega) rok
        exact k a _ rows ns _ rt (fun hnw => noW_rows (pairs_rot (q2.ts tk5) r.toNat) ((qn.tk tk5).perm (fun r' hr' => pm.mem_iff.mp hr')) hnw rt.rv) (by omega) ((hp4.same s5).mono (by omega)) ((q7.trans sm4).trans s5.sm)
theorem ok_law_tis_name (T : Txt K mg w) : FnK P w K mg base 1 "_law_tis_name" ["thing"] (spT nameD) := by
  refine T.t_law_tis_name.okS sc_law_tis_name (fun vs H Q E h => ?_) (fun f cdv A outer s H vs Q E hr h => ?_)
  · obtain ⟨x, d, rfl, _⟩ := h
    rfl
  · obtain ⟨x, d, rfl, hd, k⟩ := h
    have hu0 := Nat.lt_of_succ_lt (hu_of hr)
    have hsz : sizeLine = 16777216 := sizeLine_eq
    refine ⟨_, (sb_cons (s_if (w_or (y_not (y_val (z_callB call_isiD (by rfl) T.n_isinstance PyProof.Rows.boot_isinstance (sa_Name (zv 0) (sa_Name (z_bltn (v := .ty "str") (by rfl) T.n_str PyProof.Rows.boot_str rfl) sa_nil))))) (w_or (y_cmpR op_ltD (z_callB (call_lenK K) (by rfl) T.n_len PySem.boot_len (sa_Name (zv 0) sa_nil)) z_int (nomark _)) (w_or1 (y_cmpR op_gtD (z_callB (call_lenK K) (by rfl) T.n_len PySem.boot_len (sa_Name (zv 0) sa_nil)) z_int (nomark _))))).pt (sb_one (s_ret z_bl)) sb_nil)
      (sb_one (s_ret (z_and (z_cmpR (op_notInK K) (zv 0) (z_lst (sa_Constant z_str (sa_Constant z_str (sa_Constant z_str (sa_Constant z_str (sa_Constant z_str sa_nil)))))) rfl) (z_one (z_cmpR (op_eqD hu0) (z_bm K PySem.F.plainAttrs_str PySem.F.slot_str_strip PySem.F.type_str_strip mt_strip (zv 0) (sa_Constant z_str sa_nil)) z_str (nomark _))))))), ?_⟩
    obtain ⟨t, ht, h1, h2⟩ := hd.ty
    refine ⟨by decide, t, ht, _, rfl, ?_⟩
    rw [h2]
    have k0 := k H (Same.refl H)
    cases hd with
    | @str z hz =>
      refine iteF ?_
      refine ⟨by omega, _, rfl, ?_⟩
      have fin : ∀ b, isName z = b → ∀ H', Same H H' → Q (.bl b) H' := fun b e H' s' => by have := k H' s'; rw [← e]; exact this
      refine iteB (fun h3 => iteT (fin false ?_ H (Same.refl H))) (fun h3 => ?_)
      · have : ¬ 1 ≤ z.length := by have := of_decide_eq_true h3; omega
        simp [isName, this]
      have h3' : 1 ≤ z.length := by have := of_decide_eq_false h3; omega
      refine ⟨by omega, _, rfl, iteB (fun h4 => fin false ?_ H (Same.refl H)) (fun h4 => ?_)⟩
      · have : ¬ z.length ≤ 8 := by have := of_decide_eq_true h4; omega
        simp [isName, this]
      have h4' : z.length ≤ 8 := by have := of_decide_eq_false h4; omega
      refine tNext_seq2 ⟨(show 5 ≤ sizeLine by decide), fun L hL => ⟨_, .inl (SqL.of upd_same), rfl, rfl, _, rfl, ?_⟩⟩
      have sL := Same.upd hL (.lst [.str "all", .str "none", .str "way", .str "box", .str "pick"])
      have hin : inV (.str z) [.str "all", .str "none", .str "way", .str "box", .str "pick"] = NON.any fun y => y == z := by
        unfold inV
        rfl
      refine ite2 (fun h5 => ?_) (fun h5 => ?_)
      · have h5' : (NON.any fun y => y == z) = false := by rw [← hin]; simpa using h5
        refine ⟨rfl, by omega, rfl, ?_⟩
        have e5 : (false ^^ decide (V.str (Txt.stripChars z (Str.ofString "abcdefghijklmnopqrstuvwxyz")) = V.str (Str.ofString ""))) = isName z := by
          rw [Bool.false_xor, decV_str]
          have := strip_abc z
          rw [show (Str.ofString "abcdefghijklmnopqrstuvwxyz") = ABC from rfl]
          rw [show (Str.ofString "") = ("" : Str) from rfl, this]
          simp [isName, h3', h4', h5']
        rw [e5]
        exact fin _ rfl _ sL
      · refine fin false ?_ _ sL
        have h5' : (NON.any fun y => y == z) = true := by rw [← hin]; simpa using h5
        simp [isName, h5']
    | _ => exact iteT k0
def spTisHead : Sp := fun vs H Q _ => ∃ (x : V) (d : Dt) (L : Addr) (zs : List Str), vs = [x, .ref L] ∧ DD H x d ∧ H L = some (.lst (zs.map V.str)) ∧ zs.length ≤ 1000 ∧ ∀ H', Same H H' → Q (.bl (headT zs d)) H'
theorem ok_law_tis_head (T : Txt K mg w) : FnK P w K mg base 2 "_law_tis_head" ["head", "names"] spTisHead := by
  have F_law_tis_name : FnK P w K mg base 1 "_law_tis_name" ["thing"] (spT nameD) := ok_law_tis_name T
  refine T.t_law_tis_head.okS sc_law_tis_head (fun vs H Q E h => ?_) (fun f cdv A outer s H vs Q E hr h => ?_)
  · obtain ⟨x, d, L, zs, rfl, _⟩ := h
    rfl
  · obtain ⟨x, d, L, zs, rfl, hd, gL, hzl, k⟩ := h
    have hu0 := Nat.lt_of_succ_lt (hu_of hr)
    have hsz : sizeLine = 16777216 := sizeLine_eq
    refine ⟨_, (sb_cons (s_if (w_or (y_not (y_val (z_callB call_isiD (by rfl) T.n_isinstance PyProof.Rows.boot_isinstance (sa_Name (zv 0) (sa_Name (z_bltn (v := .ty "tuple") (by rfl) T.n_tuple PyProof.Rows.boot_tuple rfl) sa_nil))))) (w_or (y_cmpR op_ltD (z_callB (call_lenK K) (by rfl) T.n_len PySem.boot_len (sa_Name (zv 0) sa_nil)) z_int (nomark _)) (w_or1 (y_not (y_val (z_callB call_isiD (by rfl) T.n_isinstance PyProof.Rows.boot_isinstance (sa_Subscript (z_ix (ix_K K) (zv 0) z_int (fun _ _ => rfl)) (sa_Name (z_bltn (v := .ty "str") (by rfl) T.n_str PyProof.Rows.boot_str rfl) sa_nil)))))))).pt (sb_one (s_ret z_bl)) sb_nil)
      (sb_cons (s_if (w_or (y_cmpR (op_eqD hu0) (z_ix (ix_K K) (zv 0) z_int (fun _ _ => rfl)) z_str (nomark _)) (w_or1 (y_cmpR (op_eqD hu0) (z_ix (ix_K K) (zv 0) z_int (fun _ _ => rfl)) z_str (nomark _)))).pt (sb_one (s_ret (z_cmpR (op_eqD hu0) (z_callB (call_lenK K) (by rfl) T.n_len PySem.boot_len (sa_Name (zv 0) sa_nil)) z_int (nomark _)))) sb_nil)
      (sb_cons (s_if (w_or (y_cmpR (op_eqD hu0) (z_ix (ix_K K) (zv 0) z_int (fun _ _ => rfl)) z_str (nomark _)) (w_or1 (y_cmpR (op_eqD hu0) (z_ix (ix_K K) (zv 0) z_int (fun _ _ => rfl)) z_str (nomark _)))).pt (sb_cons (s_set (i := 2) sc_law_tis_head.nd rfl (Or.inl rfl) (z_op op_addD z_int (z_callTy call_intB (by rfl) T.n_int PyProof.Rows.boot_int (sa_Compare (z_cmpR (op_eqD hu0) (z_ix (ix_K K) (zv 0) z_int (fun _ _ => rfl)) z_str (nomark _)) sa_nil))))
      (sb_one (s_ret (z_and (z_cmpR (op_eqD hu0) (z_callB (call_lenK K) (by rfl) T.n_len PySem.boot_len (sa_Name (zv 0) sa_nil)) (zv 2) (nomark _)) (z_one (z_callB (call_allK K rfl) (by rfl) T.n_all PyProof.Rows.boot_all (sa_ListComp (z_lc (own := ["x"]) (idx := [1]) (N' := ["x", "names"]) (⟨rfl, by decide +kernel, by decide +kernel, (show ∀ y ∈ Scope.names _, y.2 = NameKind.free → ((defScope s_law_tis_head).names.lookup y.1 = some NameKind.cell ∨ (defScope s_law_tis_head).names.lookup y.1 = some NameKind.free) by decide +kernel), (show ∀ j ∈ ([1] : List Nat), (Scope.names _).lookup ((["head", "names", "many", "last", "pair"] : List Str).getD j "") = some NameKind.free ∧ j < (["head", "names", "many", "last", "pair"] : List Str).length by decide +kernel), rfl⟩) rfl (i_K K (z_slice (sl_K K) (zv 0) (zo_some z_int) zo_none)) (fun _ _ _ _ _ _ => (g_name (i := 0) (show List.Nodup (["x", "names"] : List Str) by decide +kernel) rfl (Or.inl rfl))) (fun _ _ _ _ _ _ => c_nil) (fun _ _ _ _ _ _ => (z_and (z_callB call_isiD (by rfl) T.n_isinstance PyProof.Rows.boot_isinstance (sa_Name (zv 0) (sa_Name (z_bltn (v := .ty "str") (by rfl) T.n_str PyProof.Rows.boot_str rfl) sa_nil))) (z_one (z_cmpR (op_inK K) (zv 0) (zv 1) rfl))))) sa_nil))))))) sb_nil)
      (sb_cons (s_if (w_or (y_cmpR (op_notInK K) (z_ix (ix_K K) (zv 0) z_int (fun _ _ => rfl)) (z_lst (sa_Constant z_str (sa_Constant z_str sa_nil))) rfl) (w_or (y_cmpR (op_neD hu0) (z_callB (call_lenK K) (by rfl) T.n_len PySem.boot_len (sa_Name (zv 0) sa_nil)) z_int (nomark _)) (w_or1 (y_not (y_val (z_callB call_isiD (by rfl) T.n_isinstance PyProof.Rows.boot_isinstance (sa_Subscript (z_ix (ix_K K) (zv 0) z_int (fun _ _ => rfl)) (sa_Name (z_bltn (v := .ty "tuple") (by rfl) T.n_tuple PyProof.Rows.boot_tuple rfl) sa_nil)))))))).pt (sb_one (s_ret z_bl)) sb_nil)
      (sb_cons (s_set (i := 3) sc_law_tis_head.nd rfl (Or.inl rfl) z_str)
      (sb_cons (s_for PassesOwn.never rfl (i_K K (z_ix (ix_K K) (zv 0) z_int (fun _ _ => rfl))) (g_name (i := 4) sc_law_tis_head.nd rfl (Or.inl rfl)) (sb_cons (s_if (w_or (y_not (y_val (z_callB call_isiD (by rfl) T.n_isinstance PyProof.Rows.boot_isinstance (sa_Name (zv 4) (sa_Name (z_bltn (v := .ty "tuple") (by rfl) T.n_tuple PyProof.Rows.boot_tuple rfl) sa_nil))))) (w_or (y_cmpR (op_neD hu0) (z_callB (call_lenK K) (by rfl) T.n_len PySem.boot_len (sa_Name (zv 4) sa_nil)) z_int (nomark _)) (w_or (y_not (y_val (z_fn F_law_tis_name (hr.mono (by decide)) (sa_Subscript (z_ix (ix_K K) (zv 4) z_int (fun _ _ => rfl)) sa_nil)))) (w_or1 (y_cmpR op_leS (z_ix (ix_K K) (zv 4) z_int (fun _ _ => rfl)) (zv 3) (nomark _)))))).pt (sb_one (s_ret z_bl)) sb_nil)
      (sb_cons (s_if (w_or (y_not (y_val (z_callB call_isiD (by rfl) T.n_isinstance PyProof.Rows.boot_isinstance (sa_Subscript (z_ix (ix_K K) (zv 4) z_int (fun _ _ => rfl)) (sa_Name (z_bltn (v := .ty "str") (by rfl) T.n_str PyProof.Rows.boot_str rfl) sa_nil))))) (w_or1 (y_cmpR (op_notInK K) (z_ix (ix_K K) (zv 4) z_int (fun _ _ => rfl)) (zv 1) rfl))).pt (sb_one (s_ret z_bl)) sb_nil)
      (sb_one (s_set (i := 3) sc_law_tis_head.nd rfl (Or.inl rfl) (z_ix (ix_K K) (zv 4) z_int (fun _ _ => rfl)))))))
      (sb_one (s_ret z_bl)))))))), ?_⟩
    obtain ⟨t, ht, h1, h2⟩ := hd.ty
    refine ⟨by decide, t, ht, _, rfl, ?_⟩
    rw [h1]
    have k0 := k H (Same.refl H)
    cases hd with
    | @tup a xs ds e hl hn hds =>
      refine iteF ?_
      refine Or.inl ⟨xs, .inr (SqT.of e), _, rfl, iteB (fun h3 => iteT ?_) (fun h3 => ?_)⟩
      · have : ds = [] := by have := of_decide_eq_true h3; exact List.length_eq_zero_iff.mp (by omega)
        rw [this] at k0
        exact k0
      have h3' : 1 ≤ xs.length := by have := of_decide_eq_false h3; omega
      obtain ⟨x0, xr, rfl⟩ : ∃ x0 xr, xs = x0 :: xr := lenS (by omega)
      obtain ⟨d0, dr, rfl⟩ : ∃ d0 dr, ds = d0 :: dr := lenS (by rw [← hl]; exact Nat.succ_ne_zero _)
      have hd0 := hds 0 (by simp) (by simp)
      simp only [List.getElem_cons_zero] at hd0
      have hdr : ∀ i (h : i < xr.length) (h' : i < dr.length), DD H xr[i] dr[i] := fun i a b => by
        have := hds (i + 1) (by simpa using a) (by simpa using b)
        simpa using this
      have hlr : xr.length = dr.length := by simpa using hl
      have hnr : xr.length < 1000 := by simp at hn; omega
      obtain ⟨t0, ht0, h10, h20⟩ := hd0.ty
      refine ⟨_, x0, .inr (SqT.of e), atI_zero _ _, by decide, t0, ht0, _, rfl, ?_⟩
      rw [h20]
      cases hd0 with
      | @str z hz =>
        refine iteF (tNext_seq ?_)
        have one : (z == "all" || z == "none") = true → ∀ D0 : Ends, D0.rt = Q → tRet (tOp (rEqD false) (tCB (rLenD K) (tCons (tV 0) tNil)) (tC (V.int 1))) D0 [some (.ref a), some (.ref L), none, none, none] H := by
          intro hz1 D0 hD0
          refine Or.inl ⟨_, .inr (SqT.of e), rfl, ?_⟩
          show D0.rt _ _
          rw [hD0]
          have e1 : (false ^^ decide (V.int ((V.str z :: xr).length : Int) = V.int 1)) = headT zs (.tup (.str z :: dr)) := by
            simp only [headT, hz1, if_true]
            cases dr with
            | nil => rw [List.length_cons, hlr]; rfl
            | cons y r =>
              have : ¬ (((V.str z :: xr).length : Int) = 1) := by rw [List.length_cons, hlr, List.length_cons]; omega
              rw [decide_eq_false (fun e => this (V.int.inj e))]; rfl
          rw [e1]
          exact k0
        refine ⟨_, .str z, .inr (SqT.of e), atI_zero _ _, rfl, _, rfl, ?_⟩
        rw [Bool.false_xor, decV_str]
        refine iteB (fun q1 => iteT (one (by rw [show (z == "all") = true from q1]; rfl) _ rfl)) (fun q1 => ?_)
        refine ⟨_, .str z, .inr (SqT.of e), atI_zero _ _, rfl, _, rfl, ?_⟩
        rw [Bool.false_xor, decV_str]
        refine iteB (fun q2 => one (by rw [show (z == "none") = true from q2, Bool.or_true]) _ rfl) (fun q2 => ?_)
        have hz1 : (z == "all" || z == "none") = false := by rw [show (z == "all") = false from q1, show (z == "none") = false from q2]; rfl
        refine tNext_seq ?_
        have two : (z == "way" || z == "as") = true → ∀ D0 : Ends, D0.rt = Q → tSeq (tAsg (tOp rAddD (tC (V.int 2)) (tCB rIntB (tCons (tOp (rEqD false) (tOp (rIxD K) (tV 0) (tC (V.int 0))) (tC (V.str "way"))) tNil))) (gName 2)) (tRet (tAndV (tOp (rEqD false) (tCB (rLenD K) (tCons (tV 0) tNil)) (tV 2)) (tCB (rAll K) (tCons (tLC ["x"] [1] (iD K (tSl (fun x lo hi H Q => rSlS x lo hi H Q ∨ rSlL K x lo hi H Q ∨ rSlT K x lo hi H Q) (tV 0) (tPart (tC (V.int 1))) tNoPart)) (gName 0) tcNil (tAndV (tCB rIsi (tCons (tV 0) (tCons (tC (V.ty "str")) tNil))) (tOp (rInD K false) (tV 0) (tV 1)))) tNil)))) D0 [some (.ref a), some (.ref L), none, none, none] H := by
          intro hz2 D0 hD0
          refine tSeq_set ⟨_, .str z, .inr (SqT.of e), atI_zero _ _, rfl, _, rfl, ?_⟩
          rw [Bool.false_xor, decV_str]
          have hval : headT zs (.tup (.str z :: dr)) = (decide (dr.length = (if z == "way" then 2 else 1)) && dr.all (inN zs)) := by
            simp only [headT, hz1, hz2, if_true, Bool.false_eq_true, if_false]
          refine Or.inl ⟨_, .inr (SqT.of e), rfl, _, rfl, ?_⟩
          have ee : (false ^^ decide (V.int ((V.str z :: xr).length : Int) = V.int (2 + if (z == "way") = true then 1 else 0))) = decide (dr.length = (if z == "way" then 2 else 1)) := by
            rw [Bool.false_xor, decV_int, List.length_cons, hlr]
            cases z == "way" <;> (simp only [Bool.false_eq_true, if_false, if_true]; rw [Bool.eq_iff_iff, decide_eq_true_iff, decide_eq_true_iff]; omega)
          rw [ee]
          refine iteB (fun q3 => ?_) (fun q3 => ?_)
          rotate_left
          · show D0.rt _ _
            rw [hD0]
            rw [hval, q3, Bool.false_and] at k0
            exact k0
          have hdl : 1 ≤ dr.length := by have := of_decide_eq_true q3; split at this <;> omega
          have cutne : ¬ (HT.sIx (V.str z :: xr).length 0 (some 1) = 0 ∧ HT.sIx (V.str z :: xr).length (V.str z :: xr).length none = (V.str z :: xr).length) := fun ⟨h1, _⟩ => by
            have : HT.sIx (V.str z :: xr).length 0 (some ((1 : Nat) : Int)) = 0 := h1
            rw [HT.sIx_nat] at this
            simp at this
          refine ⟨1, rfl, Or.inr (Or.inr ⟨a, _, rfl, SqT.of e, cutne, fun p1 hp1 => ?_⟩)⟩
          rw [show cutV (V.str z :: xr) (some 1) none = xr from cut_from (V.str z :: xr) 1]
          have s1 := Same.upd hp1 (.tup xr)
          have g1 : upd H p1 (.tup xr) p1 = some (.tup xr) := upd_same
          dsimp only
          generalize upd H p1 (.tup xr) = H1 at s1 g1
          refine Or.inr ⟨⟨xr, SqT.of g1⟩, fun D hD => ?_⟩
          refine lc_bools (itn_tup xr) (fun i => inN zs (dr.getD i .oth)) (by omega) hD (fun H2 s2 => SqT.of (s2 _ _ g1)) (fun i H2 k' hi s2 hk => ?_) (fun H2 s2 hl2 => ?_)
          · have h5 := (hdr i hi (by omega)).same (s1.trans s2)
            have e1 : xr.getD i .non = xr[i] := by simp [List.getD_eq_getElem?_getD, hi]
            have e2 : dr.getD i .oth = dr[i]'(by omega) := by rw [List.getD_eq_getElem?_getD, List.getElem?_eq_getElem (by omega)]; rfl
            rw [e2] at hk
            show tAndV _ _ [some (xr.getD i .non), some (.ref L)] H2 k'
            rw [e1]
            obtain ⟨t1, ht1, _, h21⟩ := h5.ty
            refine ⟨by decide, t1, ht1, _, rfl, ?_⟩
            rw [h21]
            generalize xr[i] = xx at h5 ht1
            generalize dr[i]'(by omega) = dd at h5 hk h21
            cases h5 with
            | @str y hy =>
              refine iteT ⟨_, .inl (SqL.of (s2 _ _ (s1 _ _ gL))), rfl, flat_strs zs, ?_⟩
              rw [Bool.false_xor, inV_strs]
              exact hk _ (Same.refl _)
            | _ => exact iteF (hk _ (Same.refl _))
          · refine ⟨_, SqL.of hl2, ?_⟩
            show D0.rt _ _
            rw [hD0, hlr, range_all_list dr .oth (inN zs)]
            have := k H2 (s1.trans s2)
            rw [hval, q3, Bool.true_and] at this
            exact this
        refine ⟨_, .str z, .inr (SqT.of e), atI_zero _ _, rfl, _, rfl, ?_⟩
        rw [Bool.false_xor, decV_str]
        refine iteB (fun q3 => iteT (two (by rw [show (z == "way") = true from q3]; rfl) _ rfl)) (fun q3 => ?_)
        refine ⟨_, .str z, .inr (SqT.of e), atI_zero _ _, rfl, _, rfl, ?_⟩
        rw [Bool.false_xor, decV_str]
        refine iteB (fun q4 => two (by rw [show (z == "as") = true from q4, Bool.or_true]) _ rfl) (fun q4 => ?_)
        have hz2 : (z == "way" || z == "as") = false := by rw [show (z == "way") = false from q3, show (z == "as") = false from q4]; rfl
        refine tNext_seq ?_
        have hval : headT zs (.tup (.str z :: dr)) = if worded z then prsT zs dr else false := by
          simp only [headT, hz1, hz2, Bool.false_eq_true, if_false]
        refine ⟨_, .str z, .inr (SqT.of e), atI_zero _ _, (show 2 ≤ sizeLine by decide), fun L2 hL2 => ⟨_, .inl (SqL.of upd_same), rfl, rfl, _, rfl, ?_⟩⟩
        have sL2 := Same.upd hL2 (.lst [.str "box", .str "pick"])
        generalize upd H L2 (.lst [.str "box", .str "pick"]) = H1 at sL2
        have ew : (true ^^ inV (.str z) [.str "box", .str "pick"]) = !worded z := by rw [worded_in]; simp
        rw [ew]
        cases hwz : worded z with
        | false =>
          refine iteT (iteT ?_)
          have := k H1 sL2
          rw [hval, hwz] at this
          exact this
        | true =>
          refine iteF ?_
          refine Or.inl ⟨_, .inr (SqT.of (sL2 _ _ e)), rfl, _, rfl, ?_⟩
          rw [hwz, if_pos rfl] at hval
          have k1 := k H1 sL2
          rw [hval] at k1
          refine iteB (fun q5 => iteT ?_) (fun q5 => ?_)
          · have hne : dr.length ≠ 1 := fun e1 => by
              rw [List.length_cons, hlr, e1] at q5
              exact absurd q5 (by decide)
            rw [prsT_ne hne] at k1
            exact k1
          have hd1 : dr.length = 1 := by
            have := q5
            rw [List.length_cons, hlr] at this
            simp only [Bool.true_xor, Bool.not_eq_false', decide_eq_true_eq] at this
            have := V.int.inj this
            omega
          obtain ⟨x1, rfl⟩ : ∃ x1, xr = [x1] := len1 (show xr.length = 1 by omega)
          obtain ⟨d1, rfl⟩ : ∃ d1, dr = [d1] := len1 hd1
          have h1d := (hdr 0 (by simp) (by simp)).same sL2
          simp only [List.getElem_cons_zero] at h1d
          obtain ⟨t1, ht1, h11, _⟩ := h1d.ty
          refine ⟨_, x1, .inr (SqT.of (sL2 _ _ e)), rfl, by decide, t1, ht1, _, rfl, ?_⟩
          rw [h11]
          cases h1d with
          | @tup b xs' ps e' hl' hn' hds' =>
            refine iteF (tNext_seq ?_)
            refine tSeq_setC ?_
            refine tSeq_by (fun σ' H' => Same H1 H' ∧ pairsL zs "" ps = true) ?_ ?_
            · intro nx hnx
              refine ⟨_, .ref b, .inr (SqT.of (sL2 _ _ e)), rfl, Or.inr ⟨⟨_, SqT.of e'⟩, for_by (itn_tup xs') (fun i σ' H' => ∃ (last : Str) (v4 : Option V), σ' = [some (.ref a), some (.ref L), none, some (.str last), v4] ∧ Same H1 H' ∧ pairsL zs "" ps = pairsL zs last (ps.drop i)) ⟨"", none, rfl, Same.refl _, rfl⟩ (by rintro i τ H' _ ⟨_, _, _, s, _⟩; exact SqT.of (s _ _ e')) ?_ ?_⟩⟩
              · rintro i σ' H2 hi ⟨last, v4, rfl, s2, hp⟩
                have hip : i < ps.length := by omega
                have hdi := (hds' i hi hip).same s2
                have ex : xs'.getD i .non = xs'[i] := by simp [List.getD_eq_getElem?_getD, hi]
                rw [ex]
                rw [List.drop_eq_getElem_cons hip] at hp
                generalize xs'[i] = xi at hdi
                generalize ps[i] = di at hdi hp
                have k2 := fun (H' : Hp) (s' : Same H2 H') => k H' ((sL2.trans s2).trans s')
                rw [hval] at k2
                have k3 : ∀ H', Same H2 H' → pairsL zs last (di :: ps.drop (i + 1)) = false → Q (.bl false) H' := fun H' s' e9 => by
                  have : Q (.bl (pairsL zs "" ps)) H' := k2 H' s'
                  rw [hp, e9] at this
                  exact this
                obtain ⟨ti, hti, hi1, _⟩ := hdi.ty
                refine ⟨by decide, ti, hti, _, rfl, ?_⟩
                rw [hi1]
                cases hdi with
                | @tup c ys es ec hlc hnc hdc =>
                  refine iteF ?_
                  refine Or.inl ⟨_, .inr (SqT.of ec), rfl, _, rfl, ?_⟩
                  refine iteB (fun q6 => iteT (k3 H2 (Same.refl _) ?_)) (fun q6 => ?_)
                  · match es, hlc with
                    | [], _ => rfl
                    | [_], _ => rfl
                    | [_, _], hlc =>
                      have h22 : ys.length = 2 := hlc
                      rw [h22] at q6
                      exact absurd q6 (by decide)
                    | _ :: _ :: _ :: _, _ => rfl
                  have hy2 : ys.length = 2 := by
                    simp only [Bool.true_xor, Bool.not_eq_false', decide_eq_true_eq] at q6
                    have := V.int.inj q6
                    omega
                  obtain ⟨y1, y2, rfl⟩ : ∃ y1 y2, ys = [y1, y2] := len2 hy2
                  obtain ⟨e1, e2, rfl⟩ : ∃ e1 e2, es = [e1, e2] := len2 hlc.symm
                  have hy1 := hdc 0 (by simp) (by simp)
                  have hy2' := hdc 1 (by simp) (by simp)
                  simp only [List.getElem_cons_zero, List.getElem_cons_succ] at hy1 hy2'
                  refine ⟨_, y1, .inr (SqT.of ec), atI_zero _ _, y1, e1, rfl, hy1, fun H3 s3 => ⟨_, rfl, ?_⟩⟩
                  refine iteNB (fun q7 => ?_) (fun q7 => ?_)
                  rotate_left
                  · refine iteT (k3 H3 s3 ?_)
                    simp only [pairsL, q7, Bool.false_and]
                  obtain ⟨y, rfl, rfl, hyn⟩ := nameD_str hy1 q7
                  refine ⟨_, .str y, .inr (SqT.of (s3 _ _ ec)), atI_zero _ _, y, last, rfl, rfl, _, rfl, ?_⟩
                  refine iteNB (fun q8 => ?_) (fun q8 => ?_)
                  rotate_left
                  · refine k3 H3 s3 ?_
                    simp only [pairsL, strD, q7, q8, Bool.true_and, Bool.false_and]
                  refine tNext_seq ?_
                  obtain ⟨t2, ht2, _, h22⟩ := (hy2'.same s3).ty
                  refine ⟨_, y2, .inr (SqT.of (s3 _ _ ec)), rfl, by decide, t2, ht2, _, rfl, ?_⟩
                  rw [h22]
                  generalize hq2 : y2 = z2 at hy2' ht2
                  cases hy2' with
                  | @str yy hyy =>
                    subst hq2
                    refine iteF ⟨_, .str yy, .inr (SqT.of (s3 _ _ ec)), rfl, _, .inl (SqL.of (s3 _ _ (s2 _ _ (sL2 _ _ gL)))), rfl, flat_strs zs, _, rfl, ?_⟩
                    rw [inV_strs]
                    cases q9 : decide (yy ∈ zs) with
                    | false =>
                      refine iteT (k3 H3 s3 ?_)
                      simp only [pairsL, strD, q7, q8, inN, q9, Bool.true_and, Bool.false_and]
                    | true =>
                      refine iteF (tNext_seq2 ⟨_, .str y, .inr (SqT.of (s3 _ _ ec)), atI_zero _ _, y, _, rfl, s2.trans s3, ?_⟩)
                      rw [hp]
                      simp only [pairsL, strD, q7, q8, inN, q9, Bool.true_and]
                  | _ =>
                    refine iteT (iteT (k3 H3 s3 ?_))
                    simp only [pairsL, strD, q7, q8, inN, Bool.true_and, Bool.false_and]
                | _ => exact iteT (k3 H2 (Same.refl _) rfl)
              · rintro σ' H2 ⟨last, v4, rfl, s2, hp⟩
                rw [hl', List.drop_length] at hp
                exact hnx _ _ ⟨s2, hp⟩
            · rintro σ' H2 ⟨s2, hp⟩
              have : Q (.bl (pairsL zs "" ps)) H2 := by
                have := k H2 (sL2.trans s2)
                rw [hval] at this
                exact this
              rw [hp] at this
              exact this
          | _ => exact iteT k1
      | _ => exact iteT k0
    | _ => exact iteT k0
def row0D : Dt → Bool | .tup [a, _] => nameD a | _ => false
theorem row0D_row (d : Dt) : rowD d = (row0D d && headD (sndD d)) := by
  match d with
  | .str _ => rfl
  | .oth => rfl
  | .tup [] => rfl
  | .tup [_] => rfl
  | .tup [a, b] => rfl
  | .tup (_ :: _ :: _ :: _) => rfl
structure Rows0 (H : Hp) (xs : List V) (ds : List Dt) (rs : List (Str × V)) (hs : List Dt) : Prop where
  l1 : rs.length = ds.length
  l2 : hs.length = ds.length
  ps : PairsAt H xs (rowsK rs)
  dd : ∀ i (h : i < ds.length) (h1 : i < rs.length) (h2 : i < hs.length), ds[i] = .tup [.str rs[i].1, hs[i]] ∧ DD H rs[i].2 hs[i] ∧ isName rs[i].1 = true
theorem row0_at {H : Hp} {v : V} {d : Dt} (h : DD H v d) (hp : row0D d = true) : ∃ b z x hd, v = .ref b ∧ H b = some (.tup [.str z, x]) ∧ d = .tup [.str z, hd] ∧ DD H x hd ∧ isName z = true := by
  cases h with
  | @tup b ys es e' hl' hn' hds' =>
    match es, hl', hp, hds' with
    | [d1, d2], hl', hp, hds' =>
      obtain ⟨y1, y2, rfl⟩ := len2 hl'
      obtain ⟨z1, q1, q2, q0⟩ := nameD_str (hds' 0 (by simp) (by simp)) hp
      have q3 := hds' 1 (by simp) (by simp)
      simp only [List.getElem_cons_zero, List.getElem_cons_succ] at q1 q2 q3
      subst q1 q2
      exact ⟨b, z1, y2, d2, rfl, e', rfl, q3, q0⟩
  | str _ => exact Bool.noConfusion hp
  | non => exact Bool.noConfusion hp
  | bl _ => exact Bool.noConfusion hp
  | int _ => exact Bool.noConfusion hp
  | lst _ => exact Bool.noConfusion hp
  | dct _ => exact Bool.noConfusion hp
theorem rows0_dt {H : Hp} : ∀ {xs : List V} {ds : List Dt}, xs.length = ds.length → (∀ i (h : i < xs.length) (h' : i < ds.length), DD H xs[i] ds[i]) → ds.all row0D = true → ∃ rs hs, Rows0 H xs ds rs hs
  | [], [], _, _, _ => ⟨[], [], rfl, rfl, pairs_nil, fun i h => absurd h (by simp)⟩
  | x :: xs, d :: ds, hl, h, ha => by
    rw [List.all_cons, Bool.and_eq_true] at ha
    obtain ⟨rs, hs, R⟩ := rows0_dt (xs := xs) (ds := ds) (by simpa using hl) (fun i a b => h (i + 1) (by simpa using a) (by simpa using b)) ha.2
    obtain ⟨b, z, v, hd, e1, e2, e3, e4, e6⟩ := row0_at (h 0 (by simp) (by simp)) ha.1
    simp only [List.getElem_cons_zero] at e1 e3
    refine ⟨(z, v) :: rs, hd :: hs, by simp [R.l1], by simp [R.l2], ?_, fun i a b c => ?_⟩
    · rw [e1]
      exact pairs_iff.mpr (.cons ⟨b, rfl, e2⟩ (pairs_iff.mp R.ps))
    · cases i with
      | zero => exact ⟨e3, e4, e6⟩
      | succ i => exact R.dd i (by simpa using a) (by simpa using b) (by simpa using c)
theorem tV_i {i : Nat} {σ : St} {H : Hp} {Q : VK} {v : V} (e : σ[i]? = some (some v)) (h : Q v H) : tV i σ H Q := by
  unfold tV
  rw [e]
  exact h
theorem ok_law_tis_telling (T : Txt K mg w) : FnK P w K mg base 3 "_law_tis_telling" ["thing"] (spT telD) := by
  have F_law_tis_name : FnK P w K mg base 1 "_law_tis_name" ["thing"] (spT nameD) := ok_law_tis_name T
  have F_law_tis_head : FnK P w K mg base 2 "_law_tis_head" ["head", "names"] spTisHead := ok_law_tis_head T
  refine T.t_law_tis_telling.okS sc_law_tis_telling (fun vs H Q E h => ?_) (fun f cdv A outer s H vs Q E hr h => ?_)
  · obtain ⟨x, d, rfl, _⟩ := h
    rfl
  · obtain ⟨x, d, rfl, hd, k⟩ := h
    have hu := hu_of hr
    have hu0 := Nat.lt_of_succ_lt (hu_of hr)
    have hsz : sizeLine = 16777216 := sizeLine_eq
    refine ⟨_, (sb_cons (s_if (w_or (y_not (y_val (z_callB call_isiD (by rfl) T.n_isinstance PyProof.Rows.boot_isinstance (sa_Name (zv 0) (sa_Name (z_bltn (v := .ty "tuple") (by rfl) T.n_tuple PyProof.Rows.boot_tuple rfl) sa_nil))))) (w_or (y_cmpR op_ltD (z_callB (call_lenK K) (by rfl) T.n_len PySem.boot_len (sa_Name (zv 0) sa_nil)) z_int (nomark _)) (w_or1 (y_cmpR op_gtD (z_callB (call_lenK K) (by rfl) T.n_len PySem.boot_len (sa_Name (zv 0) sa_nil)) z_int (nomark _))))).pt (sb_one (s_ret z_bl)) sb_nil)
      (sb_cons (s_if (y_not (y_val (z_callB (call_allK K rfl) (by rfl) T.n_all PyProof.Rows.boot_all (sa_ListComp (z_lc (own := ["row"]) (idx := []) (N' := ["row"]) (⟨rfl, by decide +kernel, by decide +kernel, (show ∀ y ∈ Scope.names _, y.2 = NameKind.free → ((defScope s_law_tis_telling).names.lookup y.1 = some NameKind.cell ∨ (defScope s_law_tis_telling).names.lookup y.1 = some NameKind.free) by decide +kernel), (show ∀ j ∈ ([] : List Nat), (Scope.names _).lookup ((["thing", "names", "heads", "name", "here", "turn"] : List Str).getD j "") = some NameKind.free ∧ j < (["thing", "names", "heads", "name", "here", "turn"] : List Str).length by decide +kernel), rfl⟩) rfl (i_K K (zv 0)) (fun _ _ _ _ _ _ => (g_name (i := 0) (show List.Nodup (["row"] : List Str) by decide +kernel) rfl (Or.inl rfl))) (fun _ _ _ _ _ _ => c_nil) (fun _ _ _ _ _ _ => (z_and (z_callB call_isiD (by rfl) T.n_isinstance PyProof.Rows.boot_isinstance (sa_Name (zv 0) (sa_Name (z_bltn (v := .ty "tuple") (by rfl) T.n_tuple PyProof.Rows.boot_tuple rfl) sa_nil))) (z_and (z_cmpR (op_eqD hu0) (z_callB (call_lenK K) (by rfl) T.n_len PySem.boot_len (sa_Name (zv 0) sa_nil)) z_int (nomark _)) (z_one (z_fn F_law_tis_name (hr.mono (by decide)) (sa_Subscript (z_ix (ix_K K) (zv 0) z_int (fun _ _ => rfl)) sa_nil))))))) sa_nil)))) (sb_one (s_ret z_bl)) sb_nil)
      (sb_cons (s_set (i := 1) sc_law_tis_telling.nd rfl (Or.inr rfl) (z_lc (own := ["row"]) (idx := []) (N' := ["row"]) (⟨rfl, by decide +kernel, by decide +kernel, (show ∀ y ∈ Scope.names _, y.2 = NameKind.free → ((defScope s_law_tis_telling).names.lookup y.1 = some NameKind.cell ∨ (defScope s_law_tis_telling).names.lookup y.1 = some NameKind.free) by decide +kernel), (show ∀ j ∈ ([] : List Nat), (Scope.names _).lookup ((["thing", "names", "heads", "name", "here", "turn"] : List Str).getD j "") = some NameKind.free ∧ j < (["thing", "names", "heads", "name", "here", "turn"] : List Str).length by decide +kernel), rfl⟩) rfl (i_K K (zv 0)) (fun _ _ _ _ _ _ => (g_name (i := 0) (show List.Nodup (["row"] : List Str) by decide +kernel) rfl (Or.inl rfl))) (fun _ _ _ _ _ _ => c_nil) (fun _ _ _ _ _ _ => (z_ix (ix_K K) (zv 0) z_int (fun _ _ => rfl)))))
      (sb_cons (s_if (w_or (y_cmpR (op_neD hu0) (z_lenset rfl (by rfl) T.n_len (by rfl) T.n_set (zv 1)) (z_callB (call_lenK K) (by rfl) T.n_len PySem.boot_len (sa_Name (zv 1) sa_nil)) (nomark _)) (w_or1 (y_not (y_val (z_callB (call_allK K rfl) (by rfl) T.n_all PyProof.Rows.boot_all (sa_ListComp (z_lc (own := ["row"]) (idx := [1]) (N' := ["row", "names"]) (⟨rfl, by decide +kernel, by decide +kernel, (show ∀ y ∈ Scope.names _, y.2 = NameKind.free → ((defScope s_law_tis_telling).names.lookup y.1 = some NameKind.cell ∨ (defScope s_law_tis_telling).names.lookup y.1 = some NameKind.free) by decide +kernel), (show ∀ j ∈ ([1] : List Nat), (Scope.names _).lookup ((["thing", "names", "heads", "name", "here", "turn"] : List Str).getD j "") = some NameKind.free ∧ j < (["thing", "names", "heads", "name", "here", "turn"] : List Str).length by decide +kernel), rfl⟩) rfl (i_K K (zv 0)) (fun _ _ _ _ _ _ => (g_name (i := 0) (show List.Nodup (["row", "names"] : List Str) by decide +kernel) rfl (Or.inl rfl))) (fun _ _ _ _ _ _ => c_nil) (fun _ _ _ _ _ _ => (z_fn F_law_tis_head (hr.mono (by decide)) (sa_Subscript (z_ix (ix_K K) (zv 0) z_int (fun _ _ => rfl)) (sa_Name (zv 1) sa_nil))))) sa_nil)))))).pt (sb_one (s_ret z_bl)) sb_nil)
      (sb_cons (s_set (i := 2) sc_law_tis_telling.nd rfl (Or.inl rfl) (z_callTy (call_dict_of rfl) (by rfl) T.n_dict PyProof.Rows.boot_dict (sa_Name (zv 0) sa_nil)))
      (sb_cons (s_for PassesOwn.never rfl (i_K K (zv 1)) (g_name (i := 3) sc_law_tis_telling.nd rfl (Or.inl rfl)) (sb_cons (s_set (i := 4) sc_law_tis_telling.nd rfl (Or.inl rfl) (zv 3))
      (sb_cons (s_for PassesOwn.never rfl (i_range1 (by rfl) T.n_range (sa_Call (z_callB (call_lenK K) (by rfl) T.n_len PySem.boot_len (sa_Name (zv 1) sa_nil)) sa_nil)) (g_name (i := 5) sc_law_tis_telling.nd rfl (Or.inl rfl)) (sb_one (s_if (y_cmpR (op_eqD hu0) (z_ix (ix_K K) (z_dget hu (zv 2) (zv 4) (fun _ _ => rfl)) z_int (fun _ _ => rfl)) z_str (nomark _)) (sb_one (s_set (i := 4) sc_law_tis_telling.nd rfl (Or.inl rfl) (z_ix (ix_K K) (z_dget hu (zv 2) (zv 4) (fun _ _ => rfl)) z_int (fun _ _ => rfl)))) sb_nil)))
      (sb_one (s_if (y_cmpR (op_eqD hu0) (z_ix (ix_K K) (z_dget hu (zv 2) (zv 4) (fun _ _ => rfl)) z_int (fun _ _ => rfl)) z_str (nomark _)) (sb_one (s_ret z_bl)) sb_nil)))))
      (sb_one (s_ret z_bl)))))))), ?_⟩
    obtain ⟨t, ht, h1, h2⟩ := hd.ty
    refine ⟨by decide, t, ht, _, rfl, ?_⟩
    rw [h1]
    have k0 := k H (Same.refl H)
    cases hd with
    | @tup a xs ds e hl hn hds =>
      refine iteF ?_
      refine Or.inl ⟨xs, .inr (SqT.of e), _, rfl, iteB (fun h3 => iteT ?_) (fun h3 => ?_)⟩
      · have : ¬ 1 ≤ ds.length := by have := of_decide_eq_true h3; omega
        have e1 : telD (.tup ds) = false := by simp [telD, this]
        rw [e1] at k0
        exact k0
      have h3' : 1 ≤ ds.length := by have := of_decide_eq_false h3; omega
      refine Or.inl ⟨xs, .inr (SqT.of e), _, rfl, iteB (fun h4 => ?_) (fun h4 => ?_)⟩
      · have : ¬ ds.length ≤ 200 := by have := of_decide_eq_true h4; omega
        have e1 : telD (.tup ds) = false := by simp [telD, this]
        rw [e1] at k0
        exact k0
      have h4' : ds.length ≤ 200 := by have := of_decide_eq_false h4; omega
      refine tNext_seq ?_
      refine Or.inr ⟨⟨xs, SqT.of e⟩, fun D hD => ?_⟩
      refine lc_bools (itn_tup xs) (fun i => row0D (ds.getD i .oth)) (by omega) hD (fun H2 s2 => SqT.of (s2 _ _ e)) (fun i H2 k' hi s2 hk => ?_) (fun H2 s2 hl2 => ?_)
      · have h5 := (hds i hi (by omega)).same s2
        have e1 : xs.getD i .non = xs[i] := by simp [List.getD_eq_getElem?_getD, hi]
        have e2 : ds.getD i .oth = ds[i]'(by omega) := by rw [List.getD_eq_getElem?_getD, List.getElem?_eq_getElem (by omega)]; rfl
        rw [e2] at hk
        show tAndV _ _ [some (xs.getD i .non)] H2 k'
        rw [e1]
        generalize xs[i] = xx at h5
        generalize ds[i]'(by omega) = dd at h5 hk
        obtain ⟨t1, ht1, h11, _⟩ := h5.ty
        refine ⟨by decide, t1, ht1, _, rfl, ?_⟩
        rw [h11]
        cases h5 with
        | @tup b ys es eb hlb hnb hdb =>
          refine iteT (Or.inl ⟨_, .inr (SqT.of eb), rfl, _, rfl, ?_⟩)
          refine iteB (fun q5 => ?_) (fun q5 => ?_)
          · have hy2 : ys.length = 2 := by
              rw [Bool.false_xor, decV_int] at q5
              have := of_decide_eq_true q5
              omega
            obtain ⟨y1, y2, rfl⟩ : ∃ y1 y2, ys = [y1, y2] := len2 hy2
            obtain ⟨e1, e2, rfl⟩ : ∃ e1 e2, es = [e1, e2] := len2 hlb.symm
            exact ⟨_, y1, .inr (SqT.of eb), atI_zero _ _, y1, e1, rfl, hdb 0 (by simp) (by simp), fun H3 s3 => hk H3 s3⟩
          · have hne : ys.length ≠ 2 := by
              rw [Bool.false_xor, decV_int] at q5
              have := of_decide_eq_false q5
              omega
            have e1 : row0D (.tup es) = false := by
              match es, hlb with
              | [], _ => rfl
              | [_], _ => rfl
              | [_, _], hlb => exact absurd hlb hne
              | _ :: _ :: _ :: _, _ => rfl
            rw [e1] at hk
            exact hk _ (Same.refl _)
        | _ => exact iteF (hk _ (Same.refl _))
      refine ⟨_, SqL.of hl2, _, rfl, ?_⟩
      rw [hl, range_all_list ds .oth row0D]
      have erow : ds.all rowD = (ds.all row0D && ds.all fun d => headD (sndD d)) := by
        clear hl hn hds h3 h3' h4 h4' k k0 hl2 h1 h2
        induction ds with
        | nil => rfl
        | cons d ds ih =>
          rw [List.all_cons, List.all_cons, List.all_cons, ih, row0D_row]
          cases row0D d <;> cases headD (sndD d) <;> cases ds.all row0D <;> rfl
      refine iteNB (fun h5 => ?_) (fun h5 => ?_)
      rotate_left
      · have := k H2 s2
        have e1 : telD (.tup ds) = false := by simp [telD, erow, h5]
        rw [e1] at this
        exact this
      obtain ⟨rs, hs, R⟩ := rows0_dt hl hds h5
      have hrl : rs.length = ds.length := R.l1
      have hhl : hs.length = ds.length := R.l2
      have hxr : xs.length = rs.length := by omega
      refine tNext_seq ?_
      refine tSeq_set (Or.inr ⟨⟨xs, SqT.of (s2 _ _ e)⟩, fun N hN => ?_⟩)
      have rowx : ∀ i (hi : i < xs.length), ∃ b, xs.getD i .non = .ref b ∧ H b = some (.tup [.str (rs[i]'(by omega)).1, (rs[i]'(by omega)).2]) := fun i hi => by
        obtain ⟨b, q1, q2⟩ := R.ps.2 i (by simp; omega)
        refine ⟨b, by rw [List.getD_eq_getElem?_getD, q1]; rfl, ?_⟩
        simpa [rowsK, kV] using q2
      refine lc_by (itn_tup xs) (fun i τ H3 => ∃ v0 : Option V, τ = [v0] ∧ H3 N = some (.lst (((rs.take i).map (·.1)).map V.str)) ∧ Same H2 H3) ⟨none, rfl, upd_same, Same.upd hN _⟩ (by rintro i τ H3 _ ⟨_, _, _, s3⟩; exact SqT.of (s3 _ _ (s2 _ _ e))) ?_ ?_
      · rintro i τ H3 hi ⟨v0, rfl, q1, q2⟩
        have hir : i < rs.length := by omega
        obtain ⟨b, eb, hb⟩ := rowx i hi
        rw [eb]
        refine ⟨_, .str rs[i].1, .inr (SqT.of (q2 _ _ (s2 _ _ hb))), atI_zero _ _, _, q1, by simp only [List.length_map, List.length_take]; omega, _, rfl, ?_, q2.put hN⟩
        rw [upd_same, List.take_add_one, List.getElem?_eq_getElem hir, List.map_append, List.map_append]; rfl
      rintro τ H3 ⟨v0, rfl, gN, s3⟩
      rw [hxr, List.take_length] at gN
      have s03 := s2.trans s3
      have hnm : ∀ z ∈ rs.map (·.1), isName z = true := fun z hz => by
        obtain ⟨r, hr, rfl⟩ := List.mem_map.mp hz
        obtain ⟨i, hi, rfl⟩ := List.getElem_of_mem hr
        exact (R.dd i (by omega) hi (by omega)).2.2
      have enames : (rowsD ds).map (·.1) = rs.map (·.1) := by
        refine List.ext_getElem (by unfold rowsD; simp; omega) fun i a1 a2 => ?_
        have hi : i < ds.length := by unfold rowsD at a1; simpa using a1
        have := (R.dd i hi (by omega) (by omega)).1
        simp only [rowsD, List.getElem_map, this]
        rfl
      refine ⟨N, rs.map (·.1), rfl, gN, by simp; omega, Or.inl ⟨_, .inl (SqL.of gN), rfl, _, rfl, ?_⟩⟩
      have ecnt : (true ^^ decide (V.int ((cntN (fun i => (rs.map (·.1)).getD i ("" : Str)) (rs.map (·.1)).length : Nat) : Int) = V.int (((rs.map (·.1)).map V.str).length : Int))) = !decide ((rs.map (·.1)).Nodup) := by
        have h9 := cntN_nodup (fun i => (rs.map (·.1)).getD i ("" : Str)) (rs.map (·.1)).length
        have e9 : (List.range (rs.map (·.1)).length).map (fun i => (rs.map (·.1)).getD i ("" : Str)) = rs.map (·.1) := by
          refine List.ext_getElem (by simp) fun i a1 a2 => ?_
          simp only [List.getElem_map, List.getElem_range]
          rw [List.getD_eq_getElem?_getD, List.getElem?_eq_getElem (by simpa using a2)]
          simp
        rw [e9] at h9
        rw [decV_int, Bool.true_xor]
        congr 1
        rw [Bool.eq_iff_iff, decide_eq_true_iff, decide_eq_true_iff, ← h9]
        simp only [List.length_map]
        omega
      rw [ecnt]
      by_cases nd : (rs.map (·.1)).Nodup
      rotate_left
      · rw [decide_eq_false nd]
        refine iteT (iteT ?_)
        have := k H3 s03
        have e1 : telD (.tup ds) = false := by
          simp only [telD]
          rw [enames, decide_eq_false nd]
          simp
        rw [e1] at this
        exact this
      rw [decide_eq_true nd]
      refine iteF ?_
      refine Or.inr ⟨⟨xs, SqT.of (s03 _ _ e)⟩, fun D2 hD2 => ?_⟩
      refine lc_bools (itn_tup xs) (fun i => headT (rs.map (·.1)) (hs.getD i .oth)) (by omega) hD2 (fun H4 s4 => SqT.of (s4 _ _ (s03 _ _ e))) (fun i H4 k' hi s4 hk => ?_) (fun H4 s4 hl4 => ?_)
      · have hir : i < rs.length := by omega
        have hih : i < hs.length := by omega
        obtain ⟨b, eb, hb⟩ := rowx i hi
        have e2 : hs.getD i .oth = hs[i] := by rw [List.getD_eq_getElem?_getD, List.getElem?_eq_getElem hih]; rfl
        rw [e2] at hk
        show tCall spTisHead [] E0 _ [some (xs.getD i .non), some (.ref N)] H4 k'
        rw [eb]
        have s04 := s03.trans s4
        exact ⟨_, rs[i].2, .inr (SqT.of (s04 _ _ hb)), rfl, rs[i].2, hs[i], N, rs.map (·.1), rfl, (R.dd i (by omega) hir hih).2.1.same s04, s4 _ _ gN, by simp; omega, hk⟩
      refine ⟨_, SqL.of hl4, _, rfl, ?_⟩
      have s04 := s03.trans s4
      have eall : ((List.range xs.length).map fun i => headT (rs.map (·.1)) (hs.getD i .oth)).all id = hs.all (headT (rs.map (·.1))) := by
        rw [show xs.length = hs.length by omega]
        exact range_all_list hs .oth (headT (rs.map (·.1)))
      rw [eall]
      have ehd : (ds.all fun d => headD (sndD d)) = hs.all headD := by
        rw [Bool.eq_iff_iff, List.all_eq_true, List.all_eq_true]
        constructor
        · intro h d hd
          obtain ⟨i, hi, rfl⟩ := List.getElem_of_mem hd
          have := h _ (List.getElem_mem (show i < ds.length by omega))
          rw [(R.dd i (by omega) (by omega) hi).1] at this
          exact this
        · intro h d hd
          obtain ⟨i, hi, rfl⟩ := List.getElem_of_mem hd
          rw [(R.dd i hi (by omega) (by omega)).1]
          exact h _ (List.getElem_mem (show i < hs.length by omega))
      have enm : ((rowsD ds).all fun r => (namesD r.2).all fun n => decide (n ∈ (rowsD ds).map (·.1))) = hs.all fun d => (namesD d).all fun n => decide (n ∈ rs.map (·.1)) := by
        rw [enames]
        unfold rowsD
        rw [List.all_map]
        rw [Bool.eq_iff_iff, List.all_eq_true, List.all_eq_true]
        constructor
        · intro h d hd
          obtain ⟨i, hi, rfl⟩ := List.getElem_of_mem hd
          have := h _ (List.getElem_mem (show i < ds.length by omega))
          rw [(R.dd i (by omega) (by omega) hi).1] at this
          exact this
        · intro h d hd
          obtain ⟨i, hi, rfl⟩ := List.getElem_of_mem hd
          rw [(R.dd i hi (by omega) (by omega)).1]
          exact h _ (List.getElem_mem (show i < hs.length by omega))
      have eht : hs.all (headT (rs.map (·.1))) = (hs.all headD && hs.all fun d => (namesD d).all fun n => decide (n ∈ rs.map (·.1))) := by
        have : ∀ l : List Dt, l.all (headT (rs.map (·.1))) = (l.all headD && l.all fun d => (namesD d).all fun n => decide (n ∈ rs.map (·.1))) := by
          intro l
          induction l with
          | nil => rfl
          | cons d l ih =>
            rw [List.all_cons, List.all_cons, List.all_cons, ih, headT_eq hnm]
            cases headD d <;> cases ((namesD d).all fun n => decide (n ∈ rs.map (·.1))) <;> cases l.all headD <;> rfl
        exact this hs
      have etel : telD (.tup ds) = (hs.all (headT (rs.map (·.1))) && (rs.map (·.1)).all fun n => leadsOut (nxD (rowsD ds)) ds.length n) := by
        simp only [telD]
        rw [erow, h5, ehd, enm, enames, decide_eq_true h3', decide_eq_true h4', decide_eq_true nd, eht]
        simp only [Bool.true_and, Bool.and_true]
      refine iteNB (fun h6 => ?_) (fun h6 => ?_)
      rotate_left
      · have := k H4 s04
        rw [etel, h6, Bool.false_and] at this
        exact this
      rw [h6, Bool.true_and] at etel
      rw [h6] at eht
      have hhd : hs.all headD = true := by
        cases q : hs.all headD with
        | true => rfl
        | false => rw [q] at eht; cases eht
      have hhn : (hs.all fun d => (namesD d).all fun n => decide (n ∈ rs.map (·.1))) = true := by
        rw [hhd, Bool.true_and] at eht; exact eht.symm
      have R1 : RowsDt H xs ds rs hs := ⟨R.l1, R.l2, R.ps, fun i a b c => ⟨(R.dd i a b c).1, (R.dd i a b c).2.1, List.all_eq_true.mp hhd _ (List.getElem_mem c), (R.dd i a b c).2.2⟩⟩
      have h7 : ((rowsD ds).all fun r => (namesD r.2).all fun n => decide (n ∈ (rowsD ds).map (·.1))) = true := by rw [enm]; exact hhn
      refine tNext_seq ?_
      have R4 := R1.same s04
      refine tSeq_set ⟨a, xs, rowsK rs, rfl, s04 _ _ e, R4.ps, by simp; omega, fun h hh => ?_⟩
      rw [dictOf_nodup _ (rowsK_nd nd)]
      have s5 := s04.trans (Same.upd hh (.dK (rowsK rs)))
      have gh : upd H4 h (.dK (rowsK rs)) h = some (.dK (rowsK rs)) := upd_same
      have gN5 := (Same.upd hh (.dK (rowsK rs))) _ _ (s4 _ _ gN)
      generalize upd H4 h (.dK (rowsK rs)) = H5 at s5 gh gN5
      have R5 := R1.same s5
      have hinn := R5.inn nd h7
      have hclo : ∀ x ∈ rs.map (·.1), ∀ y, nxD (rowsD ds) x = some y → y ∈ rs.map (·.1) := fun x hx y hy => by
        have := hinn x y (by rw [valV_rowsK_some nd]; exact decide_eq_true hx) hy
        rw [valV_rowsK_some nd] at this
        exact of_decide_eq_true this
      have hlen : (rs.map (·.1)).length = ds.length := by simp; omega
      have hend : ∀ x ∈ rs.map (·.1), leadsOut (nxD (rowsD ds)) ds.length x = decide (nxD (rowsD ds) (stps (nxD (rowsD ds)) ds.length x) = none) := fun x hx => by
        rw [← hlen]; exact leads_end hclo hx
      generalize hnx0 : nxD (rowsD ds) = nx0 at hinn hclo hend etel
      have hasV : ∀ (H' : Hp), Same H5 H' → ∀ n v, valV (rowsK rs) (.inr n) = some v → AsV H' v (nx0 n) := fun H' s' n v hv => by
        have := (R5.same s').has nd n v hv
        rw [hnx0] at this
        exact this
      have inS : ∀ x ∈ rs.map (·.1), ∀ t, stps nx0 t x ∈ rs.map (·.1) := fun x hx t => by
        induction t with
        | zero => exact hx
        | succ t ih =>
          rw [stps_succ]
          unfold stp
          cases e9 : nx0 (stps nx0 t x) with
          | none => exact ih
          | some y => exact hclo _ ih y e9
      have look : ∀ (H' : Hp), Same H5 H' → ∀ x ∈ rs.map (·.1), ∃ v, DGet H' h (.str x) (some v) ∧ AsV H' v (nx0 x) := fun H' s' x hx => by
        have := (valV_rowsK_some nd x)
        rw [decide_eq_true hx] at this
        obtain ⟨v, hv⟩ := Option.isSome_iff_exists.mp this
        exact ⟨v, dget_at (s' _ _ gh) hv, hasV H' s' x v hv⟩
      refine tSeq_by (fun σ' H' => Same H5 H' ∧ ∀ x ∈ rs.map (·.1), nx0 (stps nx0 ds.length x) = none) ?_ ?_
      · intro nx hnx
        refine Or.inl ⟨⟨_, SqL.of gN5⟩, for_by (itn_list ((rs.map (·.1)).map V.str)) (fun i σ' H' => ∃ v3 v4 v5 : Option V, σ' = [some (.ref a), some (.ref N), some (.ref h), v3, v4, v5] ∧ Same H5 H' ∧ ∀ x ∈ (rs.map (·.1)).take i, nx0 (stps nx0 ds.length x) = none) ⟨none, none, none, rfl, Same.refl _, (fun _ h => nomatch h)⟩ (by rintro i τ H' _ ⟨_, _, _, _, s', _⟩; exact SqL.of (s' _ _ gN5)) ?_ ?_⟩
        · rintro i σ' H6 hi ⟨v3, v4, v5, rfl, s6, hdone⟩
          rw [List.length_map] at hi
          have hmx : (rs.map (·.1))[i] ∈ rs.map (·.1) := List.getElem_mem hi
          have ei : ((rs.map (·.1)).map V.str).getD i .non = .str (rs.map (·.1))[i] := by
            rw [List.getD_eq_getElem?_getD, List.getElem?_eq_getElem (by simpa using hi)]; simp
          rw [ei]
          have et : (rs.map (·.1)).take (i + 1) = (rs.map (·.1)).take i ++ [(rs.map (·.1))[i]] := by
            rw [List.take_add_one, List.getElem?_eq_getElem hi]; rfl
          rw [et]
          generalize (rs.map (·.1))[i] = x at hmx
          refine tSeq_set (tV_i (v := .str x) rfl ?_)
          dsimp only
          refine tSeq_by (fun σ' H' => ∃ v5 : Option V, σ' = [some (.ref a), some (.ref N), some (.ref h), some (.str x), some (.str (stps nx0 ds.length x)), v5] ∧ Same H5 H') ?_ ?_
          · intro nx2 hnx2
            have hl9 : (((rs.map (·.1)).map V.str).length : Int) = (ds.length : Int) := by rw [List.length_map, hlen]
            refine Or.inl ⟨_, .inl (SqL.of (s6 _ _ gN5)), ?_⟩
            rw [hl9]
            refine ⟨(ds.length : Int), rfl, by omega, by omega, ?_⟩
            rw [Int.toNat_natCast]
            refine for_by (itn_range 0 ds.length) (fun t σ' H' => ∃ v5 : Option V, σ' = [some (.ref a), some (.ref N), some (.ref h), some (.str x), some (.str (stps nx0 t x)), v5] ∧ Same H5 H') ⟨v5, rfl, s6⟩ (fun _ _ _ _ _ => True.intro) ?_ (by rintro σ' H' ⟨v5, e9, s9⟩; exact hnx2 _ _ ⟨v5, e9, s9⟩)
            rintro t σ' H7 ht7 ⟨v5', rfl, s7⟩
            obtain ⟨v, hdg, b, rfl, hb⟩ := look H7 s7 _ (inS x hmx t)
            rcases hb with ⟨z, ys, g1, g2, g3⟩ | ⟨y, g1, g3⟩
            · refine ⟨h, _, rfl, hdg, _, .str z, .inr (SqT.of g1), atI_zero _ _, rfl, _, rfl, ?_⟩
              rw [Bool.false_xor, decide_eq_false (fun e9 => g2 (V.str.inj e9))]
              refine iteF ⟨some (V.int (0 + (t : Int))), ?_, s7⟩
              have : stps nx0 (t + 1) x = stps nx0 t x := by rw [stps_succ]; unfold stp; rw [g3]; rfl
              rw [this]; rfl
            · refine ⟨h, _, rfl, hdg, _, .str "as", .inr (SqT.of g1), atI_zero _ _, rfl, _, rfl, ?_⟩
              refine iteT ⟨h, _, rfl, hdg, _, .str y, .inr (SqT.of g1), rfl, some (V.int (0 + (t : Int))), ?_, s7⟩
              have : stps nx0 (t + 1) x = y := by rw [stps_succ]; unfold stp; rw [g3]; rfl
              rw [this]; rfl
          · rintro σ' H7 ⟨v5', rfl, s7⟩
            obtain ⟨v, hdg, b, rfl, hb⟩ := look H7 s7 _ (inS x hmx ds.length)
            rcases hb with ⟨z, ys, g1, g2, g3⟩ | ⟨y, g1, g3⟩
            · refine ⟨h, _, rfl, hdg, _, .str z, .inr (SqT.of g1), atI_zero _ _, rfl, _, rfl, ?_⟩
              rw [Bool.false_xor, decide_eq_false (fun e9 => g2 (V.str.inj e9))]
              refine iteF ⟨_, _, _, rfl, s7, fun x' hx' => ?_⟩
              rcases List.mem_append.mp hx' with hx' | hx'
              · exact hdone x' hx'
              · rw [List.mem_singleton.mp hx']; exact g3
            · refine ⟨h, _, rfl, hdg, _, .str "as", .inr (SqT.of g1), atI_zero _ _, rfl, _, rfl, ?_⟩
              refine iteT ?_
              have := k H7 (s5.trans s7)
              have e1 : ((rs.map (·.1)).all fun n => leadsOut nx0 ds.length n) = false := by
                rw [Bool.eq_false_iff]
                intro hall
                have := List.all_eq_true.mp hall x hmx
                rw [hend x hmx, g3] at this
                exact absurd this (by simp)
              rw [etel, e1] at this
              exact this
        · rintro σ' H6 ⟨v3, v4, v5, rfl, s6, hdone⟩
          rw [List.length_map, List.take_length] at hdone
          exact hnx _ _ ⟨s6, hdone⟩
      · rintro σ' H6 ⟨s6, hall⟩
        have := k H6 (s5.trans s6)
        have e1 : ((rs.map (·.1)).all fun n => leadsOut nx0 ds.length n) = true := by
          rw [List.all_eq_true]
          intro x hx
          rw [hend x hx, hall x hx]
          rfl
        rw [etel, e1] at this
        exact this
    | _ => exact iteT k0
theorem gd_ixw {P : Addr → Prop} {m : Bool} {σ : St} {H0 : Hp} {i j k : Nat} {W : Addr} {ws : List V} {z : Str} (e : σ[i]? = some (some (.ref W))) (g : H0 W = some (.lst ws)) (h : atI ws (j : Int) = some (.str z)) (hz : Wd z) : Gd P m σ H0 (tOp (rIxD K) (tV i) (tC (.int (j : Int)))) k := fun H Q s q =>
  tV_i (Q := fun x H1 => tC (.int (j : Int)) σ H1 fun y H2 => rIxD K x y H2 Q) e ⟨ws, .str z, .inl (SqL.of (s _ _ g)), h, q _ H (Same.refl H) ((DB.str hz).up)⟩
theorem gd_ix0 {P : Addr → Prop} {m : Bool} {σ : St} {H0 : Hp} {i k : Nat} {W : Addr} {ws : List V} {z : Str} (e : σ[i]? = some (some (.ref W))) (g : H0 W = some (.lst (.str z :: ws))) (hz : Wd z) : Gd P m σ H0 (tOp (rIxD K) (tV i) (tC (.int 0))) k := gd_ixw (j := 0) e g (atI_zero _ _) hz
theorem gd_ix1 {P : Addr → Prop} {m : Bool} {σ : St} {H0 : Hp} {i k : Nat} {W : Addr} {ws : List V} {y : V} {z : Str} (e : σ[i]? = some (some (.ref W))) (g : H0 W = some (.lst (y :: .str z :: ws))) (hz : Wd z) : Gd P m σ H0 (tOp (rIxD K) (tV i) (tC (.int 1))) k := gd_ixw (j := 1) e g (atI_nat (j := 1) rfl) hz
theorem ok_is_holed (T : Txt K mg w) : FnK P w K mg base 7 "is_holed" ["thing"] (spT holD) := by
  have F_is_telling : FnK P w K mg base 6 "is_telling" ["thing"] (spT telD) := ok_is_telling T
  refine T.t_is_holed.okS sc_is_holed (fun vs H Q E h => ?_) (fun f cdv A outer s H vs Q E hr h => ?_)
  · obtain ⟨x, d, rfl, _⟩ := h
    rfl
  · obtain ⟨x, d, rfl, hd, k⟩ := h
    have hu := hu_of hr
    have hu0 := Nat.lt_of_succ_lt (hu_of hr)
    have hu20 := hu20_of hr
    have hsz : sizeLine = 16777216 := sizeLine_eq
    refine ⟨_, (sb_cons (s_if (w_or (y_not (y_val (z_callB call_isiD (by rfl) T.n_isinstance PyProof.Rows.boot_isinstance (sa_Name (zv 0) (sa_Name (z_bltn (v := .ty "tuple") (by rfl) T.n_tuple PyProof.Rows.boot_tuple rfl) sa_nil))))) (w_or1 (y_not (y_val (z_callB (call_allK K rfl) (by rfl) T.n_all PyProof.Rows.boot_all (sa_ListComp (z_lc (own := ["row"]) (idx := []) (N' := ["row"]) (⟨rfl, by decide +kernel, by decide +kernel, (show ∀ y ∈ Scope.names _, y.2 = NameKind.free → ((defScope s_is_holed).names.lookup y.1 = some NameKind.cell ∨ (defScope s_is_holed).names.lookup y.1 = some NameKind.free) by decide +kernel), (show ∀ j ∈ ([] : List Nat), (Scope.names _).lookup ((["thing", "heads", "T"] : List Str).getD j "") = some NameKind.free ∧ j < (["thing", "heads", "T"] : List Str).length by decide +kernel), rfl⟩) rfl (i_K K (zv 0)) (fun _ _ _ _ _ _ => (g_name (i := 0) (show List.Nodup (["row"] : List Str) by decide +kernel) rfl (Or.inl rfl))) (fun _ _ _ _ _ _ => c_nil) (fun _ _ _ _ _ _ => (z_and (z_callB call_isiD (by rfl) T.n_isinstance PyProof.Rows.boot_isinstance (sa_Name (zv 0) (sa_Name (z_bltn (v := .ty "tuple") (by rfl) T.n_tuple PyProof.Rows.boot_tuple rfl) sa_nil))) (z_one (z_cmpR (op_eqD hu0) (z_callB (call_lenK K) (by rfl) T.n_len PySem.boot_len (sa_Name (zv 0) sa_nil)) z_int (nomark _)))))) sa_nil)))))).pt (sb_one (s_ret z_bl)) sb_nil)
      (sb_cons (s_lc (i := 1) (own := ["name", "head"]) (idx := []) (N' := ["name", "head"]) (⟨rfl, by decide +kernel, by decide +kernel, (show ∀ y ∈ Scope.names _, y.2 = NameKind.free → ((defScope s_is_holed).names.lookup y.1 = some NameKind.cell ∨ (defScope s_is_holed).names.lookup y.1 = some NameKind.free) by decide +kernel), (show ∀ j ∈ ([] : List Nat), (Scope.names _).lookup ((["thing", "heads", "T"] : List Str).getD j "") = some NameKind.free ∧ j < (["thing", "heads", "T"] : List Str).length by decide +kernel), rfl⟩) rfl (i_K K (zv 0)) (fun _ _ _ _ _ _ => (g_tup K (n := 2) rfl (gs_cons (g_name (i := 0) (show List.Nodup (["name", "head"] : List Str) by decide +kernel) rfl (Or.inl rfl)) (gs_cons (g_name (i := 1) (show List.Nodup (["name", "head"] : List Str) by decide +kernel) rfl (Or.inl rfl)) gs_nil)))) (fun _ _ _ _ _ _ => c_nil) (fun _ _ _ _ _ _ => (zv 1)) sc_is_holed.nd rfl rfl)
      (sb_cons (s_if (w_or (y_cmpR op_gtD (z_callB (call_lenK K) (by rfl) T.n_len PySem.boot_len (sa_Name (zv 1) sa_nil)) (z_gl T.c_MOST_ROWS_sayings) (nomark _)) (w_or1 (y_cmpR op_gtD (z_bm K PySem.F.plainAttrs_list PySem.F.slot_list_count PySem.F.type_list_count (mt_countH K hu20) (zv 1) (sa_Name (z_glK K T.c_HOLE) sa_nil)) (z_gl T.c_MOST_HOLES) (nomark _)))).pt (sb_one (s_ret z_bl)) sb_nil)
      (sb_cons (s_set (i := 2) sc_is_holed.nd rfl (Or.inl rfl) (z_callTy (call_tupK K) (by rfl) T.n_tuple PyProof.Rows.boot_tuple (sa_ListComp (z_lc (own := ["name", "head"]) (idx := []) (N' := ["name", "head"]) (⟨rfl, by decide +kernel, by decide +kernel, (show ∀ y ∈ Scope.names _, y.2 = NameKind.free → ((defScope s_is_holed).names.lookup y.1 = some NameKind.cell ∨ (defScope s_is_holed).names.lookup y.1 = some NameKind.free) by decide +kernel), (show ∀ j ∈ ([] : List Nat), (Scope.names _).lookup ((["thing", "heads", "T"] : List Str).getD j "") = some NameKind.free ∧ j < (["thing", "heads", "T"] : List Str).length by decide +kernel), rfl⟩) rfl (i_K K (zv 0)) (fun _ _ _ _ _ _ => (g_tup K (n := 2) rfl (gs_cons (g_name (i := 0) (show List.Nodup (["name", "head"] : List Str) by decide +kernel) rfl (Or.inl rfl)) (gs_cons (g_name (i := 1) (show List.Nodup (["name", "head"] : List Str) by decide +kernel) rfl (Or.inl rfl)) gs_nil)))) (fun _ _ _ _ _ _ => c_nil) (fun _ _ _ _ _ _ => (z_tup (sa_Name (zv 0) (sa_IfExp (z_ifExp (y_cmpR (op_eqH K hu20) (zv 1) (z_glK K T.c_HOLE) (nomark _)) (z_tup (sa_Constant z_str sa_nil)) (zv 1)) sa_nil))))) sa_nil)))
      (sb_one (s_ret (z_and (z_fn F_is_telling (hr.mono (by decide)) (sa_Name (zv 2) sa_nil)) (z_one (z_callB (call_allK K rfl) (by rfl) T.n_all PyProof.Rows.boot_all (sa_ListComp (z_lc (own := ["name", "head"]) (idx := []) (N' := ["name", "head"]) (⟨rfl, by decide +kernel, by decide +kernel, (show ∀ y ∈ Scope.names _, y.2 = NameKind.free → ((defScope s_is_holed).names.lookup y.1 = some NameKind.cell ∨ (defScope s_is_holed).names.lookup y.1 = some NameKind.free) by decide +kernel), (show ∀ j ∈ ([] : List Nat), (Scope.names _).lookup ((["thing", "heads", "T"] : List Str).getD j "") = some NameKind.free ∧ j < (["thing", "heads", "T"] : List Str).length by decide +kernel), rfl⟩) rfl (i_K K (zv 2)) (fun _ _ _ _ _ _ => (g_tup K (n := 2) rfl (gs_cons (g_name (i := 0) (show List.Nodup (["name", "head"] : List Str) by decide +kernel) rfl (Or.inl rfl)) (gs_cons (g_name (i := 1) (show List.Nodup (["name", "head"] : List Str) by decide +kernel) rfl (Or.inl rfl)) gs_nil)))) (fun _ _ _ _ _ _ => c_nil) (fun _ _ _ _ _ _ => (z_cmpR (op_neD hu0) (z_ix (ix_K K) (zv 1) z_int (fun _ _ => rfl)) z_str (nomark _)))) sa_nil)))))))))), ?_⟩
    obtain ⟨t, ht, h1, h2⟩ := hd.ty
    refine ⟨by decide, t, ht, _, rfl, ?_⟩
    rw [h1]
    have k0 := k H (Same.refl H)
    cases hd with
    | @tup a xs ds e hl hn hds =>
      refine iteF ?_
      refine Or.inr ⟨⟨xs, SqT.of e⟩, fun D hD => ?_⟩
      refine lc_bools (itn_tup xs) (fun i => twoD (ds.getD i .oth)) (by omega) hD (fun H2 s2 => SqT.of (s2 _ _ e)) (fun i H2 k' hi s2 hk => ?_) (fun H2 s2 hl2 => ?_)
      · have h5 := (hds i hi (by omega)).same s2
        have e1 : xs.getD i .non = xs[i] := by simp [List.getD_eq_getElem?_getD, hi]
        have e2 : ds.getD i .oth = ds[i]'(by omega) := by rw [List.getD_eq_getElem?_getD, List.getElem?_eq_getElem (by omega)]; rfl
        rw [e2] at hk
        show tAndV _ _ [some (xs.getD i .non)] H2 k'
        rw [e1]
        generalize xs[i] = xx at h5
        generalize ds[i]'(by omega) = dd at h5 hk
        obtain ⟨t1, ht1, h11, _⟩ := h5.ty
        refine ⟨by decide, t1, ht1, _, rfl, ?_⟩
        rw [h11]
        cases h5 with
        | @tup c ys es ec hlc hnc hdc =>
          refine iteT (Or.inl ⟨_, .inr (SqT.of ec), rfl, ?_⟩)
          have : (false ^^ decide (V.int (ys.length : Int) = V.int 2)) = twoD (.tup es) := by
            rw [Bool.false_xor, decV_int, hlc]
            match es with
            | [] => rfl
            | [_] => rfl
            | [_, _] => rfl
            | _ :: _ :: _ :: r =>
              simp only [twoD, List.length_cons]
              exact decide_eq_false (by omega)
          rw [this]
          exact hk _ (Same.refl _)
        | _ => exact iteF (hk _ (Same.refl _))
      refine ⟨_, SqL.of hl2, _, rfl, ?_⟩
      rw [hl, range_all_list ds .oth twoD]
      refine iteNB (fun h5 => ?_) (fun h5 => ?_)
      rotate_left
      · have := k H2 s2
        have e1 : holD (.tup ds) = false := by simp [holD, not_two h5]
        rw [e1] at this
        exact this
      have h5' : ∀ i (h : i < ds.length), twoD ds[i] = true := fun i h => List.all_eq_true.mp h5 _ (List.getElem_mem h)
      refine tNext_seq ?_
      refine tSeq_set (Or.inr ⟨⟨xs, SqT.of (s2 _ _ e)⟩, fun L hL => ?_⟩)
      have hL0 : H L = none := s2.free hL
      refine lc_by (itn_tup xs) (fun i τ H3 => ∃ us : List V, H3 L = some (.lst us) ∧ us.length = i ∧ (∀ j (h : j < us.length) (h' : j < ds.length), DD H us[j] (hdO ds[j])) ∧ Same H2 H3 ∧ ∃ v1 v2, τ = [v1, v2]) ⟨[], upd_same, rfl, (fun j h => absurd h (by simp)), Same.upd hL _, none, none, rfl⟩ (fun i τ H3 _ h => by obtain ⟨us, _, _, _, s3, _⟩ := h; exact SqT.of (s3 _ _ (s2 _ _ e))) ?_ ?_
      · rintro i τ H3 hi ⟨us, q1, q2, q3, q4, v1, v2, rfl⟩
        obtain ⟨b, x1, x2, d1, d2, e1, e2, e3, e4, e5⟩ := (hds i hi (by omega)).two (h5' i (by omega))
        have eg : xs.getD i .non = .ref b := by rw [List.getD_eq_getElem?_getD, List.getElem?_eq_getElem hi, e1]; rfl
        rw [eg]
        refine g2_at (q4 _ _ (s2 _ _ e3)) ?_
        refine ⟨us, q1, by omega, us ++ [x2], upd_same, by simp [q2], fun j hj hj' => ?_, q4.put hL, _, _, rfl⟩
        by_cases hji : j < us.length
        · rw [List.getElem_append_left hji]; exact q3 j hji hj'
        · have : j = i := by simp at hj; omega
          subst this
          rw [List.getElem_append_right (by omega)]
          simp only [q2, Nat.sub_self, List.getElem_cons_zero, e2]
          exact e5
      rintro τ H3 ⟨us, q1, q2, q3, q4, v1, v2, rfl⟩
      have s3 := s2.trans q4
      have hul : us.length = (ds.map hdO).length := by simp; omega
      have q3' : ∀ i (h : i < us.length) (h' : i < (ds.map hdO).length), DD H3 us[i] (ds.map hdO)[i] := fun i h h' => by
        rw [List.getElem_map]
        exact (q3 i h (by simpa using h')).same s3
      refine Or.inl ⟨us, .inl (SqL.of q1), _, rfl, ?_⟩
      refine iteB (fun h6 => ?_) (fun h6 => ?_)
      · have := k H3 s3
        have hx : ¬ ds.length ≤ 12 := by have := of_decide_eq_true h6; omega
        have e1 : holD (.tup ds) = false := by simp [holD, hx]
        rw [e1] at this
        exact this
      have h6' : ds.length ≤ 12 := by have := of_decide_eq_false h6; omega
      refine ⟨.inl ⟨rfl, _, SqL.of q1⟩, fun aH hH => ⟨L, aH, us, ds.map hdO, _, rfl, rfl, q1, hH, hul, q3', _, rfl, ?_⟩⟩
      refine iteB (fun h7 => ?_) (fun h7 => ?_)
      · have := k H3 s3
        have hx : ¬ (ds.map hdO).countP (Dt.is1 "hole") ≤ 6 := by have := of_decide_eq_true h7; omega
        have e1 : holD (.tup ds) = false := by simp only [holD, decide_eq_false hx]; simp
        rw [e1] at this
        exact this
      have h7' : (ds.map hdO).countP (Dt.is1 "hole") ≤ 6 := by have := of_decide_eq_false h7; omega
      refine tNext_seq ?_
      refine tSeq_set (Or.inr ⟨⟨xs, SqT.of (s3 _ _ e)⟩, fun R hR => ?_⟩)
      refine lc_by (itn_tup xs) (fun i τ H4 => ∃ ws : List V, H4 R = some (.lst ws) ∧ ws.length = i ∧ FillAt H3 H4 ws ds ∧ Same H3 H4 ∧ ∃ v1 v2, τ = [v1, v2]) ⟨[], upd_same, rfl, FillAt.nil, Same.upd hR _, none, none, rfl⟩ (fun i τ H4 _ h => by obtain ⟨us, _, _, _, s4, _⟩ := h; exact SqT.of (s4 _ _ (s3 _ _ e))) ?_ ?_
      · rintro i τ H4 hi ⟨ws, g1, g2, g3, g4, v1, v2, rfl⟩
        subst g2
        obtain ⟨b, x1, x2, d1, d2, e1, e2, e3, e4, e5⟩ := (hds ws.length hi (by omega)).two (h5' ws.length (by omega))
        have eg : xs.getD ws.length .non = .ref b := by rw [List.getD_eq_getElem?_getD, List.getElem?_eq_getElem hi, e1]; rfl
        rw [eg]
        refine g2_at (g4 _ _ (s3 _ _ e3)) ?_
        intro aH hH
        refine ⟨d2, aH, "hole", e5.same (s3.trans g4), rfl, hH, _, rfl, ?_⟩
        refine iteB (fun h8 => ?_) (fun h8 => ?_)
        · refine ⟨(show 1 ≤ sizeLine by decide), fun b1 hb1 => ⟨(show 2 ≤ sizeLine by decide), fun c hc => ?_⟩⟩
          have nRb : R ≠ b1 := ne_of_none g1 hb1
          have sb := Same.upd hb1 (.tup [.str "all"])
          have sc := Same.upd hc (.tup [x1, .ref b1])
          have gR := sc _ _ (sb _ _ g1)
          have nRc : R ≠ c := ne_of_none (sb _ _ g1) hc
          refine ⟨ws, gR, by omega, ws ++ [.ref c], upd_same, by simp, ?_, ((g4.trans sb).trans sc).put hR, _, _, rfl⟩
          have tk : Tk H4 (upd (upd (upd H4 b1 (.tup [.str "all"])) c (.tup [x1, .ref b1])) R (.lst (ws ++ [.ref c]))) := ((sb.trans sc).ts).set gR (by intro _ z; cases z)
          refine g3.add tk (by omega) (by rw [upd_ne nRc.symm]; exact upd_same) e2 (e4.same s3) (.inr ⟨b1, rfl, ?_, by unfold hdF; rw [h8]; rfl⟩)
          rw [upd_ne nRb.symm]
          exact sc _ _ upd_same
        · refine ⟨(show 2 ≤ sizeLine by decide), fun c hc => ?_⟩
          have sc := Same.upd hc (.tup [x1, x2])
          have gR := sc _ _ g1
          have nRc : R ≠ c := ne_of_none g1 hc
          refine ⟨ws, gR, by omega, ws ++ [.ref c], upd_same, by simp, ?_, (g4.trans sc).put hR, _, _, rfl⟩
          have tk : Tk H4 (upd (upd H4 c (.tup [x1, x2])) R (.lst (ws ++ [.ref c]))) := (sc.ts).set gR (by intro _ z; cases z)
          refine g3.add tk (by omega) (by rw [upd_ne nRc.symm]; exact upd_same) e2 (e4.same s3) (.inl ?_)
          unfold hdF
          rw [h8]
          exact e5.same s3
      rintro τ H4 ⟨ws, g1, g2, g3, g4, v1, v2, rfl⟩
      refine ⟨R, ws, rfl, .inl ⟨SqL.of g1, fun a2 ha2 => ?_⟩⟩
      have s5 := Same.upd ha2 (.tup ws)
      have ga2 : upd H4 a2 (.tup ws) a2 = some (.tup ws) := upd_same
      generalize upd H4 a2 (.tup ws) = H5 at s5 ga2
      have f5 := g3.tk s5.ts
      have s35 := g4.trans s5
      have dd5 : ∀ i (h : i < ws.length) (h' : i < (ds.map rowF).length), DD H5 ws[i] (ds.map rowF)[i] := fun i h h' => by
        rw [List.getElem_map]
        exact f5.dd s35 i h (by simpa using h')
      have hd5 : DD H5 (.ref a2) (.tup (ds.map rowF)) := .tup ga2 (by simp; omega) (by omega) dd5
      refine ⟨.ref a2, _, rfl, hd5, fun H6 s6 => ⟨_, rfl, iteB (fun h8 => ?_) (fun h8 => ?_)⟩⟩
      rotate_left
      · have := k H6 ((s3.trans s35).trans s6)
        have e1 : holD (.tup ds) = false := by simp [holD, h8]
        rw [e1] at this
        exact this
      have hrow := telD_rows h8
      refine Or.inr ⟨⟨ws, SqT.of (s6 _ _ ga2)⟩, fun D2 hD2 => ?_⟩
      refine lc_by (itn_tup ws) (fun i τ H7 => H7 D2 = some (.lst (((List.range i).map fun i => !wayH (hdO (ds.getD i .oth))).map V.bl)) ∧ Same H6 H7 ∧ ∃ v1 v2, τ = [v1, v2]) ⟨upd_same, Same.upd hD2 _, none, none, rfl⟩ (fun i τ H7 _ h => SqT.of (h.2.1 _ _ (s6 _ _ ga2))) ?_ ?_
      · rintro i τ H7 hi ⟨r1, r2, v1, v2, rfl⟩
        have hid : i < ds.length := by omega
        have hri : rowD (rowF ds[i]) = true := by
          have := List.all_eq_true.mp hrow ((ds.map rowF)[i]'(by simpa using hid)) (List.getElem_mem _)
          rw [List.getElem_map] at this
          exact this
        have hdi := (dd5 i hi (by simpa using hid)).same (s6.trans r2)
        rw [List.getElem_map] at hdi
        obtain ⟨b, z, x, hd', w1, w2, w3, w4, w5, w6⟩ := rowD_at hdi hri
        obtain ⟨a3, z3, xs3, ds3, rfl, rfl, w7, _⟩ := headD_at w4 w5
        have eg : ws.getD i .non = .ref b := by rw [List.getD_eq_getElem?_getD, List.getElem?_eq_getElem hi, w1]; rfl
        rw [eg]
        refine g2_at w2 ?_
        refine ⟨_, .str z3, .inr (SqT.of w7), atI_zero _ _, rfl, ?_⟩
        have e2 : ds.getD i .oth = ds[i] := by rw [List.getD_eq_getElem?_getD, List.getElem?_eq_getElem hid]; rfl
        have ew : (true ^^ decide (V.str z3 = V.str (Str.ofString "way"))) = !wayH (hdO (ds.getD i .oth)) := by
          rw [Bool.true_xor, decV_str, e2]
          obtain ⟨dx, dy, hxy⟩ := two_of (h5' i hid)
          rw [hxy] at w3 ⊢
          have w3' : Dt.tup [dx, hdF dy] = Dt.tup [.str z, .tup (.str z3 :: ds3)] := w3
          have w8 : hdF dy = .tup (.str z3 :: ds3) := by
            injection w3' with w3'
            injection w3' with _ w3'
            injection w3' with w3' _
          show _ = !wayH dy
          rw [← way_hdF, w8]
          rfl
        rw [ew]
        refine ⟨_, r1, by simp; omega, ?_, r2.put hD2, _, _, rfl⟩
        rw [upd_same, List.range_succ, List.map_append, List.map_append]; rfl
      · rintro τ H7 ⟨r1, r2, v1, v2, rfl⟩
        refine ⟨_, SqL.of r1, ?_⟩
        have := k H7 (((s3.trans s35).trans s6).trans r2)
        have e1 : holD (.tup ds) = (ds.all fun d => !wayH (hdO d)) := by
          simp only [holD, h8, decide_eq_true h6', decide_eq_true h7', Bool.true_and]
        rw [e1] at this
        rw [show ws.length = ds.length by omega, range_all_list ds .oth (fun d => !wayH (hdO d))]
        exact this
    | _ => exact iteT (iteT k0)
theorem ok_law_tdue (T : Txt K mg w) : FnK P w K mg base 4 "_law_tdue" ["thing"] (spT holD) := by
  have F_law_tis_telling : FnK P w K mg base 3 "_law_tis_telling" ["thing"] (spT telD) := ok_law_tis_telling T
  refine T.t_law_tdue.okS sc_law_tdue (fun vs H Q E h => ?_) (fun f cdv A outer s H vs Q E hr h => ?_)
  · obtain ⟨x, d, rfl, _⟩ := h
    rfl
  · obtain ⟨x, d, rfl, hd, k⟩ := h
    have hu := hu_of hr
    have hu0 := Nat.lt_of_succ_lt (hu_of hr)
    have hu20 := hu20_of hr
    have hsz : sizeLine = 16777216 := sizeLine_eq
    refine ⟨_, (sb_cons (s_if (w_or (y_not (y_val (z_callB call_isiD (by rfl) T.n_isinstance PyProof.Rows.boot_isinstance (sa_Name (zv 0) (sa_Name (z_bltn (v := .ty "tuple") (by rfl) T.n_tuple PyProof.Rows.boot_tuple rfl) sa_nil))))) (w_or1 (y_cmpR op_gtD (z_callB (call_lenK K) (by rfl) T.n_len PySem.boot_len (sa_Name (zv 0) sa_nil)) z_int (nomark _)))).pt (sb_one (s_ret z_bl)) sb_nil)
      (sb_cons (s_set (i := 1) sc_law_tdue.nd rfl (Or.inl rfl) (z_lst sa_nil))
      (sb_cons (s_set (i := 2) sc_law_tdue.nd rfl (Or.inl rfl) z_int)
      (sb_cons (s_for PassesOwn.never rfl (i_K K (zv 0)) (g_name (i := 3) sc_law_tdue.nd rfl (Or.inl rfl)) (sb_cons (s_if (w_and (y_val (z_callB call_isiD (by rfl) T.n_isinstance PyProof.Rows.boot_isinstance (sa_Name (zv 3) (sa_Name (z_bltn (v := .ty "tuple") (by rfl) T.n_tuple PyProof.Rows.boot_tuple rfl) sa_nil)))) (w_and (y_cmpR (op_eqD hu0) (z_callB (call_lenK K) (by rfl) T.n_len PySem.boot_len (sa_Name (zv 3) sa_nil)) z_int (nomark _)) (w_and (y_val (z_callB call_isiD (by rfl) T.n_isinstance PyProof.Rows.boot_isinstance (sa_Subscript (z_ix (ix_K K) (zv 3) z_int (fun _ _ => rfl)) (sa_Name (z_bltn (v := .ty "tuple") (by rfl) T.n_tuple PyProof.Rows.boot_tuple rfl) sa_nil)))) (w_and1 (y_cmpR (op_eqH K hu20) (z_ix (ix_K K) (zv 3) z_int (fun _ _ => rfl)) (z_tup (sa_Constant z_str sa_nil)) (nomark _)))))).pt (sb_cons (s_set (i := 2) sc_law_tdue.nd rfl (Or.inl rfl) (z_op op_addD (zv 2) z_int))
      (sb_one (s_set (i := 3) sc_law_tdue.nd rfl (Or.inl rfl) (z_tup (sa_Subscript (z_ix (ix_K K) (zv 3) z_int (fun _ _ => rfl)) (sa_Tuple (z_tup (sa_Constant z_str sa_nil)) sa_nil)))))) sb_nil)
      (sb_cons (s_if (w_and (y_val (z_callB call_isiD (by rfl) T.n_isinstance PyProof.Rows.boot_isinstance (sa_Name (zv 3) (sa_Name (z_bltn (v := .ty "tuple") (by rfl) T.n_tuple PyProof.Rows.boot_tuple rfl) sa_nil)))) (w_and (y_cmpR (op_eqD hu0) (z_callB (call_lenK K) (by rfl) T.n_len PySem.boot_len (sa_Name (zv 3) sa_nil)) z_int (nomark _)) (w_and (y_val (z_callB call_isiD (by rfl) T.n_isinstance PyProof.Rows.boot_isinstance (sa_Subscript (z_ix (ix_K K) (zv 3) z_int (fun _ _ => rfl)) (sa_Name (z_bltn (v := .ty "tuple") (by rfl) T.n_tuple PyProof.Rows.boot_tuple rfl) sa_nil)))) (w_and1 (y_cmpR (op_eqH K hu20) (z_slice (sl_KT K) (z_ix (ix_K K) (zv 3) z_int (fun _ _ => rfl)) zo_none (zo_some z_int)) (z_tup (sa_Constant z_str sa_nil)) (nomark _)))))).pt (sb_one (s_ret z_bl)) sb_nil)
      (sb_one (s_expr (z_bm K PySem.F.plainAttrs_list PySem.F.slot_list_append PySem.F.type_list_append mt_append (zv 1) (sa_Name (zv 3) sa_nil)))))))
      (sb_one (s_ret (z_and (z_cmpR op_ltD (zv 2) z_int (nomark _)) (z_one (z_fn F_law_tis_telling (hr.mono (by decide)) (sa_Call (z_callTy (call_tupK K) (by rfl) T.n_tuple PyProof.Rows.boot_tuple (sa_Name (zv 1) sa_nil)) sa_nil)))))))))), ?_⟩
    obtain ⟨t, ht, h1, h2⟩ := hd.ty
    refine ⟨by decide, t, ht, _, rfl, ?_⟩
    rw [h1]
    have k0 := k H (Same.refl H)
    cases hd with
    | @tup a xs ds e hl hn hds =>
      refine iteF ?_
      refine Or.inl ⟨xs, .inr (SqT.of e), _, rfl, ?_⟩
      refine iteB (fun h6 => ?_) (fun h6 => ?_)
      · have hx : ¬ ds.length ≤ 12 := by have := of_decide_eq_true h6; omega
        have e1 : holD (.tup ds) = false := by simp [holD, hx]
        rw [e1] at k0
        exact k0
      have h6' : ds.length ≤ 12 := by have := of_decide_eq_false h6; omega
      refine tNext_seq ?_
      refine tSeq_set ⟨(show 0 ≤ sizeLine by decide), fun R hR => ?_⟩
      have sR := Same.upd hR (.lst [])
      have gR : upd H R (.lst []) R = some (.lst []) := upd_same
      generalize upd H R (.lst []) = H1 at sR gR
      refine tSeq_setC ?_
      refine tSeq_by (fun σ' H' => ∃ (ws : List V) (v3 : Option V), σ' = [some (.ref a), some (.ref R), some (.int ((ds.map hdO).countP (Dt.is1 "hole") : Nat)), v3] ∧ H' R = some (.lst ws) ∧ ws.length = ds.length ∧ FillG H H' ws ds ∧ Same H H' ∧ ∀ j (h : j < ds.length), wayH (hdO ds[j]) = false) ?_ ?_
      · intro nx hnx
        refine Or.inr ⟨⟨xs, SqT.of (sR _ _ e)⟩, for_by (itn_tup xs) (fun i σ' H' => ∃ (ws : List V) (v3 : Option V), σ' = [some (.ref a), some (.ref R), some (.int (((ds.take i).map hdO).countP (Dt.is1 "hole") : Nat)), v3] ∧ H' R = some (.lst ws) ∧ ws.length = i ∧ FillG H H' ws ds ∧ Same H H' ∧ ∀ j (h : j < ds.length), j < i → wayH (hdO ds[j]) = false) ⟨[], none, rfl, gR, rfl, (fun j h => absurd h (by simp)), sR, fun j h hj => absurd hj (by omega)⟩ (fun i τ H' _ h => by obtain ⟨_, _, _, _, _, _, s', _⟩ := h; exact SqT.of (s' _ _ e)) ?_ ?_⟩
        · rintro i σ' H2 hi ⟨ws, v3, rfl, g1, rfl, g3, g4, g5⟩
          have hid : ws.length < ds.length := by omega
          have ex : xs.getD ws.length .non = xs[ws.length] := by simp [List.getD_eq_getElem?_getD, hi]
          rw [ex]
          have hdi := hds ws.length hi hid
          have et : ds.take (ws.length + 1) = ds.take ws.length ++ [ds[ws.length]] := by rw [List.take_add_one, List.getElem?_eq_getElem hid]; rfl
          rw [et, List.map_append, List.countP_append]
          generalize hdd : ds[ws.length] = dd at hdi
          generalize xs[ws.length] = xx at hdi
          have hg : ∀ H3 v, Same H H3 → DD H v dd → DD H3 v dd := fun H3 v s h => h.same s
          refine tSeq_by (fun σ' H' => ∃ v : V, σ' = [some (.ref a), some (.ref R), some (.int ((((ds.take ws.length).map hdO).countP (Dt.is1 "hole") + ([dd].map hdO).countP (Dt.is1 "hole") : Nat))), some v] ∧ H' R = some (.lst ws) ∧ FillG H H' ws ds ∧ Same H H' ∧ RowG H H' v dd) ?_ ?_
          · intro nx' hnx'
            have no : ∀ H3, Same H2 H3 → (hdO dd).is1 "hole" = false → nx' [some (.ref a), some (.ref R), some (.int (((ds.take ws.length).map hdO).countP (Dt.is1 "hole") : Nat)), some xx] H3 := fun H3 s3 e9 => by
              have e8 : ([dd].map hdO).countP (Dt.is1 "hole") = 0 := by simp [e9]
              refine hnx' _ _ ⟨xx, by rw [e8, Nat.add_zero], s3 _ _ g1, g3.tk s3.ts, g4.trans s3, .inl ?_⟩
              rw [rowF_id e9]; exact hdi
            obtain ⟨t1, ht1, h11, _⟩ := (hdi.same g4).ty
            refine ⟨by decide, t1, ht1, _, rfl, ?_⟩
            rw [h11]
            cases hdi with
            | @tup c ys es ec hlc hnc hdc =>
              refine iteT ?_
              refine Or.inl ⟨_, .inr (SqT.of (g4 _ _ ec)), rfl, _, rfl, ?_⟩
              refine iteB (fun q6 => ?_) (fun q6 => ?_)
              rotate_left
              · have hne : es.length ≠ 2 := fun e2 => by
                  rw [Bool.false_xor, decV_int] at q6
                  have := of_decide_eq_false q6
                  omega
                exact no H2 (Same.refl _) (by rw [(hdO_ne hne).1]; rfl)
              rw [Bool.false_xor, decV_int] at q6
              have hy2 : ys.length = 2 := by have := of_decide_eq_true q6; omega
              obtain ⟨y0, y1, rfl⟩ : ∃ y0 y1, ys = [y0, y1] := len2 hy2
              obtain ⟨d0, d1, rfl⟩ : ∃ d0 d1, es = [d0, d1] := len2 hlc.symm
              have hd0 : DD H y0 d0 := hdc 0 (by simp) (by simp)
              have hd1 : DD H y1 d1 := hdc 1 (by simp) (by simp)
              obtain ⟨t2, ht2, h12, _⟩ := (hd1.same g4).ty
              refine ⟨_, y1, .inr (SqT.of (g4 _ _ ec)), rfl, by decide, t2, ht2, _, rfl, ?_⟩
              rw [h12]
              have tl : d1.isTup = false → d1.is1 "hole" = false := fun h => by cases d1 <;> first | rfl | cases h
              cases hq : d1.isTup with
              | false => exact iteF (no H2 (Same.refl _) (tl hq))
              | true =>
                refine iteT ?_
                refine ⟨_, y1, .inr (SqT.of (g4 _ _ ec)), rfl, (show 1 ≤ sizeLine by decide), fun b hb => ?_⟩
                have sb := Same.upd hb (.tup [.str "hole"])
                refine ⟨d1, b, "hole", hd1.same (g4.trans sb), rfl, SqT.of upd_same, _, rfl, ?_⟩
                refine iteB (fun q7 => ?_) (fun q7 => no _ sb q7)
                have gb : upd H2 b (.tup [.str "hole"]) b = some (.tup [.str "hole"]) := upd_same
                generalize upd H2 b (.tup [.str "hole"]) = H3 at sb
                have s3 := g4.trans sb
                refine tSeq_set ?_
                refine ⟨_, y0, .inr (SqT.of (s3 _ _ ec)), rfl, (show 1 ≤ sizeLine by decide), fun b1 hb1 => ⟨(show 2 ≤ sizeLine by decide), fun c1 hc1 => ?_⟩⟩
                have s4 := Same.upd hb1 (.tup [.str "all"])
                have s5 := Same.upd hc1 (.tup [y0, .ref b1])
                have e8 : ([Dt.tup [d0, d1]].map hdO).countP (Dt.is1 "hole") = 1 := by
                  have : (hdO (.tup [d0, d1])).is1 "hole" = true := q7
                  simp [this]
                refine hnx' _ _ ⟨.ref c1, ?_, s5 _ _ (s4 _ _ (sb _ _ g1)), g3.tk ((sb.trans s4).trans s5).ts, ((s3.trans s4).trans s5), .inr ⟨c1, y0, b1, d0, rfl, upd_same, s5 _ _ upd_same, hd0, ?_⟩⟩
                · rw [e8]
                  have e7 : (((ds.take ws.length).map hdO).countP (Dt.is1 "hole") + 1 : Nat) = ((((ds.take ws.length).map hdO).countP (Dt.is1 "hole") : Nat) : Int) + 1 := by push_cast; rfl
                  rw [e7]; rfl
                · show Dt.tup [d0, hdF d1] = _
                  unfold hdF
                  rw [q7]; rfl
            | _ => exact iteF (no H2 (Same.refl _) rfl)
          rintro σ' H3 ⟨v, rfl, f1, f2, f3, f4⟩
          have hv := f4.dd f3
          have yes : ∀ H4, Same H3 H4 → wayH (hdO dd) = true → Q (.bl false) H4 := fun H4 s4 e9 => by
            have := k H4 (f3.trans s4)
            have e8 : (ds.all fun d => !wayH (hdO d)) = false := by
              rw [Bool.eq_false_iff]
              intro hall
              have := List.all_eq_true.mp hall ds[ws.length] (List.getElem_mem _)
              rw [hdd, e9] at this
              cases this
            have e7 : holD (.tup ds) = false := by simp only [holD, e8, Bool.and_false]
            rw [e7] at this
            exact this
          refine tSeq_by (fun σ' H' => σ' = [some (.ref a), some (.ref R), some (.int ((((ds.take ws.length).map hdO).countP (Dt.is1 "hole") + ([dd].map hdO).countP (Dt.is1 "hole") : Nat))), some v] ∧ Same H3 H' ∧ wayH (hdO dd) = false) ?_ ?_
          · intro nx' hnx'
            rw [← way_rowF] at yes
            have no : ∀ H4, Same H3 H4 → wayH (hdO (rowF dd)) = false → nx' [some (.ref a), some (.ref R), some (.int ((((ds.take ws.length).map hdO).countP (Dt.is1 "hole") + ([dd].map hdO).countP (Dt.is1 "hole") : Nat))), some v] H4 := fun H4 s4 e9 => hnx' _ _ ⟨rfl, s4, by rw [← way_rowF]; exact e9⟩
            generalize rowF dd = de at hv yes no
            obtain ⟨t1, ht1, h11, _⟩ := hv.ty
            refine ⟨by decide, t1, ht1, _, rfl, ?_⟩
            rw [h11]
            cases hv with
            | @tup c ys es ec hlc hnc hdc =>
              refine iteT ?_
              refine Or.inl ⟨_, .inr (SqT.of ec), rfl, _, rfl, ?_⟩
              refine iteB (fun q6 => ?_) (fun q6 => ?_)
              rotate_left
              · have hne : es.length ≠ 2 := fun e2 => by
                  rw [Bool.false_xor, decV_int] at q6
                  have := of_decide_eq_false q6
                  omega
                exact no H3 (Same.refl _) (by rw [(hdO_ne hne).1]; rfl)
              rw [Bool.false_xor, decV_int] at q6
              have hy2 : ys.length = 2 := by have := of_decide_eq_true q6; omega
              obtain ⟨y0, y1, rfl⟩ : ∃ y0 y1, ys = [y0, y1] := len2 hy2
              obtain ⟨d0, d1, rfl⟩ : ∃ d0 d1, es = [d0, d1] := len2 hlc.symm
              have hd1 : DD H3 y1 d1 := hdc 1 (by simp) (by simp)
              obtain ⟨t2, ht2, h12, _⟩ := hd1.ty
              refine ⟨_, y1, .inr (SqT.of ec), rfl, by decide, t2, ht2, _, rfl, ?_⟩
              rw [h12]
              cases hd1 with
              | @tup c2 zs fs ez hlz hnz hdz =>
                refine iteT ?_
                refine ⟨_, .ref c2, .inr (SqT.of ec), rfl, 1, rfl, slice_1 ez fun c3 H4 s4 e4 => ⟨(show 1 ≤ sizeLine by decide), fun b hb => ?_⟩⟩
                have sb := Same.upd hb (.tup [.str "way"])
                have d4 : DD (upd H4 b (.tup [.str "way"])) (.ref c3) (.tup (fs.take 1)) := .tup (sb _ _ e4) (by simp [hlz]) (by simp; omega) fun i h h' => by
                  rw [List.getElem_take, List.getElem_take]
                  exact (hdz i (by simp at h; omega) (by simp at h'; omega)).same (s4.trans sb)
                refine ⟨_, b, "way", d4, rfl, SqT.of upd_same, _, rfl, ?_⟩
                rw [wayH_take]
                exact iteB (fun q7 => yes _ (s4.trans sb) q7) (fun q7 => no _ (s4.trans sb) q7)
              | _ => exact iteF (no H3 (Same.refl _) rfl)
            | _ => exact iteF (no H3 (Same.refl _) rfl)
          rintro σ' H4 ⟨rfl, s4, hw⟩
          refine ⟨.inl ⟨rfl, _, SqL.of (s4 _ _ f1)⟩, R, ws, v, rfl, rfl, s4 _ _ f1, by omega, ws ++ [v], _, rfl, upd_same, by simp, ?_, (f3.trans s4).put hR, fun j h hj => ?_⟩
          · have tk : Tk H3 (upd H4 R (.lst (ws ++ [v]))) := (s4.ts).set (s4 _ _ f1) (by intro _ z; cases z)
            exact (f2.tk tk).add hid (by rw [hdd]; exact f4.tk tk)
          · rcases Nat.lt_or_eq_of_le (Nat.le_of_lt_succ hj) with hj | hj
            · exact g5 j h hj
            · subst hj; rw [hdd]; exact hw
        · rintro σ' H2 ⟨ws, v3, rfl, g1, g2, g3, g4, g5⟩
          rw [List.take_of_length_le (by omega)]
          exact hnx _ _ ⟨ws, v3, rfl, g1, by omega, g3, g4, fun j h => g5 j h (by omega)⟩
      rintro σ' H2 ⟨ws, v3, rfl, g1, g2, g3, g4, g5⟩
      have hway : (ds.all fun d => !wayH (hdO d)) = true := List.all_eq_true.mpr fun d hd => by
        obtain ⟨i, hi, rfl⟩ := List.getElem_of_mem hd
        rw [g5 i hi]; rfl
      have hol : holD (.tup ds) = (decide ((ds.map hdO).countP (Dt.is1 "hole") ≤ 6) && telD (.tup (ds.map rowF))) := by
        simp only [holD, decide_eq_true h6', hway, Bool.true_and, Bool.and_true]
      rw [hol] at k
      refine ⟨_, rfl, iteB (fun h7 => ?_) (fun h7 => ?_)⟩
      rotate_left
      · have hx : ¬ (ds.map hdO).countP (Dt.is1 "hole") ≤ 6 := by have := of_decide_eq_false h7; omega
        have := k H2 g4
        rw [decide_eq_false hx] at this
        exact this
      have hx : (ds.map hdO).countP (Dt.is1 "hole") ≤ 6 := by have := of_decide_eq_true h7; omega
      rw [decide_eq_true hx, Bool.true_and] at k
      refine ⟨R, ws, rfl, .inl ⟨SqL.of g1, fun a2 ha2 => ?_⟩⟩
      have s5 := Same.upd ha2 (.tup ws)
      have ga2 : upd H2 a2 (.tup ws) a2 = some (.tup ws) := upd_same
      generalize upd H2 a2 (.tup ws) = H5 at s5 ga2
      have f5 := g3.tk s5.ts
      have hd5 : DD H5 (.ref a2) (.tup (ds.map rowF)) := .tup ga2 (by simp; omega) (by omega) fun i h h' => by
        rw [List.getElem_map]
        exact (f5 i h (by simpa using h')).dd (g4.trans s5)
      exact ⟨.ref a2, _, rfl, hd5, fun H6 s6 => k H6 ((g4.trans s5).trans s6)⟩
    | _ => exact iteT (iteT k0)
def spTholed : Sp := fun vs H Q _ => ∃ (p w wd : Addr) (t : Nat) (ws : List Str), vs = [.ref p, .ref wd] ∧ PenAt H p w t ∧ t + 1000 < TMAX ∧ TxtsAt H wd ws ∧ ws.length ≤ 10 ∧ (ws.Nodup ∧ ∀ z ∈ ws, isName z = true) ∧
  ∀ (a : Addr) (xs : List V) (rows : List Rw2) (ns : List Str) (H' : Hp), TH H' a xs rows ns ws → (2 ≤ ns.length ∧ ns.length ≤ 9) → PenAt H' p w (t + 1000) → Sm p w H H' → Q (.ref a) H'
theorem ok_law_tholed (T : Txt K mg w) : FnK P w K mg base 4 "_law_tholed" ["pen", "words"] spTholed := by
  have F_law_tdraw : FnK P w K mg base 1 "_law_tdraw" ["pen", "many"] spDraw := ok_law_tdraw T
  have F_law_tnames : FnK P w K mg base 2 "_law_tnames" ["pen", "many"] spNames := ok_law_tnames T
  have F_law_thead : FnK P w K mg base 3 "_law_thead" ["pen", "sort", "words", "names"] spHead64 := ok_law_thead64 T
  refine T.t_law_tholed.okS sc_law_tholed (fun vs H Q E h => ?_) (fun f cdv A outer s H vs Q E hr h => ?_)
  · obtain ⟨p, w', wd, t, ws, rfl, _⟩ := h
    rfl
  · obtain ⟨p, w', wd, t, ws, rfl, hp, ht, hw, hw10, hwn, k⟩ := h
    have ht' : t + 1000 < 1000000000000 := ht
    have hsz : sizeLine = 16777216 := sizeLine_eq
    have hu0 := Nat.lt_of_succ_lt (hu_of hr)
    have hu20 := hu20_of hr
    refine ⟨_, (sb_cons (s_set (i := 2) sc_law_tholed.nd rfl (Or.inl rfl) (z_fn F_law_tnames (hr.mono (by decide)) (sa_Name (zv 0) (sa_BinOp (z_op op_addD z_int (z_fn F_law_tdraw (hr.mono (by decide)) (sa_Name (zv 0) (sa_Constant z_int sa_nil)))) sa_nil))))
      (sb_cons (s_set (i := 3) sc_law_tholed.nd rfl (Or.inl rfl) (z_lst sa_nil))
      (sb_cons (s_for PassesOwn.never rfl (pi_enumK K (by rfl) T.n_enumerate (sa_Name (zv 2) sa_nil)) (g_tup K (n := 2) rfl (gs_cons (g_name (i := 4) sc_law_tholed.nd rfl (Or.inl rfl)) (gs_cons (g_name (i := 5) sc_law_tholed.nd rfl (Or.inl rfl)) gs_nil))) (sb_cons (s_set (i := 6) sc_law_tholed.nd rfl (Or.inl rfl) (z_ix (ix_K K) (z_op op_addD (z_op op_rep (z_lst (sa_Constant z_str (sa_Constant z_str (sa_Constant z_str sa_nil)))) z_int) (z_lst (sa_Constant z_str (sa_Constant z_str (sa_Constant z_str sa_nil))))) (z_fn F_law_tdraw (hr.mono (by decide)) (sa_Name (zv 0) (sa_Constant z_int sa_nil))) (fun _ _ => rfl)))
      (sb_cons (s_if (w_and (y_cmpR (op_eqD hu0) (zv 6) z_str (nomark _)) (w_and1 (y_cmpR op_gtD (z_callB (call_lenK K) (by rfl) T.n_len PySem.boot_len (sa_ListComp (z_lc (own := ["row"]) (idx := []) (N' := ["row"]) (⟨rfl, by decide +kernel, by decide +kernel, (show ∀ y ∈ Scope.names _, y.2 = NameKind.free → ((defScope s_law_tholed).names.lookup y.1 = some NameKind.cell ∨ (defScope s_law_tholed).names.lookup y.1 = some NameKind.free) by decide +kernel), (show ∀ j ∈ ([] : List Nat), (Scope.names _).lookup ((["pen", "words", "names", "rows", "k", "name", "sort", "head", "turn"] : List Str).getD j "") = some NameKind.free ∧ j < (["pen", "words", "names", "rows", "k", "name", "sort", "head", "turn"] : List Str).length by decide +kernel), rfl⟩) rfl (i_K K (zv 3)) (fun _ _ _ _ _ _ => (g_name (i := 0) (show List.Nodup (["row"] : List Str) by decide +kernel) rfl (Or.inl rfl))) (fun _ _ _ _ _ _ => (c_one (y_cmpR (op_eqH K hu20) (z_ix (ix_K K) (zv 0) z_int (fun _ _ => rfl)) (z_tup (sa_Constant z_str sa_nil)) (nomark _)))) (fun _ _ _ _ _ _ => (zv 0))) sa_nil)) z_int (nomark _)))).pt (sb_one (s_set (i := 6) sc_law_tholed.nd rfl (Or.inl rfl) z_str)) sb_nil)
      (sb_cons (s_set (i := 7) sc_law_tholed.nd rfl (Or.inl rfl) (z_fn F_law_thead (hr.mono (by decide)) (sa_Name (zv 0) (sa_Name (zv 6) (sa_Name (zv 1) (sa_Name (zv 2) sa_nil))))))
      (sb_cons (s_if (y_cmpR (op_eqD hu0) (zv 6) z_str (nomark _)) (sb_one (s_set (i := 7) sc_law_tholed.nd rfl (Or.inl rfl) (z_ifExp (y_cmpR (op_eqD hu0) (zv 4) z_int (nomark _)) (z_tup (sa_Constant z_str sa_nil)) (z_tup (sa_Constant z_str (sa_Subscript (z_ix (ix_K K) (zv 2) (z_fn F_law_tdraw (hr.mono (by decide)) (sa_Name (zv 0) (sa_Name (zv 4) sa_nil))) (fun _ _ => rfl)) sa_nil)))))) sb_nil)
      (sb_one (s_expr (z_bm K PySem.F.plainAttrs_list PySem.F.slot_list_append PySem.F.type_list_append mt_append (zv 3) (sa_Tuple (z_tup (sa_Name (zv 5) (sa_Name (zv 7) sa_nil))) sa_nil)))))))))
      (sb_cons (s_set (i := 8) sc_law_tholed.nd rfl (Or.inl rfl) (z_fn F_law_tdraw (hr.mono (by decide)) (sa_Name (zv 0) (sa_Call (z_callB (call_lenK K) (by rfl) T.n_len PySem.boot_len (sa_Name (zv 3) sa_nil)) sa_nil))))
      (sb_one (s_ret (z_callTy (call_tupK K) (by rfl) T.n_tuple PyProof.Rows.boot_tuple (sa_BinOp (z_op op_addD (z_slice (sl_K K) (zv 3) (zo_some (zv 8)) zo_none) (z_slice (sl_K K) (zv 3) zo_none (zo_some (zv 8)))) sa_nil)))))))), ?_⟩
    refine tSeq_set ⟨p, w', 8, t, rfl, hp, ⟨by decide, by decide⟩, by show t < 1000000000000; omega, fun r0 H1 ra rb hp1 sm1 => ⟨p, w', 2 + r0, t + 1, rfl, hp1, ⟨by omega, by omega⟩, by show t + 1 + 20 < 1000000000000; omega, fun L ns H2 hL0 hL hnl hnd hwd hp2 sm2 => ?_⟩⟩
    have hnl' : ns.length ≤ 9 ∧ 2 ≤ ns.length := by omega
    have tL : TxtsAt H2 L ns := ⟨hL, by intro e; rw [e] at hnl'; simp at hnl', by omega, fun n hn => (hwd n hn).2⟩
    have sm02 : Sm p w' H H2 := sm1.trans sm2
    refine tSeq_set ⟨(show 0 ≤ sizeLine by decide), fun R hR => ?_⟩
    have nRp : R ≠ p := hp2.ne1 hR
    have nRw : R ≠ w' := hp2.ne2 hR
    have hR0 : H R = none := sm02.free hR nRp nRw
    have nRL : R ≠ L := fun e => by rw [e, hL] at hR; cases hR
    refine tSeq_by (fun σ' H' => ∃ (v6 v7 v8 v9 : Option V) (xs : List V) (rows : List Rw2), σ' = [some (.ref p), some (.ref wd), some (.ref L), some (.ref R), v6, v7, v8, v9, none] ∧ H' R = some (.lst xs) ∧ RV H' xs rows ∧ rows.map (·.1) = ns ∧ (∀ r ∈ rows, HdH ns ws r.1 r.2) ∧ rows.countP (fun r => r.2.hol) ≤ 6 ∧ PenAt H' p w' (t + 21 + 60 * 10) ∧ Sm p w' H H') ?_ ?_
    · intro nx hnx
      refine ⟨L, _, rfl, SqL.of (by rw [upd_ne nRL.symm]; exact hL), for_pair (itp_enum (ns.map V.str)) (fun i σ' H' => ∃ (v6 v7 v8 v9 : Option V) (xs : List V) (rows : List Rw2), σ' = [some (.ref p), some (.ref wd), some (.ref L), some (.ref R), v6, v7, v8, v9, none] ∧ H' R = some (.lst xs) ∧ RV H' xs rows ∧ rows.map (·.1) = ns.take i ∧ (∀ r ∈ rows, HdH ns ws r.1 r.2) ∧ rows.countP (fun r => r.2.hol) ≤ 6 ∧ TxtsAt H' L ns ∧ PenAt H' p w' (t + 21 + 60 * i) ∧ Sm p w' H H')
        ⟨none, none, none, none, [], [], rfl, upd_same, RV.nil, rfl, (fun _ h => nomatch h), by decide, tL.same (Same.upd hR _), hp2.same (Same.upd hR _), sm02.upd hR0⟩ (by rintro i τ H' _ ⟨_, _, _, _, _, _, _, _, _, _, _, _, tl, _⟩; exact SqL.of tl.e) ?_ ?_⟩
      · rintro i σ' H3 T0 hi ⟨v6, v7, v8, v9, xs, rows, rfl, q1, q2, q3, q4, qc, q5, q6, q7⟩ hT0
        rw [List.length_map] at hi
        rw [mapStr_getD ns i hi]
        have hni : ns[i]? = some (ns.getD i "") := by rw [List.getD_eq_getElem?_getD, List.getElem?_eq_getElem hi]; rfl
        generalize ns.getD i "" = nm at hni
        generalize hH4 : upd H3 T0 (.tup [.int (i : Int), .str nm]) = H4
        have s4 : Same H3 H4 := by rw [← hH4]; exact Same.upd hT0 _
        have hp4 := q6.same s4
        have sm4 : Sm p w' H H4 := q7.trans s4.sm
        have hi10 : i < 10 := by omega
        refine tSeq_set ⟨(show 3 ≤ sizeLine by decide), fun l1 hl1 => ⟨l1, 3, _, rfl, rfl, upd_same, by decide, by decide, by decide, fun l2 hl2 => ⟨(show 3 ≤ sizeLine by decide), fun l3 hl3 => ?_⟩⟩⟩
        have sa := Same.upd hl1 (.lst [V.str "hole", .str "box", .str "pick"])
        have sb := Same.upd hl2 (.lst (List.replicate (3 : Int).toNat [V.str "hole", .str "box", .str "pick"]).flatten)
        have sc := Same.upd hl3 (.lst [V.str "all", .str "none", .str "as"])
        refine ⟨_, _, sc _ _ upd_same, upd_same, (show 12 ≤ sizeLine by decide), fun l4 hl4 => ?_⟩
        have sd := Same.upd hl4 (.lst ((List.replicate (3 : Int).toNat [V.str "hole", .str "box", .str "pick"]).flatten ++ [V.str "all", .str "none", .str "as"]))
        have s5 : Same H4 _ := ((sa.trans sb).trans sc).trans sd
        have g4 : upd (upd (upd (upd H4 l1 (.lst [V.str "hole", .str "box", .str "pick"])) l2 (.lst (List.replicate (3 : Int).toNat [V.str "hole", .str "box", .str "pick"]).flatten)) l3 (.lst [V.str "all", .str "none", .str "as"])) l4 (.lst ((List.replicate (3 : Int).toNat [V.str "hole", .str "box", .str "pick"]).flatten ++ [V.str "all", .str "none", .str "as"])) l4 = some (.lst ((["hole", "box", "pick", "hole", "box", "pick", "hole", "box", "pick", "all", "none", "as"] : List Str).map V.str)) := upd_same
        have nl4p : l4 ≠ p := (((hp4.same sa).same sb).same sc).ne1 hl4
        have nl4w : l4 ≠ w' := (((hp4.same sa).same sb).same sc).ne2 hl4
        generalize upd (upd (upd (upd H4 l1 (.lst [V.str "hole", .str "box", .str "pick"])) l2 (.lst (List.replicate (3 : Int).toNat [V.str "hole", .str "box", .str "pick"]).flatten)) l3 (.lst [V.str "all", .str "none", .str "as"])) l4 (.lst ((List.replicate (3 : Int).toNat [V.str "hole", .str "box", .str "pick"]).flatten ++ [V.str "all", .str "none", .str "as"])) = H5 at s5 g4
        have hp5 := hp4.same s5
        refine ⟨p, w', 12, _, rfl, hp5, ⟨by decide, by decide⟩, by show t + 21 + 60 * i < 1000000000000; omega, fun r H6 a0 a1 hp6 sm6 => ?_⟩
        have g46 := sm6 _ _ g4 nl4p nl4w
        obtain ⟨sort, hsa, hsm⟩ : ∃ sort : Str, atI ((["hole", "box", "pick", "hole", "box", "pick", "hole", "box", "pick", "all", "none", "as"] : List Str).map V.str) r = some (.str sort) ∧ sort ∈ (["hole", "box", "pick", "all", "none", "as"] : List Str) := by
          obtain ⟨c, hc1, hc2⟩ := atI_some ((["hole", "box", "pick", "hole", "box", "pick", "hole", "box", "pick", "all", "none", "as"] : List Str).map V.str) r a0 a1
          obtain ⟨z, hz, rfl⟩ := List.mem_map.mp (List.mem_of_getElem? hc1)
          exact ⟨z, hc2, (by decide : ∀ z ∈ (["hole", "box", "pick", "hole", "box", "pick", "hole", "box", "pick", "all", "none", "as"] : List Str), z ∈ (["hole", "box", "pick", "all", "none", "as"] : List Str)) z hz⟩
        refine ⟨_, _, .inl (SqL.of g46), hsa, ?_⟩
        have sm46 : Sm p w' H4 H6 := s5.sm.trans sm6
        have sm06 : Sm p w' H H6 := sm4.trans sm46
        have tk36 : Tk H3 H6 := s4.ts.trans (s5.ts.trans (hp5.ts sm6))
        have qR6 : H6 R = some (.lst xs) := sm6 _ _ (s5 _ _ (s4 _ _ q1)) nRp nRw
        have rv6 := q2.tk tk36
        have tL6 := ((q5.same s4).same s5).sm hp5 sm6
        have hxl : xs.length = i := by
          have h1 := q2.len
          have h2 := congrArg List.length q3
          simp at h2
          omega
        have hrl : rows.length = xs.length := q2.len.symm
        dsimp only
        refine tSeq_by (fun σ' H7 => ∃ sort' : Str, σ' = [some (.ref p), some (.ref wd), some (.ref L), some (.ref R), some (.int (i : Int)), some (.str nm), some (.str sort'), v9, none] ∧ sort' ∈ (["hole", "box", "pick", "all", "none", "as"] : List Str) ∧ (sort' = "hole" → rows.countP (fun r => r.2.hol) ≤ 5) ∧ Same H6 H7) ?_ ?_
        · intro nx' hnx'
          refine ⟨rfl, _, rfl, ?_⟩
          rw [Bool.false_xor, decV_str]
          refine iteB (fun h1 => ?_) (fun h1 => ?_)
          rotate_left
          · exact hnx' _ _ ⟨sort, rfl, hsm, fun z => by rw [z] at h1; exact absurd h1 (by decide), Same.refl _⟩
          refine Or.inl ⟨⟨_, SqL.of qR6⟩, fun D hD => ?_⟩
          refine lc_by (itn_list xs) (fun j τ H7 => ∃ (us : List V) (v : Option V), τ = [v] ∧ H7 D = some (.lst us) ∧ us.length = (rows.take j).countP (fun r => r.2.hol) ∧ us.length ≤ j ∧ Same H6 H7) ⟨[], none, rfl, upd_same, rfl, by simp, Same.upd hD _⟩ (by rintro j τ H7 _ ⟨_, _, _, _, _, _, s7⟩; exact SqL.of (s7 _ _ qR6)) ?_ ?_
          · rintro j τ H7 hj ⟨us, v, rfl, u1, u2, u2', u3⟩
            have hj' : j < rows.length := by omega
            obtain ⟨b, hv, e1, e2, e3⟩ := rv6.at_ j hj hj'
            have eg : xs.getD j .non = .ref b := by rw [List.getD_eq_getElem?_getD, List.getElem?_eq_getElem hj, e1]; rfl
            rw [eg]
            have hdv := e3.dd' (q4 _ (List.getElem_mem hj')).1
            have ec : (rows.take (j + 1)).countP (fun r => r.2.hol) = (rows.take j).countP (fun r => r.2.hol) + if rows[j].2.hol then 1 else 0 := by
              rw [List.take_add_one, List.getElem?_eq_getElem hj', List.countP_append]
              simp [List.countP_cons]
            refine ⟨_, hv, .inr (SqT.of (u3 _ _ e2)), rfl, (show 1 ≤ sizeLine by decide), fun c hc => ?_⟩
            have sc := Same.upd hc (.tup [.str "hole"])
            refine ⟨_, c, "hole", hdv.same (u3.trans sc), rfl, SqT.of upd_same, _, rfl, ?_⟩
            rw [Hd.hol_dt]
            rw [ec]
            cases rows[j].2.hol with
            | true =>
              refine iteT ⟨us, sc _ _ u1, by omega, us ++ [.ref b], _, rfl, upd_same, by simp [u2], by simp; omega, (u3.trans sc).put hD⟩
            | false => exact iteF ⟨us, _, rfl, sc _ _ u1, by simp [u2], by omega, u3.trans sc⟩
          · rintro τ H7 ⟨us, v, rfl, u1, u2, u2', u3⟩
            rw [List.take_of_length_le (by omega)] at u2
            refine Or.inl ⟨us, .inl (SqL.of u1), _, rfl, ?_⟩
            refine iteB (fun h2 => ?_) (fun h2 => ?_)
            · exact hnx' _ _ ⟨"box", rfl, by decide, fun z => absurd z (by decide), u3⟩
            · have := of_decide_eq_false h2
              exact hnx' _ _ ⟨sort, rfl, hsm, fun _ => by omega, u3⟩
        rintro σ' H7 ⟨sort', rfl, hsm', hcnt, s7⟩
        have hp7 := hp6.same s7
        have tL7 := tL6.same s7
        have sm07 : Sm p w' H H7 := sm06.trans s7.sm
        have tk37 := tk36.trans s7.ts
        refine tSeq_set ⟨p, w', wd, L, sort', _, ws, ns, rfl, hp7, by show t + 21 + 60 * i + 1 + 40 < 1000000000000; omega, hw.sm hp sm07, hw10, hwn, tL7, fun z hz => (hwd z hz).1, ?_, fun b ys H8 hb hys hhd htb hp8 sm8 => ?_⟩
        · simp only [List.mem_cons, List.mem_nil_iff, or_false] at hsm' ⊢
          rcases hsm' with h | h | h | h | h | h <;> simp [h]
        have sm08 : Sm p w' H H8 := sm07.trans sm8
        have tk38 : Tk H3 H8 := tk37.trans (hp7.ts sm8)
        have tL8 := tL7.sm hp7 sm8
        have qR8 : H8 R = some (.lst xs) := sm8 _ _ (s7 _ _ qR6) nRp nRw
        dsimp only
        refine tSeq_by (fun σ' H9 => ∃ (hv : V) (hd : Hd), σ' = [some (.ref p), some (.ref wd), some (.ref L), some (.ref R), some (.int (i : Int)), some (.str nm), some (.str sort'), some hv, none] ∧ HV H9 hv hd ∧ HdH ns ws nm hd ∧ (hd.hol = true → rows.countP (fun r => r.2.hol) ≤ 5) ∧ Tk H8 H9 ∧ H9 R = some (.lst xs) ∧ TxtsAt H9 L ns ∧ PenAt H9 p w' (t + 21 + 60 * i + 50) ∧ Sm p w' H H9) ?_ ?_
        · intro nx' hnx'
          refine ⟨rfl, _, rfl, ?_⟩
          rw [Bool.false_xor, decV_str]
          refine iteB (fun h1 => ?_) (fun h1 => ?_)
          · refine ⟨rfl, _, rfl, iteB (fun h2 => ?_) (fun h2 => ?_)⟩
            · rw [Bool.false_xor, decV_int] at h2
              have hi0 : i = 0 := by have := of_decide_eq_true h2; omega
              have hr0 : rows = [] := List.length_eq_zero_iff.mp (by omega)
              refine ⟨(show 1 ≤ sizeLine by decide), fun c hc => ?_⟩
              refine hnx' _ _ ⟨.ref c, .one "hole", rfl, (hole_hdH (ns := ns) (ws := ws) (n := nm) upd_same).1, (hole_hdH (ns := ns) (ws := ws) (n := nm) (b := c) (upd_same (H := H8))).2, fun _ => by rw [hr0]; decide, (Same.upd hc _).ts, (Same.upd hc _) _ _ qR8, tL8.same (Same.upd hc _), (hp8.same (Same.upd hc _)).mono (by omega), sm08.trans (Same.upd hc _).sm⟩
            · rw [Bool.false_xor, decV_int] at h2
              have hi0 : 0 < i := by have := of_decide_eq_false h2; omega
              refine ⟨p, w', (i : Int), _, rfl, hp8, ⟨by omega, by omega⟩, by show t + 21 + 60 * i + 1 + 40 < 1000000000000; omega, fun r2 H9 b0 b1 hp9 sm9 => ?_⟩
              have tL9 := tL8.sm hp8 sm9
              obtain ⟨y, hya, hyi, hyw⟩ := tL9.at r2 b0 (by omega)
              refine ⟨_, _, .inl (SqL.of tL9.e), hya, (show 2 ≤ sizeLine by decide), fun c hc => ?_⟩
              have hgd : HdH ns ws nm (.as y) := ⟨⟨(hwd _ (List.mem_of_getElem? hyi)).1, List.mem_of_getElem? hyi⟩, (fun y' e => by cases e; exact ⟨r2.toNat, i, by omega, hyi, hni⟩), (fun _ h => nomatch h), rfl⟩
              exact hnx' _ _ ⟨.ref c, .as y, rfl, .as upd_same, hgd, (fun z => by cases z), (hp8.ts sm9).trans (Same.upd hc _).ts, (Same.upd hc _) _ _ (sm9 _ _ qR8 nRp nRw), tL9.same (Same.upd hc _), (hp9.same (Same.upd hc _)).mono (by omega), (sm08.trans sm9).trans (Same.upd hc _).sm⟩
          · have hne : sort' ≠ "as" := fun e => by rw [e] at h1; exact absurd h1 (by decide)
            by_cases hh : sort' = "hole"
            · have hy := hys hh
              rw [hy, hh] at hb
              exact hnx' _ _ ⟨.ref b, .one "hole", rfl, (hole_hdH (ns := ns) (ws := ws) (n := nm) hb).1, (hole_hdH (ns := ns) (ws := ws) (n := nm) hb).2, fun _ => hcnt hh, Tk.refl, qR8, tL8, hp8.mono (by omega), sm08⟩
            · have hg := (hhd hne hh).imp (P' := Ahd ns nm) (fun o e y e' => by rw [e] at e'; cases e')
              obtain ⟨d, d1, d2, d3⟩ := hg.hdH hb (fun z => by rw [z] at hsm'; exact absurd hsm' (by decide))
              exact hnx' _ _ ⟨.ref b, d, rfl, d1, d2, (fun z => by rw [d3] at z; cases z), Tk.refl, qR8, tL8, hp8.mono (by omega), sm08⟩
        rintro σ' H9 ⟨hv, hd, rfl, g1, gd, gc, g3, g4', g5, g6, g7⟩
        refine ⟨.inl ⟨rfl, _, SqL.of g4'⟩, (show 2 ≤ sizeLine by decide), fun c hc => ?_⟩
        have ncR : R ≠ c := ne_of_none g4' hc
        refine ⟨R, xs, .ref c, rfl, rfl, by rw [upd_ne ncR]; exact g4', by omega, ?_⟩
        have tk9 : Tk H9 (upd (upd H9 c (.tup [.str nm, hv])) R (.lst (xs ++ [.ref c]))) := ((Same.upd hc _).ts).set (by rw [upd_ne ncR]; exact g4') (by intro _ z; cases z)
        have hc9 : upd (upd H9 c (.tup [.str nm, hv])) R (.lst (xs ++ [.ref c])) c = some (.tup [.str nm, hv]) := by rw [upd_ne ncR.symm]; exact upd_same
        have tk39 : Tk H3 (upd (upd H9 c (.tup [.str nm, hv])) R (.lst (xs ++ [.ref c]))) := (tk38.trans g3).trans tk9
        refine ⟨_, _, _, _, xs ++ [.ref c], rows ++ [(nm, hd)], rfl, upd_same, (q2.tk tk39).snoc hc9 (g1.tk tk9), ?_, fun r hr => ?_, ?_, ⟨by rw [upd_ne nRL.symm, upd_ne (ne_of_none g5.e hc)]; exact g5.e, g5.ne, g5.few, g5.wd⟩, ((g6.same (Same.upd hc _)).upd nRp nRw).mono (by omega), (g7.trans (Same.upd hc _).sm).upd hR0⟩
        · rw [List.map_append, q3, List.take_add_one, hni]; rfl
        · rcases List.mem_append.mp hr with hr | hr
          · exact q4 r hr
          · rw [List.mem_singleton.mp hr]; exact gd
        · rw [List.countP_append, List.countP_singleton]
          cases e9 : hd.hol with
          | true => simpa using gc e9
          | false => simpa using qc
      · rintro σ' H' ⟨v6, v7, v8, v9, xs, rows, rfl, q1, q2, q3, q4, qc, q5, q6, q7⟩
        rw [List.length_map, List.take_length] at q3
        rw [List.length_map] at q6
        exact hnx _ _ ⟨v6, v7, v8, v9, xs, rows, rfl, q1, q2, q3, q4, qc, q6.mono (by omega), q7⟩
    · rintro σ' H3 ⟨v6, v7, v8, v9, xs, rows, rfl, q1, q2, q3, q4, qc, q6, q7⟩
      have hrl : rows.length = ns.length := by rw [← q3, List.length_map]
      have hxl : xs.length = rows.length := q2.len
      refine tSeq_set (.inl ⟨_, .inl (SqL.of q1), p, w', _, _, rfl, q6, ⟨by omega, by omega⟩, by show t + 21 + 60 * 10 < 1000000000000; omega, fun r H4 a0 a1 hp4 sm4 => ?_⟩)
      have g1 : H4 R = some (.lst xs) := sm4 _ _ q1 nRp nRw
      have er : r = ((r.toNat : Nat) : Int) := by omega
      refine ⟨r, rfl, Or.inr (Or.inl ⟨R, xs, rfl, SqL.of g1, fun p1 hp1' => ?_⟩)⟩
      have n1R : R ≠ p1 := ne_of_none g1 hp1'
      refine ⟨r, rfl, Or.inr (Or.inl ⟨R, xs, rfl, SqL.of (by rw [upd_ne n1R]; exact g1), fun p2 hp2' => ?_⟩)⟩
      have n12 : p1 ≠ p2 := fun e => by rw [← e, upd_same] at hp2'; cases hp2'
      refine ⟨_, _, by rw [upd_ne n12]; exact upd_same, upd_same, ?_, fun p3 hp3' => ⟨p3, _, rfl, .inl ⟨SqL.of upd_same, fun a ha => ?_⟩⟩⟩
      · have h1 := cutV_length xs (some r) none
        have h2 := cutV_length xs none (some r)
        omega
      · have e1 : cutV xs (some r) none = xs.drop r.toNat := by rw [er]; exact cut_from xs r.toNat
        have e2 : cutV xs none (some r) = xs.take r.toNat := by rw [er]; exact cut_to xs r.toNat
        rw [e1, e2] at ha ⊢
        have s5 := (((Same.upd hp1' (.lst (xs.drop r.toNat))).trans (Same.upd (by rw [e1] at hp2'; exact hp2') (.lst (xs.take r.toNat)))).trans (Same.upd (by rw [e1, e2] at hp3'; exact hp3') (.lst (xs.drop r.toNat ++ xs.take r.toNat)))).trans (Same.upd ha (.tup (xs.drop r.toNat ++ xs.take r.toNat)))
        have tk5 := (q6.ts sm4).trans s5.ts
        have pm := perm_rot rows r.toNat
        have pmn : ((rows.drop r.toNat ++ rows.take r.toNat).map (·.1)).Perm ns := by rw [← q3]; exact pm.map _
        have q4' : ∀ x ∈ rows.drop r.toNat ++ rows.take r.toNat, HdH ns ws x.1 x.2 := fun x hx => q4 x (pm.mem_iff.mp hx)
        refine k a _ (rows.drop r.toNat ++ rows.take r.toNat) ns _ ⟨upd_same, (q2.tk tk5).rot r.toNat, pmn, hnd, fun x hx => ?_, fun n hn => (hwd n hn).2, fun x hx => (q4' x hx).2.1, fun x hx => (q4' x hx).2.2.1, by omega, by omega, fun x hx => (q4' x hx).2.2.2, by rw [pm.countP_eq]; exact qc⟩ ⟨by omega, by omega⟩ ((hp4.same s5).mono (by omega)) ((q7.trans sm4).trans s5.sm)
        obtain ⟨x', hx', rfl⟩ := List.mem_map.mp hx
        exact ⟨(hwd _ (pmn.mem_iff.mp (List.mem_map.mpr ⟨x', hx', rfl⟩))).1, (q4' x' hx').1⟩
def spBadHeads : Sp := fun vs H Q _ => ∃ (P : Addr → Prop) (name other : Str) (W : Addr) (w0 w1 : Str) (wr : List Str), vs = [.str name, .str other, .ref W] ∧ (∀ a, H a = none → P a) ∧ Wd name ∧ Wd other ∧ H W = some (.lst ((w0 :: w1 :: wr).map V.str)) ∧ Wd w0 ∧ Wd w1 ∧
  ∀ (L : Addr) (us : List V) (H' : Hp), H L = none → Same H H' → H' L = some (.lst us) → us.length = 14 → (∀ u ∈ us, ∃ m, DB P H' m u 4 (BB 4)) → Q (.ref L) H'
theorem bad_first {P : Addr → Prop} {ta : TA} {u : TS} {D : Ends} {σ : St} {H : Hp} {c : Nat} (τ : Option V → St) (hτ : ∀ v, σ.set 3 v = τ v) (g : GdL P σ H ta 4 c) (hlen : c ≤ 1000)
    (h : ∀ (L' : Addr) (us' : List V) (H' : Hp), H L' = none → Same H H' → H' L' = some (.lst us') → us'.length = c → (∃ Hm, Same H Hm ∧ Same Hm H' ∧ Hm L' = none ∧ ∀ x ∈ us', ∃ m, DB P Hm m x 4 (BB 4)) → u D (τ (some (.ref L'))) H') : tSeq (tAsg (tLst ta) (gName 3)) u D σ H := by
  have hsz : sizeLine = 16777216 := sizeLine_eq
  simp only [← hτ] at h
  refine tSeq_set (g H _ (Same.refl H) fun vs H1 s1 hl hv => ⟨by omega, fun p hp => h p vs _ (s1.free hp) (s1.trans (Same.upd hp _)) upd_same hl ⟨H1, s1, Same.upd hp _, hp, hv⟩⟩)
theorem bad_step {P : Addr → Prop} {ta : TA} {u : TS} {D : Ends} {σ : St} {H : Hp} {L : Addr} {us : List V} {c : Nat} (τ : Option V → St) (hτ : ∀ v, σ.set 3 v = τ v) (g : GdL P σ H ta 4 c) (hσ : σ[3]? = some (some (.ref L))) (gL : H L = some (.lst us)) (hus : ∃ Hm, Same Hm H ∧ ∀ x ∈ us, ∃ m, DB P Hm m x 4 (BB 4)) (hlen : us.length + c ≤ 1000)
    (h : ∀ (L' : Addr) (us' : List V) (H' : Hp), H L' = none → Same H H' → H' L' = some (.lst us') → us'.length = us.length + c → (∃ Hm, Same H Hm ∧ Same Hm H' ∧ Hm L' = none ∧ ∀ x ∈ us', ∃ m, DB P Hm m x 4 (BB 4)) → u D (τ (some (.ref L'))) H') : tSeq (tAsg (tOp rAddD (tV 3) (tLst ta)) (gName 3)) u D σ H := by
  have hsz : sizeLine = 16777216 := sizeLine_eq
  simp only [← hτ] at h
  refine tSeq_set (tV_i hσ (g H _ (Same.refl H) fun vs H1 s1 hl hv => ⟨by omega, fun p hp => ?_⟩))
  have s2 := s1.trans (Same.upd hp (.lst vs))
  obtain ⟨Hm, sm, hus⟩ := hus
  refine ⟨us, vs, s2 _ _ gL, upd_same, by omega, fun q hq => h q (us ++ vs) _ (s2.free hq) (s2.trans (Same.upd hq _)) upd_same (by simp [hl]) ⟨_, s2, Same.upd hq _, hq, fun x hx => ?_⟩⟩
  rcases List.mem_append.mp hx with hx | hx
  · obtain ⟨m, hm⟩ := hus x hx
    exact ⟨m, hm.same (sm.trans s2)⟩
  · obtain ⟨m, hm⟩ := hv x hx
    exact ⟨m, hm.same (Same.upd hp _)⟩
theorem ok_law_tbad_heads (T : Txt K mg w) : FnK P w K mg base 1 "_law_tbad_heads" ["name", "other", "words"] spBadHeads := by
  refine T.t_law_tbad_heads.okS sc_law_tbad_heads (fun vs H Q E h => ?_) (fun f cdv A outer s H vs Q E hr h => ?_)
  · obtain ⟨PA, name, other, W, w0, w1, wr, rfl, _⟩ := h
    rfl
  · obtain ⟨PA, name, other, W, w0, w1, wr, rfl, hPA, hn, ho, gW, hw0, hw1, k⟩ := h
    have hsz : sizeLine = 16777216 := sizeLine_eq
    refine ⟨_, (sb_cons (s_set (i := 3) sc_law_tbad_heads.nd rfl (Or.inl rfl) (z_lst (sa_Tuple (z_tup (sa_Constant z_str (sa_Constant z_str sa_nil))) (sa_Tuple (z_tup (sa_Constant z_str (sa_Tuple (z_tup (sa_Tuple (z_tup (sa_Subscript (z_ix (ix_K K) (zv 2) z_int (fun _ _ => rfl)) (sa_Constant z_str sa_nil))) sa_nil)) sa_nil))) (sa_Tuple (z_tup (sa_Constant z_str (sa_Name (zv 0) sa_nil))) (sa_Tuple (z_tup (sa_Constant z_str (sa_List (z_lst (sa_Name (zv 0) sa_nil)) sa_nil))) sa_nil))))))
      (sb_cons (s_set (i := 3) sc_law_tbad_heads.nd rfl (Or.inl rfl) (z_op op_addD (zv 3) (z_lst (sa_Tuple (z_tup (sa_Constant z_str (sa_Tuple (z_tup (sa_Tuple (z_tup (sa_Subscript (z_ix (ix_K K) (zv 2) z_int (fun _ _ => rfl)) (sa_Dict z_dnew sa_nil))) sa_nil)) sa_nil))) (sa_Tuple (z_tup (sa_Constant z_str (sa_Tuple (z_tup (sa_Tuple (z_tup (sa_Constant z_int (sa_Name (zv 0) sa_nil))) (sa_Tuple (z_tup (sa_Subscript (z_ix (ix_K K) (zv 2) z_int (fun _ _ => rfl)) (sa_Name (zv 0) sa_nil))) sa_nil))) sa_nil))) (sa_Tuple (z_tup (sa_Constant z_str (sa_Dict z_dnew sa_nil))) sa_nil))))))
      (sb_cons (s_set (i := 3) sc_law_tbad_heads.nd rfl (Or.inl rfl) (z_op op_addD (zv 3) (z_lst (sa_Tuple (z_tup (sa_Constant z_str (sa_Tuple (z_tup (sa_Tuple (z_tup (sa_Subscript (z_ix (ix_K K) (zv 2) z_int (fun _ _ => rfl)) (sa_Name (zv 0) sa_nil))) (sa_Constant z_non sa_nil))) sa_nil))) (sa_Tuple (z_tup (sa_Constant z_str (sa_Tuple (z_tup (sa_Tuple (z_tup (sa_Subscript (z_ix (ix_K K) (zv 2) z_int (fun _ _ => rfl)) (sa_Name (zv 0) sa_nil))) (sa_Tuple (z_tup (sa_List (z_lst (sa_Subscript (z_ix (ix_K K) (zv 2) z_int (fun _ _ => rfl)) sa_nil)) (sa_Name (zv 1) sa_nil))) sa_nil))) sa_nil))) sa_nil)))))
      (sb_cons (s_set (i := 3) sc_law_tbad_heads.nd rfl (Or.inl rfl) (z_op op_addD (zv 3) (z_lst (sa_Tuple (z_tup (sa_Constant z_str (sa_Tuple (z_tup (sa_Tuple (z_tup (sa_Subscript (z_ix (ix_K K) (zv 2) z_int (fun _ _ => rfl)) (sa_Name (zv 0) sa_nil))) (sa_Tuple (z_tup (sa_Subscript (z_ix (ix_K K) (zv 2) z_int (fun _ _ => rfl)) sa_nil)) sa_nil))) sa_nil))) (sa_Tuple (z_tup (sa_Constant z_str (sa_Tuple (z_tup (sa_Tuple (z_tup (sa_Constant z_str (sa_Name (zv 0) sa_nil))) (sa_Tuple (z_tup (sa_Subscript (z_ix (ix_K K) (zv 2) z_int (fun _ _ => rfl)) (sa_Name (zv 0) sa_nil))) sa_nil))) sa_nil))) sa_nil)))))
      (sb_cons (s_set (i := 3) sc_law_tbad_heads.nd rfl (Or.inl rfl) (z_op op_addD (zv 3) (z_lst (sa_Tuple (z_tup (sa_Constant z_str (sa_Tuple (z_tup (sa_Tuple (z_tup (sa_Subscript (z_ix (ix_K K) (zv 2) z_int (fun _ _ => rfl)) (sa_Name (zv 0) sa_nil))) (sa_Tuple (z_tup (sa_Subscript (z_ix (ix_K K) (zv 2) z_int (fun _ _ => rfl)) (sa_Name (zv 1) (sa_Name (zv 1) sa_nil)))) sa_nil))) sa_nil))) sa_nil))))
      (sb_cons (s_set (i := 3) sc_law_tbad_heads.nd rfl (Or.inl rfl) (z_op op_addD (zv 3) (z_lst (sa_Tuple (z_tup (sa_Constant z_str (sa_Tuple (z_tup (sa_Tuple (z_tup (sa_Subscript (z_ix (ix_K K) (zv 2) z_int (fun _ _ => rfl)) (sa_Name (zv 0) sa_nil))) (sa_Tuple (z_tup (sa_Subscript (z_ix (ix_K K) (zv 2) z_int (fun _ _ => rfl)) (sa_Name (zv 0) sa_nil))) sa_nil))) sa_nil))) (sa_Tuple (z_tup (sa_Constant z_str (sa_Tuple (z_tup (sa_Tuple (z_tup (sa_Subscript (z_ix (ix_K K) (zv 2) z_int (fun _ _ => rfl)) (sa_Name (zv 0) sa_nil))) (sa_Tuple (z_tup (sa_Subscript (z_ix (ix_K K) (zv 2) z_int (fun _ _ => rfl)) (sa_Name (zv 0) sa_nil))) sa_nil))) sa_nil))) sa_nil)))))
      (sb_one (s_ret (zv 3))))))))), ?_⟩
    have gW' : H W = some (.lst (V.str w0 :: V.str w1 :: wr.map V.str)) := gW
    refine bad_first (P := PA) (fun v => [some (.str name), some (.str other), some (.ref W), v]) (fun v => rfl) (c := 4) (by repeat' (first | with_reducible exact gdl_nil | (refine gdl_cons ⟨true, ?_⟩ ?_; (focus ((repeat' (first | with_reducible exact gda_nil | with_reducible apply gda_cons | ((with_reducible show Gd _ _ _ _ (tV _) _); exact gd_v rfl (fun m => DB.str (by assumption))) | ((with_reducible show Gd _ _ _ _ (tOp _ _ _) _); (first | exact gd_ix0 rfl (by assumption) (by assumption) | exact gd_ix1 rfl (by assumption) (by assumption))) | ((with_reducible apply gd_c); intro H; first | exact DB.str (wd_ascii (by decide) (by decide)) | exact DB.non | exact DB.int (by decide) (by decide)) | with_reducible apply gd_tup | with_reducible apply gd_lst | with_reducible apply gd_dn | assumption | decide)); done))) | (refine gdl_cons ⟨false, ?_⟩ ?_; (focus ((repeat' (first | with_reducible exact gda_nil | with_reducible apply gda_cons | ((with_reducible show Gd _ _ _ _ (tV _) _); exact gd_v rfl (fun m => DB.str (by assumption))) | ((with_reducible show Gd _ _ _ _ (tOp _ _ _) _); (first | exact gd_ix0 rfl (by assumption) (by assumption) | exact gd_ix1 rfl (by assumption) (by assumption))) | ((with_reducible apply gd_c); intro H; first | exact DB.str (wd_ascii (by decide) (by decide)) | exact DB.non | exact DB.int (by decide) (by decide)) | with_reducible apply gd_tup | with_reducible apply gd_lst | with_reducible apply gd_dn | assumption | decide)); done))))) (by decide) fun L0 us0 H0 f0 s0 g0 l0 ⟨Hm0, sa0, sb0, fr0, d0⟩ => ?_
    have hP0 : ∀ a, H0 a = none → PA a := fun a ha => hPA a ((s0).free ha)
    have gW0 := s0 _ _ gW'
    refine bad_step (P := PA) (fun v => [some (.str name), some (.str other), some (.ref W), v]) (fun v => rfl) (c := 3) (by repeat' (first | with_reducible exact gdl_nil | (refine gdl_cons ⟨true, ?_⟩ ?_; (focus ((repeat' (first | with_reducible exact gda_nil | with_reducible apply gda_cons | ((with_reducible show Gd _ _ _ _ (tV _) _); exact gd_v rfl (fun m => DB.str (by assumption))) | ((with_reducible show Gd _ _ _ _ (tOp _ _ _) _); (first | exact gd_ix0 rfl (by assumption) (by assumption) | exact gd_ix1 rfl (by assumption) (by assumption))) | ((with_reducible apply gd_c); intro H; first | exact DB.str (wd_ascii (by decide) (by decide)) | exact DB.non | exact DB.int (by decide) (by decide)) | with_reducible apply gd_tup | with_reducible apply gd_lst | with_reducible apply gd_dn | assumption | decide)); done))) | (refine gdl_cons ⟨false, ?_⟩ ?_; (focus ((repeat' (first | with_reducible exact gda_nil | with_reducible apply gda_cons | ((with_reducible show Gd _ _ _ _ (tV _) _); exact gd_v rfl (fun m => DB.str (by assumption))) | ((with_reducible show Gd _ _ _ _ (tOp _ _ _) _); (first | exact gd_ix0 rfl (by assumption) (by assumption) | exact gd_ix1 rfl (by assumption) (by assumption))) | ((with_reducible apply gd_c); intro H; first | exact DB.str (wd_ascii (by decide) (by decide)) | exact DB.non | exact DB.int (by decide) (by decide)) | with_reducible apply gd_tup | with_reducible apply gd_lst | with_reducible apply gd_dn | assumption | decide)); done))))) rfl g0 ⟨Hm0, sb0, d0⟩ (by omega) fun L1 us1 H1 f1 s1 g1 l1 ⟨Hm1, sa1, sb1, fr1, d1⟩ => ?_
    have hP1 : ∀ a, H1 a = none → PA a := fun a ha => hPA a (((s0).trans s1).free ha)
    have gW1 := s1 _ _ gW0
    refine bad_step (P := PA) (fun v => [some (.str name), some (.str other), some (.ref W), v]) (fun v => rfl) (c := 2) (by repeat' (first | with_reducible exact gdl_nil | (refine gdl_cons ⟨true, ?_⟩ ?_; (focus ((repeat' (first | with_reducible exact gda_nil | with_reducible apply gda_cons | ((with_reducible show Gd _ _ _ _ (tV _) _); exact gd_v rfl (fun m => DB.str (by assumption))) | ((with_reducible show Gd _ _ _ _ (tOp _ _ _) _); (first | exact gd_ix0 rfl (by assumption) (by assumption) | exact gd_ix1 rfl (by assumption) (by assumption))) | ((with_reducible apply gd_c); intro H; first | exact DB.str (wd_ascii (by decide) (by decide)) | exact DB.non | exact DB.int (by decide) (by decide)) | with_reducible apply gd_tup | with_reducible apply gd_lst | with_reducible apply gd_dn | assumption | decide)); done))) | (refine gdl_cons ⟨false, ?_⟩ ?_; (focus ((repeat' (first | with_reducible exact gda_nil | with_reducible apply gda_cons | ((with_reducible show Gd _ _ _ _ (tV _) _); exact gd_v rfl (fun m => DB.str (by assumption))) | ((with_reducible show Gd _ _ _ _ (tOp _ _ _) _); (first | exact gd_ix0 rfl (by assumption) (by assumption) | exact gd_ix1 rfl (by assumption) (by assumption))) | ((with_reducible apply gd_c); intro H; first | exact DB.str (wd_ascii (by decide) (by decide)) | exact DB.non | exact DB.int (by decide) (by decide)) | with_reducible apply gd_tup | with_reducible apply gd_lst | with_reducible apply gd_dn | assumption | decide)); done))))) rfl g1 ⟨Hm1, sb1, d1⟩ (by omega) fun L2 us2 H2 f2 s2 g2 l2 ⟨Hm2, sa2, sb2, fr2, d2⟩ => ?_
    have hP2 : ∀ a, H2 a = none → PA a := fun a ha => hPA a ((((s0).trans s1).trans s2).free ha)
    have gW2 := s2 _ _ gW1
    refine bad_step (P := PA) (fun v => [some (.str name), some (.str other), some (.ref W), v]) (fun v => rfl) (c := 2) (by repeat' (first | with_reducible exact gdl_nil | (refine gdl_cons ⟨true, ?_⟩ ?_; (focus ((repeat' (first | with_reducible exact gda_nil | with_reducible apply gda_cons | ((with_reducible show Gd _ _ _ _ (tV _) _); exact gd_v rfl (fun m => DB.str (by assumption))) | ((with_reducible show Gd _ _ _ _ (tOp _ _ _) _); (first | exact gd_ix0 rfl (by assumption) (by assumption) | exact gd_ix1 rfl (by assumption) (by assumption))) | ((with_reducible apply gd_c); intro H; first | exact DB.str (wd_ascii (by decide) (by decide)) | exact DB.non | exact DB.int (by decide) (by decide)) | with_reducible apply gd_tup | with_reducible apply gd_lst | with_reducible apply gd_dn | assumption | decide)); done))) | (refine gdl_cons ⟨false, ?_⟩ ?_; (focus ((repeat' (first | with_reducible exact gda_nil | with_reducible apply gda_cons | ((with_reducible show Gd _ _ _ _ (tV _) _); exact gd_v rfl (fun m => DB.str (by assumption))) | ((with_reducible show Gd _ _ _ _ (tOp _ _ _) _); (first | exact gd_ix0 rfl (by assumption) (by assumption) | exact gd_ix1 rfl (by assumption) (by assumption))) | ((with_reducible apply gd_c); intro H; first | exact DB.str (wd_ascii (by decide) (by decide)) | exact DB.non | exact DB.int (by decide) (by decide)) | with_reducible apply gd_tup | with_reducible apply gd_lst | with_reducible apply gd_dn | assumption | decide)); done))))) rfl g2 ⟨Hm2, sb2, d2⟩ (by omega) fun L3 us3 H3 f3 s3 g3 l3 ⟨Hm3, sa3, sb3, fr3, d3⟩ => ?_
    have hP3 : ∀ a, H3 a = none → PA a := fun a ha => hPA a (((((s0).trans s1).trans s2).trans s3).free ha)
    have gW3 := s3 _ _ gW2
    refine bad_step (P := PA) (fun v => [some (.str name), some (.str other), some (.ref W), v]) (fun v => rfl) (c := 1) (by repeat' (first | with_reducible exact gdl_nil | (refine gdl_cons ⟨true, ?_⟩ ?_; (focus ((repeat' (first | with_reducible exact gda_nil | with_reducible apply gda_cons | ((with_reducible show Gd _ _ _ _ (tV _) _); exact gd_v rfl (fun m => DB.str (by assumption))) | ((with_reducible show Gd _ _ _ _ (tOp _ _ _) _); (first | exact gd_ix0 rfl (by assumption) (by assumption) | exact gd_ix1 rfl (by assumption) (by assumption))) | ((with_reducible apply gd_c); intro H; first | exact DB.str (wd_ascii (by decide) (by decide)) | exact DB.non | exact DB.int (by decide) (by decide)) | with_reducible apply gd_tup | with_reducible apply gd_lst | with_reducible apply gd_dn | assumption | decide)); done))) | (refine gdl_cons ⟨false, ?_⟩ ?_; (focus ((repeat' (first | with_reducible exact gda_nil | with_reducible apply gda_cons | ((with_reducible show Gd _ _ _ _ (tV _) _); exact gd_v rfl (fun m => DB.str (by assumption))) | ((with_reducible show Gd _ _ _ _ (tOp _ _ _) _); (first | exact gd_ix0 rfl (by assumption) (by assumption) | exact gd_ix1 rfl (by assumption) (by assumption))) | ((with_reducible apply gd_c); intro H; first | exact DB.str (wd_ascii (by decide) (by decide)) | exact DB.non | exact DB.int (by decide) (by decide)) | with_reducible apply gd_tup | with_reducible apply gd_lst | with_reducible apply gd_dn | assumption | decide)); done))))) rfl g3 ⟨Hm3, sb3, d3⟩ (by omega) fun L4 us4 H4 f4 s4 g4 l4 ⟨Hm4, sa4, sb4, fr4, d4⟩ => ?_
    have hP4 : ∀ a, H4 a = none → PA a := fun a ha => hPA a ((((((s0).trans s1).trans s2).trans s3).trans s4).free ha)
    have gW4 := s4 _ _ gW3
    refine bad_step (P := PA) (fun v => [some (.str name), some (.str other), some (.ref W), v]) (fun v => rfl) (c := 2) (by repeat' (first | with_reducible exact gdl_nil | (refine gdl_cons ⟨true, ?_⟩ ?_; (focus ((repeat' (first | with_reducible exact gda_nil | with_reducible apply gda_cons | ((with_reducible show Gd _ _ _ _ (tV _) _); exact gd_v rfl (fun m => DB.str (by assumption))) | ((with_reducible show Gd _ _ _ _ (tOp _ _ _) _); (first | exact gd_ix0 rfl (by assumption) (by assumption) | exact gd_ix1 rfl (by assumption) (by assumption))) | ((with_reducible apply gd_c); intro H; first | exact DB.str (wd_ascii (by decide) (by decide)) | exact DB.non | exact DB.int (by decide) (by decide)) | with_reducible apply gd_tup | with_reducible apply gd_lst | with_reducible apply gd_dn | assumption | decide)); done))) | (refine gdl_cons ⟨false, ?_⟩ ?_; (focus ((repeat' (first | with_reducible exact gda_nil | with_reducible apply gda_cons | ((with_reducible show Gd _ _ _ _ (tV _) _); exact gd_v rfl (fun m => DB.str (by assumption))) | ((with_reducible show Gd _ _ _ _ (tOp _ _ _) _); (first | exact gd_ix0 rfl (by assumption) (by assumption) | exact gd_ix1 rfl (by assumption) (by assumption))) | ((with_reducible apply gd_c); intro H; first | exact DB.str (wd_ascii (by decide) (by decide)) | exact DB.non | exact DB.int (by decide) (by decide)) | with_reducible apply gd_tup | with_reducible apply gd_lst | with_reducible apply gd_dn | assumption | decide)); done))))) rfl g4 ⟨Hm4, sb4, d4⟩ (by omega) fun L5 us5 H5 f5 s5 g5 l5 ⟨Hm5, sa5, sb5, fr5, d5⟩ => ?_
    have hP5 : ∀ a, H5 a = none → PA a := fun a ha => hPA a (((((((s0).trans s1).trans s2).trans s3).trans s4).trans s5).free ha)
    have gW5 := s5 _ _ gW4
    have sA := (((((s0).trans s1).trans s2).trans s3).trans s4).trans s5
    have hfree : H L5 = none := ((((((s0).trans s1).trans s2).trans s3).trans s4)).free f5
    exact k L5 us5 H5 hfree sA g5 (by omega) fun x hx => by
      obtain ⟨m, hm⟩ := d5 x hx
      exact ⟨m, hm.same sb5⟩
def anyA : Addr → Prop := fun _ => True
theorem pen_noT {H : Hp} {p w a : Addr} {t : Nat} {ys : List V} (h : PenAt H p w t) (e : H a = some (.tup ys)) : a ≠ p ∧ a ≠ w := by
  obtain ⟨_, _, _, h1, h2, _⟩ := h.ex
  exact ⟨fun z => (by rw [z, h1] at e; cases e), fun z => (by rw [z, h2] at e; cases e)⟩
theorem gdl_lst {P : Addr → Prop} {σ : St} {H : Hp} {ta : TA} {k c : Nat} {Q : VK} (g : GdL P σ H ta k c) (hc : c ≤ 1000) (h : ∀ O vs H1, Same H H1 → H1 O = none → vs.length = c → (∀ v ∈ vs, ∃ m, DB P H1 m v k (BB k)) → Q (.ref O) (upd H1 O (.lst vs))) : tLst ta σ H Q :=
  g H _ (Same.refl H) fun vs H1 s1 hl hv => ⟨by have : sizeLine = 16777216 := sizeLine_eq; omega, fun O hO => h O vs H1 s1 hO hl hv⟩
theorem ixN_nat {n j : Nat} (h : j < n) : ixN n (j : Int) = some j := by
  unfold ixN
  rw [if_pos (by omega), if_pos (by omega)]; simp
theorem asg_ixL {K : PySem.W.Frag} {ta : TA} {tb : TE} {g : TG} {D : Ends} {σ : St} {H : Hp} (h : tLst ta σ H fun x H1 => tb σ H1 fun y H2 => rIxD K x y H2 fun v H3 => g v σ H3 D.nx) : tAsg (tOp (rIxD K) (tLst ta) tb) g D σ H := h
theorem gd_vt {P : Addr → Prop} {m : Bool} {σ : St} {H0 : Hp} {i k : Nat} {v : V} (e : σ[i]? = some (some v)) (h : DB P H0 m v k (BB k)) : Gd P m σ H0 (tV i) k := fun H Q s q => tV_i e (q v H (Same.refl H) (h.same s))
theorem atI_pred {α : Type} {xs : List α} {i : Nat} (h : i < xs.length) : ∃ j, ∃ (hj : j < xs.length), atI xs ((i : Int) - 1) = some xs[j] := by
  cases i with
  | zero =>
    have e : ixN xs.length (((0 : Nat) : Int) - 1) = some (xs.length - 1) := by
      unfold ixN
      rw [if_neg (by decide), if_pos (by omega)]
      congr 1
      omega
    refine ⟨xs.length - 1, by omega, ?_⟩
    unfold atI
    rw [e]
    exact List.getElem?_eq_getElem _
  | succ j => exact ⟨j, by omega, by rw [show (((j + 1 : Nat) : Int) - 1) = (j : Int) by omega]; exact atI_nat (List.getElem?_eq_getElem _)⟩
theorem TH_hdb {PA : Addr → Prop} {H : Hp} {a : Addr} {xs : List V} {rows : List Rw2} {ns ws : List Str} (th : TH H a xs rows ns ws) (hw : ∀ z ∈ ws, Wd z) (hP : ∀ a ys, H a = some (.tup ys) → PA a) {v : V} {r : Rw2} (hm : r ∈ rows) (q3 : HV H v r.2) (m : Bool) : DB PA H m v 3 8273 := by
  have ok := (th.ok (filR r) (List.mem_map.mpr ⟨r, hm, rfl⟩)).2
  cases e : r.2.hol with
  | false =>
    have e2 : (filR r).2 = r.2 := by show r.2.fil = r.2; unfold Hd.fil; rw [e]; rfl
    rw [e2] at ok
    exact DB.of hP (q3.tx ok) (q3.tb (ws := ws) ok th.wd fun z hz => hw z (th.ww _ hm z hz))
  | true =>
    generalize r.2 = hd at e q3
    cases q3 with
    | @one b s e1 =>
      have : s = "hole" := eq_of_beq e
      subst this
      refine (DB.tup (k := 0) (n := 202) (hP _ _ e1) e1 (by simp) fun y hy => ?_).mono (by omega) (by simp)
      rw [List.mem_singleton.mp hy]
      exact DB.str (wd_ascii (by decide) (by decide))
    | _ => cases e
theorem TH_rdb {PA : Addr → Prop} {H : Hp} {a : Addr} {xs : List V} {rows : List Rw2} {ns ws : List Str} (th : TH H a xs rows ns ws) (hw : ∀ z ∈ ws, Wd z) (hP : ∀ a ys, H a = some (.tup ys) → PA a) : ∀ x ∈ xs, ∀ m, DB PA H m x 5 105301 := fun x hx m => by
  obtain ⟨i, hi, rfl⟩ := List.getElem_of_mem hx
  have hl := th.rv.len
  have hi' : i < rows.length := by omega
  obtain ⟨b, v, q1, q2, q3⟩ := th.rv.at_ i hi hi'
  have hm : rows[i] ∈ rows := List.getElem_mem hi'
  have hd : DB PA H m v 3 8273 := TH_hdb th hw hP hm q3 m
  rw [q1]
  refine (DB.tup (k := 3) (n := 8273) (hP _ _ q2) q2 (by simp) fun y hy => ?_).mono (by omega) (by simp)
  simp only [List.mem_cons, List.mem_nil_iff, or_false] at hy
  rcases hy with rfl | rfl
  · exact (DB.str (th.wd _ (th.nm.mem_iff.mp (List.mem_map.mpr ⟨_, hm, rfl⟩)))).mono (by omega) (by omega)
  · exact hd
theorem gd_dcT {P : Addr → Prop} {σ : St} {H0 : Hp} {i k : Nat} {z y : Str} (hP : ∀ a, H0 a = none → P a) (e : σ[i]? = some (some (.str z))) (hz : Wd z) (hy : Wd y) (hk : 2 ≤ k) : Gd P false σ H0 (tDisp [(tV i, tTup (tCons (tC (.str y)) tNil))]) k := fun H Q s q d hd => by
  have sd := Same.upd hd (.dK [])
  refine tV_i (Q := fun x H1 => tTup (tCons (tC (.str y)) tNil) σ H1 fun y H2 => _) e ⟨(show 1 ≤ sizeLine by decide), fun b hb => ?_⟩
  have sb := Same.upd hb (.tup [.str y])
  have gd := sb _ _ (upd_same : upd H d (.dK []) d = some (.dK []))
  have ndb : d ≠ b := ne_of_none (upd_same : upd H d (.dK []) d = some (.dK [])) hb
  refine ⟨gd, [(.inr z, .ref b)], rfl, (by show 1 ≤ 15; decide), ?_⟩
  have s2 : Same H (upd (upd (upd H d (.dK [])) b (.tup [.str y])) d (.dK [(.inr z, .ref b)])) := (sd.trans sb).put hd
  refine q _ _ s2 ?_
  have gb : upd (upd (upd H d (.dK [])) b (.tup [.str y])) d (.dK [(.inr z, .ref b)]) b = some (.tup [.str y]) := by rw [upd_ne ndb.symm]; exact upd_same
  have db : DB P (upd (upd (upd H d (.dK [])) b (.tup [.str y])) d (.dK [(.inr z, .ref b)])) false (.ref b) 1 207 := (DB.tup (k := 0) (n := 202) (hP _ ((s.trans sd).free hb)) gb (by simp) fun x hx => by rw [List.mem_singleton.mp hx]; exact DB.str hy).mono (by omega) (by simp)
  refine (DB.dc1 (hP _ (s.free hd)) upd_same hz db).mono (by omega) (Nat.le_trans (show 207 + 300 ≤ BB 2 by decide) (BB_le hk))
theorem gd_ixr {P : Addr → Prop} {m : Bool} {σ : St} {H0 : Hp} {i k : Nat} {R : Addr} {u : V} {us : List V} (e : σ[i]? = some (some (.ref R))) (g : H0 R = some (.lst (u :: us))) (h : DB P H0 m u k (BB k)) : Gd P m σ H0 (tOp (rIxD K) (tV i) (tC (.int 0))) k := fun H Q s q =>
  tV_i (Q := fun x H1 => tC (.int 0) σ H1 fun y H2 => rIxD K x y H2 Q) e ⟨_, u, .inl (SqL.of (s _ _ g)), atI_zero _ _, q _ H (Same.refl H) (h.same s)⟩
structure JQ (H0 Hb : Hp) (p w a1 W : Addr) (i0 : Nat) (nm ot : Str) (wy : Int) (t : Nat) (xs : List V) (rows : List Rw2) (ns ws : List Str) (c : Nat) (σ' : St) (H' : Hp) : Prop where
  ex : ∃ (R : Addr) (us : List V) (m : Bool) (v8 v9 v10 : Option V), σ' = [some (.ref p), some (.ref a1), some (.ref W), some (.ref R), some (.int (i0 : Int)), some (.str nm), some (.str ot), some (.int wy), v8, v9, v10] ∧ H' R = some (.lst us) ∧ ((c : Int) ≤ wy → us = xs) ∧ us.length ≤ 14 ∧ (∀ u ∈ us, DB anyA H' m u 5 105301) ∧ R ≠ p ∧ R ≠ w ∧ H0 R = none
  pen : PenAt H' p w (t + c)
  sm : Sm p w H0 H'
  th : TH H' a1 xs rows ns ws
  tk : Tk Hb H'
theorem JQ.up {H0 Hb : Hp} {p w a1 W : Addr} {i0 : Nat} {nm ot : Str} {wy : Int} {t : Nat} {xs : List V} {rows : List Rw2} {ns ws : List Str} {c c' : Nat} {σ' : St} {H' : Hp} (j : JQ H0 Hb p w a1 W i0 nm ot wy t xs rows ns ws c σ' H') (h : c ≤ c') : JQ H0 Hb p w a1 W i0 nm ot wy t xs rows ns ws c' σ' H' := by
  obtain ⟨R, us, m, v8, v9, v10, h1, h2, h3, h4⟩ := j.ex
  exact ⟨⟨R, us, m, v8, v9, v10, h1, h2, fun q => h3 (by omega), h4⟩, j.pen.mono (by omega), j.sm, j.th, j.tk⟩
theorem JQ.put {H0 Hb : Hp} {p w a1 W : Addr} {i0 : Nat} {nm ot : Str} {wy : Int} {t : Nat} {xs : List V} {rows : List Rw2} {ns ws : List Str} (hwd : ∀ z ∈ ws, Wd z) {R' : Addr} {H6 : Hp} {m : Bool} {us us' : List V} {c T : Nat} (n1 : R' ≠ p) (n2 : R' ≠ w) (n3 : H0 R' = none) (g6 : H6 R' = some (.lst us)) (tk6 : Tk Hb H6) (pen6 : PenAt H6 p w T) (hT : T ≤ t + c) (sm6 : Sm p w H0 H6) (th6 : TH H6 a1 xs rows ns ws) (hl8 : us'.length ≤ 14) (db : ∀ u ∈ us', u ∈ xs ∨ DB anyA (upd H6 R' (.lst us')) m u 5 105301) (v8 v9 v10 : Option V) (hc : wy < c) :
    JQ H0 Hb p w a1 W i0 nm ot wy t xs rows ns ws c [some (.ref p), some (.ref a1), some (.ref W), some (.ref R'), some (.int (i0 : Int)), some (.str nm), some (.str ot), some (.int wy), v8, v9, v10] (upd H6 R' (.lst us')) := by
  have tk7 : Tk H6 (upd H6 R' (.lst us')) := Tk.refl.set g6 (by intro _ z; cases z)
  have th7 := th6.tk tk7
  refine ⟨⟨R', us', m, v8, v9, v10, rfl, upd_same, fun h => absurd h (by omega), hl8, fun u hu => ?_, n1, n2, n3⟩, (pen6.upd n1 n2).mono hT, sm6.upd n3, th7, tk6.trans tk7⟩
  rcases db u hu with hu | hu
  · exact TH_rdb th7 hwd (fun _ _ _ => True.intro) u hu m
  · exact hu
theorem gd_up {P : Addr → Prop} {m : Bool} {σ : St} {H0 : Hp} {i k : Nat} {x : Str} (e : σ[i]? = some (some (.str x))) (h : Wd x) : Gd P m σ H0 (tBM0 K "str" rUpper (tV i)) k := fun H Q s q =>
  tV_i (Q := fun v H1 => tyV K "str" v H1 ∧ rUpper v [] H1 Q) e ⟨rfl, x, rfl, rfl, h, upper_wd h, q _ H (Same.refl H) ((DB.str (upper_wd h)).up)⟩
theorem row1_db {P : Addr → Prop} {H : Hp} {m : Bool} {q1 q2 : Addr} {n s : Str} (p1 : P q1) (p2 : P q2) (g1 : H q1 = some (.tup [.str s])) (g2 : H q2 = some (.tup [.str n, .ref q1])) (hn : Wd n) (hs : Wd s) : DB P H m (.ref q2) 2 829 := by
  refine (DB.tup (k := 1) (n := 411) p2 g2 (by simp) fun y hy => ?_).mono (by omega) (by simp)
  simp only [List.mem_cons, List.mem_nil_iff, or_false] at hy
  rcases hy with rfl | rfl
  · exact (DB.str hn).mono (by omega) (by omega)
  · refine (DB.tup (k := 0) (n := 202) p1 g1 (by simp) fun y hy => ?_).mono (by omega) (by simp)
    rw [List.mem_singleton] at hy
    rw [hy]
    exact DB.str hs
theorem row2_db {P : Addr → Prop} {H : Hp} {m : Bool} {q1 q2 : Addr} {n s z : Str} (p1 : P q1) (p2 : P q2) (g1 : H q1 = some (.tup [.str s, .str z])) (g2 : H q2 = some (.tup [.str n, .ref q1])) (hn : Wd n) (hs : Wd s) (hz : Wd z) : DB P H m (.ref q2) 2 829 := by
  refine (DB.tup (k := 1) (n := 411) p2 g2 (by simp) fun y hy => ?_).mono (by omega) (by simp)
  simp only [List.mem_cons, List.mem_nil_iff, or_false] at hy
  rcases hy with rfl | rfl
  · exact (DB.str hn).mono (by omega) (by omega)
  · refine (DB.tup (k := 0) (n := 202) p1 g1 (by simp) fun y hy => ?_).mono (by omega) (by simp)
    simp only [List.mem_cons, List.mem_nil_iff, or_false] at hy
    rcases hy with rfl | rfl
    · exact DB.str hs
    · exact DB.str hz
theorem zz_wd {c : Nat} (h : c < 128) : Wd (("zzzzz" : Str) ++ (⟨#[c]⟩ : Str)) := by
  refine ⟨by rw [Str.length_append]; show 5 + 1 ≤ 20; decide, fun d hd => ?_⟩
  rw [str_app_toList] at hd
  rcases List.mem_append.mp hd with hd | hd
  · have : ∀ d ∈ ("zzzzz" : Str).cps.toList, d < 128 := by decide
    exact this d hd
  · have : d = c := by simpa using hd
    rw [this]; exact h
def spOther : Sp := fun vs H Q _ => ∃ (p w a1 W : Addr) (t : Nat) (xs : List V) (rows : List Rw2) (ns ws : List Str) (w0 w1 : Str) (wr : List Str), vs = [.ref p, .ref a1, .ref W] ∧ PenAt H p w t ∧ t + 20 < TMAX ∧ TH H a1 xs rows ns ws ∧ (∀ z ∈ ws, Wd z) ∧ (2 ≤ ns.length ∧ ns.length ≤ 9) ∧ H W = some (.lst ((w0 :: w1 :: wr).map V.str)) ∧ Wd w0 ∧ Wd w1 ∧ W ≠ p ∧ W ≠ w ∧
  ∀ (v : V) (m : Bool) (H' : Hp), DB anyA H' m v 9 16000000 → PenAt H' p w (t + 20) → Sm p w H H' → Q v H'
set_option maxHeartbeats 8000000 in
theorem ok_law_tother (T : Txt K mg w) : FnK P w K mg base 2 "_law_tother" ["pen", "holed", "words"] spOther := by
  have F_law_tdraw : FnK P w K mg base 1 "_law_tdraw" ["pen", "many"] spDraw := ok_law_tdraw T
  have F_law_tbad_heads : FnK P w K mg base 1 "_law_tbad_heads" ["name", "other", "words"] spBadHeads := ok_law_tbad_heads T
  refine T.t_law_tother.okS sc_law_tother (fun vs H Q E h => ?_) (fun f cdv A outer s H vs Q E hr h => ?_)
  · obtain ⟨p, w', a1, W, t, xs, rows, ns, ws, w0, w1, wr, rfl, _⟩ := h
    rfl
  · obtain ⟨p, w', a1, W, t, xs, rows, ns, ws, w0, w1, wr, rfl, hp, ht, th, hwd, ⟨hn2, hn9⟩, gW, hw0, hw1, nWp, nWw, k⟩ := h
    have ht' : t + 20 < 1000000000000 := ht
    have hu := hu_of hr
    have hu0 := Nat.lt_of_succ_lt (hu_of hr)
    have hsz : sizeLine = 16777216 := sizeLine_eq
    have hrl := th.rl
    have hxl := th.rv.len
    refine ⟨_, (sb_cons (s_set (i := 3) sc_law_tother.nd rfl (Or.inr rfl) (z_callTy (call_lstK K) (by rfl) T.n_list PyProof.Rows.boot_list (sa_Name (zv 1) sa_nil)))
      (sb_cons (s_set (i := 4) sc_law_tother.nd rfl (Or.inl rfl) (z_fn F_law_tdraw (hr.mono (by decide)) (sa_Name (zv 0) (sa_Call (z_callB (call_lenK K) (by rfl) T.n_len PySem.boot_len (sa_Name (zv 3) sa_nil)) sa_nil))))
      (sb_cons (s_set (i := 5) sc_law_tother.nd rfl (Or.inr rfl) (z_ix (ix_K K) (z_ix (ix_K K) (zv 3) (zv 4) (fun _ _ => rfl)) z_int (fun _ _ => rfl)))
      (sb_cons (s_set (i := 6) sc_law_tother.nd rfl (Or.inl rfl) (z_ix (ix_K K) (z_ix (ix_K K) (zv 3) (z_fn F_law_tdraw (hr.mono (by decide)) (sa_Name (zv 0) (sa_Call (z_callB (call_lenK K) (by rfl) T.n_len PySem.boot_len (sa_Name (zv 3) sa_nil)) sa_nil))) (fun _ _ => rfl)) z_int (fun _ _ => rfl)))
      (sb_cons (s_set (i := 7) sc_law_tother.nd rfl (Or.inl rfl) (z_fn F_law_tdraw (hr.mono (by decide)) (sa_Name (zv 0) (sa_Constant z_int sa_nil))))
      (sb_cons (s_if (y_cmpR (op_eqD hu0) (zv 7) z_int (nomark _)) (sb_one (s_asg (z_tup (sa_Name (zv 5) (sa_Tuple (z_tup (sa_Constant z_str (sa_Name (zv 5) (sa_Name (zv 6) sa_nil)))) sa_nil))) (g_sub (zv 3) (zv 4) set_list))) sb_nil)
      (sb_cons (s_if (y_cmpR (op_eqD hu0) (zv 7) z_int (nomark _)) (sb_cons (s_set (i := 8) sc_law_tother.nd rfl (Or.inl rfl) (z_op op_addD z_int (z_fn F_law_tdraw (hr.mono (by decide)) (sa_Name (zv 0) (sa_Constant z_int sa_nil)))))
      (sb_one (s_set (i := 3) sc_law_tother.nd rfl (Or.inr rfl) (z_lc (own := ["k"]) (idx := []) (N' := ["k"]) (⟨rfl, by decide +kernel, by decide +kernel, (show ∀ y ∈ Scope.names _, y.2 = NameKind.free → ((defScope s_law_tother).names.lookup y.1 = some NameKind.cell ∨ (defScope s_law_tother).names.lookup y.1 = some NameKind.free) by decide +kernel), (show ∀ j ∈ ([] : List Nat), (Scope.names _).lookup ((["pen", "holed", "words", "rows", "at", "name", "other", "way", "many", "some", "odd"] : List Str).getD j "") = some NameKind.free ∧ j < (["pen", "holed", "words", "rows", "at", "name", "other", "way", "many", "some", "odd"] : List Str).length by decide +kernel), rfl⟩) rfl (i_range1 (by rfl) T.n_range (sa_Name (zv 8) sa_nil)) (fun _ _ _ _ _ _ => (g_name (i := 0) (show List.Nodup (["k"] : List Str) by decide +kernel) rfl (Or.inl rfl))) (fun _ _ _ _ _ _ => c_nil) (fun _ _ _ _ _ _ => (z_tup (sa_BinOp (z_op op_addD z_str (z_ix (ix_K K) z_str (zv 0) (fun _ _ => rfl))) (sa_Tuple (z_tup (sa_Constant z_str sa_nil)) sa_nil)))))))) sb_nil)
      (sb_cons (s_if (y_cmpR (op_eqD hu0) (zv 7) z_int (nomark _)) (sb_cons (s_set (i := 9) sc_law_tother.nd rfl (Or.inl rfl) (z_lst (sa_Tuple (z_tup (sa_Constant z_str (sa_Name (zv 5) sa_nil))) (sa_Constant z_str (sa_List (z_lst (sa_Constant z_str sa_nil)) (sa_Tuple (z_tup (sa_Constant z_str sa_nil)) (sa_Tuple (z_tup (sa_Constant z_str sa_nil)) (sa_Tuple (z_tup sa_nil) (sa_Constant z_non (sa_Tuple (z_tup (sa_Constant z_str sa_nil)) sa_nil))))))))))
      (sb_one (s_asg (z_tup (sa_Name (zv 5) (sa_Subscript (z_ix (ix_K K) (zv 9) (z_fn F_law_tdraw (hr.mono (by decide)) (sa_Name (zv 0) (sa_Constant z_int sa_nil))) (fun _ _ => rfl)) sa_nil))) (g_sub (zv 3) (zv 4) set_list)))) sb_nil)
      (sb_cons (s_if (y_cmpR (op_eqD hu0) (zv 7) z_int (nomark _)) (sb_cons (s_set (i := 9) sc_law_tother.nd rfl (Or.inl rfl) (z_fn F_law_tbad_heads (hr.mono (by decide)) (sa_Name (zv 5) (sa_Name (zv 6) (sa_Name (zv 2) sa_nil)))))
      (sb_one (s_asg (z_tup (sa_Name (zv 5) (sa_Subscript (z_ix (ix_K K) (zv 9) (z_fn F_law_tdraw (hr.mono (by decide)) (sa_Name (zv 0) (sa_Constant z_int sa_nil))) (fun _ _ => rfl)) sa_nil))) (g_sub (zv 3) (zv 4) set_list)))) sb_nil)
      (sb_cons (s_if (y_cmpR (op_eqD hu0) (zv 7) z_int (nomark _)) (sb_one (s_expr (z_bm K PySem.F.plainAttrs_list PySem.F.slot_list_append PySem.F.type_list_append mt_append (zv 3) (sa_Tuple (z_tup (sa_Name (zv 6) (sa_Tuple (z_tup (sa_Constant z_str sa_nil)) sa_nil))) sa_nil)))) sb_nil)
      (sb_cons (s_if (y_cmpR (op_eqD hu0) (zv 7) z_int (nomark _)) (sb_one (s_set (i := 3) sc_law_tother.nd rfl (Or.inr rfl) (z_op op_addD (zv 3) (z_lc (own := ["k"]) (idx := [5]) (N' := ["k", "name"]) (⟨rfl, by decide +kernel, by decide +kernel, (show ∀ y ∈ Scope.names _, y.2 = NameKind.free → ((defScope s_law_tother).names.lookup y.1 = some NameKind.cell ∨ (defScope s_law_tother).names.lookup y.1 = some NameKind.free) by decide +kernel), (show ∀ j ∈ ([5] : List Nat), (Scope.names _).lookup ((["pen", "holed", "words", "rows", "at", "name", "other", "way", "many", "some", "odd"] : List Str).getD j "") = some NameKind.free ∧ j < (["pen", "holed", "words", "rows", "at", "name", "other", "way", "many", "some", "odd"] : List Str).length by decide +kernel), rfl⟩) rfl (i_range1 (by rfl) T.n_range (sa_BinOp (z_op op_addD (z_op op_subD z_int (z_callB (call_lenK K) (by rfl) T.n_len PySem.boot_len (sa_Name (zv 3) sa_nil))) (z_fn F_law_tdraw (hr.mono (by decide)) (sa_Name (zv 0) (sa_Constant z_int sa_nil)))) sa_nil)) (fun _ _ _ _ _ _ => (g_name (i := 0) (show List.Nodup (["k", "name"] : List Str) by decide +kernel) rfl (Or.inl rfl))) (fun _ _ _ _ _ _ => c_nil) (fun _ _ _ _ _ _ => (z_tup (sa_BinOp (z_op op_addD z_str (z_ix (ix_K K) z_str (zv 0) (fun _ _ => rfl))) (sa_Tuple (z_tup (sa_Constant z_str (sa_Name (zv 1) sa_nil))) sa_nil)))))))) sb_nil)
      (sb_cons (s_if (y_cmpR (op_eqD hu0) (zv 7) z_int (nomark _)) (sb_one (s_set (i := 3) sc_law_tother.nd rfl (Or.inr rfl) (z_lc (own := ["k", "row"]) (idx := [3]) (N' := ["k", "row", "rows"]) (⟨rfl, by decide +kernel, by decide +kernel, (show ∀ y ∈ Scope.names _, y.2 = NameKind.free → ((defScope s_law_tother).names.lookup y.1 = some NameKind.cell ∨ (defScope s_law_tother).names.lookup y.1 = some NameKind.free) by decide +kernel), (show ∀ j ∈ ([3] : List Nat), (Scope.names _).lookup ((["pen", "holed", "words", "rows", "at", "name", "other", "way", "many", "some", "odd"] : List Str).getD j "") = some NameKind.free ∧ j < (["pen", "holed", "words", "rows", "at", "name", "other", "way", "many", "some", "odd"] : List Str).length by decide +kernel), rfl⟩) rfl (pi_enumK K (by rfl) T.n_enumerate (sa_Name (zv 3) sa_nil)) (fun _ _ _ _ _ _ => (g_tup K (n := 2) rfl (gs_cons (g_name (i := 0) (show List.Nodup (["k", "row", "rows"] : List Str) by decide +kernel) rfl (Or.inl rfl)) (gs_cons (g_name (i := 1) (show List.Nodup (["k", "row", "rows"] : List Str) by decide +kernel) rfl (Or.inl rfl)) gs_nil)))) (fun _ _ _ _ _ _ => c_nil) (fun _ _ _ _ _ _ => (z_tup (sa_Subscript (z_ix (ix_K K) (zv 1) z_int (fun _ _ => rfl)) (sa_Tuple (z_tup (sa_Constant z_str (sa_Subscript (z_ix (ix_K K) (z_ix (ix_K K) (zv 2) (z_op op_subD (zv 0) z_int) (fun _ _ => rfl)) z_int (fun _ _ => rfl)) sa_nil))) sa_nil))))))) sb_nil)
      (sb_cons (s_if (y_cmpR (op_eqD hu0) (zv 7) z_int (nomark _)) (sb_cons (s_set (i := 9) sc_law_tother.nd rfl (Or.inl rfl) (z_lst (sa_Name (zv 3) (sa_Tuple (z_tup sa_nil) (sa_Constant z_non (sa_Constant z_str (sa_Tuple (z_tup (sa_Constant z_str sa_nil)) (sa_Dict (z_disp (zz_cons (zv 5) (z_tup (sa_Constant z_str sa_nil)) zz_nil) rfl rfl (by simp) (by decide)) (sa_Tuple (z_tup (sa_Subscript (z_ix (ix_K K) (zv 3) z_int (fun _ _ => rfl)) sa_nil)) (sa_Constant z_int (sa_Tuple (z_tup (sa_Tuple (z_tup (sa_Name (zv 5) (sa_Tuple (z_tup (sa_Constant z_str sa_nil)) sa_nil))) sa_nil)) sa_nil)))))))))))
      (sb_one (s_ret (z_ix (ix_K K) (zv 9) (z_fn F_law_tdraw (hr.mono (by decide)) (sa_Name (zv 0) (sa_Constant z_int sa_nil))) (fun _ _ => rfl))))) sb_nil)
      (sb_cons (s_if (y_cmpR (op_eqD hu0) (zv 7) z_int (nomark _)) (sb_cons (s_set (i := 10) sc_law_tother.nd rfl (Or.inl rfl) (z_lst (sa_Name (zv 6) (sa_Constant z_str (sa_Constant z_str (sa_Constant z_int (sa_Constant z_non (sa_Call (z_bm0 K PySem.F.plainAttrs_str PySem.F.slot_str_upper PySem.F.type_str_upper mt_upper (zv 5)) (sa_List (z_lst (sa_Name (zv 5) sa_nil)) (sa_Dict z_dnew (sa_Tuple (z_tup (sa_List (z_lst (sa_Name (zv 5) sa_nil)) sa_nil)) sa_nil)))))))))))
      (sb_one (s_asg (z_tup (sa_Subscript (z_ix (ix_K K) (zv 10) (z_fn F_law_tdraw (hr.mono (by decide)) (sa_Name (zv 0) (sa_Constant z_int sa_nil))) (fun _ _ => rfl)) (sa_Subscript (z_ix (ix_K K) (z_ix (ix_K K) (zv 3) (zv 4) (fun _ _ => rfl)) z_int (fun _ _ => rfl)) sa_nil))) (g_sub (zv 3) (zv 4) set_list)))) sb_nil)
      (sb_cons (s_if (y_cmpR (op_eqD hu0) (zv 7) z_int (nomark _)) (sb_one (s_asg (z_ix (ix_K K) (z_lst (sa_List (z_lst (sa_Name (zv 5) (sa_Tuple (z_tup (sa_Constant z_str sa_nil)) sa_nil))) (sa_Tuple (z_tup (sa_Name (zv 5) sa_nil)) (sa_Tuple (z_tup (sa_Name (zv 5) (sa_Tuple (z_tup (sa_Constant z_str sa_nil)) (sa_Constant z_int sa_nil)))) (sa_Constant z_non sa_nil))))) (z_fn F_law_tdraw (hr.mono (by decide)) (sa_Name (zv 0) (sa_Constant z_int sa_nil))) (fun _ _ => rfl)) (g_sub (zv 3) (zv 4) set_list))) sb_nil)
      (sb_one (s_ret (z_callTy (call_tupK K) (by rfl) T.n_tuple PyProof.Rows.boot_tuple (sa_Name (zv 3) sa_nil))))))))))))))))))), ?_⟩
    refine tSeq_set ⟨a1, xs, rfl, .inr (SqT.of th.at_), fun R hR => ?_⟩
    have nRp : R ≠ p := hp.ne1 hR
    have nRw : R ≠ w' := hp.ne2 hR
    have s1 := Same.upd hR (.lst xs)
    have gR1 : upd H R (.lst xs) R = some (.lst xs) := upd_same
    have hp1 := hp.same s1
    try dsimp only
    generalize upd H R (.lst xs) = H1 at s1 gR1 hp1
    refine tSeq_set (.inl ⟨_, .inl (SqL.of gR1), p, w', _, t, rfl, hp1, ⟨by omega, by omega⟩, by show t < 1000000000000; omega, fun r0 H2 a0 b0 hp2 sm2 => ?_⟩)
    obtain ⟨i0, rfl⟩ : ∃ i : Nat, r0 = (i : Int) := ⟨r0.toNat, by omega⟩
    have hi0 : i0 < rows.length := by omega
    have smA : Sm p w' H H2 := s1.sm.trans sm2
    have th2 := th.tk (hp.ts smA)
    have gR2 := sm2 _ _ gR1 nRp nRw
    obtain ⟨b, hv, r1, r2, r3⟩ := th2.rv.at_ i0 (by omega) hi0
    have hat : atI xs (i0 : Int) = some (.ref b) := atI_nat (by rw [List.getElem?_eq_getElem (by omega)]; exact congrArg some r1)
    have hmi : rows[i0] ∈ rows := List.getElem_mem hi0
    have hnm : Wd rows[i0].1 := th2.wd _ (th2.nm.mem_iff.mp (List.mem_map.mpr ⟨_, hmi, rfl⟩))
    refine tSeq_set ⟨xs, .ref b, .inl (SqL.of gR2), hat, _, .str rows[i0].1, .inr (SqT.of r2), atI_zero _ _, ?_⟩
    generalize rows[i0].1 = nm at r2 hnm
    try dsimp only
    refine tSeq_set (.inl ⟨_, .inl (SqL.of gR2), p, w', _, _, rfl, hp2, ⟨by omega, by omega⟩, by show t + 1 < 1000000000000; omega, fun r1' H3 a3 b3 hp3 sm3 => ?_⟩)
    obtain ⟨i1, rfl⟩ : ∃ i : Nat, r1' = (i : Int) := ⟨r1'.toNat, by omega⟩
    have hi1 : i1 < rows.length := by omega
    have gR3 := sm3 _ _ gR2 nRp nRw
    have th3 := th2.tk (hp2.ts sm3)
    obtain ⟨b', hv', q1, q2, q3⟩ := th3.rv.at_ i1 (by omega) hi1
    have hat' : atI xs (i1 : Int) = some (.ref b') := atI_nat (by rw [List.getElem?_eq_getElem (by omega)]; exact congrArg some q1)
    have hot : Wd rows[i1].1 := th3.wd _ (th3.nm.mem_iff.mp (List.mem_map.mpr ⟨_, List.getElem_mem hi1, rfl⟩))
    refine ⟨xs, .ref b', .inl (SqL.of gR3), hat', _, .str rows[i1].1, .inr (SqT.of q2), atI_zero _ _, ?_⟩
    generalize rows[i1].1 = ot at hot
    refine tSeq_set ⟨p, w', 12, _, rfl, hp3, ⟨by decide, by decide⟩, by show t + 1 + 1 < 1000000000000; omega, fun wy H4 wy0 wy1 hp4 sm4 => ?_⟩
    have gR4 := sm4 _ _ gR3 nRp nRw
    have smB : Sm p w' H H4 := (smA.trans sm3).trans sm4
    have gW4 : H4 W = some (.lst ((w0 :: w1 :: wr).map V.str)) := smB _ _ gW nWp nWw
    have th4 := th3.tk (hp3.ts sm4)
    have tk24 : Tk H2 H4 := (hp2.ts sm3).trans (hp3.ts sm4)
    have r24 := tk24 _ _ r2
    have r34 := r3.tk tk24
    have J0 : JQ H H4 p w' a1 W i0 nm ot wy (t + 1 + 1 + 1) xs rows ns ws 0 [some (.ref p), some (.ref a1), some (.ref W), some (.ref R), some (.int (i0 : Int)), some (.str nm), some (.str ot), some (.int wy), none, none, none] H4 := ⟨⟨R, xs, true, none, none, none, rfl, gR4, fun _ => rfl, by omega, fun u hu => TH_rdb th4 hwd (fun _ _ _ => True.intro) u hu true, nRp, nRw, hR⟩, hp4, smB, th4, Tk.refl⟩
    clear smB hp1 hp2 hp3 sm2 sm3 gR1 gR2 gR3 smA s1
    have setmem : ∀ (row u : V), u ∈ xs.set i0 row → u ∈ xs ∨ u = row := fun row u hu => List.mem_or_eq_of_mem_set hu
    have wW : ∀ H', Sm p w' H H' → H' W = some (.lst ((w0 :: w1 :: wr).map V.str)) := fun H' s => s _ _ gW nWp nWw
    try dsimp only
    refine tSeq_by (JQ H H4 p w' a1 W i0 nm ot wy (t + 1 + 1 + 1) xs rows ns ws 1) ?_ ?_
    · intro nx hnx
      show tIfS _ _ _ _ [some (.ref p), some (.ref a1), some (.ref W), some (.ref R), some (.int (i0 : Int)), some (.str nm), some (.str ot), some (.int wy), none, none, none] H4
      obtain ⟨R', us', m', v8, v9, v10, e0, gR', hpr, hl8, hdb, n1, n2, n3⟩ := J0.ex
      rw [e0]
      refine ⟨rfl, _, rfl, iteB (fun c1 => ?_) (fun c1 => hnx _ _ (e0 ▸ J0.up (by omega)))⟩
      rw [Bool.false_xor, decV_int] at c1
      have c1' : wy = 0 := of_decide_eq_true c1
      obtain rfl := hpr (by omega)
      have hPR : ∀ a, H4 a = none → a ≠ R' := fun a ha z => (by rw [z, gR'] at ha; cases ha)
      have g0 : Gd (fun a => a ≠ R') true [some (.ref p), some (.ref a1), some (.ref W), some (.ref R'), some (.int (i0 : Int)), some (.str nm), some (.str ot), some (.int wy), v8, v9, v10] H4 (tTup (tCons (tV 5) (tCons (tTup (tCons (tC (V.str "way")) (tCons (tV 5) (tCons (tV 6) tNil)))) tNil))) 4 := by repeat' (first | with_reducible exact gda_nil | with_reducible apply gda_cons | ((with_reducible show Gd _ _ _ _ (tV _) _); exact gd_v rfl (fun m => DB.str (by assumption))) | ((with_reducible show Gd _ _ _ _ (tOp _ _ _) _); (first | exact gd_ix0 rfl (by assumption) (by assumption) | exact gd_ix1 rfl (by assumption) (by assumption))) | ((with_reducible apply gd_c); intro H; first | exact DB.str (wd_ascii (by decide) (by decide)) | exact DB.non | exact DB.int (by decide) (by decide)) | with_reducible apply gd_tup | with_reducible apply gd_lst | with_reducible apply gd_dn | assumption | decide)
      refine g0 H4 _ (Same.refl H4) fun v H5 s5 dv => ⟨R', us', (i0 : Int), i0, rfl, rfl, s5 _ _ gR', ixN_nat (by omega), ?_⟩
      refine hnx _ _ (JQ.put hwd (m := true) n1 n2 n3 (s5 _ _ gR') (J0.tk.trans s5.ts) (J0.pen.same s5) (by omega) (J0.sm.trans s5.sm) (J0.th.tk s5.ts) (by rw [List.length_set]; omega) (fun u hu => (setmem _ u hu).imp id fun e => ?_) _ _ _ (by omega))
      rw [e]
      exact ((dv.keep fun a u hP e => by rw [upd_ne hP]; exact e).wide fun _ _ => True.intro).mono (by omega) (by decide)
    rintro σ1 H5 J1
    refine tSeq_by (JQ H H4 p w' a1 W i0 nm ot wy (t + 1 + 1 + 1) xs rows ns ws 2) ?_ ?_
    · intro nx hnx
      obtain ⟨R', us', m', v8, v9, v10, rfl, gR', hpr, hl8, hdb, n1, n2, n3⟩ := J1.ex
      refine ⟨rfl, _, rfl, iteB (fun c1 => ?_) (fun c1 => hnx _ _ (J1.up (by omega)))⟩
      rw [Bool.false_xor, decV_int] at c1
      have c1' : wy = 1 := of_decide_eq_true c1
      obtain rfl := hpr (by omega)
      refine tSeq_set ⟨p, w', 4, _, rfl, J1.pen, ⟨by decide, by decide⟩, by show t + 1 + 1 + 1 + 1 < 1000000000000; omega, fun r H6 ra rb hp6 sm6 => ?_⟩
      try dsimp only
      have smC : Sm p w' H H6 := J1.sm.trans sm6
      refine ⟨4 + r, rfl, by omega, by omega, fun D hD => ?_⟩
      have nDp : D ≠ p := hp6.ne1 hD
      have nDw : D ≠ w' := hp6.ne2 hD
      have hD0 : H D = none := smC.free hD nDp nDw
      refine lc_by (itn_range 0 (4 + r).toNat) (fun i τ H' => ∃ (v0 : Option V) (zs : List V), τ = [v0] ∧ H' D = some (.lst zs) ∧ zs.length = i ∧ (∀ u ∈ zs, DB (fun a => a ≠ D) H' true u 2 829) ∧ Same H6 H') ⟨none, [], rfl, upd_same, rfl, (fun _ h => nomatch h), Same.upd hD _⟩ (fun _ _ _ _ _ => True.intro) ?_ ?_
      · rintro i τ H7 hi ⟨v0, zs, rfl, z1, z2, z3, z4⟩
        obtain ⟨c, hc1, hc2⟩ := atI_some ("abcdefgh" : Str).cps.toList (0 + (i : Int)) (by omega) (by show (0 + (i : Int)) < 8; omega)
        have hcm : c < 128 := (by decide : ∀ d ∈ ("abcdefgh" : Str).cps.toList, d < 128) c (List.mem_of_getElem? hc1)
        refine ⟨(show 8 ≤ sizeLine by decide), c, hc2, (show 5 + 1 ≤ sizeLine by decide), (show 1 ≤ sizeLine by decide), fun q1 hq1 => ⟨(show 2 ≤ sizeLine by decide), fun q2 hq2 => ?_⟩⟩
        have s1 := Same.upd hq1 (.tup [.str "hole"])
        have s2 := Same.upd hq2 (.tup [.str (("zzzzz" : Str) ++ (⟨#[c]⟩ : Str)), .ref q1])
        have g2 : upd (upd H7 q1 (.tup [.str "hole"])) q2 (.tup [.str (("zzzzz" : Str) ++ (⟨#[c]⟩ : Str)), .ref q1]) q2 = some (.tup [.str (("zzzzz" : Str) ++ (⟨#[c]⟩ : Str)), .ref q1]) := upd_same
        have g1 := s2 _ _ (upd_same : upd H7 q1 (.tup [.str "hole"]) q1 = some (.tup [.str "hole"]))
        have s3 := s1.trans s2
        have n1E : q1 ≠ D := fun e => (by rw [e, z1] at hq1; cases hq1)
        have n2E : q2 ≠ D := fun e => (by rw [e, s1 _ _ z1] at hq2; cases hq2)
        refine ⟨zs, s3 _ _ z1, by omega, _, zs ++ [.ref q2], rfl, upd_same, by simp [z2], fun u hu => ?_, (z4.trans s3).put hD⟩
        refine DB.keep (H := upd (upd H7 q1 (.tup [.str "hole"])) q2 (.tup [.str (("zzzzz" : Str) ++ (⟨#[c]⟩ : Str)), .ref q1])) ?_ (fun a o hP e => by rw [upd_ne hP]; exact e)
        rcases List.mem_append.mp hu with hu | hu
        · exact (z3 u hu).same s3
        · rw [List.mem_singleton] at hu
          rw [hu]
          exact row1_db (P := fun a => a ≠ D) n1E n2E g1 g2 (zz_wd hcm) (wd_ascii (by decide) (by decide))
      · rintro τ H7 ⟨v0, zs, rfl, z1, z2, z3, z4⟩
        exact hnx _ _ ⟨⟨D, zs, true, _, v9, v10, rfl, z1, fun h => absurd h (by omega), by omega, fun u hu => ((z3 u hu).wide fun _ _ => True.intro).mono (by omega) (by omega), nDp, nDw, hD0⟩, (hp6.same z4).mono (by omega), smC.trans z4.sm, (J1.th.tk (J1.pen.ts sm6)).tk z4.ts, (J1.tk.trans (J1.pen.ts sm6)).trans z4.ts⟩
    rintro σ2 H6 J2
    refine tSeq_by (JQ H H4 p w' a1 W i0 nm ot wy (t + 1 + 1 + 1) xs rows ns ws 3) ?_ ?_
    · intro nx hnx
      obtain ⟨R', us', m', v8, v9, v10, rfl, gR', hpr, hl8, hdb, n1, n2, n3⟩ := J2.ex
      refine ⟨rfl, _, rfl, iteB (fun c1 => ?_) (fun c1 => hnx _ _ (J2.up (by omega)))⟩
      rw [Bool.false_xor, decV_int] at c1
      have c1' : wy = 2 := of_decide_eq_true c1
      obtain rfl := hpr (by omega)
      have hPR : ∀ a, H6 a = none → a ≠ R' ∧ a ≠ p ∧ a ≠ w' := fun a ha => ⟨fun z => (by rw [z, gR'] at ha; cases ha), J2.pen.ne1 ha, J2.pen.ne2 ha⟩
      have gO : GdL (fun a => a ≠ R' ∧ a ≠ p ∧ a ≠ w') [some (.ref p), some (.ref a1), some (.ref W), some (.ref R'), some (.int (i0 : Int)), some (.str nm), some (.str ot), some (.int wy), v8, v9, v10] H6 (tCons (tTup (tCons (tC (V.str "hole")) (tCons (tV 5) tNil))) (tCons (tC (V.str "hole")) (tCons (tLst (tCons (tC (V.str "hole")) tNil)) (tCons (tTup (tCons (tC (V.str "hol")) tNil)) (tCons (tTup (tCons (tC (V.str "holes")) tNil)) (tCons (tTup tNil) (tCons (tC V.non) (tCons (tTup (tCons (tC (V.str "as")) tNil)) tNil)))))))) 4 8 := by repeat' (first | with_reducible exact gdl_nil | (refine gdl_cons ⟨true, ?_⟩ ?_; (focus ((repeat' (first | with_reducible exact gda_nil | with_reducible apply gda_cons | ((with_reducible show Gd _ _ _ _ (tV _) _); exact gd_v rfl (fun m => DB.str (by assumption))) | ((with_reducible show Gd _ _ _ _ (tOp _ _ _) _); (first | exact gd_ix0 rfl (by assumption) (by assumption) | exact gd_ix1 rfl (by assumption) (by assumption))) | ((with_reducible apply gd_c); intro H; first | exact DB.str (wd_ascii (by decide) (by decide)) | exact DB.non | exact DB.int (by decide) (by decide)) | with_reducible apply gd_tup | with_reducible apply gd_lst | with_reducible apply gd_dn | assumption | decide)); done))) | (refine gdl_cons ⟨false, ?_⟩ ?_; (focus ((repeat' (first | with_reducible exact gda_nil | with_reducible apply gda_cons | ((with_reducible show Gd _ _ _ _ (tV _) _); exact gd_v rfl (fun m => DB.str (by assumption))) | ((with_reducible show Gd _ _ _ _ (tOp _ _ _) _); (first | exact gd_ix0 rfl (by assumption) (by assumption) | exact gd_ix1 rfl (by assumption) (by assumption))) | ((with_reducible apply gd_c); intro H; first | exact DB.str (wd_ascii (by decide) (by decide)) | exact DB.non | exact DB.int (by decide) (by decide)) | with_reducible apply gd_tup | with_reducible apply gd_lst | with_reducible apply gd_dn | assumption | decide)); done))))
      refine tSeq_set (gO H6 _ (Same.refl H6) fun vs H27 s7 hl hvs => ⟨by omega, fun O hO => ?_⟩)
      have s8 := Same.upd hO (.lst vs)
      have gO8 : upd H27 O (.lst vs) O = some (.lst vs) := upd_same
      have nOp : O ≠ p := (J2.pen.same s7).ne1 hO
      have nOw : O ≠ w' := (J2.pen.same s7).ne2 hO
      try dsimp only
      generalize upd H27 O (.lst vs) = H28 at s8 gO8
      have s68 := s7.trans s8
      have pen8 := J2.pen.same s68
      refine ⟨p, w', 8, _, rfl, pen8, ⟨by decide, by decide⟩, by show t + 1 + 1 + 1 + 2 < 1000000000000; omega, fun r H29 ra rb hp9 sm9 => ?_⟩
      obtain ⟨ir, rfl⟩ : ∃ i : Nat, r = (i : Int) := ⟨r.toNat, by omega⟩
      have hir : ir < vs.length := by omega
      obtain ⟨m, hm⟩ := hvs _ (List.getElem_mem hir)
      have hm9 : DB (fun a => a ≠ R' ∧ a ≠ p ∧ a ≠ w') H29 m vs[ir] 4 (BB 4) := (hm.same s8).keep fun a u hP e => sm9 _ _ e hP.2.1 hP.2.2
      have gR9 := sm9 _ _ (s68 _ _ gR') n1 n2
      have tk9 : Tk H6 H29 := s68.ts.trans (pen8.ts sm9)
      refine ⟨vs, vs[ir], .inl (SqL.of (sm9 _ _ gO8 nOp nOw)), atI_nat (List.getElem?_eq_getElem hir), (show 2 ≤ sizeLine by decide), fun c hc => ?_⟩
      have ncR : R' ≠ c := ne_of_none gR9 hc
      refine ⟨R', us', (i0 : Int), i0, rfl, rfl, by rw [upd_ne ncR]; exact gR9, ixN_nat (by omega), ?_⟩
      refine hnx _ _ (JQ.put hwd (m := m) n1 n2 n3 (by rw [upd_ne ncR]; exact gR9) ((J2.tk.trans tk9).trans (Same.upd hc _).ts) (hp9.same (Same.upd hc _)) (by omega) (((J2.sm.trans s68.sm).trans sm9).trans (Same.upd hc _).sm) (J2.th.tk (tk9.trans (Same.upd hc _).ts)) (by rw [List.length_set]; omega) (fun u hu => (setmem _ u hu).imp id fun e => ?_) _ _ _ (by omega))
      rw [e]
      have gc : upd (upd H29 c (.tup [.str nm, vs[ir]])) R' (.lst (us'.set i0 (.ref c))) c = some (.tup [.str nm, vs[ir]]) := by rw [upd_ne ncR.symm]; exact upd_same
      refine (DB.tup (k := 4) (n := BB 4) True.intro gc (by simp) fun y hy => ?_).mono (by omega) (by show 2 * (BB 4 + 2) + 3 ≤ 105301; decide)
      simp only [List.mem_cons, List.mem_nil_iff, or_false] at hy
      rcases hy with rfl | rfl
      · exact (DB.str hnm).up
      · refine (hm9.keep fun a u hP e => ?_).wide fun _ _ => True.intro
        rw [upd_ne hP.1]
        exact (Same.upd hc _) _ _ e
    rintro σ3 H7 J3
    refine tSeq_by (JQ H H4 p w' a1 W i0 nm ot wy (t + 1 + 1 + 1) xs rows ns ws 4) ?_ ?_
    · intro nx hnx
      obtain ⟨R', us', m', v8, v9, v10, rfl, gR', hpr, hl8, hdb, n1, n2, n3⟩ := J3.ex
      refine ⟨rfl, _, rfl, iteB (fun c1 => ?_) (fun c1 => hnx _ _ (J3.up (by omega)))⟩
      rw [Bool.false_xor, decV_int] at c1
      have c1' : wy = 3 := of_decide_eq_true c1
      obtain rfl := hpr (by omega)
      have hPR : ∀ a, H7 a = none → a ≠ R' ∧ a ≠ p ∧ a ≠ w' := fun a ha => ⟨fun z => (by rw [z, gR'] at ha; cases ha), J3.pen.ne1 ha, J3.pen.ne2 ha⟩
      refine tSeq_set ⟨fun a => a ≠ R' ∧ a ≠ p ∧ a ≠ w', nm, ot, W, w0, w1, wr, rfl, hPR, hnm, hot, wW _ J3.sm, hw0, hw1, fun O vs H28 hO s68 gO8 hl hvs => ?_⟩
      have nOp : O ≠ p := J3.pen.ne1 hO
      have nOw : O ≠ w' := J3.pen.ne2 hO
      try dsimp only
      have pen8 := J3.pen.same s68
      refine ⟨p, w', 14, _, rfl, pen8, ⟨by decide, by decide⟩, by show t + 1 + 1 + 1 + 3 < 1000000000000; omega, fun r H29 ra rb hp9 sm9 => ?_⟩
      obtain ⟨ir, rfl⟩ : ∃ i : Nat, r = (i : Int) := ⟨r.toNat, by omega⟩
      have hir : ir < vs.length := by omega
      obtain ⟨m, hm⟩ := hvs _ (List.getElem_mem hir)
      have hm9 : DB (fun a => a ≠ R' ∧ a ≠ p ∧ a ≠ w') H29 m vs[ir] 4 (BB 4) := hm.keep fun a u hP e => sm9 _ _ e hP.2.1 hP.2.2
      have gR9 := sm9 _ _ (s68 _ _ gR') n1 n2
      have tk9 : Tk H7 H29 := s68.ts.trans (pen8.ts sm9)
      refine ⟨vs, vs[ir], .inl (SqL.of (sm9 _ _ gO8 nOp nOw)), atI_nat (List.getElem?_eq_getElem hir), (show 2 ≤ sizeLine by decide), fun c hc => ?_⟩
      have ncR : R' ≠ c := ne_of_none gR9 hc
      refine ⟨R', us', (i0 : Int), i0, rfl, rfl, by rw [upd_ne ncR]; exact gR9, ixN_nat (by omega), ?_⟩
      refine hnx _ _ (JQ.put hwd (m := m) n1 n2 n3 (by rw [upd_ne ncR]; exact gR9) ((J3.tk.trans tk9).trans (Same.upd hc _).ts) (hp9.same (Same.upd hc _)) (by omega) (((J3.sm.trans s68.sm).trans sm9).trans (Same.upd hc _).sm) (J3.th.tk (tk9.trans (Same.upd hc _).ts)) (by rw [List.length_set]; omega) (fun u hu => (setmem _ u hu).imp id fun e => ?_) _ _ _ (by omega))
      rw [e]
      have gc : upd (upd H29 c (.tup [.str nm, vs[ir]])) R' (.lst (us'.set i0 (.ref c))) c = some (.tup [.str nm, vs[ir]]) := by rw [upd_ne ncR.symm]; exact upd_same
      refine (DB.tup (k := 4) (n := BB 4) True.intro gc (by simp) fun y hy => ?_).mono (by omega) (by show 2 * (BB 4 + 2) + 3 ≤ 105301; decide)
      simp only [List.mem_cons, List.mem_nil_iff, or_false] at hy
      rcases hy with rfl | rfl
      · exact (DB.str hnm).up
      · refine (hm9.keep fun a u hP e => ?_).wide fun _ _ => True.intro
        rw [upd_ne hP.1]
        exact (Same.upd hc _) _ _ e
    rintro σ4 H8 J4
    refine tSeq_by (JQ H H4 p w' a1 W i0 nm ot wy (t + 1 + 1 + 1) xs rows ns ws 5) ?_ ?_
    · intro nx hnx
      obtain ⟨R', us', m', v8, v9, v10, rfl, gR', hpr, hl8, hdb, n1, n2, n3⟩ := J4.ex
      refine ⟨rfl, _, rfl, iteB (fun c1 => ?_) (fun c1 => hnx _ _ (J4.up (by omega)))⟩
      rw [Bool.false_xor, decV_int] at c1
      have c1' : wy = 4 := of_decide_eq_true c1
      obtain rfl := hpr (by omega)
      refine ⟨.inl ⟨rfl, _, SqL.of gR'⟩, (show 1 ≤ sizeLine by decide), fun q1 hq1 => ⟨(show 2 ≤ sizeLine by decide), fun q2 hq2 => ?_⟩⟩
      have e1 : R' ≠ q1 := ne_of_none gR' hq1
      have e2 : R' ≠ q2 := ne_of_none ((Same.upd hq1 _) _ _ gR') hq2
      have s12 := (Same.upd hq1 (.tup [.str "hole"])).trans (Same.upd hq2 (.tup [.str ot, .ref q1]))
      have gR2 := s12 _ _ gR'
      refine ⟨R', us', .ref q2, rfl, rfl, gR2, by omega, hnx _ _ (JQ.put hwd (m := true) n1 n2 n3 gR2 (J4.tk.trans s12.ts) (J4.pen.same s12) (by omega) (J4.sm.trans s12.sm) (J4.th.tk s12.ts) (by simp; omega) (fun u hu => (List.mem_append.mp hu).imp id fun e => ?_) _ _ _ (by omega))⟩
      rw [List.mem_singleton] at e
      rw [e]
      have g2 : upd (upd (upd H8 q1 (.tup [.str "hole"])) q2 (.tup [.str ot, .ref q1])) R' (.lst (us' ++ [.ref q2])) q2 = some (.tup [.str ot, .ref q1]) := by rw [upd_ne e2.symm]; exact upd_same
      have g1 : upd (upd (upd H8 q1 (.tup [.str "hole"])) q2 (.tup [.str ot, .ref q1])) R' (.lst (us' ++ [.ref q2])) q1 = some (.tup [.str "hole"]) := by rw [upd_ne e1.symm]; exact (Same.upd hq2 _) _ _ upd_same
      exact (row1_db (P := anyA) True.intro True.intro g1 g2 hot (wd_ascii (by decide) (by decide))).mono (by omega) (by omega)
    rintro σ5 H9 J5
    refine tSeq_by (JQ H H4 p w' a1 W i0 nm ot wy (t + 1 + 1 + 1) xs rows ns ws 6) ?_ ?_
    · intro nx hnx
      obtain ⟨R', us', m', v8, v9, v10, rfl, gR', hpr, hl8, hdb, n1, n2, n3⟩ := J5.ex
      refine ⟨rfl, _, rfl, iteB (fun c1 => ?_) (fun c1 => hnx _ _ (J5.up (by omega)))⟩
      rw [Bool.false_xor, decV_int] at c1
      have c1' : wy = 5 := of_decide_eq_true c1
      obtain rfl := hpr (by omega)
      refine .inl ⟨_, .inl (SqL.of gR'), p, w', 3, _, rfl, J5.pen, ⟨by decide, by decide⟩, by show t + 1 + 1 + 1 + 5 < 1000000000000; omega, fun r H10 ra rb hp6 sm6 => ?_⟩
      have smC : Sm p w' H H10 := J5.sm.trans sm6
      have gR10 := sm6 _ _ gR' n1 n2
      refine ⟨11 - (us'.length : Int) + r, rfl, by omega, by omega, fun D hD => ?_⟩
      have nDp : D ≠ p := hp6.ne1 hD
      have nDw : D ≠ w' := hp6.ne2 hD
      have hD0 : H D = none := smC.free hD nDp nDw
      refine lc_by (itn_range 0 (11 - (us'.length : Int) + r).toNat) (fun i τ H' => ∃ (v0 : Option V) (zs : List V), τ = [v0, some (.str nm)] ∧ H' D = some (.lst zs) ∧ zs.length = i ∧ (∀ u ∈ zs, DB (fun a => a ≠ D) H' true u 2 829) ∧ Same H10 H') ⟨none, [], rfl, upd_same, rfl, (fun _ h => nomatch h), Same.upd hD _⟩ (fun _ _ _ _ _ => True.intro) ?_ ?_
      · rintro i τ H11 hi ⟨v0, zs, rfl, z1, z2, z3, z4⟩
        obtain ⟨c, hc1, hc2⟩ := atI_some ("abcdefghijk" : Str).cps.toList (0 + (i : Int)) (by omega) (by show (0 + (i : Int)) < 11; omega)
        have hcm : c < 128 := (by decide : ∀ d ∈ ("abcdefghijk" : Str).cps.toList, d < 128) c (List.mem_of_getElem? hc1)
        refine ⟨(show 11 ≤ sizeLine by decide), c, hc2, (show 5 + 1 ≤ sizeLine by decide), (show 2 ≤ sizeLine by decide), fun q1 hq1 => ⟨(show 2 ≤ sizeLine by decide), fun q2 hq2 => ?_⟩⟩
        have s1 := Same.upd hq1 (.tup [.str "as", .str nm])
        have s2 := Same.upd hq2 (.tup [.str (("zzzzz" : Str) ++ (⟨#[c]⟩ : Str)), .ref q1])
        have g2 : upd (upd H11 q1 (.tup [.str "as", .str nm])) q2 (.tup [.str (("zzzzz" : Str) ++ (⟨#[c]⟩ : Str)), .ref q1]) q2 = some (.tup [.str (("zzzzz" : Str) ++ (⟨#[c]⟩ : Str)), .ref q1]) := upd_same
        have g1 := s2 _ _ (upd_same : upd H11 q1 (.tup [.str "as", .str nm]) q1 = some (.tup [.str "as", .str nm]))
        have s3 := s1.trans s2
        have n1E : q1 ≠ D := fun e => (by rw [e, z1] at hq1; cases hq1)
        have n2E : q2 ≠ D := fun e => (by rw [e, s1 _ _ z1] at hq2; cases hq2)
        refine ⟨zs, s3 _ _ z1, by omega, _, zs ++ [.ref q2], rfl, upd_same, by simp [z2], fun u hu => ?_, (z4.trans s3).put hD⟩
        refine DB.keep (H := upd (upd H11 q1 (.tup [.str "as", .str nm])) q2 (.tup [.str (("zzzzz" : Str) ++ (⟨#[c]⟩ : Str)), .ref q1])) ?_ (fun a o hP e => by rw [upd_ne hP]; exact e)
        rcases List.mem_append.mp hu with hu | hu
        · exact (z3 u hu).same s3
        · rw [List.mem_singleton] at hu
          rw [hu]
          exact row2_db (P := fun a => a ≠ D) n1E n2E g1 g2 (zz_wd hcm) (wd_ascii (by decide) (by decide)) hnm
      · rintro τ H11 ⟨v0, zs, rfl, z1, z2, z3, z4⟩
        refine ⟨us', zs, z4 _ _ gR10, z1, by omega, fun q hq => ?_⟩
        have pen11 := hp6.same z4
        have nqp : q ≠ p := pen11.ne1 hq
        have nqw : q ≠ w' := pen11.ne2 hq
        have sq := Same.upd hq (.lst (us' ++ zs))
        have smD : Sm p w' H H11 := smC.trans z4.sm
        have hq0 : H q = none := smD.free hq nqp nqw
        have th11 := (J5.th.tk (J5.pen.ts sm6)).tk (z4.ts.trans sq.ts)
        refine hnx _ _ ⟨⟨q, us' ++ zs, true, v8, v9, v10, rfl, upd_same, fun h => absurd h (by omega), by simp; omega, fun u hu => ?_, nqp, nqw, hq0⟩, (pen11.same sq).mono (by omega), smD.trans sq.sm, th11, ((J5.tk.trans (J5.pen.ts sm6)).trans z4.ts).trans sq.ts⟩
        rcases List.mem_append.mp hu with hu | hu
        · exact TH_rdb th11 hwd (fun _ _ _ => True.intro) u hu true
        · exact (((z3 u hu).same sq).wide fun _ _ => True.intro).mono (by omega) (by omega)
    rintro σ6 H10 J6
    refine tSeq_by (JQ H H4 p w' a1 W i0 nm ot wy (t + 1 + 1 + 1) xs rows ns ws 7) ?_ ?_
    · intro nx hnx
      obtain ⟨R', us', m', v8, v9, v10, rfl, gR', hpr, hl8, hdb, n1, n2, n3⟩ := J6.ex
      refine ⟨rfl, _, rfl, iteB (fun c1 => ?_) (fun c1 => hnx _ _ (J6.up (by omega)))⟩
      rw [Bool.false_xor, decV_int] at c1
      have c1' : wy = 6 := of_decide_eq_true c1
      obtain rfl := hpr (by omega)
      refine ⟨R', us', rfl, SqL.of gR', fun E1 hE => ?_⟩
      have nEp : E1 ≠ p := J6.pen.ne1 hE
      have nEw : E1 ≠ w' := J6.pen.ne2 hE
      have hE0 : H E1 = none := J6.sm.free hE nEp nEw
      refine lc_pair (itp_enum us') (fun i τ H' => ∃ (v0 v1 : Option V) (zs : List V), τ = [v0, v1, some (.ref R')] ∧ H' E1 = some (.lst zs) ∧ zs.length = i ∧ (∀ u ∈ zs, DB (fun a => a ≠ E1) H' true u 2 829) ∧ Same H10 H') ⟨none, none, [], rfl, upd_same, rfl, (fun _ h => nomatch h), Same.upd hE _⟩ (by rintro i τ H' _ ⟨_, _, _, _, _, _, _, s⟩; exact SqL.of (s _ _ gR')) ?_ ?_
      · rintro i τ H11 T0 hi ⟨v0, v1, zs, rfl, z1, z2, z3, z4⟩ hT0
        have sT := Same.upd hT0 (.tup [.int (i : Int), us'.getD i .non])
        have z1' := sT _ _ z1
        have s12 := z4.trans sT
        generalize upd H11 T0 (.tup [.int (i : Int), us'.getD i .non]) = H12 at sT z1' s12
        have rt12 := J6.th.tk s12.ts
        have hi' : i < rows.length := by omega
        obtain ⟨b1, x1, y1, y2, y3⟩ := rt12.rv.mem hi'
        obtain ⟨j, hj, y4⟩ := atI_pred hi
        have hj' : j < rows.length := by omega
        obtain ⟨b2, x2, y5, y6, y7⟩ := rt12.rv.at_ j hj hj'
        have w1 : Wd rows[i].1 := rt12.wd _ (rt12.nm.mem_iff.mp (List.mem_map.mpr ⟨_, List.getElem_mem hi', rfl⟩))
        have w2 : Wd rows[j].1 := rt12.wd _ (rt12.nm.mem_iff.mp (List.mem_map.mpr ⟨_, List.getElem_mem hj', rfl⟩))
        generalize rows[i].1 = nm1 at y2 w1
        generalize rows[j].1 = nm2 at y6 w2
        rw [y1]
        refine ⟨_, .str nm1, .inr (SqT.of y2), atI_zero _ _, us', .ref b2, .inl (SqL.of (s12 _ _ gR')), (by rw [y4, y5]), _, .str nm2, .inr (SqT.of y6), atI_zero _ _, (show 2 ≤ sizeLine by decide), fun q1 hq1 => ⟨(show 2 ≤ sizeLine by decide), fun q2 hq2 => ?_⟩⟩
        have s1 := Same.upd hq1 (.tup [.str "as", .str nm2])
        have s2 := Same.upd hq2 (.tup [.str nm1, .ref q1])
        have g2 : upd (upd H12 q1 (.tup [.str "as", .str nm2])) q2 (.tup [.str nm1, .ref q1]) q2 = some (.tup [.str nm1, .ref q1]) := upd_same
        have g1 := s2 _ _ (upd_same : upd H12 q1 (.tup [.str "as", .str nm2]) q1 = some (.tup [.str "as", .str nm2]))
        have s3 := s1.trans s2
        have n1E : q1 ≠ E1 := fun e => (by rw [e, z1'] at hq1; cases hq1)
        have n2E : q2 ≠ E1 := fun e => (by rw [e, s1 _ _ z1'] at hq2; cases hq2)
        generalize upd (upd H12 q1 (.tup [.str "as", .str nm2])) q2 (.tup [.str nm1, .ref q1]) = H13 at s3 g1 g2
        refine ⟨zs, s3 _ _ z1', by omega, _, _, zs ++ [.ref q2], rfl, upd_same, by simp [z2], fun u hu => ?_, (s12.trans s3).put hE⟩
        refine DB.keep (H := H13) ?_ (fun a o hP e => by rw [upd_ne hP]; exact e)
        rcases List.mem_append.mp hu with hu | hu
        · exact (z3 u hu).same (sT.trans s3)
        · rw [List.mem_singleton] at hu
          rw [hu]
          exact row2_db (P := fun a => a ≠ E1) n1E n2E g1 g2 w1 (wd_ascii (by decide) (by decide)) w2
      · rintro τ H11 ⟨v0, v1, zs, rfl, z1, z2, z3, z4⟩
        exact hnx _ _ ⟨⟨E1, zs, true, v8, v9, v10, rfl, z1, fun h => absurd h (by omega), by omega, fun u hu => ((z3 u hu).wide fun _ _ => True.intro).mono (by omega) (by omega), nEp, nEw, hE0⟩, (J6.pen.same z4).mono (by omega), J6.sm.trans z4.sm, J6.th.tk z4.ts, J6.tk.trans z4.ts⟩
    rintro σ7 H11 J7
    refine tSeq_by (JQ H H4 p w' a1 W i0 nm ot wy (t + 1 + 1 + 1) xs rows ns ws 8) ?_ ?_
    · intro nx hnx
      obtain ⟨R', us', m', v8, v9, v10, rfl, gR', hpr, hl8, hdb, n1, n2, n3⟩ := J7.ex
      refine ⟨rfl, _, rfl, iteB (fun c1 => ?_) (fun c1 => hnx _ _ (J7.up (by omega)))⟩
      rw [Bool.false_xor, decV_int] at c1
      have c1' : wy = 7 := of_decide_eq_true c1
      obtain rfl := hpr (by omega)
      have hPR : ∀ a, H11 a = none → a ≠ p ∧ a ≠ w' := fun a ha => ⟨J7.pen.ne1 ha, J7.pen.ne2 ha⟩
      have hT : ∀ a ys, H11 a = some (.tup ys) → a ≠ p ∧ a ≠ w' := fun a ys e => pen_noT J7.pen e
      have hI : ∀ u ∈ us', ∀ m, DB (fun a => a ≠ p ∧ a ≠ w') H11 m u 5 105301 := TH_rdb J7.th hwd hT
      have hRow : DB (fun a => a ≠ p ∧ a ≠ w') H11 true (.ref R') 7 (BB 7) := (DB.lst (k := 5) (n := 105301) ⟨n1, n2⟩ gR' fun u hu => hI u hu true).mono (by omega) (Nat.le_trans (Nat.add_le_add_right (Nat.mul_le_mul_right _ hl8) 3) (by decide))
      obtain ⟨u0, ur, rfl⟩ : ∃ u0 ur, us' = u0 :: ur := lenS (show us'.length ≠ 0 by omega)
      have hI0 : DB (fun a => a ≠ p ∧ a ≠ w') H11 true u0 5 (BB 5) := (hI u0 List.mem_cons_self true).mono (by omega) (by decide)
      have hol : ∀ H' : Hp, ∀ m, DB (fun a => a ≠ p ∧ a ≠ w') H' m (.str "hole") 0 202 := fun H' m => DB.str (wd_ascii (by decide) (by decide))
      have gO : GdL (fun a => a ≠ p ∧ a ≠ w') [some (.ref p), some (.ref a1), some (.ref W), some (.ref R'), some (.int (i0 : Int)), some (.str nm), some (.str ot), some (.int wy), v8, v9, v10] H11 (tCons (tV 3) (tCons (tTup tNil) (tCons (tC V.non) (tCons (tC (V.str "hole")) (tCons (tTup (tCons (tC (V.str "hole")) tNil)) (tCons (tDisp [(tV 5, (tTup (tCons (tC (V.str "hole")) tNil)))]) (tCons (tTup (tCons (tOp (rIxD K) (tV 3) (tC (V.int 0))) tNil)) (tCons (tC (V.int 3)) (tCons (tTup (tCons (tTup (tCons (tV 5) (tCons (tTup (tCons (tC (V.str "hole")) tNil)) tNil))) tNil)) tNil))))))))) 8 9 :=
        gdl_cons ⟨true, gd_vt (i := 3) rfl (hRow.mono (by omega) (BB_le (by omega)))⟩ (gdl_cons ⟨true, gd_tup hPR gda_nil (by decide)⟩ (gdl_cons ⟨true, gd_c fun H => DB.non⟩ (gdl_cons ⟨true, gd_c fun H => hol H true⟩ (gdl_cons ⟨true, gd_tup hPR (gda_cons (gd_c fun H => hol H true) gda_nil) (by decide)⟩ (gdl_cons ⟨false, gd_dcT (i := 5) hPR rfl hnm (wd_ascii (by decide) (by decide)) (by decide)⟩ (gdl_cons ⟨true, gd_tup (k := 7) hPR (gda_cons (fun H Q s q => gd_ixr (k := 5) (i := 3) rfl gR' hI0 H Q s fun v H' s' d => q v H' s' (d.mono (by omega) (BB_le (by omega)))) gda_nil) (by decide)⟩ (gdl_cons ⟨true, gd_c (v := .int 3) fun H => DB.int (by decide) (by decide)⟩ (gdl_cons ⟨true, gd_tup hPR (gda_cons (gd_tup hPR (gda_cons (gd_v (i := 5) rfl (fun m => DB.str hnm)) (gda_cons (gd_tup hPR (gda_cons (gd_c fun H => hol H true) gda_nil) (by decide)) gda_nil)) (by decide)) gda_nil) (by decide)⟩ gdl_nil))))))))
      refine tSeq_set (gO H11 _ (Same.refl H11) fun vs H27 s7 hl hvs => ⟨by omega, fun O hO => ?_⟩)
      have s8 := Same.upd hO (.lst vs)
      have gO8 : upd H27 O (.lst vs) O = some (.lst vs) := upd_same
      have nOp : O ≠ p := (J7.pen.same s7).ne1 hO
      have nOw : O ≠ w' := (J7.pen.same s7).ne2 hO
      try dsimp only
      generalize upd H27 O (.lst vs) = H28 at s8 gO8
      have s68 := s7.trans s8
      have pen8 := J7.pen.same s68
      refine ⟨p, w', 9, _, rfl, pen8, ⟨by decide, by decide⟩, by show t + 1 + 1 + 1 + 7 < 1000000000000; omega, fun r H29 ra rb hp9 sm9 => ?_⟩
      obtain ⟨ir, rfl⟩ : ∃ i : Nat, r = (i : Int) := ⟨r.toNat, by omega⟩
      have hir : ir < vs.length := by omega
      obtain ⟨m, hm⟩ := hvs _ (List.getElem_mem hir)
      have hm9 : DB (fun a => a ≠ p ∧ a ≠ w') H29 m vs[ir] 8 (BB 8) := (hm.same s8).keep fun a u hP e => sm9 _ _ e hP.1 hP.2
      exact ⟨vs, vs[ir], .inl (SqL.of (sm9 _ _ gO8 nOp nOw)), atI_nat (List.getElem?_eq_getElem hir), k _ m H29 ((hm9.wide fun _ _ => True.intro).mono (by omega) (by decide)) (hp9.mono (by omega)) ((J7.sm.trans s68.sm).trans sm9)⟩
    rintro σ8 H12 J8
    refine tSeq_by (JQ H H4 p w' a1 W i0 nm ot wy (t + 1 + 1 + 1) xs rows ns ws 9) ?_ ?_
    · intro nx hnx
      obtain ⟨R', us', m', v8, v9, v10, rfl, gR', hpr, hl8, hdb, n1, n2, n3⟩ := J8.ex
      refine ⟨rfl, _, rfl, iteB (fun c1 => ?_) (fun c1 => hnx _ _ (J8.up (by omega)))⟩
      rw [Bool.false_xor, decV_int] at c1
      have c1' : wy = 8 := of_decide_eq_true c1
      obtain rfl := hpr (by omega)
      have hPR : ∀ a, H12 a = none → a ≠ R' ∧ a ≠ p ∧ a ≠ w' := fun a ha => ⟨fun z => (by rw [z, gR'] at ha; cases ha), J8.pen.ne1 ha, J8.pen.ne2 ha⟩
      have gO : GdL (fun a => a ≠ R' ∧ a ≠ p ∧ a ≠ w') [some (.ref p), some (.ref a1), some (.ref W), some (.ref R'), some (.int (i0 : Int)), some (.str nm), some (.str ot), some (.int wy), v8, v9, v10] H12 (tCons (tV 6) (tCons (tC (V.str "")) (tCons (tC (V.str "pick")) (tCons (tC (V.int 1)) (tCons (tC V.non) (tCons (tBM0 K "str" rUpper (tV 5)) (tCons (tLst (tCons (tV 5) tNil)) (tCons tDNewK (tCons (tTup (tCons (tLst (tCons (tV 5) tNil)) tNil)) tNil))))))))) 4 9 :=
        gdl_cons ⟨true, gd_v (i := 6) rfl (fun m => DB.str hot)⟩ (gdl_cons ⟨true, gd_c (v := .str "") fun H => DB.str (wd_ascii (by decide) (by decide))⟩ (gdl_cons ⟨true, gd_c (v := .str "pick") fun H => DB.str (wd_ascii (by decide) (by decide))⟩ (gdl_cons ⟨true, gd_c (v := .int 1) fun H => DB.int (by decide) (by decide)⟩ (gdl_cons ⟨true, gd_c fun H => DB.non⟩ (gdl_cons ⟨true, gd_up (i := 5) rfl hnm⟩ (gdl_cons ⟨true, gd_lst hPR (gda_cons (gd_v (i := 5) rfl (fun m => DB.str hnm)) gda_nil) (by decide)⟩ (gdl_cons ⟨false, gd_dn hPR⟩ (gdl_cons ⟨true, gd_tup hPR (gda_cons (gd_lst hPR (gda_cons (gd_v (i := 5) rfl (fun m => DB.str hnm)) gda_nil) (by decide)) gda_nil) (by decide)⟩ gdl_nil))))))))
      refine tSeq_set (gO H12 _ (Same.refl H12) fun vs H27 s7 hl hvs => ⟨by omega, fun O hO => ?_⟩)
      have s8 := Same.upd hO (.lst vs)
      have gO8 : upd H27 O (.lst vs) O = some (.lst vs) := upd_same
      have nOp : O ≠ p := (J8.pen.same s7).ne1 hO
      have nOw : O ≠ w' := (J8.pen.same s7).ne2 hO
      try dsimp only
      generalize upd H27 O (.lst vs) = H28 at s8 gO8
      have s68 := s7.trans s8
      have pen8 := J8.pen.same s68
      refine ⟨p, w', 9, _, rfl, pen8, ⟨by decide, by decide⟩, by show t + 1 + 1 + 1 + 8 < 1000000000000; omega, fun r H29 ra rb hp9 sm9 => ?_⟩
      obtain ⟨ir, rfl⟩ : ∃ i : Nat, r = (i : Int) := ⟨r.toNat, by omega⟩
      have hir : ir < vs.length := by omega
      obtain ⟨m, hm⟩ := hvs _ (List.getElem_mem hir)
      have hm9 : DB (fun a => a ≠ R' ∧ a ≠ p ∧ a ≠ w') H29 m vs[ir] 4 (BB 4) := (hm.same s8).keep fun a u hP e => sm9 _ _ e hP.2.1 hP.2.2
      have gR9 := sm9 _ _ (s68 _ _ gR') n1 n2
      have tk9 : Tk H12 H29 := s68.ts.trans (pen8.ts sm9)
      have r29 := (J8.tk.trans tk9) _ _ r24
      refine ⟨vs, vs[ir], .inl (SqL.of (sm9 _ _ gO8 nOp nOw)), atI_nat (List.getElem?_eq_getElem hir), us', .ref b, .inl (SqL.of gR9), hat, _, hv, .inr (SqT.of r29), rfl, (show 2 ≤ sizeLine by decide), fun c hc => ?_⟩
      have ncR : R' ≠ c := ne_of_none gR9 hc
      refine ⟨R', us', (i0 : Int), i0, rfl, rfl, by rw [upd_ne ncR]; exact gR9, ixN_nat (by omega), ?_⟩
      refine hnx _ _ (JQ.put hwd (m := m) n1 n2 n3 (by rw [upd_ne ncR]; exact gR9) ((J8.tk.trans tk9).trans (Same.upd hc _).ts) (hp9.same (Same.upd hc _)) (by omega) (((J8.sm.trans s68.sm).trans sm9).trans (Same.upd hc _).sm) (J8.th.tk (tk9.trans (Same.upd hc _).ts)) (by rw [List.length_set]; omega) (fun u hu => (setmem _ u hu).imp id fun e => ?_) _ _ _ (by omega))
      rw [e]
      have gc : upd (upd H29 c (.tup [vs[ir], hv])) R' (.lst (us'.set i0 (.ref c))) c = some (.tup [vs[ir], hv]) := by rw [upd_ne ncR.symm]; exact upd_same
      have tkc : Tk H12 (upd (upd H29 c (.tup [vs[ir], hv])) R' (.lst (us'.set i0 (.ref c)))) := (tk9.trans (Same.upd hc _).ts).set (by rw [upd_ne ncR]; exact gR9) (by intro _ z; cases z)
      refine (DB.tup (k := 4) (n := BB 4) True.intro gc (by simp) fun y hy => ?_).mono (by omega) (by show 2 * (BB 4 + 2) + 3 ≤ 105301; decide)
      simp only [List.mem_cons, List.mem_nil_iff, or_false] at hy
      rcases hy with rfl | rfl
      · refine (hm9.keep fun a u hP e => ?_).wide fun _ _ => True.intro
        rw [upd_ne hP.1]
        exact (Same.upd hc _) _ _ e
      · exact (TH_hdb (J8.th.tk tkc) hwd (fun _ _ _ => True.intro) hmi (r34.tk (J8.tk.trans tkc)) m).mono (by omega) (by decide)
    rintro σ9 H13 J9
    refine tSeq_by (JQ H H4 p w' a1 W i0 nm ot wy (t + 1 + 1 + 1) xs rows ns ws 10) ?_ ?_
    · intro nx hnx
      obtain ⟨R', us', m', v8, v9, v10, rfl, gR', hpr, hl8, hdb, n1, n2, n3⟩ := J9.ex
      refine ⟨rfl, _, rfl, iteB (fun c1 => ?_) (fun c1 => hnx _ _ (J9.up (by omega)))⟩
      rw [Bool.false_xor, decV_int] at c1
      have c1' : wy = 9 := of_decide_eq_true c1
      obtain rfl := hpr (by omega)
      have hPR : ∀ a, H13 a = none → a ≠ R' ∧ a ≠ p ∧ a ≠ w' := fun a ha => ⟨fun z => (by rw [z, gR'] at ha; cases ha), J9.pen.ne1 ha, J9.pen.ne2 ha⟩
      have gO : GdL (fun a => a ≠ R' ∧ a ≠ p ∧ a ≠ w') [some (.ref p), some (.ref a1), some (.ref W), some (.ref R'), some (.int (i0 : Int)), some (.str nm), some (.str ot), some (.int wy), v8, v9, v10] H13 (tCons (tLst (tCons (tV 5) (tCons (tTup (tCons (tC (V.str "hole")) tNil)) tNil))) (tCons (tTup (tCons (tV 5) tNil)) (tCons (tTup (tCons (tV 5) (tCons (tTup (tCons (tC (V.str "hole")) tNil)) (tCons (tC (V.int 1)) tNil)))) (tCons (tC V.non) tNil)))) 4 4 := by repeat' (first | with_reducible exact gdl_nil | (refine gdl_cons ⟨true, ?_⟩ ?_; (focus ((repeat' (first | with_reducible exact gda_nil | with_reducible apply gda_cons | ((with_reducible show Gd _ _ _ _ (tV _) _); exact gd_v rfl (fun m => DB.str (by assumption))) | ((with_reducible show Gd _ _ _ _ (tOp _ _ _) _); (first | exact gd_ix0 rfl (by assumption) (by assumption) | exact gd_ix1 rfl (by assumption) (by assumption))) | ((with_reducible apply gd_c); intro H; first | exact DB.str (wd_ascii (by decide) (by decide)) | exact DB.non | exact DB.int (by decide) (by decide)) | with_reducible apply gd_tup | with_reducible apply gd_lst | with_reducible apply gd_dn | assumption | decide)); done))) | (refine gdl_cons ⟨false, ?_⟩ ?_; (focus ((repeat' (first | with_reducible exact gda_nil | with_reducible apply gda_cons | ((with_reducible show Gd _ _ _ _ (tV _) _); exact gd_v rfl (fun m => DB.str (by assumption))) | ((with_reducible show Gd _ _ _ _ (tOp _ _ _) _); (first | exact gd_ix0 rfl (by assumption) (by assumption) | exact gd_ix1 rfl (by assumption) (by assumption))) | ((with_reducible apply gd_c); intro H; first | exact DB.str (wd_ascii (by decide) (by decide)) | exact DB.non | exact DB.int (by decide) (by decide)) | with_reducible apply gd_tup | with_reducible apply gd_lst | with_reducible apply gd_dn | assumption | decide)); done))))
      refine asg_ixL (gdl_lst gO (by decide) fun O vs H27 s7 hO hl hvs => ?_)
      have s8 := Same.upd hO (.lst vs)
      have gO8 : upd H27 O (.lst vs) O = some (.lst vs) := upd_same
      have nOp : O ≠ p := (J9.pen.same s7).ne1 hO
      have nOw : O ≠ w' := (J9.pen.same s7).ne2 hO
      try dsimp only
      generalize upd H27 O (.lst vs) = H28 at s8 gO8
      have s68 := s7.trans s8
      have pen8 := J9.pen.same s68
      refine ⟨p, w', 4, _, rfl, pen8, ⟨by decide, by decide⟩, by show t + 1 + 1 + 1 + 9 < 1000000000000; omega, fun r H29 ra rb hp9 sm9 => ?_⟩
      obtain ⟨ir, rfl⟩ : ∃ i : Nat, r = (i : Int) := ⟨r.toNat, by omega⟩
      have hir : ir < vs.length := by omega
      obtain ⟨m, hm⟩ := hvs _ (List.getElem_mem hir)
      have hm9 : DB (fun a => a ≠ R' ∧ a ≠ p ∧ a ≠ w') H29 m vs[ir] 4 (BB 4) := (hm.same s8).keep fun a u hP e => sm9 _ _ e hP.2.1 hP.2.2
      have gR9 := sm9 _ _ (s68 _ _ gR') n1 n2
      have tk9 : Tk H13 H29 := s68.ts.trans (pen8.ts sm9)
      refine ⟨vs, vs[ir], .inl (SqL.of (sm9 _ _ gO8 nOp nOw)), atI_nat (List.getElem?_eq_getElem hir), R', us', (i0 : Int), i0, rfl, rfl, gR9, ixN_nat (by omega), ?_⟩
      refine hnx _ _ (JQ.put hwd (m := m) n1 n2 n3 gR9 (J9.tk.trans tk9) hp9 (by omega) ((J9.sm.trans s68.sm).trans sm9) (J9.th.tk tk9) (by rw [List.length_set]; omega) (fun u hu => (setmem _ u hu).imp id fun e => ?_) _ _ _ (by omega))
      rw [e]
      refine ((hm9.keep fun a u hP e => ?_).wide fun _ _ => True.intro).mono (by omega) (by decide)
      rw [upd_ne hP.1]
      exact e
    rintro σ10 H14 J10
    obtain ⟨R', us', m', v8, v9, v10, rfl, gR', hpr, hl8, hdb, n1, n2, n3⟩ := J10.ex
    refine ⟨R', us', rfl, .inl ⟨SqL.of gR', fun q hq => ?_⟩⟩
    have s1 := Same.upd hq (.tup us')
    exact k _ m' _ ((DB.tup (k := 5) (n := 105301) True.intro upd_same (by omega) fun u hu => (hdb u hu).same s1).mono (by omega) (Nat.le_trans (Nat.add_le_add_right (Nat.mul_le_mul_right _ hl8) 3) (by decide))) ((J10.pen.same s1).mono (by omega)) (J10.sm.trans s1.sm)
theorem ok_law (T : Txt K mg w) : FnK P w K mg base 9 "law" ["script"] (spLaw K) := by
  have F_law_tpen : FnK P w K mg base 1 "_law_tpen" ["script"] (spPen K) := ok_law_tpen T
  have F_law_tdraw : FnK P w K mg base 1 "_law_tdraw" ["pen", "many"] spDraw := ok_law_tdraw T
  have F_law_tnames : FnK P w K mg base 2 "_law_tnames" ["pen", "many"] spNames := ok_law_tnames T
  have F_law_ttelling : FnK P w K mg base 4 "_law_ttelling" ["pen", "most", "words", "sorts"] spTelling := ok_law_ttelling T
  have F_law_tholed : FnK P w K mg base 4 "_law_tholed" ["pen", "words"] spTholed := ok_law_tholed T
  have F_is_holed : FnK P w K mg base 7 "is_holed" ["thing"] (spT holD) := ok_is_holed T
  have F_law_tdue : FnK P w K mg base 4 "_law_tdue" ["thing"] (spT holD) := ok_law_tdue T
  have F_law_tother : FnK P w K mg base 2 "_law_tother" ["pen", "holed", "words"] spOther := ok_law_tother T
  refine T.t_law.okS sc_law (fun vs H Q E h => ?_) (fun fa cdv A outer s H vs Q E hr h => ?_)
  · obtain ⟨a, ns, rfl, _⟩ := h
    rfl
  · obtain ⟨a, ns, rfl, hS, hl, k⟩ := h
    have hu := hu_of hr
    have hu0 := Nat.lt_of_succ_lt (hu_of hr)
    have hu100 : (A.deeper (PyProof.Rows.envOfC "law" (defScope s_law) s.heap.objs.size fa cdv)).units + 100 < cLine := by have := hr.un; omega
    have hsz : sizeLine = 16777216 := sizeLine_eq
    refine ⟨_, (sb_cons (s_set (i := 1) sc_law.nd rfl (Or.inl rfl) (z_fn F_law_tpen (hr.mono (by decide)) (sa_Name (zv 0) sa_nil)))
      (sb_cons (s_set (i := 2) sc_law.nd rfl (Or.inl rfl) (z_callB (call_sortedK K) (by rfl) T.n_sorted PyProof.Rows.boot_sorted (sa_Subscript (z_ix (ix_K K) (z_lst (sa_Call (z_fn F_law_tnames (hr.mono (by decide)) (sa_Name (zv 1) (sa_Constant z_int sa_nil))) (sa_List (z_lst (sa_Constant z_str (sa_Constant z_str (sa_Constant z_str sa_nil)))) (sa_List (z_lst (sa_Constant z_str (sa_Constant z_str (sa_Constant z_str sa_nil)))) sa_nil)))) (z_fn F_law_tdraw (hr.mono (by decide)) (sa_Name (zv 1) (sa_Constant z_int sa_nil))) (fun _ _ => rfl)) sa_nil)))
      (sb_cons (s_for PassesOwn.never rfl (i_range1 (by rfl) T.n_range (sa_Constant z_int sa_nil)) (g_name (i := 3) sc_law.nd rfl (Or.inl rfl)) (sb_cons (s_set (i := 4) sc_law.nd rfl (Or.inl rfl) (z_fn F_law_tholed (hr.mono (by decide)) (sa_Name (zv 1) (sa_Name (zv 2) sa_nil))))
      (sb_cons (s_if (w_or (y_cmpR op_isnB (z_fn F_is_holed (hr.mono (by decide)) (sa_Name (zv 4) sa_nil)) z_bl (nomark _)) (w_or1 (y_not (y_val (z_fn F_law_tdue (hr.mono (by decide)) (sa_Name (zv 4) sa_nil)))))).pt (sb_one (s_ret z_bl)) sb_nil)
      (sb_one (s_for PassesOwn.never rfl (i_range1 (by rfl) T.n_range (sa_Constant z_int sa_nil)) (g_name (i := 5) sc_law.nd rfl (Or.inl rfl)) (sb_cons (s_set (i := 6) sc_law.nd rfl (Or.inl rfl) (z_fn F_law_tother (hr.mono (by decide)) (sa_Name (zv 1) (sa_Name (zv 4) (sa_Name (zv 2) sa_nil)))))
      (sb_cons (s_set (i := 7) sc_law.nd rfl (Or.inl rfl) (z_callB (call_reprM hr.gd hr.units) (by rfl) T.n_repr PyProof.Rows.boot_repr (sa_Name (zv 6) sa_nil)))
      (sb_cons (s_set (i := 8) sc_law.nd rfl (Or.inl rfl) (z_fn F_is_holed (hr.mono (by decide)) (sa_Name (zv 6) sa_nil)))
      (sb_one (s_if (w_or (y_not (y_val (z_callB call_isiD (by rfl) T.n_isinstance PyProof.Rows.boot_isinstance (sa_Name (zv 8) (sa_Name (z_bltn (v := .ty "bool") (by rfl) T.n_bool PyProof.Rows.boot_bool rfl) sa_nil))))) (w_or (y_cmpR (op_neD hu0) (zv 8) (z_fn F_law_tdue (hr.mono (by decide)) (sa_Name (zv 6) sa_nil)) (nomark _)) (w_or1 (y_cmpR (op_neD hu0) (z_callB (call_reprM hr.gd hr.units) (by rfl) T.n_repr PyProof.Rows.boot_repr (sa_Name (zv 6) sa_nil)) (zv 7) (nomark _))))).pt (sb_one (s_ret z_bl)) sb_nil))))))))))
      (sb_cons (s_set (i := 9) sc_law.nd rfl (Or.inl rfl) (z_fn F_law_ttelling (hr.mono (by decide)) (sa_Name (zv 1) (sa_Constant z_int (sa_Name (zv 2) (sa_List (z_lst (sa_Constant z_str (sa_Constant z_str (sa_Constant z_str (sa_Constant z_str (sa_Constant z_str sa_nil)))))) sa_nil))))))
      (sb_one (s_ret (z_cmpR op_isB (z_fn F_is_holed (hr.mono (by decide)) (sa_Name (zv 9) sa_nil)) z_bl (nomark _)))))))), ?_⟩
    refine tSeq_set ⟨a, ns, rfl, hS, hl, fun p w' H1 hp hw hpen same => ?_⟩
    refine tSeq_set ⟨p, w', 3, 0, rfl, hpen, ⟨by decide, by decide⟩, by show 0 + 20 < 1000000000000; omega, fun L1 ns1 H3 hL0 hL hnl hnd hwd hp3 sm3 => ?_⟩
    have hnl3 : ns1.length = 3 := by omega
    have nl1p : L1 ≠ p := fun e => by have := hp3.neL hL (by intro e; rw [e] at hnl3; simp at hnl3); exact this.1 e
    have nl1w : L1 ≠ w' := fun e => by have := hp3.neL hL (by intro e; rw [e] at hnl3; simp at hnl3); exact this.2 e
    refine ⟨(show 3 ≤ sizeLine by decide), fun l2 hl2 => ⟨(show 3 ≤ sizeLine by decide), fun l3 hl3 => ⟨(show 3 ≤ sizeLine by decide), fun O hO => ?_⟩⟩⟩
    have nl2p : l2 ≠ p := hp3.ne1 hl2
    have nl2w : l2 ≠ w' := hp3.ne2 hl2
    have s4 := Same.upd hl2 (.lst [.str "b", .str "ba", .str "ab"])
    have gl2 : upd H3 l2 (.lst [.str "b", .str "ba", .str "ab"]) l2 = some (.lst [.str "b", .str "ba", .str "ab"]) := upd_same
    have hp4 := hp3.same s4
    generalize upd H3 l2 (.lst [.str "b", .str "ba", .str "ab"]) = H4 at *
    have nl3p : l3 ≠ p := hp4.ne1 hl3
    have nl3w : l3 ≠ w' := hp4.ne2 hl3
    have s5 := Same.upd hl3 (.lst [.str "b", .str "a", .str "ab"])
    have gl3 : upd H4 l3 (.lst [.str "b", .str "a", .str "ab"]) l3 = some (.lst [.str "b", .str "a", .str "ab"]) := upd_same
    have hp5 := hp4.same s5
    generalize upd H4 l3 (.lst [.str "b", .str "a", .str "ab"]) = H5 at *
    have nOp : O ≠ p := hp5.ne1 hO
    have nOw : O ≠ w' := hp5.ne2 hO
    have s6 := Same.upd hO (.lst [.ref L1, .ref l2, .ref l3])
    have gO : upd H5 O (.lst [.ref L1, .ref l2, .ref l3]) O = some (.lst [.ref L1, .ref l2, .ref l3]) := upd_same
    have hp6 := hp5.same s6
    generalize upd H5 O (.lst [.ref L1, .ref l2, .ref l3]) = H6 at *
    refine ⟨p, w', 3, _, rfl, hp6, ⟨by decide, by decide⟩, by show 0 + 20 < 1000000000000; omega, fun r H7 ra rb hp7 sm7 => ?_⟩
    obtain ⟨W, zs, hat, gW, zl, znd, zn⟩ : ∃ (W : Addr) (zs : List Str), atI [V.ref L1, .ref l2, .ref l3] r = some (.ref W) ∧ H7 W = some (.lst (zs.map V.str)) ∧ zs.length = 3 ∧ zs.Nodup ∧ (∀ z ∈ zs, isName z = true ∧ Wd z) := by
      rcases (show r = 0 ∨ r = 1 ∨ r = 2 by omega) with rfl | rfl | rfl
      · exact ⟨L1, ns1, rfl, sm7 _ _ (s6 _ _ (s5 _ _ (s4 _ _ hL))) nl1p nl1w, hnl3, hnd, hwd⟩
      · refine ⟨l2, ["b", "ba", "ab"], rfl, sm7 _ _ (s6 _ _ (s5 _ _ gl2)) nl2p nl2w, rfl, by decide, fun z hz => ?_⟩
        simp only [List.mem_cons, List.mem_nil_iff, or_false] at hz
        rcases hz with rfl | rfl | rfl <;> exact ⟨by decide +kernel, wd_ascii (by decide) (by decide)⟩
      · refine ⟨l3, ["b", "a", "ab"], rfl, sm7 _ _ (s6 _ _ gl3) nl3p nl3w, rfl, by decide, fun z hz => ?_⟩
        simp only [List.mem_cons, List.mem_nil_iff, or_false] at hz
        rcases hz with rfl | rfl | rfl <;> exact ⟨by decide +kernel, wd_ascii (by decide) (by decide)⟩
    refine ⟨_, _, .inl (SqL.of (sm7 _ _ gO nOp nOw)), hat, ?_⟩
    refine ⟨W, zs, rfl, SqL.of gW, by omega, fun W2 ss hW2 hperm hsorted => ?_⟩
    have hsl : ss.length = 3 := by have := hperm.length_eq; omega
    have snd : ss.Nodup := hperm.nodup_iff.mpr znd
    have ssn : ∀ z ∈ ss, isName z = true ∧ Wd z := fun z hz => zn z (hperm.mem_iff.mp hz)
    have s8 := Same.upd hW2 (.lst (ss.map V.str))
    have gW8 : upd H7 W2 (.lst (ss.map V.str)) W2 = some (.lst (ss.map V.str)) := upd_same
    have nWp : W2 ≠ p := hp7.ne1 hW2
    have nWw : W2 ≠ w' := hp7.ne2 hW2
    have hp8 := hp7.same s8
    generalize upd H7 W2 (.lst (ss.map V.str)) = H8 at s8 gW8 hp8
    clear gl2 gl3 s4 s5 s6 gO sm7 hp3 hp4 hp5 hp6 hl2 hl3 hO hL gW hp7 s8 hW2
    have tw : ∀ H', Sm p w' H8 H' → TxtsAt H' W2 ss := fun H' s => ⟨s _ _ gW8 nWp nWw, by intro e; rw [e] at hsl; simp at hsl, by omega, fun z hz => (ssn z hz).2⟩
    obtain ⟨z0, z1, z2, hz012⟩ : ∃ z0 z1 z2, ss = [z0, z1, z2] := by
      match ss, hsl with
      | [z0, z1, z2], _ => exact ⟨z0, z1, z2, rfl⟩
    have w0 : Wd z0 := (ssn z0 (by rw [hz012]; simp)).2
    have w1 : Wd z1 := (ssn z1 (by rw [hz012]; simp)).2
    dsimp only
    refine tSeq_by (fun σ' H' => ∃ (v3 v4 v5 v6 v7 v8 : Option V), σ' = [some (.ref a), some (.ref p), some (.ref W2), v3, v4, v5, v6, v7, v8, none] ∧ PenAt H' p w' (21 + 1200 * 3) ∧ Sm p w' H8 H') ?_ ?_
    · intro nx hnx
      refine ⟨3, rfl, by decide, by decide, for_by (itn_range 0 3) (fun i σ' H' => ∃ (v3 v4 v5 v6 v7 v8 : Option V), σ' = [some (.ref a), some (.ref p), some (.ref W2), v3, v4, v5, v6, v7, v8, none] ∧ PenAt H' p w' (21 + 1200 * i) ∧ Sm p w' H8 H') ⟨none, none, none, none, none, none, rfl, hp8.mono (by omega), (Same.refl _).sm⟩ (fun _ _ _ _ _ => True.intro) ?_ (fun σ' H' h => hnx _ _ h)⟩
      rintro i σ' H9 hi ⟨v3, v4, v5, v6, v7, v8, rfl, hp9, sm9⟩
      have hi3 : i < 3 := hi
      refine tSeq_set ⟨p, w', W2, _, ss, rfl, hp9, by show 21 + 1200 * i + 1000 < 1000000000000; omega, tw _ sm9, by omega, ⟨snd, fun z hz => (ssn z hz).1⟩, fun a1 xs rows ns2 H10 th hn9 hp10 sm10 => ?_⟩
      have smA : Sm p w' H8 H10 := sm9.trans sm10
      have hdd := th.dd
      have hhol := th.hol
      dsimp only
      refine tSeq_by (fun σ' H' => σ' = [some (.ref a), some (.ref p), some (.ref W2), some (.int (0 + (i : Int))), some (.ref a1), v5, v6, v7, v8, none] ∧ Same H10 H') ?_ ?_
      · intro nx' hnx'
        refine ⟨.ref a1, _, rfl, hdd, fun H11 s11 => ⟨_, rfl, iteB (fun c => ?_) (fun _ => ?_)⟩⟩
        · rw [hhol] at c; exact absurd c (by decide)
        refine ⟨.ref a1, _, rfl, hdd.same s11, fun H12 s12 => ⟨_, rfl, iteB (fun c => ?_) (fun _ => ?_)⟩⟩
        · rw [hhol] at c; exact absurd c (by decide)
        exact hnx' _ _ ⟨rfl, s11.trans s12⟩
      rintro σ' H11 ⟨rfl, s11⟩
      refine ⟨8, rfl, by decide, by decide, for_by (itn_range 0 8) (fun j σ' H' => ∃ (v5 v6 v7 v8 : Option V), σ' = [some (.ref a), some (.ref p), some (.ref W2), some (.int (0 + (i : Int))), some (.ref a1), v5, v6, v7, v8, none] ∧ PenAt H' p w' (21 + 1200 * i + 1000 + 20 * j) ∧ Sm p w' H10 H') ⟨v5, v6, v7, v8, rfl, (hp10.same s11).mono (by omega), s11.sm⟩ (fun _ _ _ _ _ => True.intro) ?_ (by rintro σ' H' ⟨u5, u6, u7, u8, e, h1, h2⟩; exact ⟨_, _, u5, u6, u7, u8, e, h1.mono (by omega), smA.trans h2⟩)⟩
      rintro j σ' H12 hj ⟨u5, u6, u7, u8, rfl, hpi, smi⟩
      have hj8 : j < 8 := hj
      have gWj : H12 W2 = some (.lst ((z0 :: z1 :: [z2]).map V.str)) := by
        have := (smA.trans smi) _ _ gW8 nWp nWw
        rw [hz012] at this
        exact this
      refine tSeq_set ⟨p, w', a1, W2, _, xs, rows, ns2, ss, z0, z1, [z2], rfl, hpi, by show 21 + 1200 * i + 1000 + 20 * j + 20 < 1000000000000; omega, th.tk (hp10.ts smi), (fun z hz => (ssn z hz).2), hn9, gWj, w0, w1, nWp, nWw, fun thing m H13 hdb hp13 sm13 => ?_⟩
      obtain ⟨pd, d, hda, dep, len, shw⟩ := hdb.ex
      have len' : pd.shown.length ≤ sizeLine := by omega
      refine tSeq_set ⟨anyA, m, thing, pd, d, rfl, hda, shw, len', by omega, ?_⟩
      refine tSeq_set ⟨thing, d, rfl, hda.dd, fun H14 s14 => ?_⟩
      refine ⟨by decide, _, rfl, _, rfl, iteB (fun c => absurd c (by decide)) (fun _ => ?_)⟩
      refine ⟨thing, d, rfl, (hda.same s14).dd, fun H15 s15 => ⟨rfl, _, rfl, iteB (fun c => absurd c (by simp)) (fun _ => ?_)⟩⟩
      refine ⟨anyA, m, thing, pd, d, rfl, hda.same (s14.trans s15), shw, len', by omega, rfl, _, rfl, iteB (fun c => absurd c (by simp)) (fun _ => ?_)⟩
      exact ⟨_, _, _, _, rfl, (hp13.same (s14.trans s15)).mono (by omega), (smi.trans sm13).trans (s14.trans s15).sm⟩
    rintro σ' H9 ⟨v3, v4, v5, v6, v7, v8, rfl, hp9, sm9⟩
    refine tSeq_set ⟨(show 5 ≤ sizeLine by decide), fun so hso => ?_⟩
    have s4 := Same.upd hso (.lst ((["all", "none", "box", "pick", "as"] : List Str).map V.str))
    have tso : TxtsAt (upd H9 so (.lst ((["all", "none", "box", "pick", "as"] : List Str).map V.str))) so ["all", "none", "box", "pick", "as"] := ⟨upd_same, by decide, by decide, fun z hz => by
      simp only [List.mem_cons, List.mem_nil_iff, or_false] at hz
      rcases hz with rfl | rfl | rfl | rfl | rfl <;> exact wd_ascii (by decide) (by decide)⟩
    refine ⟨p, w', W2, so, 6, _, ss, _, rfl, hp9.same s4, by show 21 + 1200 * 3 + 1000 < 1000000000000; omega, ⟨by decide, by decide⟩, (tw _ sm9).same s4, by omega, ⟨snd, fun z hz => (ssn z hz).1⟩, tso, ?_, fun a1 xs rows ns2 H10 rt hnw hn6 hp10 sm10 => ?_⟩
    · intro z hz
      simp only [List.mem_cons, List.mem_nil_iff, or_false] at hz ⊢
      rcases hz with rfl | rfl | rfl | rfl | rfl <;> simp
    have th := rt.th (hnw (by decide))
    refine ⟨.ref a1, _, rfl, th.dd, fun H11 s11 => ?_⟩
    rw [th.hol]
    exact k H11
end
theorem lnS {n : Nat} {us : List Value} (h : us.length = n + 1) : ∃ a t, us = a :: t ∧ t.length = n := by
  cases us with
  | nil => cases h
  | cons a t => exact ⟨a, t, rfl, by simpa using h⟩
theorem txt_mk {K : PySem.W.Frag} {h : Heap} {mg : Str → Option Value} (X : K.In h) (G : h.Ns mainGlobals mg) {w : World}
    {f_is_name : Addr} {od_is_name an_is_name : Option Addr} {sl_is_name : Array (Option Value)} {oc_is_name kV_is_name dc_is_name pm_is_name cd_is_name ct_is_name : Value}
    {f_are_rising : Addr} {od_are_rising an_are_rising : Option Addr} {sl_are_rising : Array (Option Value)} {oc_are_rising kV_are_rising dc_are_rising pm_are_rising cd_are_rising ct_are_rising : Value}
    {f_is_telling : Addr} {od_is_telling an_is_telling : Option Addr} {sl_is_telling : Array (Option Value)} {oc_is_telling kV_is_telling dc_is_telling pm_is_telling cd_is_telling ct_is_telling : Value}
    {f_heads_of : Addr} {od_heads_of an_heads_of : Option Addr} {sl_heads_of : Array (Option Value)} {oc_heads_of kV_heads_of dc_heads_of pm_heads_of cd_heads_of ct_heads_of : Value}
    {f_is_row : Addr} {od_is_row an_is_row : Option Addr} {sl_is_row : Array (Option Value)} {oc_is_row kV_is_row dc_is_row pm_is_row cd_is_row ct_is_row : Value}
    {f_is_head : Addr} {od_is_head an_is_head : Option Addr} {sl_is_head : Array (Option Value)} {oc_is_head kV_is_head dc_is_head pm_is_head cd_is_head ct_is_head : Value}
    {f_is_pairs : Addr} {od_is_pairs an_is_pairs : Option Addr} {sl_is_pairs : Array (Option Value)} {oc_is_pairs kV_is_pairs dc_is_pairs pm_is_pairs cd_is_pairs ct_is_pairs : Value}
    {f_is_pair : Addr} {od_is_pair an_is_pair : Option Addr} {sl_is_pair : Array (Option Value)} {oc_is_pair kV_is_pair dc_is_pair pm_is_pair cd_is_pair ct_is_pair : Value}
    {f_names_in : Addr} {od_names_in an_names_in : Option Addr} {sl_names_in : Array (Option Value)} {oc_names_in kV_names_in dc_names_in pm_names_in cd_names_in ct_names_in : Value}
    {f_has_rows : Addr} {od_has_rows an_has_rows : Option Addr} {sl_has_rows : Array (Option Value)} {oc_has_rows kV_has_rows dc_has_rows pm_has_rows cd_has_rows ct_has_rows : Value}
    {f_leads_out : Addr} {od_leads_out an_leads_out : Option Addr} {sl_leads_out : Array (Option Value)} {oc_leads_out kV_leads_out dc_leads_out pm_leads_out cd_leads_out ct_leads_out : Value}
    {f_is_holed : Addr} {od_is_holed an_is_holed : Option Addr} {sl_is_holed : Array (Option Value)} {oc_is_holed kV_is_holed dc_is_holed pm_is_holed cd_is_holed ct_is_holed : Value}
    {f_law_tpen : Addr} {od_law_tpen an_law_tpen : Option Addr} {sl_law_tpen : Array (Option Value)} {oc_law_tpen kV_law_tpen dc_law_tpen pm_law_tpen cd_law_tpen ct_law_tpen : Value}
    {f_law_tdraw : Addr} {od_law_tdraw an_law_tdraw : Option Addr} {sl_law_tdraw : Array (Option Value)} {oc_law_tdraw kV_law_tdraw dc_law_tdraw pm_law_tdraw cd_law_tdraw ct_law_tdraw : Value}
    {f_law_tnames : Addr} {od_law_tnames an_law_tnames : Option Addr} {sl_law_tnames : Array (Option Value)} {oc_law_tnames kV_law_tnames dc_law_tnames pm_law_tnames cd_law_tnames ct_law_tnames : Value}
    {f_law_tpairs : Addr} {od_law_tpairs an_law_tpairs : Option Addr} {sl_law_tpairs : Array (Option Value)} {oc_law_tpairs kV_law_tpairs dc_law_tpairs pm_law_tpairs cd_law_tpairs ct_law_tpairs : Value}
    {f_law_thead : Addr} {od_law_thead an_law_thead : Option Addr} {sl_law_thead : Array (Option Value)} {oc_law_thead kV_law_thead dc_law_thead pm_law_thead cd_law_thead ct_law_thead : Value}
    {f_law_ttelling : Addr} {od_law_ttelling an_law_ttelling : Option Addr} {sl_law_ttelling : Array (Option Value)} {oc_law_ttelling kV_law_ttelling dc_law_ttelling pm_law_ttelling cd_law_ttelling ct_law_ttelling : Value}
    {f_law_tholed : Addr} {od_law_tholed an_law_tholed : Option Addr} {sl_law_tholed : Array (Option Value)} {oc_law_tholed kV_law_tholed dc_law_tholed pm_law_tholed cd_law_tholed ct_law_tholed : Value}
    {f_law_tis_name : Addr} {od_law_tis_name an_law_tis_name : Option Addr} {sl_law_tis_name : Array (Option Value)} {oc_law_tis_name kV_law_tis_name dc_law_tis_name pm_law_tis_name cd_law_tis_name ct_law_tis_name : Value}
    {f_law_tis_head : Addr} {od_law_tis_head an_law_tis_head : Option Addr} {sl_law_tis_head : Array (Option Value)} {oc_law_tis_head kV_law_tis_head dc_law_tis_head pm_law_tis_head cd_law_tis_head ct_law_tis_head : Value}
    {f_law_tis_telling : Addr} {od_law_tis_telling an_law_tis_telling : Option Addr} {sl_law_tis_telling : Array (Option Value)} {oc_law_tis_telling kV_law_tis_telling dc_law_tis_telling pm_law_tis_telling cd_law_tis_telling ct_law_tis_telling : Value}
    {f_law_tdue : Addr} {od_law_tdue an_law_tdue : Option Addr} {sl_law_tdue : Array (Option Value)} {oc_law_tdue kV_law_tdue dc_law_tdue pm_law_tdue cd_law_tdue ct_law_tdue : Value}
    {f_law_tbad_heads : Addr} {od_law_tbad_heads an_law_tbad_heads : Option Addr} {sl_law_tbad_heads : Array (Option Value)} {oc_law_tbad_heads kV_law_tbad_heads dc_law_tbad_heads pm_law_tbad_heads cd_law_tbad_heads ct_law_tbad_heads : Value}
    {f_law_tother : Addr} {od_law_tother an_law_tother : Option Addr} {sl_law_tother : Array (Option Value)} {oc_law_tother kV_law_tother dc_law_tother pm_law_tother cd_law_tother ct_law_tother : Value}
    {f_law : Addr} {od_law an_law : Option Addr} {sl_law : Array (Option Value)} {oc_law kV_law dc_law pm_law cd_law ct_law : Value}
    {u_LETTERS : Value}
    {u_LONGEST : Value}
    {ad_NO_NAMES : Addr} {oe_NO_NAMES : Option Addr} {it_NO_NAMES : Array Value} {nn_NO_NAMES : Nat} {sq_NO_NAMES : Array (Option Value)}
    {u_MOST_ROWS_tellings : Value}
    {ad_NAMES_BEHIND : Addr} {es_NAMES_BEHIND : Array DictEntry} {ep_NAMES_BEHIND : Nat} {vs_NAMES_BEHIND : List (Key × Value)}
    {ad_WORDED : Addr} {oe_WORDED : Option Addr} {it_WORDED : Array Value} {nn_WORDED : Nat} {sq_WORDED : Array (Option Value)}
    {u_MOST_ROWS_sayings : Value}
    {u_MOST_HOLES : Value}
    {ad_HOLE : Addr} {oe_HOLE : Option Addr} {it_HOLE : Array Value} {nn_HOLE : Nat} {sq_HOLE : Array (Option Value)}
    (a_is_name : PySem.W.nsIn K mainGlobals "is_name" = some (some (.ref f_is_name)))
    (l_is_name : K.lookup f_is_name = some ⟨oc_is_name, od_is_name, .func (PySem.W.fnOf "is_name" "is_name" (defArgs s_is_name) (defBody s_is_name) (defScope s_is_name) .none kV_is_name dc_is_name pm_is_name an_is_name cd_is_name ct_is_name), sl_is_name⟩)
    (cc_is_name : PySem.W.codeIn K cd_is_name "is_name" = true)
    (k_is_name : PySem.W.keepIn K (.ref f_is_name) = true)
    (a_are_rising : PySem.W.nsIn K mainGlobals "are_rising" = some (some (.ref f_are_rising)))
    (l_are_rising : K.lookup f_are_rising = some ⟨oc_are_rising, od_are_rising, .func (PySem.W.fnOf "are_rising" "are_rising" (defArgs s_are_rising) (defBody s_are_rising) (defScope s_are_rising) .none kV_are_rising dc_are_rising pm_are_rising an_are_rising cd_are_rising ct_are_rising), sl_are_rising⟩)
    (cc_are_rising : PySem.W.codeIn K cd_are_rising "are_rising" = true)
    (k_are_rising : PySem.W.keepIn K (.ref f_are_rising) = true)
    (a_is_telling : PySem.W.nsIn K mainGlobals "is_telling" = some (some (.ref f_is_telling)))
    (l_is_telling : K.lookup f_is_telling = some ⟨oc_is_telling, od_is_telling, .func (PySem.W.fnOf "is_telling" "is_telling" (defArgs s_is_telling) (defBody s_is_telling) (defScope s_is_telling) .none kV_is_telling dc_is_telling pm_is_telling an_is_telling cd_is_telling ct_is_telling), sl_is_telling⟩)
    (cc_is_telling : PySem.W.codeIn K cd_is_telling "is_telling" = true)
    (k_is_telling : PySem.W.keepIn K (.ref f_is_telling) = true)
    (a_heads_of : PySem.W.nsIn K mainGlobals "heads_of" = some (some (.ref f_heads_of)))
    (l_heads_of : K.lookup f_heads_of = some ⟨oc_heads_of, od_heads_of, .func (PySem.W.fnOf "heads_of" "heads_of" (defArgs s_heads_of) (defBody s_heads_of) (defScope s_heads_of) .none kV_heads_of dc_heads_of pm_heads_of an_heads_of cd_heads_of ct_heads_of), sl_heads_of⟩)
    (cc_heads_of : PySem.W.codeIn K cd_heads_of "heads_of" = true)
    (k_heads_of : PySem.W.keepIn K (.ref f_heads_of) = true)
    (a_is_row : PySem.W.nsIn K mainGlobals "is_row" = some (some (.ref f_is_row)))
    (l_is_row : K.lookup f_is_row = some ⟨oc_is_row, od_is_row, .func (PySem.W.fnOf "is_row" "is_row" (defArgs s_is_row) (defBody s_is_row) (defScope s_is_row) .none kV_is_row dc_is_row pm_is_row an_is_row cd_is_row ct_is_row), sl_is_row⟩)
    (cc_is_row : PySem.W.codeIn K cd_is_row "is_row" = true)
    (k_is_row : PySem.W.keepIn K (.ref f_is_row) = true)
    (a_is_head : PySem.W.nsIn K mainGlobals "is_head" = some (some (.ref f_is_head)))
    (l_is_head : K.lookup f_is_head = some ⟨oc_is_head, od_is_head, .func (PySem.W.fnOf "is_head" "is_head" (defArgs s_is_head) (defBody s_is_head) (defScope s_is_head) .none kV_is_head dc_is_head pm_is_head an_is_head cd_is_head ct_is_head), sl_is_head⟩)
    (cc_is_head : PySem.W.codeIn K cd_is_head "is_head" = true)
    (k_is_head : PySem.W.keepIn K (.ref f_is_head) = true)
    (a_is_pairs : PySem.W.nsIn K mainGlobals "is_pairs" = some (some (.ref f_is_pairs)))
    (l_is_pairs : K.lookup f_is_pairs = some ⟨oc_is_pairs, od_is_pairs, .func (PySem.W.fnOf "is_pairs" "is_pairs" (defArgs s_is_pairs) (defBody s_is_pairs) (defScope s_is_pairs) .none kV_is_pairs dc_is_pairs pm_is_pairs an_is_pairs cd_is_pairs ct_is_pairs), sl_is_pairs⟩)
    (cc_is_pairs : PySem.W.codeIn K cd_is_pairs "is_pairs" = true)
    (k_is_pairs : PySem.W.keepIn K (.ref f_is_pairs) = true)
    (a_is_pair : PySem.W.nsIn K mainGlobals "is_pair" = some (some (.ref f_is_pair)))
    (l_is_pair : K.lookup f_is_pair = some ⟨oc_is_pair, od_is_pair, .func (PySem.W.fnOf "is_pair" "is_pair" (defArgs s_is_pair) (defBody s_is_pair) (defScope s_is_pair) .none kV_is_pair dc_is_pair pm_is_pair an_is_pair cd_is_pair ct_is_pair), sl_is_pair⟩)
    (cc_is_pair : PySem.W.codeIn K cd_is_pair "is_pair" = true)
    (k_is_pair : PySem.W.keepIn K (.ref f_is_pair) = true)
    (a_names_in : PySem.W.nsIn K mainGlobals "names_in" = some (some (.ref f_names_in)))
    (l_names_in : K.lookup f_names_in = some ⟨oc_names_in, od_names_in, .func (PySem.W.fnOf "names_in" "names_in" (defArgs s_names_in) (defBody s_names_in) (defScope s_names_in) .none kV_names_in dc_names_in pm_names_in an_names_in cd_names_in ct_names_in), sl_names_in⟩)
    (cc_names_in : PySem.W.codeIn K cd_names_in "names_in" = true)
    (k_names_in : PySem.W.keepIn K (.ref f_names_in) = true)
    (a_has_rows : PySem.W.nsIn K mainGlobals "has_rows" = some (some (.ref f_has_rows)))
    (l_has_rows : K.lookup f_has_rows = some ⟨oc_has_rows, od_has_rows, .func (PySem.W.fnOf "has_rows" "has_rows" (defArgs s_has_rows) (defBody s_has_rows) (defScope s_has_rows) .none kV_has_rows dc_has_rows pm_has_rows an_has_rows cd_has_rows ct_has_rows), sl_has_rows⟩)
    (cc_has_rows : PySem.W.codeIn K cd_has_rows "has_rows" = true)
    (k_has_rows : PySem.W.keepIn K (.ref f_has_rows) = true)
    (a_leads_out : PySem.W.nsIn K mainGlobals "leads_out" = some (some (.ref f_leads_out)))
    (l_leads_out : K.lookup f_leads_out = some ⟨oc_leads_out, od_leads_out, .func (PySem.W.fnOf "leads_out" "leads_out" (defArgs s_leads_out) (defBody s_leads_out) (defScope s_leads_out) .none kV_leads_out dc_leads_out pm_leads_out an_leads_out cd_leads_out ct_leads_out), sl_leads_out⟩)
    (cc_leads_out : PySem.W.codeIn K cd_leads_out "leads_out" = true)
    (k_leads_out : PySem.W.keepIn K (.ref f_leads_out) = true)
    (a_is_holed : PySem.W.nsIn K mainGlobals "is_holed" = some (some (.ref f_is_holed)))
    (l_is_holed : K.lookup f_is_holed = some ⟨oc_is_holed, od_is_holed, .func (PySem.W.fnOf "is_holed" "is_holed" (defArgs s_is_holed) (defBody s_is_holed) (defScope s_is_holed) .none kV_is_holed dc_is_holed pm_is_holed an_is_holed cd_is_holed ct_is_holed), sl_is_holed⟩)
    (cc_is_holed : PySem.W.codeIn K cd_is_holed "is_holed" = true)
    (k_is_holed : PySem.W.keepIn K (.ref f_is_holed) = true)
    (a_law_tpen : PySem.W.nsIn K mainGlobals "_law_tpen" = some (some (.ref f_law_tpen)))
    (l_law_tpen : K.lookup f_law_tpen = some ⟨oc_law_tpen, od_law_tpen, .func (PySem.W.fnOf "_law_tpen" "_law_tpen" (defArgs s_law_tpen) (defBody s_law_tpen) (defScope s_law_tpen) .none kV_law_tpen dc_law_tpen pm_law_tpen an_law_tpen cd_law_tpen ct_law_tpen), sl_law_tpen⟩)
    (cc_law_tpen : PySem.W.codeIn K cd_law_tpen "_law_tpen" = true)
    (k_law_tpen : PySem.W.keepIn K (.ref f_law_tpen) = true)
    (a_law_tdraw : PySem.W.nsIn K mainGlobals "_law_tdraw" = some (some (.ref f_law_tdraw)))
    (l_law_tdraw : K.lookup f_law_tdraw = some ⟨oc_law_tdraw, od_law_tdraw, .func (PySem.W.fnOf "_law_tdraw" "_law_tdraw" (defArgs s_law_tdraw) (defBody s_law_tdraw) (defScope s_law_tdraw) .none kV_law_tdraw dc_law_tdraw pm_law_tdraw an_law_tdraw cd_law_tdraw ct_law_tdraw), sl_law_tdraw⟩)
    (cc_law_tdraw : PySem.W.codeIn K cd_law_tdraw "_law_tdraw" = true)
    (k_law_tdraw : PySem.W.keepIn K (.ref f_law_tdraw) = true)
    (a_law_tnames : PySem.W.nsIn K mainGlobals "_law_tnames" = some (some (.ref f_law_tnames)))
    (l_law_tnames : K.lookup f_law_tnames = some ⟨oc_law_tnames, od_law_tnames, .func (PySem.W.fnOf "_law_tnames" "_law_tnames" (defArgs s_law_tnames) (defBody s_law_tnames) (defScope s_law_tnames) .none kV_law_tnames dc_law_tnames pm_law_tnames an_law_tnames cd_law_tnames ct_law_tnames), sl_law_tnames⟩)
    (cc_law_tnames : PySem.W.codeIn K cd_law_tnames "_law_tnames" = true)
    (k_law_tnames : PySem.W.keepIn K (.ref f_law_tnames) = true)
    (a_law_tpairs : PySem.W.nsIn K mainGlobals "_law_tpairs" = some (some (.ref f_law_tpairs)))
    (l_law_tpairs : K.lookup f_law_tpairs = some ⟨oc_law_tpairs, od_law_tpairs, .func (PySem.W.fnOf "_law_tpairs" "_law_tpairs" (defArgs s_law_tpairs) (defBody s_law_tpairs) (defScope s_law_tpairs) .none kV_law_tpairs dc_law_tpairs pm_law_tpairs an_law_tpairs cd_law_tpairs ct_law_tpairs), sl_law_tpairs⟩)
    (cc_law_tpairs : PySem.W.codeIn K cd_law_tpairs "_law_tpairs" = true)
    (k_law_tpairs : PySem.W.keepIn K (.ref f_law_tpairs) = true)
    (a_law_thead : PySem.W.nsIn K mainGlobals "_law_thead" = some (some (.ref f_law_thead)))
    (l_law_thead : K.lookup f_law_thead = some ⟨oc_law_thead, od_law_thead, .func (PySem.W.fnOf "_law_thead" "_law_thead" (defArgs s_law_thead) (defBody s_law_thead) (defScope s_law_thead) .none kV_law_thead dc_law_thead pm_law_thead an_law_thead cd_law_thead ct_law_thead), sl_law_thead⟩)
    (cc_law_thead : PySem.W.codeIn K cd_law_thead "_law_thead" = true)
    (k_law_thead : PySem.W.keepIn K (.ref f_law_thead) = true)
    (a_law_ttelling : PySem.W.nsIn K mainGlobals "_law_ttelling" = some (some (.ref f_law_ttelling)))
    (l_law_ttelling : K.lookup f_law_ttelling = some ⟨oc_law_ttelling, od_law_ttelling, .func (PySem.W.fnOf "_law_ttelling" "_law_ttelling" (defArgs s_law_ttelling) (defBody s_law_ttelling) (defScope s_law_ttelling) .none kV_law_ttelling dc_law_ttelling pm_law_ttelling an_law_ttelling cd_law_ttelling ct_law_ttelling), sl_law_ttelling⟩)
    (cc_law_ttelling : PySem.W.codeIn K cd_law_ttelling "_law_ttelling" = true)
    (k_law_ttelling : PySem.W.keepIn K (.ref f_law_ttelling) = true)
    (a_law_tholed : PySem.W.nsIn K mainGlobals "_law_tholed" = some (some (.ref f_law_tholed)))
    (l_law_tholed : K.lookup f_law_tholed = some ⟨oc_law_tholed, od_law_tholed, .func (PySem.W.fnOf "_law_tholed" "_law_tholed" (defArgs s_law_tholed) (defBody s_law_tholed) (defScope s_law_tholed) .none kV_law_tholed dc_law_tholed pm_law_tholed an_law_tholed cd_law_tholed ct_law_tholed), sl_law_tholed⟩)
    (cc_law_tholed : PySem.W.codeIn K cd_law_tholed "_law_tholed" = true)
    (k_law_tholed : PySem.W.keepIn K (.ref f_law_tholed) = true)
    (a_law_tis_name : PySem.W.nsIn K mainGlobals "_law_tis_name" = some (some (.ref f_law_tis_name)))
    (l_law_tis_name : K.lookup f_law_tis_name = some ⟨oc_law_tis_name, od_law_tis_name, .func (PySem.W.fnOf "_law_tis_name" "_law_tis_name" (defArgs s_law_tis_name) (defBody s_law_tis_name) (defScope s_law_tis_name) .none kV_law_tis_name dc_law_tis_name pm_law_tis_name an_law_tis_name cd_law_tis_name ct_law_tis_name), sl_law_tis_name⟩)
    (cc_law_tis_name : PySem.W.codeIn K cd_law_tis_name "_law_tis_name" = true)
    (k_law_tis_name : PySem.W.keepIn K (.ref f_law_tis_name) = true)
    (a_law_tis_head : PySem.W.nsIn K mainGlobals "_law_tis_head" = some (some (.ref f_law_tis_head)))
    (l_law_tis_head : K.lookup f_law_tis_head = some ⟨oc_law_tis_head, od_law_tis_head, .func (PySem.W.fnOf "_law_tis_head" "_law_tis_head" (defArgs s_law_tis_head) (defBody s_law_tis_head) (defScope s_law_tis_head) .none kV_law_tis_head dc_law_tis_head pm_law_tis_head an_law_tis_head cd_law_tis_head ct_law_tis_head), sl_law_tis_head⟩)
    (cc_law_tis_head : PySem.W.codeIn K cd_law_tis_head "_law_tis_head" = true)
    (k_law_tis_head : PySem.W.keepIn K (.ref f_law_tis_head) = true)
    (a_law_tis_telling : PySem.W.nsIn K mainGlobals "_law_tis_telling" = some (some (.ref f_law_tis_telling)))
    (l_law_tis_telling : K.lookup f_law_tis_telling = some ⟨oc_law_tis_telling, od_law_tis_telling, .func (PySem.W.fnOf "_law_tis_telling" "_law_tis_telling" (defArgs s_law_tis_telling) (defBody s_law_tis_telling) (defScope s_law_tis_telling) .none kV_law_tis_telling dc_law_tis_telling pm_law_tis_telling an_law_tis_telling cd_law_tis_telling ct_law_tis_telling), sl_law_tis_telling⟩)
    (cc_law_tis_telling : PySem.W.codeIn K cd_law_tis_telling "_law_tis_telling" = true)
    (k_law_tis_telling : PySem.W.keepIn K (.ref f_law_tis_telling) = true)
    (a_law_tdue : PySem.W.nsIn K mainGlobals "_law_tdue" = some (some (.ref f_law_tdue)))
    (l_law_tdue : K.lookup f_law_tdue = some ⟨oc_law_tdue, od_law_tdue, .func (PySem.W.fnOf "_law_tdue" "_law_tdue" (defArgs s_law_tdue) (defBody s_law_tdue) (defScope s_law_tdue) .none kV_law_tdue dc_law_tdue pm_law_tdue an_law_tdue cd_law_tdue ct_law_tdue), sl_law_tdue⟩)
    (cc_law_tdue : PySem.W.codeIn K cd_law_tdue "_law_tdue" = true)
    (k_law_tdue : PySem.W.keepIn K (.ref f_law_tdue) = true)
    (a_law_tbad_heads : PySem.W.nsIn K mainGlobals "_law_tbad_heads" = some (some (.ref f_law_tbad_heads)))
    (l_law_tbad_heads : K.lookup f_law_tbad_heads = some ⟨oc_law_tbad_heads, od_law_tbad_heads, .func (PySem.W.fnOf "_law_tbad_heads" "_law_tbad_heads" (defArgs s_law_tbad_heads) (defBody s_law_tbad_heads) (defScope s_law_tbad_heads) .none kV_law_tbad_heads dc_law_tbad_heads pm_law_tbad_heads an_law_tbad_heads cd_law_tbad_heads ct_law_tbad_heads), sl_law_tbad_heads⟩)
    (cc_law_tbad_heads : PySem.W.codeIn K cd_law_tbad_heads "_law_tbad_heads" = true)
    (k_law_tbad_heads : PySem.W.keepIn K (.ref f_law_tbad_heads) = true)
    (a_law_tother : PySem.W.nsIn K mainGlobals "_law_tother" = some (some (.ref f_law_tother)))
    (l_law_tother : K.lookup f_law_tother = some ⟨oc_law_tother, od_law_tother, .func (PySem.W.fnOf "_law_tother" "_law_tother" (defArgs s_law_tother) (defBody s_law_tother) (defScope s_law_tother) .none kV_law_tother dc_law_tother pm_law_tother an_law_tother cd_law_tother ct_law_tother), sl_law_tother⟩)
    (cc_law_tother : PySem.W.codeIn K cd_law_tother "_law_tother" = true)
    (k_law_tother : PySem.W.keepIn K (.ref f_law_tother) = true)
    (a_law : PySem.W.nsIn K mainGlobals "law" = some (some (.ref f_law)))
    (l_law : K.lookup f_law = some ⟨oc_law, od_law, .func (PySem.W.fnOf "law" "law" (defArgs s_law) (defBody s_law) (defScope s_law) .none kV_law dc_law pm_law an_law cd_law ct_law), sl_law⟩)
    (cc_law : PySem.W.codeIn K cd_law "law" = true)
    (k_law : PySem.W.keepIn K (.ref f_law) = true)
    (z_len : PySem.W.nsIn K mainGlobals "len" = some none)
    (z_isinstance : PySem.W.nsIn K mainGlobals "isinstance" = some none)
    (z_all : PySem.W.nsIn K mainGlobals "all" = some none)
    (z_range : PySem.W.nsIn K mainGlobals "range" = some none)
    (z_str : PySem.W.nsIn K mainGlobals "str" = some none)
    (z_bool : PySem.W.nsIn K mainGlobals "bool" = some none)
    (z_int : PySem.W.nsIn K mainGlobals "int" = some none)
    (z_list : PySem.W.nsIn K mainGlobals "list" = some none)
    (z_tuple : PySem.W.nsIn K mainGlobals "tuple" = some none)
    (z_dict : PySem.W.nsIn K mainGlobals "dict" = some none)
    (z_sorted : PySem.W.nsIn K mainGlobals "sorted" = some none)
    (z_repr : PySem.W.nsIn K mainGlobals "repr" = some none)
    (z_enumerate : PySem.W.nsIn K mainGlobals "enumerate" = some none)
    (z_zip : PySem.W.nsIn K mainGlobals "zip" = some none)
    (z_set : PySem.W.nsIn K mainGlobals "set" = some none)
    (g_LETTERS : PySem.W.nsIn K mainGlobals "LETTERS" = some (some u_LETTERS)) (gv_LETTERS : RelV (.str "abcdefghijklmnopqrstuvwxyz") u_LETTERS)
    (g_LONGEST : PySem.W.nsIn K mainGlobals "LONGEST" = some (some u_LONGEST)) (gv_LONGEST : RelV (.int 8) u_LONGEST)
    (g_NO_NAMES : PySem.W.nsIn K mainGlobals "NO_NAMES" = some (some (.ref ad_NO_NAMES)))
    (gl_NO_NAMES : K.lookup ad_NO_NAMES = some ⟨.type "tuple", oe_NO_NAMES, .seq it_NO_NAMES nn_NO_NAMES, sq_NO_NAMES⟩)
    (gz_NO_NAMES : it_NO_NAMES.size ≤ sizeLine) (gv_NO_NAMES : Vals [.str "all", .str "none", .str "way", .str "box", .str "pick"] it_NO_NAMES.toList)
    (g_MOST_ROWS_tellings : PySem.W.nsIn K mainGlobals "MOST_ROWS_tellings" = some (some u_MOST_ROWS_tellings)) (gv_MOST_ROWS_tellings : RelV (.int 200) u_MOST_ROWS_tellings)
    (g_NAMES_BEHIND : PySem.W.nsIn K mainGlobals "NAMES_BEHIND" = some (some (.ref ad_NAMES_BEHIND)))
    (gl_NAMES_BEHIND : K.lookup ad_NAMES_BEHIND = some { cls := .type "dict", data := .dict es_NAMES_BEHIND ep_NAMES_BEHIND })
    (gs_NAMES_BEHIND : (ad_NAMES_BEHIND == sysModules) = false) (gp_NAMES_BEHIND : ∀ P : Program, Pairs (mixKind P w) es_NAMES_BEHIND.toList vs_NAMES_BEHIND) (gk_NAMES_BEHIND : ∀ P : Program, KeysOf (mixKind P w) es_NAMES_BEHIND) (gn_NAMES_BEHIND : (vs_NAMES_BEHIND.map (·.1)).Nodup) (gv_NAMES_BEHIND : KV [(.inr "all", .int 0), (.inr "none", .int 0), (.inr "way", .int 2), (.inr "as", .int 1)] vs_NAMES_BEHIND)
    (g_WORDED : PySem.W.nsIn K mainGlobals "WORDED" = some (some (.ref ad_WORDED)))
    (gl_WORDED : K.lookup ad_WORDED = some ⟨.type "tuple", oe_WORDED, .seq it_WORDED nn_WORDED, sq_WORDED⟩)
    (gz_WORDED : it_WORDED.size ≤ sizeLine) (gv_WORDED : Vals [.str "box", .str "pick"] it_WORDED.toList)
    (g_MOST_ROWS_sayings : PySem.W.nsIn K mainGlobals "MOST_ROWS_sayings" = some (some u_MOST_ROWS_sayings)) (gv_MOST_ROWS_sayings : RelV (.int 12) u_MOST_ROWS_sayings)
    (g_MOST_HOLES : PySem.W.nsIn K mainGlobals "MOST_HOLES" = some (some u_MOST_HOLES)) (gv_MOST_HOLES : RelV (.int 6) u_MOST_HOLES)
    (g_HOLE : PySem.W.nsIn K mainGlobals "HOLE" = some (some (.ref ad_HOLE)))
    (gl_HOLE : K.lookup ad_HOLE = some ⟨.type "tuple", oe_HOLE, .seq it_HOLE nn_HOLE, sq_HOLE⟩)
    (gz_HOLE : it_HOLE.size ≤ sizeLine) (gv_HOLE : Vals [.str "hole"] it_HOLE.toList) : Txt K mg w := by
  have F_is_name := fun_mk (st := s_is_name) l_is_name cc_is_name k_is_name
  have b_is_name := F_is_name.binds (ps := ["thing"]) fun _ _ _ _ _ _ us hl => by obtain ⟨a0, us0, rfl, hl0⟩ := lnS (n := 0) hl; obtain rfl := List.eq_nil_of_length_eq_zero hl0; rfl
  have F_are_rising := fun_mk (st := s_are_rising) l_are_rising cc_are_rising k_are_rising
  have b_are_rising := F_are_rising.binds (ps := ["words"]) fun _ _ _ _ _ _ us hl => by obtain ⟨a0, us0, rfl, hl0⟩ := lnS (n := 0) hl; obtain rfl := List.eq_nil_of_length_eq_zero hl0; rfl
  have F_is_telling := fun_mk (st := s_is_telling) l_is_telling cc_is_telling k_is_telling
  have b_is_telling := F_is_telling.binds (ps := ["thing"]) fun _ _ _ _ _ _ us hl => by obtain ⟨a0, us0, rfl, hl0⟩ := lnS (n := 0) hl; obtain rfl := List.eq_nil_of_length_eq_zero hl0; rfl
  have F_heads_of := fun_mk (st := s_heads_of) l_heads_of cc_heads_of k_heads_of
  have b_heads_of := F_heads_of.binds (ps := ["T"]) fun _ _ _ _ _ _ us hl => by obtain ⟨a0, us0, rfl, hl0⟩ := lnS (n := 0) hl; obtain rfl := List.eq_nil_of_length_eq_zero hl0; rfl
  have F_is_row := fun_mk (st := s_is_row) l_is_row cc_is_row k_is_row
  have b_is_row := F_is_row.binds (ps := ["thing"]) fun _ _ _ _ _ _ us hl => by obtain ⟨a0, us0, rfl, hl0⟩ := lnS (n := 0) hl; obtain rfl := List.eq_nil_of_length_eq_zero hl0; rfl
  have F_is_head := fun_mk (st := s_is_head) l_is_head cc_is_head k_is_head
  have b_is_head := F_is_head.binds (ps := ["thing"]) fun _ _ _ _ _ _ us hl => by obtain ⟨a0, us0, rfl, hl0⟩ := lnS (n := 0) hl; obtain rfl := List.eq_nil_of_length_eq_zero hl0; rfl
  have F_is_pairs := fun_mk (st := s_is_pairs) l_is_pairs cc_is_pairs k_is_pairs
  have b_is_pairs := F_is_pairs.binds (ps := ["thing"]) fun _ _ _ _ _ _ us hl => by obtain ⟨a0, us0, rfl, hl0⟩ := lnS (n := 0) hl; obtain rfl := List.eq_nil_of_length_eq_zero hl0; rfl
  have F_is_pair := fun_mk (st := s_is_pair) l_is_pair cc_is_pair k_is_pair
  have b_is_pair := F_is_pair.binds (ps := ["thing"]) fun _ _ _ _ _ _ us hl => by obtain ⟨a0, us0, rfl, hl0⟩ := lnS (n := 0) hl; obtain rfl := List.eq_nil_of_length_eq_zero hl0; rfl
  have F_names_in := fun_mk (st := s_names_in) l_names_in cc_names_in k_names_in
  have b_names_in := F_names_in.binds (ps := ["head"]) fun _ _ _ _ _ _ us hl => by obtain ⟨a0, us0, rfl, hl0⟩ := lnS (n := 0) hl; obtain rfl := List.eq_nil_of_length_eq_zero hl0; rfl
  have F_has_rows := fun_mk (st := s_has_rows) l_has_rows cc_has_rows k_has_rows
  have b_has_rows := F_has_rows.binds (ps := ["heads", "head"]) fun _ _ _ _ _ _ us hl => by obtain ⟨a0, us0, rfl, hl0⟩ := lnS (n := 1) hl; obtain ⟨a1, us1, rfl, hl1⟩ := lnS (n := 0) hl0; obtain rfl := List.eq_nil_of_length_eq_zero hl1; rfl
  have F_leads_out := fun_mk (st := s_leads_out) l_leads_out cc_leads_out k_leads_out
  have b_leads_out := F_leads_out.binds (ps := ["heads", "name"]) fun _ _ _ _ _ _ us hl => by obtain ⟨a0, us0, rfl, hl0⟩ := lnS (n := 1) hl; obtain ⟨a1, us1, rfl, hl1⟩ := lnS (n := 0) hl0; obtain rfl := List.eq_nil_of_length_eq_zero hl1; rfl
  have F_is_holed := fun_mk (st := s_is_holed) l_is_holed cc_is_holed k_is_holed
  have b_is_holed := F_is_holed.binds (ps := ["thing"]) fun _ _ _ _ _ _ us hl => by obtain ⟨a0, us0, rfl, hl0⟩ := lnS (n := 0) hl; obtain rfl := List.eq_nil_of_length_eq_zero hl0; rfl
  have F_law_tpen := fun_mk (st := s_law_tpen) l_law_tpen cc_law_tpen k_law_tpen
  have b_law_tpen := F_law_tpen.binds (ps := ["script"]) fun _ _ _ _ _ _ us hl => by obtain ⟨a0, us0, rfl, hl0⟩ := lnS (n := 0) hl; obtain rfl := List.eq_nil_of_length_eq_zero hl0; rfl
  have F_law_tdraw := fun_mk (st := s_law_tdraw) l_law_tdraw cc_law_tdraw k_law_tdraw
  have b_law_tdraw := F_law_tdraw.binds (ps := ["pen", "many"]) fun _ _ _ _ _ _ us hl => by obtain ⟨a0, us0, rfl, hl0⟩ := lnS (n := 1) hl; obtain ⟨a1, us1, rfl, hl1⟩ := lnS (n := 0) hl0; obtain rfl := List.eq_nil_of_length_eq_zero hl1; rfl
  have F_law_tnames := fun_mk (st := s_law_tnames) l_law_tnames cc_law_tnames k_law_tnames
  have b_law_tnames := F_law_tnames.binds (ps := ["pen", "many"]) fun _ _ _ _ _ _ us hl => by obtain ⟨a0, us0, rfl, hl0⟩ := lnS (n := 1) hl; obtain ⟨a1, us1, rfl, hl1⟩ := lnS (n := 0) hl0; obtain rfl := List.eq_nil_of_length_eq_zero hl1; rfl
  have F_law_tpairs := fun_mk (st := s_law_tpairs) l_law_tpairs cc_law_tpairs k_law_tpairs
  have b_law_tpairs := F_law_tpairs.binds (ps := ["pen", "words", "names"]) fun _ _ _ _ _ _ us hl => by obtain ⟨a0, us0, rfl, hl0⟩ := lnS (n := 2) hl; obtain ⟨a1, us1, rfl, hl1⟩ := lnS (n := 1) hl0; obtain ⟨a2, us2, rfl, hl2⟩ := lnS (n := 0) hl1; obtain rfl := List.eq_nil_of_length_eq_zero hl2; rfl
  have F_law_thead := fun_mk (st := s_law_thead) l_law_thead cc_law_thead k_law_thead
  have b_law_thead := F_law_thead.binds (ps := ["pen", "sort", "words", "names"]) fun _ _ _ _ _ _ us hl => by obtain ⟨a0, us0, rfl, hl0⟩ := lnS (n := 3) hl; obtain ⟨a1, us1, rfl, hl1⟩ := lnS (n := 2) hl0; obtain ⟨a2, us2, rfl, hl2⟩ := lnS (n := 1) hl1; obtain ⟨a3, us3, rfl, hl3⟩ := lnS (n := 0) hl2; obtain rfl := List.eq_nil_of_length_eq_zero hl3; rfl
  have F_law_ttelling := fun_mk (st := s_law_ttelling) l_law_ttelling cc_law_ttelling k_law_ttelling
  have b_law_ttelling := F_law_ttelling.binds (ps := ["pen", "most", "words", "sorts"]) fun _ _ _ _ _ _ us hl => by obtain ⟨a0, us0, rfl, hl0⟩ := lnS (n := 3) hl; obtain ⟨a1, us1, rfl, hl1⟩ := lnS (n := 2) hl0; obtain ⟨a2, us2, rfl, hl2⟩ := lnS (n := 1) hl1; obtain ⟨a3, us3, rfl, hl3⟩ := lnS (n := 0) hl2; obtain rfl := List.eq_nil_of_length_eq_zero hl3; rfl
  have F_law_tholed := fun_mk (st := s_law_tholed) l_law_tholed cc_law_tholed k_law_tholed
  have b_law_tholed := F_law_tholed.binds (ps := ["pen", "words"]) fun _ _ _ _ _ _ us hl => by obtain ⟨a0, us0, rfl, hl0⟩ := lnS (n := 1) hl; obtain ⟨a1, us1, rfl, hl1⟩ := lnS (n := 0) hl0; obtain rfl := List.eq_nil_of_length_eq_zero hl1; rfl
  have F_law_tis_name := fun_mk (st := s_law_tis_name) l_law_tis_name cc_law_tis_name k_law_tis_name
  have b_law_tis_name := F_law_tis_name.binds (ps := ["thing"]) fun _ _ _ _ _ _ us hl => by obtain ⟨a0, us0, rfl, hl0⟩ := lnS (n := 0) hl; obtain rfl := List.eq_nil_of_length_eq_zero hl0; rfl
  have F_law_tis_head := fun_mk (st := s_law_tis_head) l_law_tis_head cc_law_tis_head k_law_tis_head
  have b_law_tis_head := F_law_tis_head.binds (ps := ["head", "names"]) fun _ _ _ _ _ _ us hl => by obtain ⟨a0, us0, rfl, hl0⟩ := lnS (n := 1) hl; obtain ⟨a1, us1, rfl, hl1⟩ := lnS (n := 0) hl0; obtain rfl := List.eq_nil_of_length_eq_zero hl1; rfl
  have F_law_tis_telling := fun_mk (st := s_law_tis_telling) l_law_tis_telling cc_law_tis_telling k_law_tis_telling
  have b_law_tis_telling := F_law_tis_telling.binds (ps := ["thing"]) fun _ _ _ _ _ _ us hl => by obtain ⟨a0, us0, rfl, hl0⟩ := lnS (n := 0) hl; obtain rfl := List.eq_nil_of_length_eq_zero hl0; rfl
  have F_law_tdue := fun_mk (st := s_law_tdue) l_law_tdue cc_law_tdue k_law_tdue
  have b_law_tdue := F_law_tdue.binds (ps := ["thing"]) fun _ _ _ _ _ _ us hl => by obtain ⟨a0, us0, rfl, hl0⟩ := lnS (n := 0) hl; obtain rfl := List.eq_nil_of_length_eq_zero hl0; rfl
  have F_law_tbad_heads := fun_mk (st := s_law_tbad_heads) l_law_tbad_heads cc_law_tbad_heads k_law_tbad_heads
  have b_law_tbad_heads := F_law_tbad_heads.binds (ps := ["name", "other", "words"]) fun _ _ _ _ _ _ us hl => by obtain ⟨a0, us0, rfl, hl0⟩ := lnS (n := 2) hl; obtain ⟨a1, us1, rfl, hl1⟩ := lnS (n := 1) hl0; obtain ⟨a2, us2, rfl, hl2⟩ := lnS (n := 0) hl1; obtain rfl := List.eq_nil_of_length_eq_zero hl2; rfl
  have F_law_tother := fun_mk (st := s_law_tother) l_law_tother cc_law_tother k_law_tother
  have b_law_tother := F_law_tother.binds (ps := ["pen", "holed", "words"]) fun _ _ _ _ _ _ us hl => by obtain ⟨a0, us0, rfl, hl0⟩ := lnS (n := 2) hl; obtain ⟨a1, us1, rfl, hl1⟩ := lnS (n := 1) hl0; obtain ⟨a2, us2, rfl, hl2⟩ := lnS (n := 0) hl1; obtain rfl := List.eq_nil_of_length_eq_zero hl2; rfl
  have F_law := fun_mk (st := s_law) l_law cc_law k_law
  have b_law := F_law.binds (ps := ["script"]) fun _ _ _ _ _ _ us hl => by obtain ⟨a0, us0, rfl, hl0⟩ := lnS (n := 0) hl; obtain rfl := List.eq_nil_of_length_eq_zero hl0; rfl
  exact ⟨PySem.W.mg_none_of X G z_len,
    PySem.W.mg_none_of X G z_isinstance,
    PySem.W.mg_none_of X G z_all,
    PySem.W.mg_none_of X G z_range,
    PySem.W.mg_none_of X G z_str,
    PySem.W.mg_none_of X G z_bool,
    PySem.W.mg_none_of X G z_int,
    PySem.W.mg_none_of X G z_list,
    PySem.W.mg_none_of X G z_tuple,
    PySem.W.mg_none_of X G z_dict,
    PySem.W.mg_none_of X G z_sorted,
    PySem.W.mg_none_of X G z_repr,
    PySem.W.mg_none_of X G z_enumerate,
    PySem.W.mg_none_of X G z_zip,
    PySem.W.mg_none_of X G z_set,
    ⟨u_LETTERS, PySem.W.mg_of X G g_LETTERS, gv_LETTERS⟩,
    ⟨u_LONGEST, PySem.W.mg_of X G g_LONGEST, gv_LONGEST⟩,
    ⟨ad_NO_NAMES, PySem.W.mg_of X G g_NO_NAMES, fun H => .inr ⟨_, it_NO_NAMES, nn_NO_NAMES, gl_NO_NAMES, rfl, rfl, gz_NO_NAMES, gv_NO_NAMES⟩⟩,
    ⟨u_MOST_ROWS_tellings, PySem.W.mg_of X G g_MOST_ROWS_tellings, gv_MOST_ROWS_tellings⟩,
    ⟨ad_NAMES_BEHIND, PySem.W.mg_of X G g_NAMES_BEHIND, fun P => ⟨_, es_NAMES_BEHIND, ep_NAMES_BEHIND, vs_NAMES_BEHIND, gl_NAMES_BEHIND, gs_NAMES_BEHIND, ⟨rfl, rfl, rfl⟩, rfl, gk_NAMES_BEHIND P, gp_NAMES_BEHIND P, gn_NAMES_BEHIND, gv_NAMES_BEHIND⟩⟩,
    ⟨ad_WORDED, PySem.W.mg_of X G g_WORDED, fun H => .inr ⟨_, it_WORDED, nn_WORDED, gl_WORDED, rfl, rfl, gz_WORDED, gv_WORDED⟩⟩,
    ⟨u_MOST_ROWS_sayings, PySem.W.mg_of X G g_MOST_ROWS_sayings, gv_MOST_ROWS_sayings⟩,
    ⟨u_MOST_HOLES, PySem.W.mg_of X G g_MOST_HOLES, gv_MOST_HOLES⟩,
    ⟨ad_HOLE, PySem.W.mg_of X G g_HOLE, fun H => .inr ⟨_, it_HOLE, nn_HOLE, gl_HOLE, rfl, rfl, gz_HOLE, gv_HOLE⟩⟩,
    ⟨f_is_name, _, F_is_name, PySem.W.mg_of X G a_is_name, b_is_name⟩,
    ⟨f_are_rising, _, F_are_rising, PySem.W.mg_of X G a_are_rising, b_are_rising⟩,
    ⟨f_is_telling, _, F_is_telling, PySem.W.mg_of X G a_is_telling, b_is_telling⟩,
    ⟨f_heads_of, _, F_heads_of, PySem.W.mg_of X G a_heads_of, b_heads_of⟩,
    ⟨f_is_row, _, F_is_row, PySem.W.mg_of X G a_is_row, b_is_row⟩,
    ⟨f_is_head, _, F_is_head, PySem.W.mg_of X G a_is_head, b_is_head⟩,
    ⟨f_is_pairs, _, F_is_pairs, PySem.W.mg_of X G a_is_pairs, b_is_pairs⟩,
    ⟨f_is_pair, _, F_is_pair, PySem.W.mg_of X G a_is_pair, b_is_pair⟩,
    ⟨f_names_in, _, F_names_in, PySem.W.mg_of X G a_names_in, b_names_in⟩,
    ⟨f_has_rows, _, F_has_rows, PySem.W.mg_of X G a_has_rows, b_has_rows⟩,
    ⟨f_leads_out, _, F_leads_out, PySem.W.mg_of X G a_leads_out, b_leads_out⟩,
    ⟨f_is_holed, _, F_is_holed, PySem.W.mg_of X G a_is_holed, b_is_holed⟩,
    ⟨f_law_tpen, _, F_law_tpen, PySem.W.mg_of X G a_law_tpen, b_law_tpen⟩,
    ⟨f_law_tdraw, _, F_law_tdraw, PySem.W.mg_of X G a_law_tdraw, b_law_tdraw⟩,
    ⟨f_law_tnames, _, F_law_tnames, PySem.W.mg_of X G a_law_tnames, b_law_tnames⟩,
    ⟨f_law_tpairs, _, F_law_tpairs, PySem.W.mg_of X G a_law_tpairs, b_law_tpairs⟩,
    ⟨f_law_thead, _, F_law_thead, PySem.W.mg_of X G a_law_thead, b_law_thead⟩,
    ⟨f_law_ttelling, _, F_law_ttelling, PySem.W.mg_of X G a_law_ttelling, b_law_ttelling⟩,
    ⟨f_law_tholed, _, F_law_tholed, PySem.W.mg_of X G a_law_tholed, b_law_tholed⟩,
    ⟨f_law_tis_name, _, F_law_tis_name, PySem.W.mg_of X G a_law_tis_name, b_law_tis_name⟩,
    ⟨f_law_tis_head, _, F_law_tis_head, PySem.W.mg_of X G a_law_tis_head, b_law_tis_head⟩,
    ⟨f_law_tis_telling, _, F_law_tis_telling, PySem.W.mg_of X G a_law_tis_telling, b_law_tis_telling⟩,
    ⟨f_law_tdue, _, F_law_tdue, PySem.W.mg_of X G a_law_tdue, b_law_tdue⟩,
    ⟨f_law_tbad_heads, _, F_law_tbad_heads, PySem.W.mg_of X G a_law_tbad_heads, b_law_tbad_heads⟩,
    ⟨f_law_tother, _, F_law_tother, PySem.W.mg_of X G a_law_tother, b_law_tother⟩,
    ⟨f_law, _, F_law, PySem.W.mg_of X G a_law, b_law⟩⟩
theorem walk {l : PySem.W.OpenLaw} {q : Program} {loose : List Str} {XP : (Str → Option Value) → Heap → Prop} {YP : World → Heap → Prop} {d : DefRec} {K : Params → PySem.W.Frag} (hn : l.most = some 63) (hdf : d.params.defaults = [])
    (hY : ∀ (w : World) (h : Heap), YP w h → (K w.params).In h) (hname : d.name = "law")
    (F : ∀ (w : World) (mg : Str → Option Value) (h : Heap), (K w.params).In h → h.Ns mainGlobals mg → Txt (K w.params) mg w) :
    PySem.W.WalkO q loose XP YP l.row.toRowW d [] (fun f vs => PySem.call f vs) :=
  L2.walk_of (n := 63) (k := 9) (x := "script") (CX := fun _ => CX0) (sp := fun w => spLaw (K w.params)) hn (by decide) hdf ⟨rfl, by decide, by decide, rfl⟩ hY (fun w mg fa h KX G hmg => by
    have T := F w mg h KX G
    obtain ⟨f, fd, Fu, m, b⟩ := T.t_law
    rw [hname] at hmg
    rw [m] at hmg
    cases hmg
    refine ⟨fd, fun s u => ?_, fun base kb nb => ?_⟩
    · have := Fu.ex
      obtain ⟨oc, od, kV, doc, pm, an, cdv, ct, osl, rfl, lk, hcd⟩ := this
      exact .of_eq rfl
    · obtain ⟨f', fd', G', m', k', b', oc', od', osl', lk'⟩ := (ok_law T : FnK l.prog w (K w.params) mg base 9 "law" ["script"] (spLaw (K w.params)))
      rw [m] at m'
      cases m'
      have e : fd = fd' := by
        have hx := Fu.ex
        obtain ⟨oc, od, kV, doc, pm, an, cdv, ct, osl, e1, lk, hcd⟩ := hx
        rw [lk] at lk'
        have := Option.some.inj lk'
        injection this with _ _ h3 _
        injection h3
      rw [e]; exact G') (fun _ _ a ns hl _ hS => ⟨a, ns, rfl, hS, hl, fun _ => rfl⟩) fun _ _ _ _ _ z => z
end T1
open PySem PySem.W PyProof.Rows L2
set_option maxRecDepth 100000 in
set_option maxHeartbeats 0 in
theorem PySem.Challenge.cw_coilkind_k64_holed_tellings_known_holds : PySem.Challenge.rw_coilkind_k64_holed_tellings_known.Holds := by
  w_on; o_law; k_head; (case hw => w_witness2)
  k_fill
  refine T1.walk (l := PySem.Challenge.rw_coilkind_k64_holed_tellings_known) rfl rfl (fun w h Y => PySem.W.kIn_of Y) rfl ?F
  case F =>
    intro w mg h KX G
    refine' T1.txt_mk KX G (a_is_name := ?a_is_name) (l_is_name := ?l_is_name) (cc_is_name := ?cc_is_name) (k_is_name := ?k_is_name) (a_are_rising := ?a_are_rising) (l_are_rising := ?l_are_rising) (cc_are_rising := ?cc_are_rising) (k_are_rising := ?k_are_rising) (a_is_telling := ?a_is_telling) (l_is_telling := ?l_is_telling) (cc_is_telling := ?cc_is_telling) (k_is_telling := ?k_is_telling) (a_heads_of := ?a_heads_of) (l_heads_of := ?l_heads_of) (cc_heads_of := ?cc_heads_of) (k_heads_of := ?k_heads_of) (a_is_row := ?a_is_row) (l_is_row := ?l_is_row) (cc_is_row := ?cc_is_row) (k_is_row := ?k_is_row) (a_is_head := ?a_is_head) (l_is_head := ?l_is_head) (cc_is_head := ?cc_is_head) (k_is_head := ?k_is_head) (a_is_pairs := ?a_is_pairs) (l_is_pairs := ?l_is_pairs) (cc_is_pairs := ?cc_is_pairs) (k_is_pairs := ?k_is_pairs) (a_is_pair := ?a_is_pair) (l_is_pair := ?l_is_pair) (cc_is_pair := ?cc_is_pair) (k_is_pair := ?k_is_pair) (a_names_in := ?a_names_in) (l_names_in := ?l_names_in) (cc_names_in := ?cc_names_in) (k_names_in := ?k_names_in) (a_has_rows := ?a_has_rows) (l_has_rows := ?l_has_rows) (cc_has_rows := ?cc_has_rows) (k_has_rows := ?k_has_rows) (a_leads_out := ?a_leads_out) (l_leads_out := ?l_leads_out) (cc_leads_out := ?cc_leads_out) (k_leads_out := ?k_leads_out) (a_is_holed := ?a_is_holed) (l_is_holed := ?l_is_holed) (cc_is_holed := ?cc_is_holed) (k_is_holed := ?k_is_holed) (a_law_tpen := ?a_law_tpen) (l_law_tpen := ?l_law_tpen) (cc_law_tpen := ?cc_law_tpen) (k_law_tpen := ?k_law_tpen) (a_law_tdraw := ?a_law_tdraw) (l_law_tdraw := ?l_law_tdraw) (cc_law_tdraw := ?cc_law_tdraw) (k_law_tdraw := ?k_law_tdraw) (a_law_tnames := ?a_law_tnames) (l_law_tnames := ?l_law_tnames) (cc_law_tnames := ?cc_law_tnames) (k_law_tnames := ?k_law_tnames) (a_law_tpairs := ?a_law_tpairs) (l_law_tpairs := ?l_law_tpairs) (cc_law_tpairs := ?cc_law_tpairs) (k_law_tpairs := ?k_law_tpairs) (a_law_thead := ?a_law_thead) (l_law_thead := ?l_law_thead) (cc_law_thead := ?cc_law_thead) (k_law_thead := ?k_law_thead) (a_law_ttelling := ?a_law_ttelling) (l_law_ttelling := ?l_law_ttelling) (cc_law_ttelling := ?cc_law_ttelling) (k_law_ttelling := ?k_law_ttelling) (a_law_tholed := ?a_law_tholed) (l_law_tholed := ?l_law_tholed) (cc_law_tholed := ?cc_law_tholed) (k_law_tholed := ?k_law_tholed) (a_law_tis_name := ?a_law_tis_name) (l_law_tis_name := ?l_law_tis_name) (cc_law_tis_name := ?cc_law_tis_name) (k_law_tis_name := ?k_law_tis_name) (a_law_tis_head := ?a_law_tis_head) (l_law_tis_head := ?l_law_tis_head) (cc_law_tis_head := ?cc_law_tis_head) (k_law_tis_head := ?k_law_tis_head) (a_law_tis_telling := ?a_law_tis_telling) (l_law_tis_telling := ?l_law_tis_telling) (cc_law_tis_telling := ?cc_law_tis_telling) (k_law_tis_telling := ?k_law_tis_telling) (a_law_tdue := ?a_law_tdue) (l_law_tdue := ?l_law_tdue) (cc_law_tdue := ?cc_law_tdue) (k_law_tdue := ?k_law_tdue) (a_law_tbad_heads := ?a_law_tbad_heads) (l_law_tbad_heads := ?l_law_tbad_heads) (cc_law_tbad_heads := ?cc_law_tbad_heads) (k_law_tbad_heads := ?k_law_tbad_heads) (a_law_tother := ?a_law_tother) (l_law_tother := ?l_law_tother) (cc_law_tother := ?cc_law_tother) (k_law_tother := ?k_law_tother) (a_law := ?a_law) (l_law := ?l_law) (cc_law := ?cc_law) (k_law := ?k_law) (z_len := ?z_len) (z_isinstance := ?z_isinstance) (z_all := ?z_all) (z_range := ?z_range) (z_str := ?z_str) (z_bool := ?z_bool) (z_int := ?z_int) (z_list := ?z_list) (z_tuple := ?z_tuple) (z_dict := ?z_dict) (z_sorted := ?z_sorted) (z_repr := ?z_repr) (z_enumerate := ?z_enumerate) (z_zip := ?z_zip) (z_set := ?z_set) (g_LETTERS := ?g_LETTERS) (g_LONGEST := ?g_LONGEST) (g_NO_NAMES := ?g_NO_NAMES) (gl_NO_NAMES := ?gl_NO_NAMES) (g_MOST_ROWS_tellings := ?g_MOST_ROWS_tellings) (g_NAMES_BEHIND := ?g_NAMES_BEHIND) (gl_NAMES_BEHIND := ?gl_NAMES_BEHIND) (g_WORDED := ?g_WORDED) (gl_WORDED := ?gl_WORDED) (g_MOST_ROWS_sayings := ?g_MOST_ROWS_sayings) (g_MOST_HOLES := ?g_MOST_HOLES) (g_HOLE := ?g_HOLE) (gl_HOLE := ?gl_HOLE) (gv_LETTERS := ?gv_LETTERS) (gv_LONGEST := ?gv_LONGEST) (gz_NO_NAMES := ?gz_NO_NAMES) (gv_NO_NAMES := ?gv_NO_NAMES) (gv_MOST_ROWS_tellings := ?gv_MOST_ROWS_tellings) (gs_NAMES_BEHIND := ?gs_NAMES_BEHIND) (gp_NAMES_BEHIND := ?gp_NAMES_BEHIND) (gk_NAMES_BEHIND := ?gk_NAMES_BEHIND) (gn_NAMES_BEHIND := ?gn_NAMES_BEHIND) (gv_NAMES_BEHIND := ?gv_NAMES_BEHIND) (gz_WORDED := ?gz_WORDED) (gv_WORDED := ?gv_WORDED) (gv_MOST_ROWS_sayings := ?gv_MOST_ROWS_sayings) (gv_MOST_HOLES := ?gv_MOST_HOLES) (gz_HOLE := ?gz_HOLE) (gv_HOLE := ?gv_HOLE)
    (case a_is_name => k_is)
    (case l_is_name => k_is)
    (case cc_is_name => k_is)
    (case k_is_name => k_is)
    (case a_are_rising => k_is)
    (case l_are_rising => k_is)
    (case cc_are_rising => k_is)
    (case k_are_rising => k_is)
    (case a_is_telling => k_is)
    (case l_is_telling => k_is)
    (case cc_is_telling => k_is)
    (case k_is_telling => k_is)
    (case a_heads_of => k_is)
    (case l_heads_of => k_is)
    (case cc_heads_of => k_is)
    (case k_heads_of => k_is)
    (case a_is_row => k_is)
    (case l_is_row => k_is)
    (case cc_is_row => k_is)
    (case k_is_row => k_is)
    (case a_is_head => k_is)
    (case l_is_head => k_is)
    (case cc_is_head => k_is)
    (case k_is_head => k_is)
    (case a_is_pairs => k_is)
    (case l_is_pairs => k_is)
    (case cc_is_pairs => k_is)
    (case k_is_pairs => k_is)
    (case a_is_pair => k_is)
    (case l_is_pair => k_is)
    (case cc_is_pair => k_is)
    (case k_is_pair => k_is)
    (case a_names_in => k_is)
    (case l_names_in => k_is)
    (case cc_names_in => k_is)
    (case k_names_in => k_is)
    (case a_has_rows => k_is)
    (case l_has_rows => k_is)
    (case cc_has_rows => k_is)
    (case k_has_rows => k_is)
    (case a_leads_out => k_is)
    (case l_leads_out => k_is)
    (case cc_leads_out => k_is)
    (case k_leads_out => k_is)
    (case a_is_holed => k_is)
    (case l_is_holed => k_is)
    (case cc_is_holed => k_is)
    (case k_is_holed => k_is)
    (case a_law_tpen => k_is)
    (case l_law_tpen => k_is)
    (case cc_law_tpen => k_is)
    (case k_law_tpen => k_is)
    (case a_law_tdraw => k_is)
    (case l_law_tdraw => k_is)
    (case cc_law_tdraw => k_is)
    (case k_law_tdraw => k_is)
    (case a_law_tnames => k_is)
    (case l_law_tnames => k_is)
    (case cc_law_tnames => k_is)
    (case k_law_tnames => k_is)
    (case a_law_tpairs => k_is)
    (case l_law_tpairs => k_is)
    (case cc_law_tpairs => k_is)
    (case k_law_tpairs => k_is)
    (case a_law_thead => k_is)
    (case l_law_thead => k_is)
    (case cc_law_thead => k_is)
    (case k_law_thead => k_is)
    (case a_law_ttelling => k_is)
    (case l_law_ttelling => k_is)
    (case cc_law_ttelling => k_is)
    (case k_law_ttelling => k_is)
    (case a_law_tholed => k_is)
    (case l_law_tholed => k_is)
    (case cc_law_tholed => k_is)
    (case k_law_tholed => k_is)
    (case a_law_tis_name => k_is)
    (case l_law_tis_name => k_is)
    (case cc_law_tis_name => k_is)
    (case k_law_tis_name => k_is)
    (case a_law_tis_head => k_is)
    (case l_law_tis_head => k_is)
    (case cc_law_tis_head => k_is)
    (case k_law_tis_head => k_is)
    (case a_law_tis_telling => k_is)
    (case l_law_tis_telling => k_is)
    (case cc_law_tis_telling => k_is)
    (case k_law_tis_telling => k_is)
    (case a_law_tdue => k_is)
    (case l_law_tdue => k_is)
    (case cc_law_tdue => k_is)
    (case k_law_tdue => k_is)
    (case a_law_tbad_heads => k_is)
    (case l_law_tbad_heads => k_is)
    (case cc_law_tbad_heads => k_is)
    (case k_law_tbad_heads => k_is)
    (case a_law_tother => k_is)
    (case l_law_tother => k_is)
    (case cc_law_tother => k_is)
    (case k_law_tother => k_is)
    (case a_law => k_is)
    (case l_law => k_is)
    (case cc_law => k_is)
    (case k_law => k_is)
    (case z_len => k_is)
    (case z_isinstance => k_is)
    (case z_all => k_is)
    (case z_range => k_is)
    (case z_str => k_is)
    (case z_bool => k_is)
    (case z_int => k_is)
    (case z_list => k_is)
    (case z_tuple => k_is)
    (case z_dict => k_is)
    (case z_sorted => k_is)
    (case z_repr => k_is)
    (case z_enumerate => k_is)
    (case z_zip => k_is)
    (case z_set => k_is)
    (case g_LETTERS => k_is)
    (case g_LONGEST => k_is)
    (case g_NO_NAMES => k_is)
    (case gl_NO_NAMES => k_is)
    (case g_MOST_ROWS_tellings => k_is)
    (case g_NAMES_BEHIND => k_is)
    (case gl_NAMES_BEHIND => k_is)
    (case g_WORDED => k_is)
    (case gl_WORDED => k_is)
    (case g_MOST_ROWS_sayings => k_is)
    (case g_MOST_HOLES => k_is)
    (case g_HOLE => k_is)
    (case gl_HOLE => k_is)
    (case gv_LETTERS => exact ⟨_, rfl⟩)
    (case gv_LONGEST => exact ⟨_, rfl⟩)
    (case gz_NO_NAMES => decide)
    (case gv_NO_NAMES => exact .cons ⟨_, rfl⟩ (.cons ⟨_, rfl⟩ (.cons ⟨_, rfl⟩ (.cons ⟨_, rfl⟩ (.cons ⟨_, rfl⟩ (.nil))))))
    (case gv_MOST_ROWS_tellings => exact ⟨_, rfl⟩)
    (case gs_NAMES_BEHIND => decide)
    (case gp_NAMES_BEHIND => intro P; exact .cons (kv := ((Sum.inr "all", _) : Key × Value)) (mixKind_str _ _ _ _) rfl (.cons (kv := ((Sum.inr "none", _) : Key × Value)) (mixKind_str _ _ _ _) rfl (.cons (kv := ((Sum.inr "way", _) : Key × Value)) (mixKind_str _ _ _ _) rfl (.cons (kv := ((Sum.inr "as", _) : Key × Value)) (mixKind_str _ _ _ _) rfl (.nil)))))
    (case gk_NAMES_BEHIND => intro P e he; simp only [List.mem_toArray, Array.mem_toArray, List.mem_cons, List.mem_nil_iff, or_false] at he; rcases he with rfl | rfl | rfl | rfl <;> exact ⟨.inr _, mixKind_str _ _ _ _, rfl⟩)
    (case gn_NAMES_BEHIND => decide)
    (case gv_NAMES_BEHIND => exact .cons ⟨rfl, ⟨_, rfl⟩⟩ (.cons ⟨rfl, ⟨_, rfl⟩⟩ (.cons ⟨rfl, ⟨_, rfl⟩⟩ (.cons ⟨rfl, ⟨_, rfl⟩⟩ (.nil)))))
    (case gz_WORDED => decide)
    (case gv_WORDED => exact .cons ⟨_, rfl⟩ (.cons ⟨_, rfl⟩ (.nil)))
    (case gv_MOST_ROWS_sayings => exact ⟨_, rfl⟩)
    (case gv_MOST_HOLES => exact ⟨_, rfl⟩)
    (case gz_HOLE => decide)
    (case gv_HOLE => exact .cons ⟨_, rfl⟩ (.nil))

