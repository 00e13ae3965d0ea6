import PyProof.Rows.All
import Wide.All
import OpenK.AllK
import Wide.FinOn
import PyProof.EqAt
import PyProof.EqKinds
import PyProof.TupleCall
import KE.BitLaws
import PyProof.Rows.TupAdd
import KE.KIsAll
import KE.KTupSum
import PyProof.IsRules
import KE.KSortTupG
import KE.KNest
import PyProof.GenCompD
import PyProof.StrWalks
import PyProof.ConsumeS
import PyProof.CodeObjX
import PyProof.Rows.GenRows
import Wide.BridgeG
import KE.KRevSl
import KE.KMinKey
import KE.KRevIter
import PyProof.TupleOfGen
import KE.KUnpackStar
import KE.KStar
import PyProof.P3In
import PyProof.TupleOfSeq
import PyProof.ListRange
import PyProof.Draws
import PyProof.ZipIter
import PyProof.JoinWalk
import PyProof.CallStr
import PyProof.ListMulRoad
import PyProof.ListMulAny
import PyProof.FactsAll.tuple_2
import KE.KSortKeySt
import KE.KEqDict
import PyProof.Rows.SetFrom
import PyProof.CollectIter
import PyProof.Rows.SortShellAny
import PyProof.Rows.SortWalk
import KE.KDictLaws
import PyProof.DictCompW
import PyProof.DictFindH
import PyProof.SetRoads
import KE.KDictSum
import PyProof.Rows.TupDisplay
import PyProof.DictTruth
import PyProof.ReprText
import PyProof.Rows.StrCase
import PyProof.Rows.StrDigitsNeg
import PyProof.StrLawsRepr
import PySem.Challenge.RW_meetways_k12_all_ways_of_small_nets
set_option Elab.async false
set_option linter.all false
set_option maxRecDepth 100000
namespace L2
open PySem PySem.Spec PyProof.Rows
abbrev Key := Sum Int Str
def keyIs : Key → Value → Bool
  | .inl k, v => Value.isInt k v
  | .inr x, v => Value.isStrOf x v
def keyH (w : World) : Key → Int
  | .inl k => hashInt k
  | .inr x => hashStr w x
theorem keyIs_shape : ∀ {k : Key} {v : Value}, keyIs k v = true → (∃ i t, k = Sum.inl i ∧ v = Value.int i t) ∨ (∃ x t, k = Sum.inr x ∧ v = Value.str x t)
  | .inl i, v, h => by
    obtain ⟨t, e⟩ := Value.isInt_shape (k := i) (v := v) h
    exact .inl ⟨i, t, rfl, e⟩
  | .inr x, v, h => by
    obtain ⟨t, e⟩ := Value.isStrOf_shape (x := x) (v := v) h
    exact .inr ⟨x, t, rfl, e⟩
theorem keyIs_int (i : Int) (t : Tok) : keyIs (.inl i) (.int i t) = true := by simp [keyIs, Value.isInt]
theorem keyIs_str (x : Str) (t : Tok) : keyIs (.inr x) (.str x t) = true := by simp [keyIs, Value.isStrOf]
theorem key_ll (a b : Int) : decide ((Sum.inl a : Key) = Sum.inl b) = (a == b) := by
  by_cases e : a = b
  · subst e; simp
  · have h : ¬ (Sum.inl a : Key) = Sum.inl b := fun q => e (Sum.inl.inj q)
    rw [decide_eq_false h]
    exact (beq_eq_false_iff_ne.mpr e).symm
theorem key_rr (a b : Str) : decide ((Sum.inr a : Key) = Sum.inr b) = decide (a = b) := by
  by_cases e : a = b
  · subst e; simp
  · have h : ¬ (Sum.inr a : Key) = Sum.inr b := fun q => e (Sum.inr.inj q)
    rw [decide_eq_false h, decide_eq_false e]
theorem key_lr (a : Int) (b : Str) : decide ((Sum.inl a : Key) = Sum.inr b) = false := decide_eq_false (fun q => nomatch q)
theorem key_rl (a : Str) (b : Int) : decide ((Sum.inr a : Key) = Sum.inl b) = false := decide_eq_false (fun q => nomatch q)
def mixKind (prog : Program) (w : World) : PySem.KeyKind prog w Key where
  is := keyIs
  hash := keyH w
  inj := fun v a b ha hb => by
    rcases keyIs_shape ha with ⟨i, t, rfl, rfl⟩ | ⟨x, t, rfl, rfl⟩
    · rcases keyIs_shape hb with ⟨j, u, rfl, e⟩ | ⟨y, u, rfl, e⟩
      · injection e with e1 _; rw [e1]
      · exact nomatch e
    · rcases keyIs_shape hb with ⟨j, u, rfl, e⟩ | ⟨y, u, rfl, e⟩
      · exact nomatch e
      · injection e with e1 _; rw [e1]
  byValue := fun k v h => by
    rcases keyIs_shape h with ⟨i, t, rfl, rfl⟩ | ⟨x, t, rfl, rfl⟩ <;> rfl
  pyHash := fun hv h => by
    rcases keyIs_shape hv with ⟨i, t, rfl, rfl⟩ | ⟨x, t, rfl, rfl⟩
    · exact wpAny_pyHash_int h
    · exact wpAny_pyHash_str h
  eqBool := fun hu hv h => by
    rcases keyIs_shape hu with ⟨i, t, rfl, rfl⟩ | ⟨x, t, rfl, rfl⟩
    · rcases keyIs_shape hv with ⟨j, u, rfl, rfl⟩ | ⟨y, u, rfl, rfl⟩
      · rw [key_ll] at h; exact wpAny_eqBool_int h
      · rw [key_lr] at h; exact SeqAt.EqAt.int_str i t y u _ _ _ _ h
    · rcases keyIs_shape hv with ⟨j, u, rfl, rfl⟩ | ⟨y, u, rfl, rfl⟩
      · rw [key_rl] at h; exact SeqAt.EqAt.str_int x t j u _ _ _ _ h
      · rw [key_rr] at h; exact wpAny_eqBool_str h
  «strs» := fun k x t v h => by
    rcases keyIs_shape h with ⟨i, u, rfl, e⟩ | ⟨y, u, rfl, e⟩
    · exact nomatch e
    · injection e with e1 _
      subst e1
      cases v <;> rfl
theorem mixKind_int (prog : Program) (w : World) (i : Int) (t : Tok) : (mixKind prog w).is (.inl i) (.int i t) = true := keyIs_int i t
theorem mixKind_str (prog : Program) (w : World) (x : Str) (t : Tok) : (mixKind prog w).is (.inr x) (.str x t) = true := keyIs_str x t
end L2
namespace L2
open PySem PySem.Spec PyProof.Rows
inductive V where
  | non | bl (b : Bool) | int (i : Int) | str (x : Str) | byt (b : Array UInt8) | flt (b : UInt64) | ref (a : Addr) | ty (n : String)
  deriving DecidableEq
def RelV : V → Value → Prop
  | .non, u => u = Value.none
  | .bl b, u => u = Value.bool b
  | .int i, u => ∃ t, u = Value.int i t
  | .str x, u => ∃ t, u = Value.str x t
  | .byt b, u => ∃ t, u = Value.bytes b t
  | .flt b, u => ∃ t, u = Value.float b t
  | .ref a, u => u = Value.ref a
  | .ty n, u => u = Value.type n
abbrev Vals : List V → List Value → Prop := Paired RelV
theorem Vals.length {xs : List V} {us : List Value} (r : Vals xs us) : xs.length = us.length := Paired.length r
theorem Vals.get : ∀ {xs : List V} {us : List Value} {i : Nat} {x : V}, Vals xs us → xs[i]? = some x → ∃ u, us[i]? = some u ∧ RelV x u
  | _, _, _, _, .nil, e => by simp at e
  | _, _, 0, _, .cons r _, e => by simp at e; subst e; exact ⟨_, rfl, r⟩
  | _, _, i + 1, x, .cons _ t, e => by
    obtain ⟨u, h1, h2⟩ := Vals.get (i := i) (x := x) t (by simpa using e)
    exact ⟨u, by simpa using h1, h2⟩
theorem Vals.set {x : V} {u : Value} (r : RelV x u) : ∀ {xs : List V} {us : List Value} (i : Nat), Vals xs us → Vals (xs.set i x) (us.set i u)
  | _, _, _, .nil => .nil
  | _, _, 0, .cons _ t => .cons r t
  | _, _, i + 1, .cons q t => .cons q (Vals.set r i t)
theorem Vals.append : ∀ {xs ys : List V} {us ws : List Value}, Vals xs us → Vals ys ws → Vals (xs ++ ys) (us ++ ws)
  | _, _, _, _, .nil, s => s
  | _, _, _, _, .cons r t, s => .cons r (Vals.append t s)
theorem Vals.take : ∀ {xs : List V} {us : List Value} (n : Nat), Vals xs us → Vals (xs.take n) (us.take n)
  | _, _, 0, _ => .nil
  | _, _, _ + 1, .nil => .nil
  | _, _, n + 1, .cons r t => .cons r (Vals.take n t)
theorem Vals.drop : ∀ {xs : List V} {us : List Value} (n : Nat), Vals xs us → Vals (xs.drop n) (us.drop n)
  | _, _, 0, r => r
  | _, _, _ + 1, .nil => .nil
  | _, _, n + 1, .cons _ t => Vals.drop n t
def RelO : Option V → Option Value → Prop
  | some v, some u => RelV v u
  | none, none => True
  | _, _ => False
def KV {κ : Type} : List (κ × V) → List (κ × Value) → Prop := Paired fun (p : κ × V) (q : κ × Value) => p.1 = q.1 ∧ RelV p.2 q.2
def kV : Key → V
  | .inl i => .int i
  | .inr x => .str x
inductive HO where
  /-- a list -/
  | lst (xs : List V)
  /-- a tuple (never changes) -/
  | tup (xs : List V)
  /-- a dict whose keys are ints and texts; one whose keys are tuples of ints and texts (the empty one is both) -/
  | dK (kvs : List (Key × V)) | dT (kvs : List (List Key × V))
  /-- a set of ints: its members, its size -/
  | set (S : Int → Bool) (n : Nat)
  /-- an instance of the class at C, its dict at dx, its attributes -/
  | ins (C dx : Addr) (fs : List (Str × V))
  /-- the dict of the instance at x -/
  | own (x : Addr)
  /-- the dict of an exception -/
  | xd (fs : List (Str × V))
  /-- a bound method, f of x -/
  | met (f x : Addr)
  /-- a range object lo, lo + 1, .. below hi -/
  | rng (lo hi : Int)
  /-- a thing that is known to the object (the script; a dict while a loop walks it): read, never written while it is so -/
  | frz (o : Obj) (u : HO)
  /-- a code object's table -/
  | tbl (ps : Array Value)
  /-- any other thing, by what is true of its one object (a def of one's own: SetO a S n := HO.ext fun h => ..) -/
  | ext (φ : Heap → Prop)
abbrev Hp := Addr → Option HO
def upd (H : Hp) (a : Addr) (o : HO) : Hp := fun b => if b = a then some o else H b
theorem upd_same {H : Hp} {a : Addr} {o : HO} : upd H a o a = some o := by unfold upd; rw [if_pos rfl]
theorem upd_ne {H : Hp} {a b : Addr} {o : HO} (h : b ≠ a) : upd H a o b = H b := by unfold upd; rw [if_neg h]
theorem ne_of {H : Hp} {a b : Addr} {o u : HO} (h : H a = some o) (h' : H b = some u) (d : o ≠ u) : a ≠ b := by
  intro e; subst e; rw [h] at h'; exact d (Option.some.inj h')
theorem ne_of_none {H : Hp} {a b : Addr} {o : HO} (h : H a = some o) (h' : H b = none) : a ≠ b := by
  intro e; subst e; rw [h] at h'; cases h'
section
variable (P : Program) (w : World)
def ObjOk (H : Hp) (h : Heap) (a : Addr) : HO → Prop
  | .lst xs => xs.length ≤ sizeLine ∧ ∃ (its : List Value) (n : Nat), Vals xs its ∧ h.get? a = some { cls := .type "list", data := .seq its.toArray n }
  | .tup xs => xs.length ≤ sizeLine ∧ ∃ its : List Value, Vals xs its ∧ IsTup h a its.toArray
  | .dK kvs => kvs.length ≤ sizeLine ∧ (a == sysModules) = false ∧ ∃ vs, KV kvs vs ∧ h.DictOf (mixKind P w) a vs
  | .dT kvs => kvs.length ≤ sizeLine ∧ (a == sysModules) = false ∧ ∃ xs : List (List Key × Addr × Value),
      Paired (fun (p : List Key × V) (q : List Key × Addr × Value) => p.1 = q.1 ∧ H q.2.1 = some (.tup (p.1.map kV)) ∧ RelV p.2 q.2.2) kvs xs ∧
      ∃ o es ep, h.get? a = some o ∧ o.ExactDict ∧ o.data = .dict es ep ∧ es.toList = xs.map (entryOfKey (tupleKind (mixKind P w))) ∧ (xs.map (·.1)).Nodup
  | .set S n => h.SetOf (intKind P w) a S n
  | .ins C dx fs => H dx = some (.own a) ∧ fs.length ≤ 1000 ∧ dx ≠ a ∧ h.get? a = some (PySem.W.instObj C dx) ∧
      ∃ mA, h.Ns1 dx mA ∧ (∀ f, RelO (fs.lookup f) (mA f)) ∧ PySem.Within mA (fs.map (·.1))
  | .own _ => ∃ o, h.get? a = some o
  | .xd fs => ∃ mA, h.Ns1 a mA ∧ ∀ f, RelO (fs.lookup f) (mA f)
  | .rng lo hi => ∃ t u v, h.get? a = some { cls := .type "range", data := .fields #[.int lo t, .int hi u, .int 1 v] }
  | .frz o u => h.get? a = some o ∧ ObjOk H h a u
  | .tbl ps => h.get? a = some { cls := .none, data := .fields ps }
  | .met f x => h.get? a = some (PySem.W.methodObj (.ref f) (.ref x))
  | .ext φ => φ h ∧ (∃ o, h.get? a = some o) ∧ ∀ h1 h2 : Heap, φ h1 → (∀ o, h1.get? a = some o → h2.get? a = some o) → φ h2
def HOk (H : Hp) (h : Heap) : Prop := ∀ a o, H a = some o → ObjOk P w H h a o
end
section
variable {P : Program} {w : World} {H H' : Hp} {h h' : Heap} {a : Addr} {o : HO}
theorem ObjOk.lt (x : ObjOk P w H h a o) : a < h.objs.size := by
  cases o with
  | lst xs => obtain ⟨_, _, _, _, e⟩ := x; exact Heap.lt_size e
  | tup xs => obtain ⟨_, _, _, p⟩ := x; exact p.lt
  | dK kvs => obtain ⟨_, _, _, _, o, _, _, e, _⟩ := x; exact Heap.lt_size e
  | dT kvs => obtain ⟨_, _, _, _, o, _, _, e, _⟩ := x; exact Heap.lt_size e
  | set S n => obtain ⟨o, _, _, _, e, _⟩ := x; exact Heap.lt_size e
  | ins C dx fs => obtain ⟨_, _, _, e, _⟩ := x; exact Heap.lt_size e
  | own y => obtain ⟨_, e⟩ := x; exact Heap.lt_size e
  | xd fs => obtain ⟨_, ⟨_, _, _, e, _⟩, _⟩ := x; exact Heap.lt_size e
  | rng lo hi => obtain ⟨_, _, _, e⟩ := x; exact Heap.lt_size e
  | frz ob u => obtain ⟨e, _⟩ := x; exact Heap.lt_size e
  | tbl ps => exact Heap.lt_size (show h.get? a = some _ from x)
  | met f y => exact Heap.lt_size (show h.get? a = some _ from x)
  | ext φ => obtain ⟨_, ⟨_, e⟩, _⟩ := x; exact Heap.lt_size e
theorem Paired.mapP {α β : Type} {F G : α → β → Prop} : ∀ {l₁ : List α} {l₂ : List β}, Paired F l₁ l₂ → (∀ a b, F a b → G a b) → Paired G l₁ l₂
  | _, _, .nil, _ => .nil
  | _, _, .cons r t, f => .cons (f _ _ r) (Paired.mapP t f)
theorem ObjOk.stay (x : ObjOk P w H h a o) (k : ∀ b u, (b = a ∨ H b = some (.own a)) → h.get? b = some u → h'.get? b = some u)
    (ho : ∀ b, H b = some (.own a) → H' b = some (.own a)) (ht : ∀ b xs, H b = some (.tup xs) → H' b = some (.tup xs)) : ObjOk P w H' h' a o := by
  induction o with
  | lst xs => obtain ⟨z, its, n, r, e⟩ := x; exact ⟨z, its, n, r, k _ _ (.inl rfl) e⟩
  | tup xs => obtain ⟨z, its, r, ob, e, c⟩ := x; exact ⟨z, its, r, ob, k _ _ (.inl rfl) e, c⟩
  | dK kvs => obtain ⟨z, y, vs, r, ob, es, ep, e, c⟩ := x; exact ⟨z, y, vs, r, ob, es, ep, k _ _ (.inl rfl) e, c⟩
  | dT kvs =>
    obtain ⟨z, y, xs, r, ob, es, ep, e, c⟩ := x
    exact ⟨z, y, xs, Paired.mapP r fun p q z => ⟨z.1, ht _ _ z.2.1, z.2.2⟩, ob, es, ep, k _ _ (.inl rfl) e, c⟩
  | set S n => obtain ⟨ob, es, ep, t, e, c⟩ := x; exact ⟨ob, es, ep, t, k _ _ (.inl rfl) e, c⟩
  | ins C dx fs =>
    obtain ⟨d, z, ne, e, mA, ⟨od, es, ep, e2, c⟩, r⟩ := x
    exact ⟨ho _ d, z, ne, k _ _ (.inl rfl) e, mA, ⟨od, es, ep, k _ _ (.inr d) e2, c⟩, r⟩
  | own y => obtain ⟨ob, e⟩ := x; exact ⟨ob, k _ _ (.inl rfl) e⟩
  | xd fs => obtain ⟨mA, ⟨od, es, ep, e, c⟩, r⟩ := x; exact ⟨mA, ⟨od, es, ep, k _ _ (.inl rfl) e, c⟩, r⟩
  | rng lo hi => obtain ⟨t, u, v, e⟩ := x; exact ⟨t, u, v, k _ _ (.inl rfl) e⟩
  | frz ob u ih => obtain ⟨e, q⟩ := x; exact ⟨k _ _ (.inl rfl) e, ih q⟩
  | tbl ps =>
    have e : h.get? a = some { cls := .none, data := .fields ps } := x
    show h'.get? a = some { cls := .none, data := .fields ps }
    exact k a _ (.inl rfl) e
  | met f y =>
    have e : h.get? a = some (PySem.W.methodObj (.ref f) (.ref y)) := x
    show h'.get? a = some (PySem.W.methodObj (.ref f) (.ref y))
    exact k a _ (.inl rfl) e
  | ext φ => obtain ⟨p, ⟨o, e⟩, st⟩ := x; exact ⟨st _ _ p fun o q => k _ _ (.inl rfl) q, ⟨o, k _ _ (.inl rfl) e⟩, st⟩
theorem HOk.lt (x : HOk P w H h) (e : H a = some o) : a < h.objs.size := (x a o e).lt
theorem HOk.fresh (x : HOk P w H h) (e : h.objs.size ≤ a) : H a = none := by
  cases q : H a with
  | none => rfl
  | some u => exact absurd (Nat.lt_of_lt_of_le (x.lt q) e) (Nat.lt_irrefl _)
theorem HOk.kept (x : HOk P w H h) (k : ∀ b u, h.get? b = some u → h'.get? b = some u) : HOk P w H h' := fun a o e =>
  (x a o e).stay (fun b u _ q => k b u q) (fun _ q => q) fun _ _ q => q
theorem HOk.laid (x : HOk P w H h) (k : ∀ b u, h.get? b = some u → h'.get? b = some u) (hp : h.objs.size ≤ a) (new : ObjOk P w (upd H a o) h' a o) : HOk P w (upd H a o) h' := fun b u e => by
  have hn := x.fresh hp
  by_cases hb : b = a
  · subst hb; rw [upd_same] at e; cases e; exact new
  · rw [upd_ne hb] at e
    exact (x b u e).stay (fun c v _ q => k c v q) (fun c q => by rw [upd_ne (ne_of_none q hn)]; exact q) fun c xs q => by rw [upd_ne (ne_of_none q hn)]; exact q
end
def Rd (H : Hp) (a : Addr) (u : HO) : Prop := H a = some u ∨ ∃ o, H a = some (.frz o u)
theorem Rd.of {H : Hp} {a : Addr} {u : HO} (h : H a = some u) : Rd H a u := .inl h
theorem Rd.ok {P : Program} {w : World} {H : Hp} {h : Heap} {a : Addr} {u : HO} (r : Rd H a u) (x : HOk P w H h) : ObjOk P w H h a u := by
  rcases r with r | ⟨o, r⟩
  · exact x a u r
  · obtain ⟨_, q⟩ := x a _ r
    exact q
def Mut : Option HO → Prop
  | some (.lst _) => True
  | some (.dK _) => True
  | some (.dT _) => True
  | some (.set _ _) => True
  | some (.ins _ _ _) => True
  | some (.ext _) => True
  | _ => False
section
variable {P : Program} {w : World} {H : Hp} {h h' : Heap} {x e : Addr} {o' : HO}
theorem HOk.write (ok : HOk P w H h) (mu : Mut (H x)) (he : e = x ∨ H e = some (.own x)) (k : ∀ b u, b ≠ e → h.get? b = some u → h'.get? b = some u) (heo : ∃ u, h'.get? e = some u)
    (new : ObjOk P w (upd H x o') h' x o') : HOk P w (upd H x o') h' := fun b u q => by
  have nown : ∀ c y, H c = some (.own y) → c ≠ x := fun c y r z => by subst z; rw [r] at mu; exact mu
  have ntup : ∀ c xs, H c = some (.tup xs) → c ≠ x := fun c xs r z => by subst z; rw [r] at mu; exact mu
  by_cases hb : b = x
  · subst hb; rw [upd_same] at q; cases q; exact new
  · rw [upd_ne hb] at q
    by_cases hbe : b = e
    · have q' : H b = some (.own x) := by
        rcases he with z | z
        · exact absurd (hbe.trans z) hb
        · rw [hbe]; exact z
      rw [q] at q'; cases q'
      obtain ⟨v, hv⟩ := heo
      exact ⟨v, by rw [hbe]; exact hv⟩
    · refine (ok b u q).stay (fun c v hc r => k c v ?_ r) (fun c r => by rw [upd_ne (nown c b r)]; exact r) fun c xs r => by rw [upd_ne (ntup c xs r)]; exact r
      rcases hc with rfl | hc
      · exact hbe
      · rintro rfl
        rcases he with z | z
        · exact nown c b hc z
        · rw [hc] at z; cases z; exact hb rfl
end
structure Un (fs ex : List Addr) (H H' : Hp) (h h' : Heap) : Prop where
  keep : ∀ b o, h.get? b = some o → H b = none → b ∉ fs → b ∉ ex → h'.get? b = some o
  slot : ∀ b o, h.get? b = some o → H b = none → b ∈ fs → b ∉ ex → ∃ sl, h'.get? b = some { o with slots := sl }
  free : ∀ b o, h.get? b = some o → H b = none → b ∉ ex → H' b = none
  there : ∀ b o, h.get? b = some o → b ∉ ex → ∃ o', h'.get? b = some o'
  tups : ∀ b xs, H b = some (.tup xs) → H' b = some (.tup xs)
  frzs : ∀ b o u, H b = some (.frz o u) → H' b = some (.frz o u)
  tbls : ∀ b ps, H b = some (.tbl ps) → ∃ more, H' b = some (.tbl (ps ++ more))
section
variable {fs fs' ex ex' : List Addr} {H H1 H2 : Hp} {h h1 h2 h' : Heap} {a x e : Addr} {o : HO}
theorem Un.any (u : Un fs ex H H1 h h1) {b : Addr} {ob : Obj} (q : h.get? b = some ob) (n : H b = none) (hx : b ∉ ex) : ∃ sl, h1.get? b = some { ob with slots := sl } := by
  by_cases hb : b ∈ fs
  · exact u.slot b ob q n hb hx
  · exact ⟨ob.slots, u.keep b ob q n hb hx⟩
theorem Un.trans (a : Un fs ex H H1 h h1) (b : Un fs ex H1 H2 h1 h2) : Un fs ex H H2 h h2 where
  keep := fun c ob q n hc hx => b.keep c ob (a.keep c ob q n hc hx) (a.free c ob q n hx) hc hx
  slot := fun c ob q n hc hx => by
    obtain ⟨sl, e1⟩ := a.slot c ob q n hc hx
    obtain ⟨sl', e2⟩ := b.slot c _ e1 (a.free c ob q n hx) hc hx
    exact ⟨sl', e2⟩
  free := fun c ob q n hx => by
    obtain ⟨o', e1⟩ := a.there c ob q hx
    exact b.free c o' e1 (a.free c ob q n hx) hx
  there := fun c ob q hx => by
    obtain ⟨o', e1⟩ := a.there c ob q hx
    exact b.there c o' e1 hx
  tups := fun c xs q => b.tups c xs (a.tups c xs q)
  frzs := fun c ob xs q => b.frzs c ob xs (a.frzs c ob xs q)
  tbls := fun c ps q => by
    obtain ⟨m1, e1⟩ := a.tbls c ps q
    obtain ⟨m2, e2⟩ := b.tbls c _ e1
    exact ⟨m1 ++ m2, by rw [e2, Array.append_assoc]⟩
theorem Un.kept (k : ∀ b u, h.get? b = some u → h'.get? b = some u) : Un fs ex H H h h' :=
  ⟨fun b ob q _ _ _ => k b ob q, fun b ob q _ _ _ => ⟨ob.slots, k b ob q⟩, fun _ _ _ n _ => n, fun b ob q _ => ⟨ob, k b ob q⟩, fun _ _ q => q, fun _ _ _ q => q, fun _ ps q => ⟨#[], by rw [q]; simp⟩⟩
theorem Un.refl : Un fs ex H H h h := Un.kept fun _ _ q => q
theorem Un.laid (k : ∀ b u, h.get? b = some u → h'.get? b = some u) (hp : h.objs.size ≤ a) (hn : H a = none) : Un fs ex H (upd H a o) h h' where
  keep := fun b u q _ _ _ => k b u q
  slot := fun b u q _ _ _ => ⟨u.slots, k b u q⟩
  free := fun b u q n _ => by rw [upd_ne (Nat.ne_of_lt (Nat.lt_of_lt_of_le (Heap.lt_size q) hp))]; exact n
  there := fun b u q _ => ⟨u, k b u q⟩
  tups := fun b xs q => by rw [upd_ne (ne_of_none q hn)]; exact q
  frzs := fun b u xs q => by rw [upd_ne (ne_of_none q hn)]; exact q
  tbls := fun b ps q => ⟨#[], by rw [upd_ne (ne_of_none q hn), q]; simp⟩
theorem Un.write (mu : Mut (H x)) (he : e = x ∨ H e = some (.own x)) (k : ∀ b u, b ≠ e → h.get? b = some u → h'.get? b = some u) (heo : ∃ u, h'.get? e = some u) : Un fs ex H (upd H x o) h h' := by
  have hx : ∀ b, H b = none → b ≠ x := fun b n z => by subst z; rw [n] at mu; exact mu
  have hb : ∀ b, H b = none → b ≠ e := fun b n z => by
    subst z
    rcases he with r | r
    · exact hx b n r
    · rw [n] at r; cases r
  have hm : ∀ b u, H b = some u → ¬ Mut (some u) → b ≠ x := fun b u q nm z => by subst z; rw [q] at mu; exact nm mu
  refine ⟨fun b u q n _ _ => k b u (hb b n) q, fun b u q n _ _ => ⟨u.slots, k b u (hb b n) q⟩, fun b u q n _ => by rw [upd_ne (hx b n)]; exact n, fun b u q _ => ?_,
    fun b xs q => by rw [upd_ne (hm b _ q fun z => z)]; exact q, fun b u xs q => by rw [upd_ne (hm b _ q fun z => z)]; exact q, fun b ps q => ⟨#[], by rw [upd_ne (hm b _ q fun z => z), q]; simp⟩⟩
  by_cases hbe : b = e
  · subst hbe; exact heo
  · exact ⟨u, k b u hbe q⟩
theorem Un.mono (u : Un fs ex H H1 h h1) (hs : ∀ b ∈ fs, b ∈ fs') (hx : ∀ b ∈ ex, b ∈ ex') : Un fs' ex' H H1 h h1 :=
  ⟨fun b ob q n hb he => u.keep b ob q n (fun z => hb (hs b z)) fun z => he (hx b z), fun _ _ q n _ he => u.any q n fun z => he (hx _ z), fun b ob q n he => u.free b ob q n fun z => he (hx b z), fun b ob q he => u.there b ob q fun z => he (hx b z), u.tups, u.frzs, u.tbls⟩
end
def trk (h : Heap) (H : Hp) : List Addr := (List.range h.objs.size).filter fun a => (H a).isSome
def hidT (h : Heap) (H : Hp) : Heap := PySem.W.hideAll h (trk h H)
theorem hidT_size (h : Heap) (H : Hp) : (hidT h H).objs.size = h.objs.size := PySem.W.hideAll_size _ _
theorem hidT_get {h : Heap} {H : Hp} {b : Addr} {o : Obj} (e : h.get? b = some o) (n : H b = none) : (hidT h H).get? b = some o :=
  PySem.W.hideAll_get _ e fun hm => by
    have q : (H b).isSome = true := (List.mem_filter.mp hm).2
    rw [n] at q; simp at q
theorem of_hidT {h : Heap} {H : Hp} {b : Addr} {o : Obj} (e : (hidT h H).get? b = some o) : h.get? b = some o ∧ H b = none := by
  have e' : h.get? b = some o := PySem.W.of_hideAll (trk h H) e
  refine ⟨e', ?_⟩
  cases q : H b with
  | none => rfl
  | some x =>
    have hm : b ∈ trk h H := List.mem_filter.mpr ⟨List.mem_range.mpr (Heap.lt_size e'), by simp [q]⟩
    have z : (hidT h H).get? b = none := PySem.W.hideAll_none (trk h H) hm
    rw [z] at e; cases e
def allNews (g h : Heap) (L : Addr) : List (Addr × Obj) := (List.range h.objs.size).filterMap fun a => if a = L ∨ (g.get? a).isSome = true then none else (h.get? a).map fun o => (a, o)
def rest (g h : Heap) (L d : Addr) : List (Addr × Obj) := (allNews g h L).filter fun p => decide (p.1 ≠ d)
end L2
namespace L2
open PySem PySem.Spec PyProof.Rows
structure Mod (K : PySem.W.Frag) (mg : Str → Option Value) (base : Heap) : Prop where
  kin : K.In base
  glob : base.Ns mainGlobals mg
  blt : ∃ mb, base.Ns builtinsNs mb ∧ ∀ x : Str, x ≠ "__name__" → mb x = bootBuiltins x
  nolimit : base.NoLimit
structure Cx where
  prog : Program
  w : World
  K : PySem.W.Frag
  mg : Str → Option Value
  base : Heap
  A : Around
  N : List Str
  s_0 : Shared
  H_0 : Hp
  env : Env
  outer : List Env
  stack : List Env
  ex : List Addr
  fn : Str → Bool
  calm : Bool
  pn : List (Addr × Obj)
  xe : Value → Shared → Prop
def frs (l : List Env) : List Addr := l.filterMap (·.frame)
abbrev Cx.fs (X : Cx) : List Addr := frs X.outer
def Vis (sc : Scope) (x : Str) : Prop := sc.names.lookup x = some .local ∨ sc.names.lookup x = some .cell ∨ sc.names.lookup x = some .free
def Loc (sc : Scope) (x : Str) : Prop := sc.names.lookup x = some .local ∨ sc.names.lookup x = some .cell
def Look (env : Env) (h : Heap) (m : Str → Option Value) (x : Str) (u : Value) : Prop :=
  (env.kindOf x = some .local ∧ m x = some u) ∨ ((env.kindOf x = some .cell ∨ env.kindOf x = some .free) ∧ ∃ c, env.cells.lookup x = some c ∧ h.IsCell c (some u))
structure Cx.Ok (X : Cx) : Prop where
  mod : Mod X.K X.mg X.base
  kind : X.env.scope.kind = .function
  glob : X.env.globals = mainGlobals
  blt : X.env.builtins = builtinsNs
  above : X.s_0.heap.objs.size ≤ X.env.locals
  inj : ∀ x y c, X.env.cells.lookup x = some c → X.env.cells.lookup y = some c → x = y
  has : ∀ x, (X.env.kindOf x = some .cell ∨ X.env.kindOf x = some .free) → ∃ c, X.env.cells.lookup x = some c
  cab : ∀ x c, X.fn x = true → X.env.cells.lookup x = some c → X.s_0.heap.objs.size ≤ c
  hd : X.calm = true → X.A.handled = none
  frames : X.A.frames = some X.stack
  stk : X.stack = X.outer ∨ (X.stack = X.env :: X.outer ∧ X.env.frame = some X.env.locals)
  exf : ∀ b ∈ X.ex, b ≠ X.env.locals ∧ ∀ x c, X.env.cells.lookup x = some c → c ≠ b
  bs : ∀ b o, X.base.get? b = some o → X.s_0.heap.get? b = some o ∧ X.H_0 b = none
  bsz : X.base.objs.size ≤ X.s_0.heap.objs.size
  noex : ∀ b o, X.base.get? b = some o → b ∉ X.ex
  exfs : ∀ b ∈ X.ex, b ∉ X.fs
  funs : X.s_0.heap.FunFrames X.base X.outer
  frf : ∀ b ∈ X.fs, X.H_0 b = none
structure Inv (X : Cx) (pins : List (Addr × Obj)) (σ : List (Option V)) (H : Hp) (s : Shared) : Prop where
  ok : X.Ok
  os : s.os = X.s_0.os
  bare : AllBare s.gens
  base : Un X.fs X.ex X.H_0 H X.s_0.heap s.heap
  loc : ∃ m, s.heap.Ns X.env.locals m ∧ ∀ (i : Nat) (x : Str) (v : V), X.N[i]? = some x → σ[i]? = some (some v) → Vis X.env.scope x → ∃ u, RelV v u ∧ Look X.env s.heap m x u
  cell : ∀ x c, X.env.cells.lookup x = some c → ∃ v, s.heap.IsCell c v
  free : H X.env.locals = none
  freeC : ∀ x c, X.env.cells.lookup x = some c → H c = none
  pin : ∀ p ∈ X.pn ++ pins, s.heap.get? p.1 = some p.2 ∧ H p.1 = none ∧ p.1 ≠ X.env.locals ∧ p.1 ∉ X.fs ∧ ∀ v, p.2.data ≠ .cell v
  hok : HOk X.prog X.w H s.heap
  len : σ.length = X.N.length
section
variable {X : Cx} {pins : List (Addr × Obj)} {σ : List (Option V)} {H H' : Hp} {s : Shared} {h' : Heap}
theorem Cx.Ok.nofr (ok : X.Ok) {b : Addr} {o : Obj} (e : X.base.get? b = some o) : b ∉ X.fs := fun hb => by
  have := (ok.funs.mem hb).1
  rw [e] at this; cases this
theorem Inv.bs (I : Inv X pins σ H s) : ∀ b o, X.base.get? b = some o → s.heap.get? b = some o ∧ H b = none := fun b o e =>
  ⟨I.base.keep b o (I.ok.bs b o e).1 (I.ok.bs b o e).2 (I.ok.nofr e) (I.ok.noex b o e), I.base.free b o (I.ok.bs b o e).1 (I.ok.bs b o e).2 (I.ok.noex b o e)⟩
theorem Inv.bk (I : Inv X pins σ H s) : ∀ b o, X.base.get? b = some o → s.heap.get? b = some o := fun b o e => (I.bs b o e).1
theorem Inv.mod (I : Inv X pins σ H s) : Mod X.K X.mg X.base := I.ok.mod
theorem Inv.kIn (I : Inv X pins σ H s) : X.K.In s.heap := I.ok.mod.kin.keeps I.bk
theorem Inv.nolimit (I : Inv X pins σ H s) : s.heap.NoLimit := I.ok.mod.nolimit.keeps I.bk
theorem Inv.fr (I : Inv X pins σ H s) : ∃ m, Fr X.base X.env.locals s.heap m :=
  let ⟨m, hn, _⟩ := I.loc
  ⟨m, hn, I.bk, Nat.le_trans I.ok.bsz I.ok.above⟩
theorem Inv.lt (I : Inv X pins σ H s) : X.env.locals < s.heap.objs.size := let ⟨_, hn, _⟩ := I.loc; hn.lt
theorem Inv.sz (I : Inv X pins σ H s) : X.s_0.heap.objs.size ≤ s.heap.objs.size := Nat.le_trans I.ok.above (Nat.le_of_lt I.lt)
theorem Inv.nofs (I : Inv X pins σ H s) {a : Addr} (h : s.heap.objs.size ≤ a) : a ∉ X.fs := fun hb => by
  obtain ⟨_, o, ho, _⟩ := I.ok.funs.mem hb
  exact absurd (Nat.lt_of_lt_of_le (Heap.lt_size ho) (Nat.le_trans I.sz h)) (Nat.lt_irrefl _)
theorem Inv.cne (I : Inv X pins σ H s) : ∀ x c, X.env.cells.lookup x = some c → c ≠ X.env.locals := fun x c e z => by
  obtain ⟨v, o, ho, hd⟩ := I.cell x c e
  obtain ⟨m, ⟨o', es, ep, ho', hd', _⟩, _⟩ := I.loc
  rw [z, ho'] at ho; cases ho; rw [hd'] at hd; cases hd
theorem Inv.funs (I : Inv X pins σ H s) : s.heap.FunFrames X.base X.outer := by
  have all : ∀ (l : List Env), (∀ b ∈ frs l, b ∈ X.fs) → X.s_0.heap.FunFrames X.base l → s.heap.FunFrames X.base l := by
    intro l
    induction l with
    | nil => intro _ _; trivial
    | cons env r ih =>
      intro hs hl
      obtain ⟨hk, ⟨L, o, hf, hn, ho, hd⟩, hr⟩ := hl
      have hL : L ∈ X.fs := hs L (by unfold frs; rw [List.filterMap_cons, hf]; exact List.mem_cons_self)
      obtain ⟨sl, e⟩ := I.base.slot L o ho (I.ok.frf L hL) hL fun z => I.ok.exfs L z hL
      exact ⟨hk, ⟨L, _, hf, hn, e, hd⟩, ih (fun b hb => hs b (by unfold frs; rw [List.filterMap_cons, hf]; exact List.mem_cons_of_mem _ hb)) hr⟩
  exact all X.outer (fun _ hb => hb) I.ok.funs
theorem Inv.stack (I : Inv X pins σ H s) : s.heap.FunFrames X.base X.stack := by
  rcases I.ok.stk with e | ⟨e, hf⟩
  · rw [e]; exact I.funs
  · rw [e]
    obtain ⟨m, hn, _⟩ := I.loc
    refine .cons (by rw [I.ok.kind]; decide) hf hn ?_ I.funs
    exact Heap.get?_none_of_le (Nat.le_trans I.ok.bsz I.ok.above)
theorem Inv.stkSub (I : Inv X pins σ H s) : ∀ b ∈ frs X.stack, b ∈ X.env.locals :: X.fs := fun b hb => by
  rcases I.ok.stk with e | ⟨e, hf⟩
  · rw [e] at hb; exact List.mem_cons_of_mem _ hb
  · rw [e] at hb
    unfold frs at hb
    rw [List.filterMap_cons, hf] at hb
    exact hb
theorem Inv.stkFree (I : Inv X pins σ H s) : ∀ b ∈ frs X.stack, H b = none := fun b hb => by
  rcases List.mem_cons.mp (I.stkSub b hb) with e | hb
  · rw [e]; exact I.free
  · obtain ⟨_, o, ho, _⟩ := I.ok.funs.mem hb
    exact I.base.free b o ho (I.ok.frf b hb) fun z => I.ok.exfs b z hb
theorem Inv.step {g' : Array GenState} {t' : Nat} {d' : Drawn} {ch : List Addr} (I : Inv X pins σ H s)
    (hch : ∀ b ∈ ch, (b ∈ X.ex ∨ X.s_0.heap.objs.size ≤ b) ∧ b ≠ X.env.locals ∧ (∀ x c, X.env.cells.lookup x = some c → c ≠ b) ∧ ∀ p ∈ X.pn ++ pins, p.1 ≠ b)
    (keep : ∀ b o, b ≠ X.env.locals → b ∉ X.fs → b ∉ ch → s.heap.get? b = some o → H b = none → h'.get? b = some o)
    (slot : ∀ b o, b ≠ X.env.locals → b ∈ X.fs → b ∉ ch → s.heap.get? b = some o → H b = none → ∃ sl, h'.get? b = some { o with slots := sl }) (free : ∀ b o, b ∉ ch → s.heap.get? b = some o → H b = none → H' b = none)
    (there : ∀ b o, b ∉ ch → s.heap.get? b = some o → ∃ o', h'.get? b = some o')
    (tups : ∀ b xs, H b = some (.tup xs) → H' b = some (.tup xs)) (frzs : ∀ b o u, H b = some (.frz o u) → H' b = some (.frz o u)) (tbls : ∀ b ps, H b = some (.tbl ps) → ∃ more, H' b = some (.tbl (ps ++ more)))
    (ns : ∀ m, s.heap.Ns X.env.locals m → h'.Ns X.env.locals m) (hok : HOk X.prog X.w H' h') (hg : AllBare g') :
    Inv X pins σ H' { s with heap := h', gens := g', drawn := d', toks := t' } := by
  have neL : ∀ b o, X.s_0.heap.get? b = some o → b ≠ X.env.locals := fun b o e => Nat.ne_of_lt (Nat.lt_of_lt_of_le (Heap.lt_size e) I.ok.above)
  have neC : ∀ b o, X.s_0.heap.get? b = some o → b ∉ X.ex → b ∉ ch := fun b o e hx hb => by
    rcases (hch b hb).1 with z | z
    · exact hx z
    · exact absurd (Nat.lt_of_lt_of_le (Heap.lt_size e) z) (Nat.lt_irrefl _)
  have cellK : ∀ x c, X.env.cells.lookup x = some c → ∀ v, s.heap.IsCell c v → h'.IsCell c v := fun x c e v ⟨o, ho, hd⟩ => by
    have nch : c ∉ ch := fun z => (hch c z).2.2.1 x c e rfl
    by_cases hc : c ∈ X.fs
    · obtain ⟨sl, q⟩ := slot c o (I.cne x c e) hc nch ho (I.freeC x c e)
      exact ⟨_, q, hd⟩
    · exact ⟨o, keep c o (I.cne x c e) hc nch ho (I.freeC x c e), hd⟩
  refine ⟨I.ok, I.os, hg, ⟨fun b o e n hb hx => ?_, fun b o e n hb hx => ?_, fun b o e n hx => ?_, fun b o e hx => ?_, fun b xs e => tups b xs (I.base.tups b xs e), fun b o xs e => frzs b o xs (I.base.frzs b o xs e), fun b ps e => ?_⟩, ?_, fun x c e => ?_, ?_, fun x c e => ?_, fun p hp => ?_, hok, I.len⟩
  · exact keep b o (neL b o e) hb (neC b o e hx) (I.base.keep b o e n hb hx) (I.base.free b o e n hx)
  · obtain ⟨sl, e1⟩ := I.base.slot b o e n hb hx
    obtain ⟨sl', e2⟩ := slot b _ (neL b o e) hb (neC b o e hx) e1 (I.base.free b o e n hx)
    exact ⟨sl', e2⟩
  · obtain ⟨o', e1⟩ := I.base.there b o e hx
    exact free b o' (neC b o e hx) e1 (I.base.free b o e n hx)
  · obtain ⟨o', e1⟩ := I.base.there b o e hx
    exact there b o' (neC b o e hx) e1
  · obtain ⟨m1, e1⟩ := I.base.tbls b ps e
    obtain ⟨m2, e2⟩ := tbls b _ e1
    exact ⟨m1 ++ m2, by rw [e2, Array.append_assoc]⟩
  · obtain ⟨m, hn, hl⟩ := I.loc
    refine ⟨m, ns m hn, fun i x v e1 e2 e3 => ?_⟩
    obtain ⟨u, r, l⟩ := hl i x v e1 e2 e3
    refine ⟨u, r, ?_⟩
    rcases l with l | ⟨k, c, e, z⟩
    · exact .inl l
    · exact .inr ⟨k, c, e, cellK x c e _ z⟩
  · obtain ⟨v, z⟩ := I.cell x c e
    exact ⟨v, cellK x c e v z⟩
  · obtain ⟨m, ⟨o, _, _, ho, _⟩, _⟩ := I.loc
    exact free _ o (fun z => (hch _ z).2.1 rfl) ho I.free
  · obtain ⟨v, o, ho, hd⟩ := I.cell x c e
    exact free c o (fun z => (hch c z).2.2.1 x c e rfl) ho (I.freeC x c e)
  · obtain ⟨e, n, ne, nf, d⟩ := I.pin p hp
    have nch : p.1 ∉ ch := fun z => (hch p.1 z).2.2.2 p hp rfl
    exact ⟨keep p.1 p.2 ne nf nch e n, free p.1 p.2 nch e n, ne, nf, d⟩
theorem Inv.un {t' : Nat} (I : Inv X pins σ H s) (u : Un X.fs [] H H' s.heap h') (hok : HOk X.prog X.w H' h') : Inv X pins σ H' { s with heap := h', toks := t' } := by
  obtain ⟨m, ⟨o, es, ep, ho, r⟩, _⟩ := id I.loc
  obtain ⟨sl, hL⟩ := u.any ho I.free (by simp)
  exact I.step (g' := s.gens) (d' := s.drawn) (ch := []) (fun _ z => nomatch z) (fun b o _ hb _ e n => u.keep b o e n hb (by simp)) (fun b o _ hb _ e n => u.slot b o e n hb (by simp)) (fun b o _ e n => u.free b o e n (by simp)) (fun b o _ e => u.there b o e (by simp)) u.tups u.frzs u.tbls (fun m' hm => by
    obtain ⟨o', es', ep', ho', r'⟩ := hm
    rw [ho] at ho'; cases ho'
    exact ⟨_, es', ep', hL, r'⟩) hok I.bare
theorem Inv.call {g' : Array GenState} {t' : Nat} {d' : Drawn} {ch : List Addr} (I : Inv X pins σ H s) (u : Un (frs X.stack) ch H H' s.heap h') (hok : HOk X.prog X.w H' h') (hg : AllBare g')
    (hch : ∀ b ∈ ch, (b ∈ X.ex ∨ X.s_0.heap.objs.size ≤ b) ∧ b ≠ X.env.locals ∧ (∀ x c, X.env.cells.lookup x = some c → c ≠ b) ∧ ∀ p ∈ X.pn ++ pins, p.1 ≠ b) :
    Inv X pins σ H' { s with heap := h', gens := g', drawn := d', toks := t' } := by
  obtain ⟨m, ⟨o, es, ep, ho, r⟩, _⟩ := id I.loc
  obtain ⟨sl, hL⟩ := u.any ho I.free fun z => (hch _ z).2.1 rfl
  exact I.step (ch := ch) hch (fun b o hL hb hc e n => u.keep b o e n (fun z => (List.mem_cons.mp (I.stkSub b z)).elim hL hb) hc) (fun b o _ _ hc e n => u.any e n hc) (fun b o hc e n => u.free b o e n hc) (fun b o hc e => u.there b o e hc) u.tups u.frzs u.tbls (fun m' hm => by
    obtain ⟨o', es', ep', ho', r'⟩ := hm
    rw [ho] at ho'; cases ho'
    exact ⟨_, es', ep', hL, r'⟩) hok hg
theorem Inv.turned {t' : Nat} {it : Addr} (I : Inv X pins σ H s) (k : ∀ b o, b ≠ it → s.heap.get? b = some o → h'.get? b = some o) (hn : H it = none) (hL : it ≠ X.env.locals)
    (h1 : it ∈ X.ex ∨ X.s_0.heap.objs.size ≤ it) (h2 : ∀ x c, X.env.cells.lookup x = some c → c ≠ it) (h3 : ∀ p ∈ X.pn ++ pins, p.1 ≠ it) : Inv X pins σ H { s with heap := h', toks := t' } := by
  have nit : ∀ b u, H b = some u → b ≠ it := fun b u e z => by rw [z, hn] at e; cases e
  refine I.step (g' := s.gens) (d' := s.drawn) (ch := [it]) (fun b hb => ?_) (fun b o _ _ hc e _ => k b o (fun z => hc (by simp [z])) e) (fun b o _ _ hc e _ => ⟨o.slots, k b o (fun z => hc (by simp [z])) e⟩) (fun _ _ _ _ n => n)
    (fun b o hc e => ⟨o, k b o (fun z => hc (by simp [z])) e⟩) (fun _ _ e => e) (fun _ _ _ e => e) (fun b ps e => ⟨#[], by rw [e]; simp⟩) (fun m hm => ?_) (fun b u e => ?_) I.bare
  · have e : b = it := by simpa using hb
    subst e
    exact ⟨h1, hL, h2, h3⟩
  · obtain ⟨o, es, ep, ho, r⟩ := hm
    exact ⟨o, es, ep, k _ o (Ne.symm hL) ho, r⟩
  · refine (I.hok b u e).stay (fun c v hc q => k c v ?_ q) (fun _ q => q) fun _ _ q => q
    rcases hc with z | z
    · rw [z]; exact nit b u e
    · exact nit c _ z
theorem Inv.tok (I : Inv X pins σ H s) (t : Nat) : Inv X pins σ H { s with toks := t } := I.un (h' := s.heap) (t' := t) Un.refl I.hok
theorem Inv.kept {t' : Nat} (I : Inv X pins σ H s) (k : ∀ b u, s.heap.get? b = some u → h'.get? b = some u) : Inv X pins σ H { s with heap := h', toks := t' } := I.un (Un.kept k) (I.hok.kept k)
theorem Inv.laid {a : Addr} {o : HO} {t' : Nat} (I : Inv X pins σ H s) (k : ∀ b u, s.heap.get? b = some u → h'.get? b = some u) (hp : s.heap.objs.size ≤ a) (new : ObjOk X.prog X.w (upd H a o) h' a o) :
    Inv X pins σ (upd H a o) { s with heap := h', toks := t' } := I.un (Un.laid k hp (I.hok.fresh hp)) (I.hok.laid k hp new)
theorem Inv.write {x e : Addr} {o : HO} {t' : Nat} (I : Inv X pins σ H s) (mu : Mut (H x)) (he : e = x ∨ H e = some (.own x)) (k : ∀ b u, b ≠ e → s.heap.get? b = some u → h'.get? b = some u) (heo : ∃ u, h'.get? e = some u)
    (new : ObjOk X.prog X.w (upd H x o) h' x o) : Inv X pins σ (upd H x o) { s with heap := h', toks := t' } := I.un (Un.write mu he k heo) (I.hok.write mu he k heo new)
theorem Inv.weak {σ' : List (Option V)} (I : Inv X pins σ H s) (hl : σ'.length = σ.length) (w : ∀ (i : Nat) v, σ'[i]? = some (some v) → σ[i]? = some (some v)) : Inv X pins σ' H s :=
  ⟨I.ok, I.os, I.bare, I.base, let ⟨m, hn, hl'⟩ := I.loc; ⟨m, hn, fun i x v e1 e2 e3 => hl' i x v e1 (w i v e2) e3⟩, I.cell, I.free, I.freeC, I.pin, I.hok, hl.trans I.len⟩
theorem Inv.pins_of {pins' : List (Addr × Obj)} (I : Inv X pins σ H s) (h : ∀ p ∈ pins', s.heap.get? p.1 = some p.2 ∧ H p.1 = none ∧ p.1 ≠ X.env.locals ∧ p.1 ∉ X.fs ∧ ∀ v, p.2.data ≠ .cell v) : Inv X pins' σ H s :=
  ⟨I.ok, I.os, I.bare, I.base, I.loc, I.cell, I.free, I.freeC, fun p hp => (List.mem_append.mp hp).elim (fun z => I.pin p (List.mem_append_left _ z)) (h p), I.hok, I.len⟩
theorem nodup_ix {N : List Str} (hN : N.Nodup) {i j : Nat} {x : Str} (a : N[i]? = some x) (b : N[j]? = some x) : i = j := by
  obtain ⟨h1, e1⟩ := List.getElem?_eq_some_iff.mp a
  obtain ⟨h2, e2⟩ := List.getElem?_eq_some_iff.mp b
  exact (List.getElem_inj hN).mp (e1.trans e2.symm)
theorem store_ok2 {M : Model} {A : Around} {E : Value → Shared → Prop} {i : Nat} {x : Str} {v : V} {u : Value} {Q : Unit → Shared → Prop} (I : Inv X pins σ H s) (hN : X.N.Nodup) (hi : X.N[i]? = some x) (hx : Loc X.env.scope x) (r : RelV v u)
    (h : ∀ s', Inv X pins (σ.set i (some v)) H s' → (∃ a, Heap.SameBut a s.heap s'.heap ∧ (a = X.env.locals ∨ X.env.cells.lookup x = some a)) → Q () s') (hf : X.fn x = true ∨ X.env.scope.names.lookup x = some .local := by first | exact .inl rfl | exact .inr rfl | assumption) : wpAny M A (storeName X.env x u) Q E s := by
  obtain ⟨m, hn, hl⟩ := id I.loc
  have hcls : (X.env.scope.kind == .class || (X.env.scope.kind == .module && X.env.locals != X.env.globals)) = false := by rw [I.ok.kind]; rfl
  have hiσ : i < σ.length := by rw [I.len]; exact (List.getElem?_eq_some_iff.mp hi).1
  have cne := I.cne
  have tracked : ∀ {a : Addr} {h' : Heap}, (∃ o, s.heap.get? a = some o ∧ H a = none) → Heap.SameBut a s.heap h' → HOk X.prog X.w H h' := fun {a h'} ha hs b ob e => by
    obtain ⟨_, _, hfree⟩ := ha
    refine (I.hok b ob e).stay (fun c w' hc q => (hs.2 c ?_).trans q) (fun _ q => q) fun _ _ q => q
    rintro rfl
    rcases hc with rfl | hc
    · rw [hfree] at e; cases e
    · rw [hfree] at hc; cases hc
  rcases hx with hk | hk
  · refine wpAny_storeName_local hk hn (fun h' hn' hs => ?_) hcls
    obtain ⟨oL, _, _, hoL, _⟩ := id hn
    refine h _ ⟨I.ok, I.os, I.bare, ⟨fun b o e n hb hx => ?_, fun b o e n hb hx => ?_, I.base.free, fun b o e hx => ?_, I.base.tups, I.base.frzs, I.base.tbls⟩, ⟨_, hn', fun j y v' e1 e2 e3 => ?_⟩, fun y c e => ?_, I.free, I.freeC, fun p hp => ?_, tracked ⟨oL, hoL, I.free⟩ hs, by simpa using I.len⟩ ⟨_, hs, .inl rfl⟩
    · exact (hs.2 b (Nat.ne_of_lt (Nat.lt_of_lt_of_le (Heap.lt_size e) I.ok.above))).trans (I.base.keep b o e n hb hx)
    · obtain ⟨sl, e1⟩ := I.base.slot b o e n hb hx
      exact ⟨sl, (hs.2 b (Nat.ne_of_lt (Nat.lt_of_lt_of_le (Heap.lt_size e) I.ok.above))).trans e1⟩
    · obtain ⟨o', e1⟩ := I.base.there b o e hx
      exact ⟨o', (hs.2 b (Nat.ne_of_lt (Nat.lt_of_lt_of_le (Heap.lt_size e) I.ok.above))).trans e1⟩
    · by_cases hj : j = i
      · subst hj
        rw [hi] at e1; cases e1
        rw [List.getElem?_set_self hiσ] at e2
        cases e2
        exact ⟨u, r, .inl ⟨hk, by simp⟩⟩
      · rw [List.getElem?_set_ne (Ne.symm hj)] at e2
        obtain ⟨u', r', q⟩ := hl j y v' e1 e2 e3
        refine ⟨u', r', ?_⟩
        rcases q with ⟨k, e⟩ | ⟨k, c, e, z⟩
        · refine .inl ⟨k, ?_⟩
          have : y ≠ x := fun e => hj (nodup_ix hN e1 (e ▸ hi))
          simp [this, e]
        · exact .inr ⟨k, c, e, z.sameBut hs (cne y c e)⟩
    · obtain ⟨w', z⟩ := I.cell y c e
      exact ⟨w', z.sameBut hs (cne y c e)⟩
    · obtain ⟨e, n, ne, nf, d⟩ := I.pin p hp
      exact ⟨(hs.2 p.1 ne).trans e, n, ne, nf, d⟩
  · have hfn : X.fn x = true := by
      rcases hf with z | z
      · exact z
      · rw [z] at hk; cases hk
    obtain ⟨c, hc⟩ := I.ok.has x (.inl hk)
    obtain ⟨w', z⟩ := I.cell x c hc
    refine wpAny_storeName_cell I.ok.kind hk hc z (fun h' hc' hs => ?_)
    obtain ⟨oc, hoc, hocd⟩ := id z
    refine h { s with heap := h' } ⟨I.ok, I.os, I.bare, ⟨fun b o e n hb hx => ?_, fun b o e n hb hx => ?_, I.base.free, fun b o e hx => ?_, I.base.tups, I.base.frzs, I.base.tbls⟩, ⟨m, hn.sameBut hs (Ne.symm (cne x c hc)), fun j y v' e1 e2 e3 => ?_⟩, fun y c' e => ?_, I.free, I.freeC, fun p hp => ?_, tracked ⟨oc, hoc, I.freeC x c hc⟩ hs, by simpa using I.len⟩ ⟨c, hs, .inr hc⟩
    · exact (hs.2 b (Nat.ne_of_lt (Nat.lt_of_lt_of_le (Heap.lt_size e) (I.ok.cab x c hfn hc)))).trans (I.base.keep b o e n hb hx)
    · obtain ⟨sl, e1⟩ := I.base.slot b o e n hb hx
      exact ⟨sl, (hs.2 b (Nat.ne_of_lt (Nat.lt_of_lt_of_le (Heap.lt_size e) (I.ok.cab x c hfn hc)))).trans e1⟩
    · obtain ⟨o', e1⟩ := I.base.there b o e hx
      exact ⟨o', (hs.2 b (Nat.ne_of_lt (Nat.lt_of_lt_of_le (Heap.lt_size e) (I.ok.cab x c hfn hc)))).trans e1⟩
    · by_cases hj : j = i
      · subst hj
        rw [hi] at e1; cases e1
        rw [List.getElem?_set_self hiσ] at e2
        cases e2
        exact ⟨u, r, .inr ⟨.inl hk, c, hc, hc'⟩⟩
      · rw [List.getElem?_set_ne (Ne.symm hj)] at e2
        obtain ⟨u', r', q⟩ := hl j y v' e1 e2 e3
        refine ⟨u', r', ?_⟩
        rcases q with q | ⟨k, c', e, z'⟩
        · exact .inl q
        · refine .inr ⟨k, c', e, z'.sameBut hs ?_⟩
          rintro rfl
          exact hj (nodup_ix hN e1 (I.ok.inj _ _ _ e hc ▸ hi))
    · by_cases hcc : c' = c
      · subst hcc; exact ⟨_, hc'⟩
      · obtain ⟨w2, z2⟩ := I.cell y c' e
        exact ⟨w2, z2.sameBut hs hcc⟩
    · obtain ⟨e, n, ne, nf, d⟩ := I.pin p hp
      refine ⟨(hs.2 p.1 ?_).trans e, n, ne, nf, d⟩
      intro q
      rw [q, hoc] at e
      have q' : oc = p.2 := Option.some.inj e
      exact d w' (by rw [← q']; exact hocd)
theorem store_ok {M : Model} {A : Around} {E : Value → Shared → Prop} {i : Nat} {x : Str} {v : V} {u : Value} {Q : Unit → Shared → Prop} (I : Inv X pins σ H s) (hN : X.N.Nodup) (hi : X.N[i]? = some x) (hx : Loc X.env.scope x) (r : RelV v u)
    (h : ∀ s', Inv X pins (σ.set i (some v)) H s' → Q () s') (hf : X.fn x = true ∨ X.env.scope.names.lookup x = some .local := by first | exact .inl rfl | exact .inr rfl | assumption) : wpAny M A (storeName X.env x u) Q E s :=
  store_ok2 I hN hi hx r (fun s' I' _ => h s' I') hf
theorem Inv.call' {s' : Shared} {ch : List Addr} (I : Inv X pins σ H s) (ho : s'.os = s.os) (u : Un (frs X.stack) ch H H' s.heap s'.heap) (hok : HOk X.prog X.w H' s'.heap) (hg : AllBare s'.gens)
    (hch : ∀ b ∈ ch, (b ∈ X.ex ∨ X.s_0.heap.objs.size ≤ b) ∧ b ≠ X.env.locals ∧ (∀ x c, X.env.cells.lookup x = some c → c ≠ b) ∧ ∀ p ∈ X.pn ++ pins, p.1 ≠ b) : Inv X pins σ H' s' := by
  obtain ⟨h', g', d', t', o'⟩ := s'
  have e : o' = s.os := ho
  subst e
  exact I.call (g' := g') (t' := t') (d' := d') u hok hg hch
end
abbrev XK := Value → Option Addr → Hp → Prop
abbrev St := List (Option V)
abbrev VK := V → Hp → Prop
abbrev TE := St → Hp → VK → Prop
abbrev TT := St → Hp → (Bool → Hp → Prop) → Prop
abbrev TA := St → Hp → (List V → Hp → Prop) → Prop
structure Ends where
  nx : St → Hp → Prop
  rt : VK
  bk : St → Hp → Prop := fun _ _ => False
  ct : St → Hp → Prop := fun _ _ => False
abbrev TS := Ends → St → Hp → Prop
def EP (X : Cx) (pins : List (Addr × Obj)) (σ : St) (Q : VK) (u : Value) (s' : Shared) : Prop := ∃ v H', Inv X pins σ H' s' ∧ RelV v u ∧ Q v H'
def TP (X : Cx) (pins : List (Addr × Obj)) (σ : St) (Q : Bool → Hp → Prop) (b : Bool) (s' : Shared) : Prop := ∃ H', Inv X pins σ H' s' ∧ Q b H'
def AP (X : Cx) (pins : List (Addr × Obj)) (σ : St) (Q : List V → Hp → Prop) (us : List Value) (s' : Shared) : Prop := ∃ vs H', Inv X pins σ H' s' ∧ Vals vs us ∧ Q vs H'
def SP (X : Cx) (pins : List (Addr × Obj)) (D : Ends) (f : Flow) (s' : Shared) : Prop :=
  match f with
  | .next => ∃ σ' H', Inv X pins σ' H' s' ∧ D.nx σ' H'
  | .brk => ∃ σ' H', Inv X pins σ' H' s' ∧ D.bk σ' H'
  | .cont => ∃ σ' H', Inv X pins σ' H' s' ∧ D.ct σ' H'
  | .ret u => ∃ v σ' H', Inv X pins σ' H' s' ∧ RelV v u ∧ D.rt v H'
def PE (X : Cx) (e : Expr) (t : TE) : Prop :=
  ∀ (pins : List (Addr × Obj)) (s : Shared) (σ : St) (H : Hp) (Q : VK), Inv X pins σ H s → t σ H Q → wpAny (model X.prog X.w) X.A (eval e X.env) (EP X pins σ Q) X.xe s
def PT (X : Cx) (e : Expr) (t : TT) : Prop :=
  ∀ (pins : List (Addr × Obj)) (s : Shared) (σ : St) (H : Hp) (Q : Bool → Hp → Prop), Inv X pins σ H s → t σ H Q → wpAny (model X.prog X.w) X.A (isTrue e X.env (eval e X.env)) (TP X pins σ Q) X.xe s
def PW (X : Cx) (e : Expr) (t : TT) : Prop :=
  ∀ (whole : Sem Value) (pins : List (Addr × Obj)) (s : Shared) (σ : St) (H : Hp) (Q : Bool → Hp → Prop), Inv X pins σ H s → t σ H Q → wpAny (model X.prog X.w) X.A (isTrue e X.env whole) (TP X pins σ Q) X.xe s
theorem PW.pt {X : Cx} {e : Expr} {t : TT} (h : PW X e t) : PT X e t := h _
def PA (X : Cx) (es : List Expr) (t : TA) : Prop :=
  ∀ (pos : Pos) (pins : List (Addr × Obj)) (s : Shared) (σ : St) (H : Hp) (Q : List V → Hp → Prop), Inv X pins σ H s → t σ H Q → wpAny (model X.prog X.w) X.A (spliced (backTo pos (starEach es X.env))) (AP X pins σ Q) X.xe s
def PS (X : Cx) (st : Stmt) (t : TS) : Prop :=
  ∀ (pins : List (Addr × Obj)) (s : Shared) (σ : St) (H : Hp) (D : Ends), Inv X pins σ H s → t D σ H → wpAny (model X.prog X.w) X.A (exec st X.env) (SP X pins D) X.xe s
def PSs (X : Cx) (st : List Stmt) (t : TS) : Prop :=
  ∀ (pins : List (Addr × Obj)) (s : Shared) (σ : St) (H : Hp) (D : Ends), Inv X pins σ H s → t D σ H → wpAny (model X.prog X.w) X.A (execs st X.env) (SP X pins D) X.xe s
theorem thn {α : Type} {t : Sem α} {Q Q' : α → Shared → Prop} {M : Model} {A : Around} {E : Value → Shared → Prop} {s : Shared} (h : wpAny M A t Q E s) (hQ : ∀ a s, Q a s → Q' a s) : wpAny M A t Q' E s := wpAny_mono h hQ fun _ _ x => x
end L2
namespace L2
open PySem PySem.Spec PyProof.Rows
section
variable {X : Cx}
def tVar (i : Nat) : TE := fun σ H Q => ∃ v, σ[i]? = some (some v) ∧ Q v H
def tC (v : V) : TE := fun _ H Q => Q v H
theorem pe_var {i : Nat} {x : Str} {pos : Pos} (hN : X.N[i]? = some x) (hv : Vis X.env.scope x) (hd : (x == ("__debug__" : Str)) = false := by decide) (hcd : (x == ("__classdict__" : Str)) = false := by decide) : PE X (.Name x pos) (tVar i) := by
  intro pins s σ H Q I h
  obtain ⟨v, e, h⟩ := h
  obtain ⟨m, hn, hl⟩ := I.loc
  obtain ⟨u, r, l⟩ := hl i x v hN e hv
  have fin : EP X pins σ Q u s := ⟨v, H, I, r, h⟩
  rcases l with ⟨hk, hm⟩ | ⟨hk, c, hc, hcell⟩
  · exact wpAny_Name (wpAny_loadName_local I.ok.kind hk hn hm fin) hd
  · rcases hk with hk | hk
    · exact wpAny_Name (wpAny_loadName_cell I.ok.kind hk hc hcell fin) hd
    · exact wpAny_Name (wpAny_loadName_free I.ok.kind hk hc hcell fin hcd) hd
theorem pe_int {i j pos} : PE X (.Constant (.int i) j pos) (tC (.int i)) := fun _ _ _ H _ I h => wpAny_Constant_int ⟨.int i, H, I.tok _, ⟨_, rfl⟩, h⟩
theorem pe_bl {b j pos} : PE X (.Constant (.bool b) j pos) (tC (.bl b)) := fun _ _ _ H _ I h => Constant_bool ⟨.bl b, H, I, rfl, h⟩
theorem pe_non {j pos} : PE X (.Constant .none j pos) (tC .non) := fun _ _ _ H _ I h => Constant_none ⟨.non, H, I, rfl, h⟩
theorem pe_str {x j pos} : PE X (.Constant (.str x) j pos) (tC (.str x)) := fun _ _ _ H _ I h => Calls.Constant_str ⟨.str x, H, I.tok _, ⟨_, rfl⟩, h⟩
def Gl (X : Cx) (x : Str) : Prop := X.env.kindOf x = some .globalImplicit
theorem ld_glob {E : Value → Shared → Prop} {pins : List (Addr × Obj)} {s : Shared} {σ : St} {H : Hp} {x : Str} {u : Value} {pos : Pos} {Q : Value → Shared → Prop} (I : Inv X pins σ H s) (hg : Gl X x) (hm : X.mg x = some u) (h : Q u s)
    (hd : (x == ("__debug__" : Str)) = false := by decide) : wpAny (model X.prog X.w) X.A (eval (.Name x pos) X.env) Q E s :=
  Calls.Name_function_global I.ok.kind hg (Calls.loadGlobal_global (by rw [I.ok.glob]; exact I.mod.glob.keeps I.bk) hm h) hd
theorem ld_blt {E : Value → Shared → Prop} {pins : List (Addr × Obj)} {s : Shared} {σ : St} {H : Hp} {x : Str} {u : Value} {pos : Pos} {Q : Value → Shared → Prop} (I : Inv X pins σ H s) (hg : Gl X x) (hm : X.mg x = none) (hv : bootBuiltins x = some u) (h : Q u s)
    (hn : x ≠ "__name__" := by decide) (hd : (x == ("__debug__" : Str)) = false := by decide) : wpAny (model X.prog X.w) X.A (eval (.Name x pos) X.env) Q E s := by
  obtain ⟨mb, h1, h2⟩ := I.mod.blt
  exact Calls.Name_function_global I.ok.kind hg (Calls.loadGlobal_builtin (by rw [I.ok.glob]; exact I.mod.glob.keeps I.bk) hm (by rw [I.ok.blt]; exact h1.keeps I.bk) ((h2 x hn).trans hv) h) hd
theorem pe_bltn {x : Str} {v : V} {u : Value} {pos : Pos} (hg : Gl X x) (hm : X.mg x = none) (hv : bootBuiltins x = some u) (r : RelV v u) (hn : x ≠ "__name__" := by decide) (hd : (x == ("__debug__" : Str)) = false := by decide) : PE X (.Name x pos) (tC v) :=
  fun _ _ _ H _ I h => ld_blt I hg hm hv ⟨v, H, I, r, h⟩ hn hd
variable {a b : Expr} {ta tb : TE} {pos : Pos}
def tB (t : TE) : TT := fun σ H Q => t σ H fun x H1 => ∃ c, x = .bl c ∧ Q c H1
theorem pt_val {e : Expr} {t : TE} (h : PE X e t) (he : ∀ whole, isTrue e X.env whole = (do let v ← whole; standAt e.pos; holding [v] (truthy v)) := by intro _; rfl) : PT X e (tB t) := by
  intro pins s σ H Q I hw
  refine isTrue_plain (thn (h pins s σ H _ I hw) fun v s1 ⟨x, H1, I1, r1, q1⟩ => ?_) (he _)
  obtain ⟨d, rfl, q⟩ := q1
  cases r1
  exact wpAny_truthy_bool ⟨H1, I1, q⟩
variable {tA tB' : TT} {rest : List Expr}
def tAnd (t u : TT) : TT := fun σ H Q => t σ H fun c H1 => if c = true then u σ H1 Q else Q false H1
def tOr (t u : TT) : TT := fun σ H Q => t σ H fun c H1 => if c = true then Q true H1 else u σ H1 Q
def tNot (t : TT) : TT := fun σ H Q => t σ H fun c H1 => Q (!c) H1
theorem pw_and1 (ha : PT X a tA) : PW X (.BoolOp .And [a] pos) tA := by
  intro wh pins s σ H Q I h
  refine isTrue_and (thn (ha pins s σ H Q I h) fun c s1 e => ?_)
  cases c with
  | true => exact isTrue_and_nil e
  | false => exact e
theorem pw_or1 (ha : PT X a tA) : PW X (.BoolOp .Or [a] pos) tA := by
  intro wh pins s σ H Q I h
  refine isTrue_or (thn (ha pins s σ H Q I h) fun c s1 e => ?_)
  cases c with
  | false => exact isTrue_or_nil e
  | true => exact e
theorem pw_and (ha : PT X a tA) (hb : PW X (.BoolOp .And (b :: rest) pos) tB') : PW X (.BoolOp .And (a :: b :: rest) pos) (tAnd tA tB') := by
  intro wh pins s σ H Q I h
  refine isTrue_and (thn (ha pins s σ H _ I h) fun c s1 ⟨H1, I1, q1⟩ => ?_)
  cases c with
  | true => exact hb wh pins s1 σ H1 Q I1 q1
  | false => exact ⟨H1, I1, q1⟩
theorem pw_or (ha : PT X a tA) (hb : PW X (.BoolOp .Or (b :: rest) pos) tB') : PW X (.BoolOp .Or (a :: b :: rest) pos) (tOr tA tB') := by
  intro wh pins s σ H Q I h
  refine isTrue_or (thn (ha pins s σ H _ I h) fun c s1 ⟨H1, I1, q1⟩ => ?_)
  cases c with
  | true => exact ⟨H1, I1, q1⟩
  | false => exact hb wh pins s1 σ H1 Q I1 q1
theorem pt_not (ha : PT X a tA) : PT X (.UnaryOp .Not a pos) (tNot tA) := by
  intro pins s σ H Q I h
  exact isTrue_not (ha pins s σ H (fun c H1 => Q (!c) H1) I h)
def tAndV (ta tb : TE) : TE := fun σ H Q => ta σ H fun x H1 => ∃ c, x = .bl c ∧ if c = true then tb σ H1 Q else Q (.bl false) H1
def tNotV (ta : TE) : TE := fun σ H Q => ta σ H fun x H1 => ∃ c, x = .bl c ∧ Q (.bl (!c)) H1
theorem pe_one {op} {t : TE} (h : PE X a t) : PE X (.BoolOp op [a] pos) t := fun pins s σ H Q I hw => BoolOp_one (h pins s σ H Q I hw)
theorem pe_and (ha : PE X a ta) (hb : PE X (.BoolOp .And (b :: rest) pos) tb) : PE X (.BoolOp .And (a :: b :: rest) pos) (tAndV ta tb) := by
  intro pins s σ H Q I h
  refine BoolOp_and (thn (ha pins s σ H _ I h) fun v s1 ⟨x, H1, I1, r1, q1⟩ => ?_)
  obtain ⟨c, rfl, q1⟩ := q1
  cases r1
  refine wpAny_truthy_bool ?_
  cases c with
  | true => exact hb pins s1 σ H1 Q I1 q1
  | false => exact ⟨.bl false, H1, I1, rfl, q1⟩
theorem pe_not (ha : PE X a ta) : PE X (.UnaryOp .Not a pos) (tNotV ta) := by
  intro pins s σ H Q I h
  refine UnaryOp_ (thn (ha pins s σ H _ I h) fun v s1 ⟨x, H1, I1, r1, q1⟩ => ?_)
  obtain ⟨c, rfl, q1⟩ := q1
  cases r1
  exact not_of (wpAny_truthy_bool ⟨.bl (!c), H1, I1, rfl, q1⟩)
end
end L2
namespace L2
open PySem PySem.Spec PyProof.Rows
def SqL (K : PySem.W.Frag) (H : Hp) (a : Addr) (xs : List V) : Prop :=
  Rd H a (.lst xs) ∨
    ∃ (o : Obj) (its : Array Value) (n : Nat), K.lookup a = some o ∧ o.cls = .type "list" ∧ o.dict = none ∧ o.data = .seq its n ∧ its.size ≤ sizeLine ∧ Vals xs its.toList
def SqT (K : PySem.W.Frag) (H : Hp) (a : Addr) (xs : List V) : Prop :=
  Rd H a (.tup xs) ∨
    ∃ (o : Obj) (its : Array Value) (n : Nat), K.lookup a = some o ∧ o.cls = .type "tuple" ∧ o.data = .seq its n ∧ its.size ≤ sizeLine ∧ Vals xs its.toList
def absV : Value → Option V
  | .none => some .non
  | .bool b => some (.bl b)
  | .int i _ => some (.int i)
  | .str x _ => some (.str x)
  | .bytes b _ => some (.byt b)
  | .float b _ => some (.flt b)
  | .ref a => some (.ref a)
  | .type n => some (.ty n)
  | _ => none
theorem RelV.abs {x : V} {u : Value} (r : RelV x u) : absV u = some x := by
  cases x with
  | non => cases r; rfl
  | bl _ => cases r; rfl
  | int _ => obtain ⟨t, rfl⟩ := r; rfl
  | str _ => obtain ⟨t, rfl⟩ := r; rfl
  | byt _ => obtain ⟨t, rfl⟩ := r; rfl
  | flt _ => obtain ⟨t, rfl⟩ := r; rfl
  | ref _ => cases r; rfl
  | ty _ => cases r; rfl
theorem RelV.inj {x y : V} {u : Value} (r : RelV x u) (q : RelV y u) : x = y := Option.some.inj (r.abs.symm.trans q.abs)
theorem Vals.inj : ∀ {xs ys : List V} {us : List Value}, Vals xs us → Vals ys us → xs = ys
  | _, _, _, .nil, .nil => rfl
  | _, _, _, .cons r t, .cons r' t' => by rw [r.inj r', Vals.inj t t']
section
variable {X : Cx} {pins : List (Addr × Obj)} {σ : St} {H : Hp} {s : Shared} {a : Addr} {xs ys : List V}
theorem SqL.of {K : PySem.W.Frag} (h : H a = some (.lst xs)) : SqL K H a xs := .inl (.inl h)
theorem SqT.of {K : PySem.W.Frag} (h : H a = some (.tup xs)) : SqT K H a xs := .inl (.inl h)
theorem Inv.list (I : Inv X pins σ H s) (h : SqL X.K H a xs) : ∃ its : List Value, Vals xs its ∧ PlainL s.heap a its.toArray ∧ xs.length ≤ sizeLine := by
  rcases h with h | ⟨o, its, n, hk, hc, hd, hs, hz, r⟩
  · obtain ⟨z, its, n, r, e⟩ := h.ok I.hok
    exact ⟨its, r, ⟨_, n, e, rfl, rfl, rfl⟩, z⟩
  · refine ⟨its.toList, r, ⟨o, n, I.kIn a o hk, hc, hd, by simpa using hs⟩, ?_⟩
    have e := r.length
    simp only [Array.length_toList] at e
    omega
theorem Inv.tuple (I : Inv X pins σ H s) (h : SqT X.K H a xs) : ∃ its : List Value, Vals xs its ∧ IsTup s.heap a its.toArray ∧ xs.length ≤ sizeLine := by
  rcases h with h | ⟨o, its, n, hk, hc, hs, hz, r⟩
  · obtain ⟨z, its, r, p⟩ := h.ok I.hok
    exact ⟨its, r, p, z⟩
  · refine ⟨its.toList, r, ⟨o, I.kIn a o hk, hc, n, by simpa using hs⟩, ?_⟩
    have e := r.length
    simp only [Array.length_toList] at e
    omega
theorem Inv.list_inj (I : Inv X pins σ H s) (h : SqL X.K H a xs) (h' : SqL X.K H a ys) : xs = ys := by
  obtain ⟨its, r, ⟨o, n, e, _, _, d⟩, _⟩ := I.list h
  obtain ⟨its', r', ⟨o', n', e', _, _, d'⟩, _⟩ := I.list h'
  rw [e] at e'; cases e'
  rw [d] at d'
  injection d' with d1 _
  have : its = its' := by simpa using congrArg Array.toList d1
  subst this
  exact r.inj r'
theorem Inv.tuple_inj (I : Inv X pins σ H s) (h : SqT X.K H a xs) (h' : SqT X.K H a ys) : xs = ys := by
  obtain ⟨its, r, ⟨o, e, _, n, d⟩, _⟩ := I.tuple h
  obtain ⟨its', r', ⟨o', e', _, n', d'⟩, _⟩ := I.tuple h'
  rw [e] at e'; cases e'
  rw [d] at d'
  injection d' with d1 _
  have : its = its' := by simpa using congrArg Array.toList d1
  subst this
  exact r.inj r'
end
abbrev Cx.wish (X : Cx) (E : Value → Shared → Prop) : Cx := { X with xe := E }
abbrev Cx.nox (X : Cx) : Cx := X.wish fun _ _ => False
theorem Cx.Ok.wish {X : Cx} (ok : X.Ok) (E : Value → Shared → Prop) : (X.wish E).Ok :=
  ⟨ok.mod, ok.kind, ok.glob, ok.blt, ok.above, ok.inj, ok.has, ok.cab, ok.hd, ok.frames, ok.stk, ok.exf, ok.bs, ok.bsz, ok.noex, ok.exfs, ok.funs, ok.frf⟩
theorem Cx.Ok.unwish {X : Cx} {E : Value → Shared → Prop} (ok : (X.wish E).Ok) : X.Ok :=
  ⟨ok.mod, ok.kind, ok.glob, ok.blt, ok.above, ok.inj, ok.has, ok.cab, ok.hd, ok.frames, ok.stk, ok.exf, ok.bs, ok.bsz, ok.noex, ok.exfs, ok.funs, ok.frf⟩
section
variable {X : Cx} {pins : List (Addr × Obj)} {σ : St} {H : Hp} {s : Shared} {E : Value → Shared → Prop}
theorem Inv.wish (I : Inv X pins σ H s) (E : Value → Shared → Prop) : Inv (X.wish E) pins σ H s := ⟨I.ok.wish E, I.os, I.bare, I.base, I.loc, I.cell, I.free, I.freeC, I.pin, I.hok, I.len⟩
theorem Inv.unwish (I : Inv (X.wish E) pins σ H s) : Inv X pins σ H s := ⟨I.ok.unwish, I.os, I.bare, I.base, I.loc, I.cell, I.free, I.freeC, I.pin, I.hok, I.len⟩
theorem SP.unwish {D : Ends} {f : Flow} {s' : Shared} (h : SP (X.wish E) pins D f s') : SP X pins D f s' := by
  cases f with
  | next => obtain ⟨σ', H', I, q⟩ := h; exact ⟨σ', H', I.unwish, q⟩
  | brk => obtain ⟨σ', H', I, q⟩ := h; exact ⟨σ', H', I.unwish, q⟩
  | cont => obtain ⟨σ', H', I, q⟩ := h; exact ⟨σ', H', I.unwish, q⟩
  | ret u => obtain ⟨v, σ', H', I, r, q⟩ := h; exact ⟨v, σ', H', I.unwish, r, q⟩
theorem PE.nox {e : Expr} {t : TE} (h : PE X.nox e t) : PE X e t := fun pins s σ H Q I hw =>
  wpAny_mono (h pins s σ H Q (I.wish _) hw) (fun _ _ ⟨v, H', I', r, q⟩ => ⟨v, H', I'.unwish, r, q⟩) fun _ _ z => False.elim z
theorem PT.nox {e : Expr} {t : TT} (h : PT X.nox e t) : PT X e t := fun pins s σ H Q I hw =>
  wpAny_mono (h pins s σ H Q (I.wish _) hw) (fun _ _ ⟨H', I', q⟩ => ⟨H', I'.unwish, q⟩) fun _ _ z => False.elim z
theorem PSs.nox {st : List Stmt} {t : TS} (h : PSs X.nox st t) : PSs X st t := fun pins s σ H D I hw =>
  wpAny_mono (h pins s σ H D (I.wish _) hw) (fun _ _ q => q.unwish) fun _ _ z => False.elim z
end
section
variable {X : Cx} {st : Stmt} {rest : List Stmt} {t u : TS} {e : Expr} {te : TE} {pos : Pos}
def tNext : TS := fun D σ H => D.nx σ H
def tSeq (t u : TS) : TS := fun D σ H => t { D with nx := u D } σ H
theorem pss_nil : PSs X [] tNext := fun _ _ σ H _ I h => wpAny_execs_nil ⟨σ, H, I, h⟩
theorem pss_cons (h1 : PS X st t) (h2 : PSs X rest u) : PSs X (st :: rest) (tSeq t u) := by
  intro pins s σ H D I h
  refine wpAny_execs_cons (thn (h1 pins s σ H { D with nx := u D } I h) fun f s1 q => ?_)
  cases f with
  | next =>
    obtain ⟨σ', H', I', q⟩ := q
    exact h2 pins s1 σ' H' D I' q
  | ret v => exact q
  | brk => exact q
  | cont => exact q
theorem pss_one (h1 : PS X st t) : PSs X [st] t := by
  intro pins s σ H D I h
  refine wpAny_execs_cons (thn (h1 pins s σ H D I h) fun f s1 q => ?_)
  cases f with
  | next => exact wpAny_execs_nil q
  | ret v => exact q
  | brk => exact q
  | cont => exact q
theorem Inv.quiet {pins : List (Addr × Obj)} {σ : St} {H : Hp} {s : Shared} (I : Inv X pins σ H s) : interactive X.env = false := by simp [interactive, I.ok.kind]
def tDrop (te : TE) : TS := fun D σ H => te σ H fun _ H1 => D.nx σ H1
theorem ps_expr (he : PE X e te) (hs : swapsWith e none pos.line X.env = pure false := by rfl) : PS X (.Expr e pos) (tDrop te) := by
  intro pins s σ H D I h
  exact wpAny_Expr_any (thn (he pins s σ H _ I h) fun v s1 ⟨x, H1, I1, r1, q1⟩ => ⟨σ, H1, I1, q1⟩) I.quiet hs
def tRet (te : TE) : TS := fun D σ H => te σ H D.rt
theorem ps_ret (he : PE X e te) : PS X (.Return (some e) pos) (tRet te) := by
  intro pins s σ H D I h
  exact wpAny_Return_some (thn (he pins s σ H _ I h) fun v s1 ⟨x, H1, I1, r1, q1⟩ => ⟨x, σ, H1, I1, r1, q1⟩)
def tIfS (c : TT) (t u : TS) : TS := fun D σ H => c σ H fun b H1 => if b = true then t D σ H1 else u D σ H1
theorem ps_if {c : Expr} {a b : List Stmt} {tc : TT} (hc : PT X c tc) (ha : PSs X a t) (hb : PSs X b u) : PS X (.If c a b pos) (tIfS tc t u) := by
  intro pins s σ H D I h
  refine wpAny_If (thn (hc pins s σ H _ I h) fun d s1 ⟨H1, I1, q1⟩ => ?_)
  cases d with
  | true => exact ha pins s1 σ H1 D I1 q1
  | false => exact hb pins s1 σ H1 D I1 q1
end
abbrev TG := V → St → Hp → (St → Hp → Prop) → Prop
abbrev TGs := List V → St → Hp → (St → Hp → Prop) → Prop
def PG (X : Cx) (target : Expr) (t : TG) : Prop :=
  ∀ (pins : List (Addr × Obj)) (s : Shared) (σ : St) (H : Hp) (v : V) (u : Value) (Q : St → Hp → Prop), Inv X pins σ H s → RelV v u → t v σ H Q →
    wpAny (model X.prog X.w) X.A (assign target X.env u) (fun _ s' => ∃ σ' H', Inv X pins σ' H' s' ∧ Q σ' H') X.xe s
def PGs (X : Cx) (ts : List Expr) (t : TGs) : Prop :=
  ∀ (pins : List (Addr × Obj)) (s : Shared) (σ : St) (H : Hp) (vs : List V) (us : List Value) (Q : St → Hp → Prop), Inv X pins σ H s → Vals vs us → t vs σ H Q →
    wpAny (model X.prog X.w) X.A (assignInOrder ((assignEach ts X.env).map (·.2)) us) (fun _ s' => ∃ σ' H', Inv X pins σ' H' s' ∧ Q σ' H') X.xe s
abbrev TSet := V → V → V → Hp → (Hp → Prop) → Prop
def PSet (X : Cx) (t : TSet) : Prop :=
  ∀ (pins : List (Addr × Obj)) (s : Shared) (σ : St) (H : Hp) (o i v : V) (ov iv u : Value) (Q : Hp → Prop), Inv X pins σ H s → RelV o ov → RelV i iv → RelV v u → t o i v H Q →
    wpAny (model X.prog X.w) X.A (setItem ov iv u) (fun _ s' => ∃ H', Inv X pins σ H' s' ∧ Q H') X.xe s
section
variable {X : Cx} {pos : Pos}
def gName (i : Nat) : TG := fun v σ H Q => Q (σ.set i (some v)) H
theorem pg_name {i : Nat} {x : Str} (hN : X.N.Nodup) (hi : X.N[i]? = some x) (hx : Loc X.env.scope x) (hf : X.fn x = true ∨ X.env.scope.names.lookup x = some .local := by first | exact .inl rfl | exact .inr rfl | assumption) : PG X (.Name x pos) (gName i) := by
  intro pins s σ H v u Q I r h
  exact wpAny_assign_Name (store_ok I hN hi hx r (fun s' I' => ⟨_, H, I', h⟩) hf)
def gNil : TGs := fun vs σ H Q => vs = [] ∧ Q σ H
def gCons (t : TG) (u : TGs) : TGs := fun vs σ H Q => ∃ v r, vs = v :: r ∧ t v σ H fun σ' H' => u r σ' H' Q
theorem pgs_nil : PGs X [] gNil := by
  intro pins s σ H vs us Q I r h
  obtain ⟨e, h⟩ := h
  subst e
  cases r
  exact assignInOrder_nil ⟨σ, H, I, h⟩
theorem pgs_cons {e : Expr} {es : List Expr} {t : TG} {u : TGs} (h1 : PG X e t) (h2 : PGs X es u)
    (hs : (assignEach (e :: es) X.env).map (·.2) = assign e X.env :: (assignEach es X.env).map (·.2) := by rfl) : PGs X (e :: es) (gCons t u) := by
  intro pins s σ H vs us Q I r h
  obtain ⟨v, vr, e1, h⟩ := h
  subst e1
  cases r with
  | cons r rr =>
    rw [hs]
    refine assignInOrder_cons (thn (h1 pins s σ H _ _ _ I r h) fun _ s1 ⟨σ1, H1, I1, q1⟩ => ?_)
    exact h2 pins s1 σ1 H1 _ _ Q I1 rr q1
def gTup (K : PySem.W.Frag) (n : Nat) (t : TGs) : TG := fun v σ H Q => ∃ a xs, v = .ref a ∧ SqT K H a xs ∧ xs.length = n ∧ t xs σ H Q
theorem pg_tup {es : List Expr} {k : Nat} {t : TGs} {n : Nat} (hc : X.calm = true) (h : PGs X es t)
    (hn : (assignEach es X.env).length = n := by rfl) (hst : (assignEach es X.env).findIdx? (·.1) = none := by rfl) : PG X (.Tuple es k pos) (gTup X.K n t) := by
  intro pins s σ H v u Q I r hw
  obtain ⟨a, xs, e1, hq, hl, hw⟩ := hw
  subst e1
  cases r
  obtain ⟨its, rv, ht, hz⟩ := I.tuple hq
  refine assign_Tuple_tuple (I.ok.hd hc) ht (by simp [hn, ← hl, rv.length]) hst fun h' hx => ?_
  have I1 : Inv X pins σ H { s with heap := h' } := I.kept (t' := s.toks) fun b o e => hx b o (Nat.ne_of_lt (Heap.lt_size e)) e
  exact h pins _ σ H xs _ Q I1 (by simpa using rv) hw
def gSub (to ti : TE) (t : TSet) : TG := fun v σ H Q => to σ H fun o H1 => ti σ H1 fun i H2 => t o i v H2 fun H3 => Q σ H3
theorem pg_sub {o i : Expr} {to ti : TE} {t : TSet} (ho : PE X o to) (hi : PE X i ti) (hs : PSet X t)
    (ha : ∀ v, assign (.Subscript o i pos) X.env v = (do
      let ov ← holding [v] (eval o X.env)
      let iv ← holding [v, ov] (eval i X.env)
      standAt pos
      holding [v, ov, iv] (setItem ov iv v)
      release [v, ov, iv] []) := by intro _; rfl) : PG X (.Subscript o i pos) (gSub to ti t) := by
  intro pins s σ H v u Q I r h
  rw [ha]
  refine wpAny_bind (wpAny_holding (thn (ho pins s σ H _ I h) fun ov s1 ⟨x, H1, I1, r1, q1⟩ => ?_))
  refine wpAny_bind (wpAny_holding (thn (hi pins s1 σ H1 _ I1 q1) fun iv s2 ⟨y, H2, I2, r2, q2⟩ => ?_))
  refine wpAny_bind (wpAny_standAt (wpAny_bind (wpAny_holding (thn (hs pins s2 σ H2 x y v ov iv u _ I2 r1 r2 r q2) fun _ s3 ⟨H3, I3, q3⟩ => ?_))))
  exact wpAny_release ⟨σ, H3, I3, q3⟩
def tAsg (te : TE) (g : TG) : TS := fun D σ H => te σ H fun x H1 => g x σ H1 D.nx
theorem ps_asg {tg e : Expr} {te : TE} {g : TG} (he : PE X e te) (hg : PG X tg g) (hs : swapsWithSole [tg] e pos.line X.env = pure false := by rfl) (hw : swappedStores [tg] e X.env = pure none := by rfl)
    (h1 : (assignEach [tg] X.env).map (·.2) = [assign tg X.env] := by rfl) : PS X (.Assign [tg] e pos) (tAsg te g) := by
  intro pins s σ H D I h
  refine wpAny_Assign_stores (thn (he pins s σ H _ I h) fun v s1 ⟨x, H1, I1, r1, q1⟩ => ?_) hs hw
  rw [h1]
  exact thn (hg pins s1 σ H1 x v _ I1 r1 q1) fun _ s2 q => q
theorem ps_set {i : Nat} {x : Str} {e : Expr} {te : TE} {pos' : Pos} (hN : X.N.Nodup) (hi : X.N[i]? = some x) (hx : Loc X.env.scope x) (he : PE X e te) (hs : swapsWith e (some (.Name x pos')) pos.line X.env = pure false := by rfl) (hf : X.fn x = true ∨ X.env.scope.names.lookup x = some .local := by first | exact .inl rfl | exact .inr rfl | assumption) :
    PS X (.Assign [.Name x pos'] e pos) (tAsg te (gName i)) := by
  intro pins s σ H D I h
  refine wpAny_Assign_Name (thn (he pins s σ H _ I h) fun v s1 ⟨y, H1, I1, r1, q1⟩ => ?_) hs
  exact store_ok I1 hN hi hx r1 (fun s2 I2 => ⟨_, H1, I2, q1⟩) hf
end
section
variable {X : Cx} {pos : Pos}
end
structure It where
  go : Nat → Hp → Prop
  yld : Nat → Hp → V → Hp → Prop
  stop : Nat → Hp → Prop
def FpOk (X : Cx) (pins : List (Addr × Obj)) (H : Hp) (b : Addr) : Prop :=
  H b = none ∧ b ≠ X.env.locals ∧ b ∉ X.fs ∧ (b ∈ X.ex ∨ X.s_0.heap.objs.size ≤ b) ∧ (∀ x c, X.env.cells.lookup x = some c → c ≠ b) ∧ ∀ p ∈ X.pn ++ pins, p.1 ≠ b
theorem Inv.fpOk {X : Cx} {pins : List (Addr × Obj)} {σ : St} {H H' : Hp} {s : Shared} {b : Addr} (I : Inv X pins σ H s) (hb : s.heap.objs.size ≤ b) (hn : H' b = none) : FpOk X pins H' b := by
  refine ⟨hn, Nat.ne_of_gt (Nat.lt_of_lt_of_le I.lt hb), I.nofs hb, .inr (Nat.le_trans I.sz hb), fun x c e z => ?_, fun p hp z => ?_⟩
  · obtain ⟨v, q⟩ := I.cell x c e
    exact absurd (Nat.lt_of_lt_of_le q.lt (by rw [z]; exact hb)) (Nat.lt_irrefl _)
  · exact absurd (Nat.lt_of_lt_of_le (Heap.lt_size (I.pin p hp).1) (by rw [z]; exact hb)) (Nat.lt_irrefl _)
structure Turn (P : Program) (w : World) (K : PySem.W.Frag) (tg : Expr) (J : It) (fp : List Addr) (it : Addr) (tn : Nat → Heap → Prop) : Prop where
  mem : it ∈ fp
  obj : ∀ i h, tn i h → ∀ b ∈ fp, ∃ o, h.get? b = some o ∧ ∀ v, o.data ≠ .cell v
  keep : ∀ i h h', tn i h → (∀ b ∈ fp, ∀ o, h.get? b = some o → h'.get? b = some o) → tn i h'
  item : ∀ (X : Cx), X.prog = P → X.w = w → X.K = K → X.calm = true → ∀ (i : Nat) (pins : List (Addr × Obj)) (s : Shared) (σ : St) (H : Hp) (E : Value → Shared → Prop), Inv X pins σ H s → (∀ b ∈ fp, FpOk X pins H b) → tn i s.heap → J.go i H →
    wpAny (model P w) X.A (pyNext (.ref it)) (fun r s1 => ∃ u, r = some u ∧
      wpAny (model P w) X.A (letOwnedTupleGo tg (.ref it) u) (fun _ s2 => ∃ x H', Inv X pins σ H' s2 ∧ RelV x u ∧ J.yld i H x H' ∧ tn (i + 1) s2.heap ∧ ∀ b ∈ fp, H' b = none) E s1) E s
  done : ∀ (X : Cx), X.prog = P → X.w = w → X.K = K → X.calm = true → ∀ (i : Nat) (pins : List (Addr × Obj)) (s : Shared) (σ : St) (H : Hp) (E : Value → Shared → Prop), Inv X pins σ H s → (∀ b ∈ fp, FpOk X pins H b) → tn i s.heap → J.stop i H →
    wpAny (model P w) X.A (pyNext (.ref it)) (fun r s1 => r = none ∧ Inv X pins σ H s1) E s
  self : ∀ (A : Around) (i : Nat) (s : Shared) (Q : Value → Shared → Prop) (E : Value → Shared → Prop), tn i s.heap → Q (.ref it) s → wpAny (model P w) A (pyIter (.ref it)) Q E s
abbrev TI := St → Hp → (It → Hp → Prop) → Prop
def PIE (X : Cx) (pins : List (Addr × Obj)) (σ : St) (tg : Expr) (R : It → Hp → Prop) (itv : Value) (s2 : Shared) : Prop :=
  ∃ (it : Addr) (fp : List Addr) (tn : Nat → Heap → Prop) (J : It) (H' : Hp), itv = .ref it ∧ Inv X pins σ H' s2 ∧ Turn X.prog X.w X.K tg J fp it tn ∧ tn 0 s2.heap ∧ (∀ b ∈ fp, FpOk X pins H' b) ∧ R J H'
def PI (X : Cx) (tg iter : Expr) (wi : TI) : Prop :=
  ∀ (pins : List (Addr × Obj)) (s : Shared) (σ : St) (H : Hp) (R : It → Hp → Prop), Inv X pins σ H s → wi σ H R →
    wpAny (model X.prog X.w) X.A (eval iter X.env) (fun v s1 => wpAny (model X.prog X.w) X.A (pyIter v) (PIE X pins σ tg R) X.xe s1) X.xe s
theorem go_of {M : Model} {A : Around} {E : Value → Shared → Prop} {s : Shared} {tg : Expr} {it : Addr} {u : Value} {o : Obj} {n : String} {vs : Array Value} {Q : Unit → Shared → Prop} (ho : s.heap.get? it = some o) (hc : o.cls = .type n) (hd : o.data = .fields vs)
    (hn : ["enumerate", "zip", "dict_itemiterator", "dict_reverseitemiterator", "odict_iterator", "itertools.zip_longest", "itertools.pairwise"].contains n = false) (hQ : Q () s) : wpAny M A (letOwnedTupleGo tg (.ref it) u) Q E s := by
  unfold letOwnedTupleGo
  cases tg <;> first
    | exact wpAny_pure hQ
    | (cases u <;> first
        | exact wpAny_pure hQ
        | (refine wpAny_bind (wpAny_load ho ?_)
           rw [hc, hd]
           show wpAny M A (if (["enumerate", "zip", "dict_itemiterator", "dict_reverseitemiterator", "odict_iterator", "itertools.zip_longest", "itertools.pairwise"].contains n && vs[0]? == some (rawInt _)) = true then _ else _) Q E s
           rw [if_neg (by intro h; rw [hn, Bool.false_and] at h; cases h)]
           exact wpAny_pure hQ))
def Itl (K : PySem.W.Frag) (a : Addr) : It :=
  ⟨fun i H => ∃ xs x, SqL K H a xs ∧ xs[i]? = some x, fun i H x H' => H' = H ∧ ∀ xs, SqL K H a xs → xs[i]? = some x, fun i H => ∃ xs, SqL K H a xs ∧ xs.length ≤ i⟩
def Itt (K : PySem.W.Frag) (a : Addr) : It :=
  ⟨fun i H => ∃ xs x, SqT K H a xs ∧ xs[i]? = some x, fun i H x H' => H' = H ∧ ∀ xs, SqT K H a xs → xs[i]? = some x, fun i H => ∃ xs, SqT K H a xs ∧ xs.length ≤ i⟩
def Itr (lo : Int) (n : Nat) : It := ⟨fun i _ => i < n, fun i H x H' => H' = H ∧ x = .int (lo + i), fun i _ => n ≤ i⟩
theorem turn_list {P : Program} {w : World} {K : PySem.W.Frag} {tg : Expr} (a it : Addr) : Turn P w K tg (Itl K a) [it] it (fun i h => h.IsListIter it a i) where
  mem := by simp
  obj := fun i h st b hb => by
    have e : b = it := by simpa using hb
    subst e
    obtain ⟨o, e, c, d⟩ := st
    exact ⟨o, e, fun v z => by rw [d] at z; cases z⟩
  keep := fun i h h' st k => st.at fun o e => k it (by simp) o e
  item := by
    intro X hP hw hK hc i pins s σ H E I hf st hg
    subst hP hw hK
    obtain ⟨xs, x, hq, hx⟩ := hg
    obtain ⟨its, rv, p, hz⟩ := I.list hq
    obtain ⟨u, hu, ru⟩ := rv.get hx
    obtain ⟨f0, f1, f2, f3, f4, f5⟩ := hf it (by simp)
    refine wpAny_pyNext_list_item st p.isList (x := u) (by simpa using hu) fun h' st' sb => ?_
    have I1 : Inv X pins σ H { s with heap := h' } := I.turned (t' := s.toks) (fun b o hb e => (sb.2 b hb).trans e) f0 f1 f3 f4 f5
    obtain ⟨o, e, c, d⟩ := id st'
    exact ⟨u, rfl, go_of (s := { s with heap := h' }) e c d (by decide) ⟨x, H, I1, ru, ⟨rfl, fun ys hy => by rw [I.list_inj hy hq]; exact hx⟩, st', fun b hb => (hf b hb).1⟩⟩
  done := by
    intro X hP hw hK hc i pins s σ H E I hf st hg
    subst hP hw hK
    obtain ⟨xs, hq, hx⟩ := hg
    obtain ⟨its, rv, p, hz⟩ := I.list hq
    obtain ⟨f0, f1, f2, f3, f4, f5⟩ := hf it (by simp)
    have hl := rv.length
    exact wpAny_pyNext_list_end (I.ok.hd hc) st p.isList (by simp; omega) fun h' eb => ⟨rfl, I.turned (t' := s.toks) (fun b o hb e => eb b o hb e) f0 f1 f3 f4 f5⟩
  self := fun _ _ _ _ _ st h => wpAny_pyIter_listiter st h
theorem turn_tuple {P : Program} {w : World} {K : PySem.W.Frag} {tg : Expr} (a it : Addr) : Turn P w K tg (Itt K a) [it] it (fun i h => h.IsTupleIter it a i) where
  mem := by simp
  obj := fun i h st b hb => by
    have e : b = it := by simpa using hb
    subst e
    obtain ⟨o, e, c, d⟩ := st
    exact ⟨o, e, fun v z => by rw [d] at z; cases z⟩
  keep := fun i h h' st k => st.at fun o e => k it (by simp) o e
  item := by
    intro X hP hw hK hc i pins s σ H E I hf st hg
    subst hP hw hK
    obtain ⟨xs, x, hq, hx⟩ := hg
    obtain ⟨its, rv, p, hz⟩ := I.tuple hq
    obtain ⟨u, hu, ru⟩ := rv.get hx
    obtain ⟨f0, f1, f2, f3, f4, f5⟩ := hf it (by simp)
    refine wpAny_pyNext_tuple_item st (show s.heap.IsTuple a its.toArray from p) (x := u) (by simpa using hu) fun h' st' sb => ?_
    have I1 : Inv X pins σ H { s with heap := h' } := I.turned (t' := s.toks) (fun b o hb e => (sb.2 b hb).trans e) f0 f1 f3 f4 f5
    obtain ⟨o, e, c, d⟩ := id st'
    exact ⟨u, rfl, go_of (s := { s with heap := h' }) e c d (by decide) ⟨x, H, I1, ru, ⟨rfl, fun ys hy => by rw [I.tuple_inj hy hq]; exact hx⟩, st', fun b hb => (hf b hb).1⟩⟩
  done := by
    intro X hP hw hK hc i pins s σ H E I hf st hg
    subst hP hw hK
    obtain ⟨xs, hq, hx⟩ := hg
    obtain ⟨its, rv, p, hz⟩ := I.tuple hq
    obtain ⟨f0, f1, f2, f3, f4, f5⟩ := hf it (by simp)
    have hl := rv.length
    exact wpAny_pyNext_tuple_end (I.ok.hd hc) st (show s.heap.IsTuple a its.toArray from p) (by simp; omega) fun h' eb => ⟨rfl, I.turned (t' := s.toks) (fun b o hb e => eb b o hb e) f0 f1 f3 f4 f5⟩
  self := fun _ _ _ _ _ st h => wpAny_pyIter_tupleiter st h
theorem turn_range {P : Program} {w : World} {K : PySem.W.Frag} {tg : Expr} (it : Addr) (lo : Int) (n : Nat) : Turn P w K tg (Itr lo n) [it] it (fun i h => IsRangeIter h it (lo + (i : Nat) * 1) ((n : Int) - (i : Nat)) 1) where
  mem := by simp
  obj := fun i h st b hb => by
    have e : b = it := by simpa using hb
    subst e
    exact ⟨_, st, fun v z => by
      have z' : Data.fields _ = Data.cell v := z
      cases z'⟩
  keep := fun i h h' st k => k it (by simp) _ st
  item := by
    intro X hP hw hK hc i pins s σ H E I hf st hg
    subst hP hw hK
    obtain ⟨f0, f1, f2, f3, f4, f5⟩ := hf it (by simp)
    have W := Walks.range (prog := X.prog) (w := X.w) (I.ok.hd hc) it lo 1 n
    refine W.item i s _ _ hg st fun v h' tk hv st' kk => ?_
    obtain ⟨t, rfl⟩ := hv
    have I1 : Inv X pins σ H { s with heap := h', toks := tk } := I.turned (fun b o hb e => kk b o (by simpa using hb) e) f0 f1 f3 f4 f5
    refine ⟨_, rfl, go_of (s := { s with heap := h', toks := tk }) (n := "range_iterator") st' rfl rfl (by decide) ⟨.int (lo + i), H, I1, ⟨t, ?_⟩, ⟨rfl, rfl⟩, st', fun b hb => (hf b hb).1⟩⟩
    rw [Int.mul_one]
  done := by
    intro X hP hw hK hc i pins s σ H E I hf st hg
    subst hP hw hK
    obtain ⟨f0, f1, f2, f3, f4, f5⟩ := hf it (by simp)
    exact wpAny_pyNext_range_end (I.ok.hd hc) st (by have : n ≤ i := hg; omega) fun h' eb => ⟨rfl, I.turned (t' := s.toks) (fun b o hb e => eb b o hb e) f0 f1 f3 f4 f5⟩
  self := fun _ _ _ _ _ st h => wpAny_pyIter_rangeiter st h
end L2
namespace L2
open PySem PySem.Spec PyProof.Rows
section
variable {X : Cx} {tg : Expr}
theorem range_it {pins : List (Addr × Obj)} {σ : St} {H : Hp} {s : Shared} {R : It → Hp → Prop} {E : Value → Shared → Prop} {lo hi : Int} {t u v : Tok} {tk : Nat} (I : Inv X pins σ H s) (h1 : -(2 ^ 62) ≤ lo) (h2 : lo < 2 ^ 62) (h3 : -(2 ^ 62) ≤ hi) (h4 : hi < 2 ^ 62)
    (q : R (Itr lo (hi - lo).toNat) H) : wpAny (model X.prog X.w) X.A (pyIter (.ref s.heap.objs.size)) (PIE X pins σ tg R) E { s with heap := s.heap.push { cls := .type "range", data := .fields #[.int lo t, .int hi u, .int 1 v] }, toks := tk } := by
  refine wpAny_pyIter_range (IsRange.new ..) (small_one h1 h2 h3 h4) ?_
  have I1 : Inv X pins σ H { s with heap := s.heap.push { cls := .type "range", data := .fields #[.int lo t, .int hi u, .int 1 v] }, toks := tk } := I.kept fun b o e => Heap.get?_push_of_some _ e
  refine ⟨(s.heap.push { cls := .type "range", data := .fields #[.int lo t, .int hi u, .int 1 v] }).objs.size, [(s.heap.push { cls := .type "range", data := .fields #[.int lo t, .int hi u, .int 1 v] }).objs.size], _, _, H, rfl,
    I1.kept (t' := tk) fun b o e => Heap.get?_push_of_some _ e, turn_range _ lo (hi - lo).toNat, ?_, fun b hb => ?_, q⟩
  · have e1 : lo + ((0 : Nat) : Int) * 1 = lo := by simp
    have e2 : (((hi - lo).toNat : Nat) : Int) - ((0 : Nat) : Int) = Builtin.Range.rangeSize lo hi 1 := by rw [rangeSize_one]; split <;> omega
    show IsRangeIter _ _ (lo + ((0 : Nat) : Int) * 1) ((((hi - lo).toNat : Nat) : Int) - ((0 : Nat) : Int)) 1
    rw [e1, e2]
    exact Heap.get?_push_size _ rfl
  · have e : b = (s.heap.push { cls := .type "range", data := .fields #[.int lo t, .int hi u, .int 1 v] }).objs.size := by simpa using hb
    subst e
    exact I1.fpOk (Nat.le_refl _) (I1.hok.fresh (Nat.le_refl _))
def iRng1 (ta : TA) : TI := fun σ H R => ta σ H fun vs H1 => ∃ j : Int, vs = [.int j] ∧ -(2 ^ 62) ≤ j ∧ j < 2 ^ 62 ∧ R (Itr 0 j.toNat) H1
theorem pi_range1 {a : Expr} {ta : TA} {p pos : Pos} (hg : Gl X "range") (hm : X.mg "range" = none) (ha : PA X [a] ta) (hs : starEach [a] X.env = [(false, eval a X.env)] := by rfl) : PI X tg (.Call (.Name "range" p) [a] [] pos) (iRng1 ta) := by
  intro pins s σ H R I h
  refine Call_ (ld_blt I hg hm boot_range (PyProof.Rows.callWith_type1 (thn (ha pos pins s σ H _ I h) fun us s1 ⟨vs, H1, I1, r1, q1⟩ => ?_) hs rfl))
  obtain ⟨j, e, q1, q2, q⟩ := q1
  subst e
  cases r1 with
  | cons r rr =>
    cases rr
    obtain ⟨t, rfl⟩ := r
    exact call_range_1 (range_it I1 (by omega) (by omega) q1 q2 (by simpa using q))
def tFor (wi : TI) (g : TG) (tb : TS) : TS := fun D σ H => wi σ H fun J H1 => ∃ W : Nat → Nat → St → Hp → Prop, (∃ m, W 0 m σ H1) ∧ ∀ i m σ H, W i m σ H →
  (J.stop i H ∧ D.nx σ H) ∨ (J.go i H ∧ ∃ N : St → Hp → Prop, (∀ σ' H', N σ' H' → ∃ m', m' < m ∧ W (i + 1) m' σ' H') ∧ ∀ x H', J.yld i H x H' → g x σ H' fun σ2 H2 => tb { D with nx := N, ct := N, bk := D.nx } σ2 H2)
def pinsAt (fp : List Addr) (h : Heap) : List (Addr × Obj) := fp.filterMap fun b => (h.get? b).map fun o => (b, o)
theorem mem_pinsAt {fp : List Addr} {h : Heap} {b : Addr} {o : Obj} (hb : b ∈ fp) (e : h.get? b = some o) : (b, o) ∈ pinsAt fp h := List.mem_filterMap.mpr ⟨b, hb, by rw [e]; rfl⟩
theorem of_pinsAt {fp : List Addr} {h : Heap} {p : Addr × Obj} (hp : p ∈ pinsAt fp h) : p.1 ∈ fp ∧ h.get? p.1 = some p.2 := by
  obtain ⟨b, hb, e⟩ := List.mem_filterMap.mp hp
  cases q : h.get? b with
  | none => rw [q] at e; cases e
  | some o =>
    rw [q] at e
    have e' : (b, o) = p := Option.some.inj e
    subst e'
    exact ⟨hb, q⟩
theorem Inv.pinned {pins : List (Addr × Obj)} {σ : St} {H : Hp} {s : Shared} {fp : List Addr} (I : Inv X pins σ H s) (hf : ∀ b ∈ fp, FpOk X pins H b) (ho : ∀ b ∈ fp, ∃ o, s.heap.get? b = some o ∧ ∀ v, o.data ≠ .cell v) : Inv X (pins ++ pinsAt fp s.heap) σ H s :=
  I.pins_of fun p hp => (List.mem_append.mp hp).elim (fun z => I.pin p (List.mem_append_right _ z)) fun z => by
    obtain ⟨hb, e⟩ := of_pinsAt z
    obtain ⟨f0, f1, f2, _⟩ := hf p.1 hb
    obtain ⟨o, e', d⟩ := ho p.1 hb
    rw [e] at e'; cases e'
    exact ⟨e, f0, f1, f2, d⟩
theorem Inv.unpinned {pins pl : List (Addr × Obj)} {σ : St} {H : Hp} {s : Shared} (I : Inv X (pins ++ pl) σ H s) : Inv X pins σ H s := I.pins_of fun p hp => I.pin p (List.mem_append_right _ (List.mem_append_left _ hp))
theorem ps_for {iter : Expr} {body : List Stmt} {wi : TI} {g : TG} {tb : TS} {pos : Pos} (hp : PassesOwn (model X.prog X.w) X.A X.env X.xe) (hc : X.calm = true) (hi : PI X tg iter wi) (hg : PG X tg g) (hb : PSs X body tb)
    (hs : ∀ x, foldedSetIterable iter X.env x = pure x := by intro _; rfl) : PS X (.For tg iter body [] pos) (tFor wi g tb) := by
  intro pins s σ H D I h
  refine wpAny_For (thn (hi pins s σ H _ I h) fun v s1 h1 => thn h1 fun itv s2 h2 => ?_) hs
  obtain ⟨it, fp, tn, J, H2, e, I2, T, st2, f2, W, ⟨m0, w0⟩, turn⟩ := h2
  subst e
  -- what stays true of the iterator's objects through the loop
  have stat : ∀ {H' : Hp}, (∀ b ∈ fp, H' b = none) → ∀ b ∈ fp, FpOk X pins H' b := fun hn b hb => ⟨hn b hb, (f2 b hb).2⟩
  refine codeAny_forLoop_any (fun n s' => ∃ i σ' H', Inv X pins σ' H' s' ∧ tn i s'.heap ∧ (∀ b ∈ fp, H' b = none) ∧ W i n σ' H') ?_ m0 ⟨0, σ, H2, I2, st2, fun b hb => (f2 b hb).1, w0⟩
  rintro n s3 ⟨i, σ3, H3, I3, st3, fr3, w3⟩
  rcases turn i n σ3 H3 w3 with ⟨stop, qn⟩ | ⟨go, N, hN, step⟩
  · refine wpAny_passesOwn hp (thn (T.done X rfl rfl rfl hc i pins s3 σ3 H3 X.xe I3 (stat fr3) st3 stop) fun r s4 ⟨hr, I4⟩ => ?_)
    subst hr
    exact wpAny_execs_nil ⟨σ3, H3, I4, qn⟩
  · refine wpAny_passesOwn hp (thn (T.item X rfl rfl rfl hc i pins s3 σ3 H3 X.xe I3 (stat fr3) st3 go) fun r s4 ⟨u, hr, h4⟩ => ?_)
    subst hr
    refine wpAny_passesOwn hp (thn h4 fun _ s5 ⟨x, H5, I5, r5, y5, st5, fr5⟩ => ?_)
    have I5' := I5.pinned (stat fr5) (T.obj _ _ st5)
    refine wpAny_passesOwn hp (thn (hg _ s5 σ3 H5 x u _ I5' r5 (step x H5 y5)) fun _ s6 ⟨σ6, H6, I6, q6⟩ => ?_)
    refine wpAny_passesOwn hp (thn (hb _ s6 σ6 H6 _ I6 q6) fun f s7 q7 => ?_)
    have again : ∀ {σ7 : St} {H7 : Hp}, Inv X (pins ++ pinsAt fp s5.heap) σ7 H7 s7 → N σ7 H7 → ∃ m, m < n ∧ ∃ i σ' H', Inv X pins σ' H' s7 ∧ tn i s7.heap ∧ (∀ b ∈ fp, H' b = none) ∧ W i m σ' H' := fun {σ7 H7} I7 n7 => by
      obtain ⟨m', hm, w7⟩ := hN σ7 H7 n7
      refine ⟨m', hm, i + 1, σ7, H7, I7.unpinned, T.keep _ _ _ st5 fun b hb o e => (I7.pin (b, o) (List.mem_append_right _ (List.mem_append_right _ (mem_pinsAt hb e)))).1, fun b hb => ?_, w7⟩
      obtain ⟨o, e, d⟩ := T.obj _ _ st5 b hb
      exact (I7.pin (b, o) (List.mem_append_right _ (List.mem_append_right _ (mem_pinsAt hb e)))).2.1
    cases f with
    | next => obtain ⟨σ7, H7, I7, n7⟩ := q7; exact again I7 n7
    | cont => obtain ⟨σ7, H7, I7, n7⟩ := q7; exact again I7 n7
    | brk => obtain ⟨σ7, H7, I7, q7⟩ := q7; exact ⟨σ7, H7, I7.unpinned, q7⟩
    | ret v => obtain ⟨x7, σ7, H7, I7, r7, q7⟩ := q7; exact ⟨x7, σ7, H7, I7.unpinned, r7, q7⟩
end
end L2
namespace L2
open PySem PySem.Spec PyProof.Rows
abbrev R2 := V → V → Hp → VK → Prop
def OpR (X : Cx) (f : Value → Value → Sem Value) (r : R2) : Prop :=
  ∀ (pins : List (Addr × Obj)) (s : Shared) (σ : St) (H : Hp) (x y : V) (v u : Value) (Q : VK), Inv X pins σ H s → RelV x v → RelV y u → r x y H Q →
    wpAny (model X.prog X.w) X.A (f v u) (EP X pins σ Q) X.xe s
def UnR (X : Cx) (f : Value → Sem Value) (r : V → Hp → VK → Prop) : Prop :=
  ∀ (pins : List (Addr × Obj)) (s : Shared) (σ : St) (H : Hp) (x : V) (v : Value) (Q : VK), Inv X pins σ H s → RelV x v → r x H Q →
    wpAny (model X.prog X.w) X.A (f v) (EP X pins σ Q) X.xe s
def CallR (X : Cx) (f : Value) (r : List V → Hp → VK → Prop) : Prop :=
  ∀ (pins : List (Addr × Obj)) (s : Shared) (σ : St) (H : Hp) (xs : List V) (us : List Value) (Q : VK), Inv X pins σ H s → Vals xs us → r xs H Q →
    wpAny (model X.prog X.w) X.A (call f us) (EP X pins σ Q) X.xe s
def tOp (r : R2) (ta tb : TE) : TE := fun σ H Q => ta σ H fun x H1 => tb σ H1 fun y H2 => r x y H2 Q
def tUn (r : V → Hp → VK → Prop) (ta : TE) : TE := fun σ H Q => ta σ H fun x H1 => r x H1 Q
def rI (C : Int → Int → Prop) (g : Int → Int → V) : R2 := fun x y H Q => ∃ i j, x = .int i ∧ y = .int j ∧ C i j ∧ Q (g i j) H
def rI0 (g : Int → Int → V) : R2 := fun x y H Q => ∃ i j, x = .int i ∧ y = .int j ∧ Q (g i j) H
def rU (g : Int → V) : V → Hp → VK → Prop := fun x H Q => ∃ i, x = .int i ∧ Q (g i) H
section
variable {X : Cx} {a b c : Expr} {ta tb tc : TE} {pos : Pos}
theorem binT (ha : PE X a ta) (hb : PE X b tb) {pins : List (Addr × Obj)} {s : Shared} {σ : St} {H : Hp} {R : V → V → Hp → Prop} (I : Inv X pins σ H s)
    (h : ta σ H fun x H1 => tb σ H1 fun y H2 => R x y H2) {Q : Value → Shared → Prop} {f : Value → Value → Sem Value}
    (hf : ∀ v u s2 x y H2, Inv X pins σ H2 s2 → RelV x v → RelV y u → R x y H2 → wpAny (model X.prog X.w) X.A (f v u) Q X.xe s2) :
    wpAny (model X.prog X.w) X.A (eval a X.env) (fun v s₁ => wpAny (model X.prog X.w) X.A (eval b X.env) (fun u s₂ => wpAny (model X.prog X.w) X.A (f v u) Q X.xe s₂) X.xe s₁) X.xe s := by
  refine thn (ha pins s σ H _ I h) fun v s1 ⟨x, H1, I1, r1, q1⟩ => ?_
  refine thn (hb pins s1 σ H1 _ I1 q1) fun u s2 ⟨y, H2, I2, r2, q2⟩ => ?_
  exact hf v u s2 x y H2 I2 r1 r2 q2
theorem pe_op {op : Operator} {r : R2} (ho : OpR X (binaryOp op) r) (ha : PE X a ta) (hb : PE X b tb) : PE X (.BinOp a op b pos) (tOp r ta tb) := by
  intro pins s σ H Q I h
  exact wpAny_BinOp (binT ha hb I h fun v u s2 x y H2 I2 rx ry q => ho pins s2 σ H2 x y v u Q I2 rx ry q)
theorem pe_un {op : UnaryOp} {r : V → Hp → VK → Prop} (ho : UnR X (unaryOp op) r) (ha : PE X a ta) : PE X (.UnaryOp op a pos) (tUn r ta) := by
  intro pins s σ H Q I h
  exact UnaryOp_ (thn (ha pins s σ H _ I h) fun v s1 ⟨x, H1, I1, r1, q1⟩ => ho pins s1 σ H1 x v Q I1 r1 q1)
theorem opI {f : Value → Value → Sem Value} {C : Int → Int → Prop} {g : Int → Int → Int}
    (rule : ∀ (i j : Int) (t u : Tok) (s : Shared) (Q : Value → Shared → Prop) (E : Value → Shared → Prop), C i j → Q (.int (g i j) s.toks) { s with toks := s.toks + 1 } → wpAny (model X.prog X.w) X.A (f (.int i t) (.int j u)) Q E s) :
    OpR X f (rI C fun i j => .int (g i j)) := by
  intro pins s σ H x y v u Q I rx ry h
  obtain ⟨i, j, rfl, rfl, hc, q⟩ := h
  obtain ⟨t, rfl⟩ := rx
  obtain ⟨t', rfl⟩ := ry
  exact rule i j t t' s _ _ hc ⟨.int (g i j), H, I.tok _, ⟨_, rfl⟩, q⟩
theorem opI0 {f : Value → Value → Sem Value} {g : Int → Int → Int}
    (rule : ∀ (i j : Int) (t u : Tok) (s : Shared) (Q : Value → Shared → Prop) (E : Value → Shared → Prop), Q (.int (g i j) s.toks) { s with toks := s.toks + 1 } → wpAny (model X.prog X.w) X.A (f (.int i t) (.int j u)) Q E s) :
    OpR X f (rI0 fun i j => .int (g i j)) := by
  intro pins s σ H x y v u Q I rx ry h
  obtain ⟨i, j, rfl, rfl, q⟩ := h
  obtain ⟨t, rfl⟩ := rx
  obtain ⟨t', rfl⟩ := ry
  exact rule i j t t' s _ _ ⟨.int (g i j), H, I.tok _, ⟨_, rfl⟩, q⟩
theorem opB0 {f : Value → Value → Sem Value} {g : Int → Int → Bool}
    (rule : ∀ (i j : Int) (t u : Tok) (s : Shared) (Q : Value → Shared → Prop) (E : Value → Shared → Prop), Q (.bool (g i j)) s → wpAny (model X.prog X.w) X.A (f (.int i t) (.int j u)) Q E s) :
    OpR X f (rI0 fun i j => .bl (g i j)) := by
  intro pins s σ H x y v u Q I rx ry h
  obtain ⟨i, j, rfl, rfl, q⟩ := h
  obtain ⟨t, rfl⟩ := rx
  obtain ⟨t', rfl⟩ := ry
  exact rule i j t t' s _ _ ⟨.bl (g i j), H, I, rfl, q⟩
def CDiv (i j : Int) : Prop := 0 < j ∧ j < 1073741824
def CPow (i j : Int) : Prop := 0 ≤ j ∧ j ≤ 1000000 ∧ i.natAbs < 2 ^ 64
def CMul (i j : Int) : Prop := (-(2 ^ 64) < i ∧ i < 2 ^ 64) ∨ (-(2 ^ 64) < j ∧ j < 2 ^ 64)
theorem CMul.ok {i j : Int} (h : CMul i j) : IntMulOk i j := by
  rcases h with ⟨h1, h2⟩ | ⟨h1, h2⟩
  · exact .of_left (intBits_le_64 h1 h2)
  · exact .of_right (intBits_le_64 h1 h2)
theorem op_add : OpR X (binaryOp .Add) (rI0 fun i j => .int (i + j)) := opI0 fun _ _ _ _ _ _ _ q => add_int q
theorem op_sub : OpR X (binaryOp .Sub) (rI0 fun i j => .int (i - j)) := opI0 fun _ _ _ _ _ _ _ q => sub_int q
theorem op_mul : OpR X (binaryOp .Mult) (rI CMul fun i j => .int (i * j)) := opI fun _ _ _ _ _ _ _ hc q => mul_int q hc.ok
theorem op_fdiv : OpR X (binaryOp .FloorDiv) (rI CDiv fun i j => .int (i / j)) := opI fun i j _ _ _ _ _ hc q => by
  have h1 : (0 : Int) < j := hc.1
  have h2 : j < 1073741824 := hc.2
  exact floordiv_int (by omega) (by rw [Int.fdiv_eq_ediv_of_nonneg i (by omega)]; exact q) (.inl (PyProof.noPylong_small (by omega)))
theorem op_mod : OpR X (binaryOp .Mod) (rI (fun _ j => 0 < j) fun i j => .int (i % j)) := opI fun i j _ _ _ _ _ hc q => by
  have h1 : (0 : Int) < j := hc
  exact mod_int' (by omega) (by rw [Int.fmod_eq_emod_of_nonneg i (by omega)]; exact q)
theorem op_pow : OpR X (binaryOp .Pow) (rI CPow fun i j => .int (i ^ j.toNat)) := opI fun _ _ _ _ _ _ _ hc q => pow_int_small hc.1 hc.2.1 hc.2.2 q
theorem unI {f : Value → Sem Value} {g : Int → Int}
    (rule : ∀ (i : Int) (t : Tok) (s : Shared) (Q : Value → Shared → Prop) (E : Value → Shared → Prop), Q (.int (g i) s.toks) { s with toks := s.toks + 1 } → wpAny (model X.prog X.w) X.A (f (.int i t)) Q E s) :
    UnR X f (rU fun i => .int (g i)) := by
  intro pins s σ H x v Q I rx h
  obtain ⟨i, rfl, q⟩ := h
  obtain ⟨t, rfl⟩ := rx
  exact rule i t s _ _ ⟨.int (g i), H, I.tok _, ⟨_, rfl⟩, q⟩
theorem un_neg : UnR X (unaryOp .USub) (rU fun i => .int (-i)) := unI fun _ _ _ _ _ q => neg_int q
end
section
variable {X : Cx} {a b c : Expr} {ta tb tc : TE} {pos : Pos}
theorem fin_bl {pins : List (Addr × Obj)} {σ : St} {H : Hp} {s : Shared} {Q : VK} {k k' : Bool} (I : Inv X pins σ H s) (q : Q (.bl k) H) (e : k = k') : EP X pins σ Q (.bool k') s := by
  subst e
  exact ⟨.bl k, H, I, rfl, q⟩
theorem op_lt : OpR X (compareOp .Lt) (rI0 fun i j => .bl (decide (i < j))) := opB0 fun _ _ _ _ _ _ _ q => lt_int q
theorem op_le : OpR X (compareOp .LtE) (rI0 fun i j => .bl (decide (i ≤ j))) := opB0 fun _ _ _ _ _ _ _ q => le_int q
theorem op_gt : OpR X (compareOp .Gt) (rI0 fun i j => .bl (decide (j < i))) := opB0 fun _ _ _ _ _ _ _ q => gt_int q
theorem op_ge : OpR X (compareOp .GtE) (rI0 fun i j => .bl (decide (j ≤ i))) := opB0 fun _ _ _ _ _ _ _ q => ge_int q
theorem op_isN : OpR X (compareOp .Is) (fun x y H Q => y = .non ∧ Q (.bl (decide (x = .non))) H) := by
  intro pins s σ H x y v u Q I rx ry h
  obtain ⟨rfl, q⟩ := h
  cases ry
  refine is_none_gen (fin_bl I q ?_)
  cases x <;> first
    | (cases rx; rfl)
    | (obtain ⟨t, rfl⟩ := rx; rfl)
theorem op_notN : OpR X (compareOp .IsNot) (fun x y H Q => y = .non ∧ Q (.bl (!decide (x = .non))) H) := by
  intro pins s σ H x y v u Q I rx ry h
  obtain ⟨rfl, q⟩ := h
  cases ry
  refine isnot_none_gen (fin_bl I q ?_)
  cases x <;> first
    | (cases rx; rfl)
    | (obtain ⟨t, rfl⟩ := rx; rfl)
theorem OpR.or {f : Value → Value → Sem Value} {r r' : R2} (h : OpR X f r) (h' : OpR X f r') : OpR X f (fun x y H Q => r x y H Q ∨ r' x y H Q) := by
  intro pins s σ H x y v u Q I rx ry q
  rcases q with q | q
  · exact h pins s σ H x y v u Q I rx ry q
  · exact h' pins s σ H x y v u Q I rx ry q
theorem nomark (b : Expr) {op : CmpOp} (h : op ≠ .In := by decide) (h2 : op ≠ .NotIn := by decide) : behindInMarks op b = false := by
  have e1 : (op == CmpOp.In) = false := by cases op <;> first | rfl | exact absurd rfl h
  have e2 : (op == CmpOp.NotIn) = false := by cases op <;> first | rfl | exact absurd rfl h2
  cases b <;> simp [behindInMarks, e1, e2]
theorem pe_cmpR {op : CmpOp} {r : R2} (ho : OpR X (compareOp op) r) (ha : PE X a ta) (hb : PE X b tb) (hm : behindInMarks op b = false) : PE X (.Compare a [op] [b] pos) (tOp r ta tb) := by
  intro pins s σ H Q I h
  exact wpAny_Compare1 (binT ha hb I h fun v u s2 x y H2 I2 rx ry q => ho pins s2 σ H2 x y v u Q I2 rx ry q) hm
def tTest (t : TE) : TT := fun σ H Q => t σ H fun x H' => ∃ k, x = .bl k ∧ Q k H'
theorem pt_cmpR {op : CmpOp} {r : R2} (ho : OpR X (compareOp op) r) (ha : PE X a ta) (hb : PE X b tb) (hm : behindInMarks op b = false) : PT X (.Compare a [op] [b] pos) (tTest (tOp r ta tb)) := by
  intro pins s σ H Q I h
  refine wpAny_isTrue_Compare1 (thn (ha pins s σ H _ I h) fun v s1 ⟨x, H1, I1, r1, q1⟩ => thn (hb pins s1 σ H1 _ I1 q1) fun u s2 ⟨y, H2, I2, r2, q2⟩ =>
    thn (ho pins s2 σ H2 x y v u _ I2 r1 r2 q2) fun c s3 ⟨z, H3, I3, r3, k, e, q3⟩ => ?_) hm
  subst e
  cases r3
  exact wpAny_truthy_bool ⟨H3, I3, q3⟩
def tChain (r r' : R2) (ta tb tc : TE) : TE := fun σ H Q => ta σ H fun x H1 => tb σ H1 fun y H2 => r x y H2 fun z H3 => ∃ k, z = .bl k ∧
  (if k = true then tc σ H3 fun w' H4 => r' y w' H4 Q else Q (.bl false) H3)
theorem pe_chain {op op' : CmpOp} {r r' : R2} (ho : OpR X (compareOp op) r) (ho' : OpR X (compareOp op') r') (ha : PE X a ta) (hb : PE X b tb) (hc : PE X c tc)
    (hm : lastMarks [op, op'] [b, c] = false := by with_unfolding_all rfl) : PE X (.Compare a [op, op'] [b, c] pos) (tChain r r' ta tb tc) := by
  intro pins s σ H Q I h
  refine Compare_chain (thn (ha pins s σ H _ I h) fun v s1 ⟨x, H1, I1, r1, q1⟩ => chain_link (thn (hb pins s1 σ H1 _ I1 q1) fun u s2 ⟨y, H2, I2, r2, q2⟩ =>
    thn (ho pins s2 σ H2 x y v u _ I2 r1 r2 q2) fun d s3 ⟨z, H3, I3, r3, k, e, q3⟩ => ?_)) hm
  subst e
  cases r3
  refine wpAny_truthy_bool ?_
  cases k with
  | false => exact ite_ff ⟨.bl false, H3, I3, rfl, q3⟩
  | true => exact ite_tt (chain_last (thn (hc pins s3 σ H3 _ I3 q3) fun w' s4 ⟨z', H4, I4, r4, q4⟩ => ho' pins s4 σ H4 y z' u w' Q I4 r2 r4 q4))
theorem line63 : (sizeLine : Nat) < 2 ^ 63 := by rw [sizeLine_eq]; decide
theorem op_add_str : OpR X (binaryOp .Add) (fun x y H Q => ∃ i j, x = .str i ∧ y = .str j ∧ i.length + j.length ≤ sizeLine ∧ Q (.str (i ++ j)) H) := by
  intro pins s σ H x y v u Q I rx ry h
  obtain ⟨i, j, rfl, rfl, hz, q⟩ := h
  obtain ⟨t, rfl⟩ := rx
  obtain ⟨t', rfl⟩ := ry
  exact add_str (fun t' tk => ⟨.str (i ++ j), H, I.tok _, ⟨_, rfl⟩, q⟩) hz
theorem vals1 {x : V} {us : List Value} (r : Vals [x] us) : ∃ u, us = [u] ∧ RelV x u := by
  cases r with
  | cons r1 r2 => cases r2; exact ⟨_, rfl, r1⟩
theorem vals2 {x y : V} {us : List Value} (r : Vals [x, y] us) : ∃ u w', us = [u, w'] ∧ RelV x u ∧ RelV y w' := by
  cases r with
  | cons r1 r2 =>
    cases r2 with
    | cons r3 r4 => cases r4; exact ⟨_, _, rfl, r1, r3⟩
theorem call_max2 (hc : X.calm = true) : CallR X (.builtin "max") (fun xs H Q => ∃ i j, xs = [.int i, .int j] ∧ Q (.int (if j > i then j else i)) H) := by
  intro pins s σ H xs us Q I r h
  obtain ⟨i, j, rfl, q⟩ := h
  obtain ⟨u, w', rfl, ⟨t, rfl⟩, ⟨t', rfl⟩⟩ := vals2 r
  refine max_two_ints (I.ok.hd hc) fun h' tk k => ⟨_, H, I.kept k, ?_, q⟩
  by_cases hj : j > i
  · rw [if_pos hj, if_pos hj]; exact ⟨_, rfl⟩
  · rw [if_neg hj, if_neg hj]; exact ⟨_, rfl⟩
theorem call_min2 (hc : X.calm = true) : CallR X (.builtin "min") (fun xs H Q => ∃ i j, xs = [.int i, .int j] ∧ Q (.int (if j < i then j else i)) H) := by
  intro pins s σ H xs us Q I r h
  obtain ⟨i, j, rfl, q⟩ := h
  obtain ⟨u, w', rfl, ⟨t, rfl⟩, ⟨t', rfl⟩⟩ := vals2 r
  refine min_two_ints (I.ok.hd hc) fun h' tk k => ⟨_, H, I.kept k, ?_, q⟩
  by_cases hj : j < i
  · rw [if_pos hj, if_pos hj]; exact ⟨_, rfl⟩
  · rw [if_neg hj, if_neg hj]; exact ⟨_, rfl⟩
theorem call_int1 : CallR X (.type "int") (fun xs H Q => (∃ i, xs = [.int i] ∧ Q (.int i) H) ∨ ∃ k, xs = [.bl k] ∧ Q (.int (if k then 1 else 0)) H) := by
  intro pins s σ H xs us Q I r h
  rcases h with ⟨i, rfl, q⟩ | ⟨k, rfl, q⟩
  · obtain ⟨u, rfl, t, rfl⟩ := vals1 r
    exact call_int_int ⟨.int i, H, I, ⟨_, rfl⟩, q⟩
  · obtain ⟨u, rfl, r1⟩ := vals1 r
    cases r1
    exact call_int_bool ⟨.int (if k then 1 else 0), H, I.tok _, ⟨_, rfl⟩, q⟩
def LenV (K : PySem.W.Frag) (x : V) (H : Hp) (n : Nat) : Prop :=
  match x with
  | .str y => y.length ≤ sizeLine ∧ n = y.length
  | .byt y => y.size ≤ sizeLine ∧ n = y.size
  | .ref p => (∃ xs, SqL K H p xs ∧ n = xs.length) ∨ ∃ xs, SqT K H p xs ∧ n = xs.length
  | _ => False
theorem call_len : CallR X (.builtin "len") (fun xs H Q => ∃ x n, xs = [x] ∧ LenV X.K x H n ∧ Q (.int n) H) := by
  intro pins s σ H xs us Q I r h
  obtain ⟨x, n, rfl, e, q⟩ := h
  obtain ⟨u, rfl, rx⟩ := vals1 r
  have hl := line63
  have hs : sizeLine = 16777216 := sizeLine_eq
  cases x with
  | str y =>
    obtain ⟨t, rfl⟩ := rx
    obtain ⟨hy, e'⟩ : y.length ≤ sizeLine ∧ n = y.length := e
    subst e'
    exact len_str (by omega) ⟨.int _, H, I.tok _, ⟨_, rfl⟩, q⟩
  | byt y =>
    obtain ⟨t, rfl⟩ := rx
    obtain ⟨hy, e'⟩ : y.size ≤ sizeLine ∧ n = y.size := e
    subst e'
    exact PySem.W.len_bytes (by omega) ⟨.int _, H, I.tok _, ⟨_, rfl⟩, q⟩
  | ref p =>
    cases rx
    have e' : (∃ xs, SqL X.K H p xs ∧ n = xs.length) ∨ ∃ xs, SqT X.K H p xs ∧ n = xs.length := e
    rcases e' with ⟨xs, hx, e'⟩ | ⟨xs, hx, e'⟩
    · subst e'
      obtain ⟨its, r', pl, hz⟩ := I.list hx
      have hlen := r'.length
      exact Calls.call_len_list pl.isList (by simp only [List.size_toArray]; omega) ⟨.int xs.length, H, I.tok _, ⟨_, by simp only [List.size_toArray]; rw [hlen]⟩, q⟩
    · subst e'
      obtain ⟨its, r', pl, hz⟩ := I.tuple hx
      have hlen := r'.length
      exact len_tuple pl (by simp only [List.size_toArray]; omega) ⟨.int xs.length, H, I.tok _, ⟨_, by simp only [List.size_toArray]; rw [hlen]⟩, q⟩
  | _ => exact (show False from e).elim
end
end L2
namespace L2
open PySem PySem.Spec PyProof.Rows
structure ObjM (h : Heap) (x dx C : Addr) (mA : Str → Option Value) : Prop where
  obj : h.get? x = some (PySem.W.instObj C dx)
  ns : h.Ns1 dx mA
  ne : dx ≠ x
theorem lookIn_ns {h : Heap} {dx : Addr} {mA : Str → Option Value} (n : h.Ns1 dx mA) : ∃ od, h.get? dx = some od ∧ ∀ name, PySem.W.lookIn name od = some (mA name) := by
  obtain ⟨o, es, ep, ho, hd, hk, _, hm⟩ := n
  refine ⟨o, ho, fun name => ?_⟩
  have e := hm name
  unfold nsFind findBy at e
  rw [← Array.find?_toList] at e
  unfold PySem.W.lookIn
  rw [hd]
  dsimp only
  split
  · rename_i y q
    rw [q] at e
    exact congrArg some e
  · rename_i q
    rw [q] at e
    have a : es.toList.any (·.refKey) = false := by
      rw [List.any_eq_false]
      intro y hy
      obtain ⟨z, t, hkey⟩ := hk y (Array.mem_toList_iff.mp hy)
      simp [DictEntry.refKey, hkey]
    have a' : ¬ es.toList.any (·.refKey) = true := by rw [a]; exact Bool.false_ne_true
    rw [if_neg a']
    exact congrArg some e
theorem ObjM.look {h : Heap} {x dx C : Addr} {mA : Str → Option Value} (I : ObjM h x dx C mA) : ∃ od, PySem.W.InstAt h x (PySem.W.instObj C dx) C (some od) ∧ ∀ name, PySem.W.lookIn name od = some (mA name) :=
  let ⟨od, ho, hl⟩ := lookIn_ns I.ns
  ⟨od, ⟨I.obj, rfl, rfl, ho⟩, hl⟩
section
variable {prog : Program} {w : World} {A : Around} {E : Value → Shared → Prop} {s : Shared} {K : PySem.W.Frag} {x dx C f : Addr} {mA : Str → Option Value} {name : Str} {v : Value}
end
def putF (f : Str) (v : V) : List (Str × V) → List (Str × V)
  | [] => [(f, v)]
  | (g, x) :: r => if g = f then (g, v) :: r else (g, x) :: putF f v r
theorem RelO.some_of {v : V} {o : Option Value} (r : RelO (some v) o) : ∃ u, o = some u ∧ RelV v u := by
  cases o with
  | none => exact (show False from r).elim
  | some u => exact ⟨u, rfl, r⟩
section
variable {P : Program} {w : World} {H H' : Hp} {h h' : Heap} {a C dx : Addr} {fs fs' : List (Str × V)}
end
structure Cls (K : PySem.W.Frag) (C : Addr) : Prop where
  pg : PySem.W.plainGet K C Str.empty = true
  hd : PySem.W.hasDictIn K C = true
  po : PySem.W.plainOver K C = true
  sa : PySem.W.findIn K (.ref C) "__setattr__" = some (some (.builtin "object.__setattr__"))
theorem Cls.get {K : PySem.W.Frag} {C : Addr} (c : Cls K C) (f : Str) : PySem.W.plainGet K C f = true := c.pg
structure Con (K : PySem.W.Frag) (C : Addr) (f : Str) (v : V) (u : Value) : Prop where
  at_ : PySem.W.findIn K (.ref C) f = some (some u)
  rel : RelV v u
  get : PySem.W.specialIn K u "__get__" = some none
  cp : PySem.W.copiedNames.contains f = false
structure Meth (K : PySem.W.Frag) (C : Addr) (m : Str) (f : Addr) : Prop where
  at_ : PySem.W.findIn K (.ref C) m = some (some (.ref f))
  fn : PySem.W.isFn K (.ref f) = true
  kp : PySem.W.keepIn K (.ref f) = true
section
variable {X : Cx} {pins : List (Addr × Obj)} {σ : St} {H : Hp} {s : Shared} {a C dx : Addr} {fs : List (Str × V)} {f : Str} {v : V} {A : Around} {E : Value → Shared → Prop}
theorem Inv.made (I : Inv X pins σ H s) : Inv X pins σ (upd (upd H s.heap.objs.size (.own (s.heap.objs.size + 1))) (s.heap.objs.size + 1) (.ins C s.heap.objs.size []))
    { s with heap := (s.heap.push PySem.W.emptyDict).push (PySem.W.instObj C s.heap.objs.size) } := by
  have e1 : (s.heap.push PySem.W.emptyDict).get? s.heap.objs.size = some PySem.W.emptyDict := Heap.get?_push_size s.heap rfl
  have e2 : ((s.heap.push PySem.W.emptyDict).push (PySem.W.instObj C s.heap.objs.size)).get? (s.heap.objs.size + 1) = some (PySem.W.instObj C s.heap.objs.size) := by
    have := Heap.get?_push_size (s.heap.push PySem.W.emptyDict) (o := PySem.W.instObj C s.heap.objs.size) rfl
    rwa [Heap.size_push] at this
  have e3 : (s.heap.push PySem.W.emptyDict).Ns s.heap.objs.size (fun _ => none) := ⟨PySem.W.emptyDict, #[], _, e1, rfl, (fun e he => absurd he (by simp)), fun _ => rfl⟩
  have I1 := I.laid (a := s.heap.objs.size) (o := .own (s.heap.objs.size + 1)) (h' := s.heap.push PySem.W.emptyDict) (t' := s.toks) (fun b u q => Heap.get?_push_of_some _ q) (Nat.le_refl _) ⟨_, e1⟩
  refine I1.laid (a := s.heap.objs.size + 1) (o := .ins C s.heap.objs.size []) (t' := s.toks) (fun b u q => Heap.get?_push_of_some _ q) (Nat.le_of_eq (Heap.size_push _ _)) ?_
  have ne : s.heap.objs.size ≠ s.heap.objs.size + 1 := Nat.ne_of_lt (Nat.lt_succ_self _)
  refine ⟨by rw [upd_ne ne, upd_same], Nat.zero_le _, ne, e2, fun _ => none, (Heap.Ns1.of_empty e3).at fun o q => Heap.get?_push_of_some _ q, fun _ => True.intro, fun y hy => absurd rfl hy⟩
end
section
variable {X : Cx} {o e value : Expr} {f : Str} {pos pos' tpos : Pos} {ta tv : TE}
end
section
variable {X : Cx} {pins : List (Addr × Obj)} {σ : St} {H : Hp} {s : Shared} {A : Around} {E : Value → Shared → Prop} {Q : Value → Shared → Prop} {c : Value} {b : Bool}
inductive TyOf (K : PySem.W.Frag) (H : Hp) : V → Value → Prop where
  | non : TyOf K H .non (.type "NoneType")
  | bl (x : Bool) : TyOf K H (.bl x) (.type "bool")
  | int (i : Int) : TyOf K H (.int i) (.type "int")
  | str (x : Str) : TyOf K H (.str x) (.type "str")
  | flt (x : UInt64) : TyOf K H (.flt x) (.type "float")
  | lst {a : Addr} {xs : List V} (e : H a = some (.lst xs)) : TyOf K H (.ref a) (.type "list")
  | frz {a : Addr} {o : Obj} {xs : List V} (e : H a = some (.frz o (.lst xs))) : TyOf K H (.ref a) (.type "list")
  | tup {a : Addr} {xs : List V} (e : H a = some (.tup xs)) : TyOf K H (.ref a) (.type "tuple")
  | dK {a : Addr} {kvs : List (Key × V)} (e : H a = some (.dK kvs)) : TyOf K H (.ref a) (.type "dict")
  | dT {a : Addr} {kvs : List (List Key × V)} (e : H a = some (.dT kvs)) : TyOf K H (.ref a) (.type "dict")
  | ins {a C dx : Addr} {fs : List (Str × V)} (e : H a = some (.ins C dx fs)) (cl : Cls K C) (ha : PySem.W.findIn K (.ref C) "__class__" = some (some (.builtin "object.__class__")))
      (hn : PySem.W.specialIn K (.builtin "object.__class__") "__get__" = some (some (.builtin "getset_descriptor.__get__"))) (htk : PySem.W.takesIn K (.builtin "object.__class__") = some true)
      (hm : PySem.W.mroIn K C (.type "object") = some true) : TyOf K H (.ref a) (.ref C)
end
end L2
namespace L2
open PySem PySem.Spec PyProof.Rows
structure Room (k : Nat) (A : Around) : Prop where
  hd : A.handled = none
  dp : A.depth + 3 * k + 5 < recursionLimit
  un : A.units + 16 * k + 200 < cLine
  gd : A.guards = some []
theorem Room.mono {j k : Nat} {A : Around} (r : Room k A) (h : j ≤ k) : Room j A := ⟨r.hd, by have := r.dp; omega, by have := r.un; omega, r.gd⟩
theorem Room.deeper {k : Nat} {A : Around} (r : Room (k + 1) A) (env : Env) : Room k (A.deeper env) :=
  ⟨r.hd, by have := r.dp; show A.depth + 1 + 3 * k + 5 < _; omega, by have := r.un; show A.units + 3 + 16 * k + 200 < _; omega, r.gd⟩
theorem Room.in1 {k : Nat} {A : Around} (r : Room (k + 1) A) : Room k A.in1 :=
  ⟨r.hd, by have := r.dp; show A.depth + 3 * k + 5 < _; omega, by have := r.un; show A.units + 1 + 16 * k + 200 < _; omega, r.gd⟩
theorem Room.depth {k : Nat} {A : Around} (r : Room k A) : A.depth < recursionLimit := by have := r.dp; omega
theorem Room.units {k : Nat} {A : Around} (r : Room k A) : A.units + 64 < cLine := by have := r.un; omega
def tNil : TA := fun _ H Q => Q [] H
def tCons (ta : TE) (tr : TA) : TA := fun σ H Q => ta σ H fun x H1 => tr σ H1 fun xs H2 => Q (x :: xs) H2
section
variable {X : Cx} {e : Expr} {es : List Expr} {te : TE} {t : TA} {pos : Pos}
theorem pa_nil : PA X [] tNil := fun _ _ _ _ H Q I h => Calls.spliced_nil ⟨[], H, I, .nil, h⟩
theorem pa_cons (ha : PE X e te) (hr : PA X es t) (hs : starEach (e :: es) X.env = (false, eval e X.env) :: starEach es X.env := by rfl) : PA X (e :: es) (tCons te t) := by
  intro pos pins s σ H Q I h
  rw [hs]
  show wpAny _ _ (spliced ((false, eval e X.env) :: backTo pos (starEach es X.env))) _ _ s
  refine Calls.spliced_cons (thn (ha pins s σ H _ I h) fun u s1 ⟨x, H1, I1, r1, q1⟩ => ?_)
  exact thn (hr pos pins s1 σ H1 _ I1 q1) fun us s2 ⟨xs, H2, I2, r2, q2⟩ => ⟨x :: xs, H2, I2, .cons r1 r2, q2⟩
def tTup (t : TA) : TE := fun σ H Q => t σ H fun xs H1 => xs.length ≤ sizeLine ∧ ∀ p, H1 p = none → Q (.ref p) (upd H1 p (.tup xs))
def tLst (t : TA) : TE := fun σ H Q => t σ H fun xs H1 => xs.length ≤ sizeLine ∧ ∀ p, H1 p = none → Q (.ref p) (upd H1 p (.lst xs))
theorem pe_tup {x1} (h : PA X es t) : PE X (.Tuple es x1 pos) (tTup t) := by
  intro pins s σ H Q I hq
  refine wpAny_Tuple_spliced (thn (h pos pins s σ H _ I hq) fun us s1 ⟨xs, H1, I1, r, z, q⟩ => ⟨by rw [← r.length]; exact z, ?_⟩)
  have hf : H1 s1.heap.objs.size = none := I1.hok.fresh (Nat.le_refl _)
  refine ⟨.ref s1.heap.objs.size, upd H1 s1.heap.objs.size (.tup xs), I1.laid (t' := s1.toks) (fun b u e => Heap.get?_push_of_some _ e) (Nat.le_refl _) ?_, rfl, q _ hf⟩
  exact ⟨z, us, r, ⟨_, Heap.get?_push_size _ rfl, rfl, _, rfl⟩⟩
theorem pe_lst (h : PA X es t) : PE X (.List es pos) (tLst t) := by
  intro pins s σ H Q I hq
  refine wpAny_List_spliced (thn (h pos pins s σ H _ I hq) fun us s1 ⟨xs, H1, I1, r, z, q⟩ => ⟨by rw [← r.length]; exact z, ?_⟩)
  have hf : H1 s1.heap.objs.size = none := I1.hok.fresh (Nat.le_refl _)
  refine ⟨.ref s1.heap.objs.size, upd H1 s1.heap.objs.size (.lst xs), I1.laid (t' := s1.toks) (fun b u e => Heap.get?_push_of_some _ e) (Nat.le_refl _) ?_, rfl, q _ hf⟩
  exact ⟨z, us, 0, r, Heap.get?_push_size _ rfl⟩
end
abbrev Sp := List V → Hp → VK → XK → Prop
abbrev CXT := List Env → Hp → Shared → XK → Value → Shared → Prop
structure Env0 (P : Program) (w : World) (K : PySem.W.Frag) (mg : Str → Option Value) (base : Heap) (A : Around) (outer : List Env) (s : Shared) (H : Hp) : Prop where
  frames : A.frames = some outer
  mod : Mod K mg base
  bs : ∀ b o, base.get? b = some o → s.heap.get? b = some o ∧ H b = none
  bsz : base.objs.size ≤ s.heap.objs.size
  funs : s.heap.FunFrames base outer
  frf : ∀ b ∈ frs outer, H b = none
  hok : HOk P w H s.heap
  bare : AllBare s.gens
def CE (outer : List Env) (P : Program) (w : World) (H : Hp) (s : Shared) (Q : VK) (u : Value) (s' : Shared) : Prop :=
  ∃ v H', s'.os = s.os ∧ AllBare s'.gens ∧ Un (frs outer) [] H H' s.heap s'.heap ∧ HOk P w H' s'.heap ∧ RelV v u ∧ Q v H'
def CR (CX : CXT) (outer : List Env) (P : Program) (w : World) (H : Hp) (s : Shared) (Q : VK) (E : XK) (r : Result) (s' : Shared) : Prop :=
  match r with
  | .ok (.ret u) => CE outer P w H s Q u s'
  | .ok _ => False
  | .error e => CX outer H s E e s'
structure FnOk (P : Program) (w : World) (K : PySem.W.Frag) (mg : Str → Option Value) (base : Heap) (CX : CXT) (k : Nat) (f : Addr) (fd : FuncData) (ps : List Str) (sp : Sp) : Prop where
  len : ∀ vs H Q E, sp vs H Q E → vs.length = ps.length
  run : ∀ (A : Around) (outer : List Env) (s : Shared) (H : Hp) (args : Args) (us : List Value) (vs : List V) (Q : VK) (E : XK), Room k A → Env0 P w K mg base A outer s H → BindsTo s fd args (ps.zip us) → Vals vs us → sp vs H Q E →
    codeAny (model P w) A (.call (.ref f) args) (CR CX outer P w H s Q E) s
theorem FnOk.mono {P : Program} {w : World} {K : PySem.W.Frag} {mg : Str → Option Value} {base : Heap} {CX : CXT} {j k : Nat} {f : Addr} {fd : FuncData} {ps : List Str} {sp : Sp} (F : FnOk P w K mg base CX j f fd ps sp) (h : j ≤ k) :
    FnOk P w K mg base CX k f fd ps sp := ⟨F.len, fun A outer s H args us vs Q E hr => F.run A outer s H args us vs Q E (hr.mono h)⟩
theorem FnOk.imp {P : Program} {w : World} {K : PySem.W.Frag} {mg : Str → Option Value} {base : Heap} {CX : CXT} {k : Nat} {f : Addr} {fd : FuncData} {ps : List Str} {sp sp' : Sp} (F : FnOk P w K mg base CX k f fd ps sp)
    (h : ∀ vs H Q E, sp' vs H Q E → sp vs H Q E) : FnOk P w K mg base CX k f fd ps sp' :=
  ⟨fun vs H Q E q => F.len vs H Q E (h _ _ _ _ q), fun A outer s H args us vs Q E hr he hb hv hs => F.run A outer s H args us vs Q E hr he hb hv (h _ _ _ _ hs)⟩
theorem Env0.in1 {P : Program} {w : World} {K : PySem.W.Frag} {mg : Str → Option Value} {base : Heap} {A : Around} {outer : List Env} {s : Shared} {H : Hp} (e : Env0 P w K mg base A outer s H) :
    Env0 P w K mg base A.in1 outer s H := ⟨e.frames, e.mod, e.bs, e.bsz, e.funs, e.frf, e.hok, e.bare⟩
section
variable {X : Cx} {pins : List (Addr × Obj)} {σ : St} {H : Hp} {s s' : Shared}
theorem Inv.env0 (I : Inv X pins σ H s) : Env0 X.prog X.w X.K X.mg X.base X.A X.stack s H :=
  ⟨I.ok.frames, I.ok.mod, I.bs, Nat.le_trans I.ok.bsz I.sz, I.stack, I.stkFree, I.hok, I.bare⟩
theorem Inv.after {Q : VK} {u : Value} (I : Inv X pins σ H s) (h : CE X.stack X.prog X.w H s Q u s') : EP X pins σ Q u s' := by
  obtain ⟨v, H', os, bare, un, hok, r, q⟩ := h
  obtain ⟨hh, g, d, t, os'⟩ := s'
  obtain rfl : os' = s.os := os
  exact ⟨v, H', I.call (h' := hh) (g' := g) (d' := d) (t' := t) (ch := []) un hok bare (fun b z => absurd z (by simp)), r, q⟩
end
def tCall (sp : Sp) (dvs : List V) (E : XK) (t : TA) : TE := fun σ H Q => t σ H fun vs H1 => sp (vs ++ dvs) H1 Q E
def Binds (K : PySem.W.Frag) (fd : FuncData) (ps : List Str) (ds : List Value) : Prop :=
  ∀ (s : Shared) (us : List Value), K.In s.heap → (us ++ ds).length = ps.length → BindsTo s fd ⟨us, []⟩ (ps.zip (us ++ ds))
theorem Binds.all {K : PySem.W.Frag} {fd : FuncData} {ps : List Str} (h : ∀ us : List Value, us.length = ps.length → bindArgs fd ⟨us, []⟩ = pure (ps.zip us)) : Binds K fd ps [] := fun s us _ hl => by
  rw [List.append_nil] at hl ⊢
  exact .of_eq (h us hl)
def Passes (CX : CXT) (X : Cx) (E : XK) : Prop := ∀ (pins : List (Addr × Obj)) (σ : St) (H : Hp) (s : Shared) (e : Value) (s' : Shared), Inv X pins σ H s → CX X.stack H s E e s' → X.xe e s'
section
variable {X : Cx} {CX : CXT} {k : Nat} {f C : Addr} {fd : FuncData} {ps : List Str} {sp : Sp} {dvs : List V} {ds : List Value} {E : XK} {x m : Str} {p pos apos : Pos} {e o : Expr} {es : List Expr} {ta : TE} {t : TA}
theorem run_fn {pins : List (Addr × Obj)} {σ : St} {H : Hp} {s : Shared} {Q : VK} {us : List Value} {vs : List V} (F : FnOk X.prog X.w X.K X.mg X.base CX k f fd ps sp) (hr : Room k X.A) (hb : Binds X.K fd ps ds) (hd : Vals dvs ds) (hx : Passes CX X E)
    (I : Inv X pins σ H s) (r : Vals vs us) (h : sp (vs ++ dvs) H Q E) : wpAny (model X.prog X.w) X.A (call (.ref f) us) (EP X pins σ Q) X.xe s := by
  have r2 : Vals (vs ++ dvs) (us ++ ds) := r.append hd
  have hl : (us ++ ds).length = ps.length := by rw [← r2.length]; exact F.len _ _ _ _ h
  refine wpAny_call (codeAny_mono (F.run X.A X.stack s H ⟨us, []⟩ (us ++ ds) (vs ++ dvs) Q E hr I.env0 (hb s us I.kIn hl) r2 h) fun r s' hq => ?_)
  cases r with
  | error e => exact hx pins σ H s e s' I hq
  | ok fl =>
    cases fl with
    | ret u => exact I.after hq
    | next => exact False.elim hq
    | brk => exact False.elim hq
    | cont => exact False.elim hq
theorem pe_call (F : FnOk X.prog X.w X.K X.mg X.base CX k f fd ps sp) (hr : Room k X.A) (hg : Gl X x) (hm : X.mg x = some (.ref f)) (hk : PySem.W.keepIn X.K (.ref f) = true) (hb : Binds X.K fd ps ds) (hd : Vals dvs ds) (hx : Passes CX X E)
    (ha : PA X (e :: es) t) (hdb : (x == ("__debug__" : Str)) = false := by decide) (he : starEach (e :: es) X.env = (false, eval e X.env) :: starEach es X.env := by rfl) (hpl : (backTo pos (starEach es X.env)).any (·.1) = false := by rfl) :
    PE X (.Call (.Name x p) (e :: es) [] pos) (tCall sp dvs E t) := by
  intro pins s σ H Q I h
  refine wpAny_Call_Name_kw (ld_glob I hg hm ?_ hdb)
  refine PySem.W.callWith_K (h₀ := X.base) I.ok.mod.kin hk (thn (ha pos pins s σ H _ I h) fun us s1 ⟨vs, H1, I1, r, q⟩ => ⟨I1.kIn, ?_⟩) he hpl
  exact run_fn F hr hb hd hx I1 r q
structure Mk (K : PySem.W.Frag) (C f : Addr) : Prop where
  makes : PySem.W.makesIn K C = true
  init : PySem.W.findIn K (.ref C) "__init__" = some (some (.ref f))
  fn : PySem.W.isFn K (.ref f) = true
  kp : PySem.W.keepIn K (.ref C) = true
end
section
variable {X : Cx} {CX : CXT} {k : Nat} {f C : Addr} {fd : FuncData} {ps ks : List Str} {sp : Sp} {E : XK} {x m : Str} {p pos apos kpos : Pos} {e o : Expr} {es : List Expr} {kws : List Keyword} {te ta : TE} {t tk : TA} {nm : Option Str}
structure KBinds (K : PySem.W.Frag) (fd : FuncData) (ps ks : List Str) (g : List Value → List Value → List Value) (gV : List V → List V → List V) : Prop where
  to : ∀ (s : Shared) (us ws : List Value), K.In s.heap → (g us ws).length = ps.length → BindsTo s fd ⟨us, ks.zip ws⟩ (ps.zip (g us ws))
  rel : ∀ {vs : List V} {us : List Value} {zs : List V} {ws : List Value}, Vals vs us → Vals zs ws → Vals (gV vs zs) (g us ws)
variable {g : List Value → List Value → List Value} {gV : List V → List V → List V}
end
structure FnScope (N P : List Str) (sc : Scope) : Prop where
  kind : sc.kind = .function
  co : sc.isCoroutine = false
  gen : sc.isGenerator = false
  nd : N.Nodup
  pre : N.take P.length = P
  par : ∀ x ∈ P, sc.names.lookup x = some .local ∨ sc.names.lookup x = some .cell
  nofree : ∀ y ∈ sc.names, y.2 ≠ .free
theorem bindL_out {kindOf : Str → Option NameKind} {x : Str} : ∀ {binds : List (Str × Value)} {m : Str → Option Value}, (∀ v, (x, v) ∉ binds) → bindL kindOf binds m x = m x
  | [], _, _ => rfl
  | (n, v) :: r, m, h => by
    unfold bindL
    rw [bindL_out fun w hw => h w (List.mem_cons_of_mem _ hw)]
    split
    · have : x ≠ n := by rintro rfl; exact h v List.mem_cons_self
      simp [this]
    · rfl
theorem bindC_out {kindOf : Str → Option NameKind} {x : Str} : ∀ {binds : List (Str × Value)} {m : Str → Option Value}, (∀ v, (x, v) ∉ binds) → bindC kindOf binds m x = m x
  | [], _, _ => rfl
  | (n, v) :: r, m, h => by
    unfold bindC
    rw [bindC_out fun w hw => h w (List.mem_cons_of_mem _ hw)]
    split
    · rfl
    · have : x ≠ n := by rintro rfl; exact h v List.mem_cons_self
      simp [this]
theorem bindL_get {kindOf : Str → Option NameKind} {x : Str} {v : Value} : ∀ {P : List Str} {vs : List Value} {i : Nat} {m : Str → Option Value}, P.Nodup → P[i]? = some x → vs[i]? = some v → kindOf x = some .local →
    bindL kindOf (P.zip vs) m x = some v
  | [], _, _, _, _, h, _, _ => by simp at h
  | _ :: _, [], _, _, _, _, h, _ => by simp at h
  | p :: P, w :: vs, 0, m, nd, h1, h2, hk => by
    simp at h1 h2; subst h1; subst h2
    show bindL kindOf ((p, w) :: P.zip vs) m p = _
    unfold bindL
    rw [bindL_out fun v hv => (List.nodup_cons.mp nd).1 (List.of_mem_zip hv).1, if_pos hk]
    simp
  | p :: P, w :: vs, i + 1, m, nd, h1, h2, hk => by
    show bindL kindOf ((p, w) :: P.zip vs) m x = _
    unfold bindL
    exact bindL_get (i := i) (List.nodup_cons.mp nd).2 (by simpa using h1) (by simpa using h2) hk
theorem bindC_get {kindOf : Str → Option NameKind} {x : Str} {v : Value} : ∀ {P : List Str} {vs : List Value} {i : Nat} {m : Str → Option Value}, P.Nodup → P[i]? = some x → vs[i]? = some v → kindOf x ≠ some .local →
    bindC kindOf (P.zip vs) m x = some v
  | [], _, _, _, _, h, _, _ => by simp at h
  | _ :: _, [], _, _, _, _, h, _ => by simp at h
  | p :: P, w :: vs, 0, m, nd, h1, h2, hk => by
    simp at h1 h2; subst h1; subst h2
    show bindC kindOf ((p, w) :: P.zip vs) m p = _
    unfold bindC
    rw [bindC_out fun v hv => (List.nodup_cons.mp nd).1 (List.of_mem_zip hv).1, if_neg hk]
    simp
  | p :: P, w :: vs, i + 1, m, nd, h1, h2, hk => by
    show bindC kindOf ((p, w) :: P.zip vs) m x = _
    unfold bindC
    exact bindC_get (i := i) (List.nodup_cons.mp nd).2 (by simpa using h1) (by simpa using h2) hk
def start (N : List Str) (vs : List V) : St := vs.map some ++ List.replicate (N.length - vs.length) none
def cxOf (CX : CXT) (P : Program) (w : World) (K : PySem.W.Frag) (mg : Str → Option Value) (base : Heap) (N : List Str) (qual : Str) (scope : Scope) (f : Addr) (cd : Value) (A : Around) (outer : List Env) (s : Shared) (H : Hp) (E : XK) : Cx where
  prog := P
  w := w
  K := K
  mg := mg
  base := base
  A := A.deeper (envOfC qual scope s.heap.objs.size f cd)
  N := N
  s_0 := s
  H_0 := H
  env := envOfC qual scope s.heap.objs.size f cd
  outer := outer
  stack := envOfC qual scope s.heap.objs.size f cd :: outer
  ex := []
  calm := true
  fn := fun _ => true
  pn := []
  xe := fun e s' => wpAny (model P w) (A.deeper (envOfC qual scope s.heap.objs.size f cd)) (leaving (envOfC qual scope s.heap.objs.size f cd) e) (fun _ s'' => CX outer H s E e s'') (fun e' s'' => CX outer H s E e' s'') s'
theorem cell_has {sc : Scope} {n : Nat} {x : Str} (h : sc.names.lookup x = some .cell) : ∃ c, (cellsFrom n sc.names []).lookup x = some c := by
  have q := PySem.W.cellsFrom_some sc.names n [] (.inl h)
  exact Option.isSome_iff_exists.mp q
theorem inv_start {CX : CXT} {P : Program} {w : World} {K : PySem.W.Frag} {mg : Str → Option Value} {base : Heap} {N ps : List Str} {qual : Str} {scope : Scope} {f : Addr} {cd : Value} {A : Around} {outer : List Env} {s s1 : Shared} {H : Hp} {E : XK} {us : List Value} {vs : List V}
    (S : FnScope N ps scope) (hd : A.handled = none) (e0 : Env0 P w K mg base A outer s H) (hl : vs.length = ps.length) (r : Vals vs us)
    (x : InCallC s s.heap.objs.size (bindL (envOfC qual scope s.heap.objs.size f cd).kindOf (ps.zip us) fun _ => none) (cellsFrom (s.heap.objs.size + 1) scope.names []) (bindC (envOfC qual scope s.heap.objs.size f cd).kindOf (ps.zip us) fun _ => none) s1) :
    Inv (cxOf CX P w K mg base N qual scope f cd A outer s H E) [] (start N vs) H s1 := by
  have hpl : ps.length ≤ N.length := by have := congrArg List.length S.pre; rw [List.length_take] at this; omega
  obtain ⟨h1, tk, rfl, hk⟩ := x.done
  have noA : ∀ b : Addr, b ∉ (cxOf CX P w K mg base N qual scope f cd A outer s H E).ex := fun b z => absurd (show b ∈ ([] : List Addr) from z) (by simp)
  refine ⟨⟨e0.mod, S.kind, rfl, rfl, Nat.le_refl _, fun y z c h1 h2 => ?_, fun y hy => ?_, fun y c _ h => ?_, fun _ => hd, Around.frames_deeper e0.frames, .inr ⟨rfl, rfl⟩, fun b z => absurd z (noA b), e0.bs, e0.bsz, fun b _ _ => noA b, fun b z => absurd z (noA b), e0.funs, e0.frf⟩,
    rfl, e0.bare, Un.kept hk, ⟨_, x.toInCall.ns, fun i y v h1 h2 h3 => ?_⟩, fun y c h => ⟨_, x.cell y c h⟩, e0.hok.fresh (Nat.le_refl _), fun y c h => ?_, fun p hp => absurd (show p ∈ ([] : List (Addr × Obj)) from hp) (by simp), e0.hok.kept hk, ?_⟩
  · exact name_of_addr x.apart (PySem.mem_of_lookup h1) (PySem.mem_of_lookup h2)
  · have hy : scope.names.lookup y = some .cell ∨ scope.names.lookup y = some .free := hy
    rcases hy with hy | hy
    · exact cell_has hy
    · exact absurd rfl (S.nofree _ (PySem.mem_of_lookup hy))
  · exact Nat.le_of_lt (x.above y c (PySem.mem_of_lookup h))
  · have hi : i < vs.length := by
      unfold start at h2
      by_cases hi : i < vs.length
      · exact hi
      · rw [List.getElem?_append_right (by simpa using hi)] at h2
        rw [List.getElem?_replicate] at h2
        split at h2 <;> cases h2
    have ha : vs[i]? = some v := by
      unfold start at h2
      rw [List.getElem?_append_left (by simpa using hi), List.getElem?_map] at h2
      cases e : vs[i]? with
      | none => rw [e] at h2; cases h2
      | some a => rw [e] at h2; cases h2; rfl
    obtain ⟨u, hu, rv⟩ := r.get ha
    have hp : ps[i]? = some y := by
      rw [← S.pre, List.getElem?_take_of_lt (by omega)]; exact h1
    have ndP : ps.Nodup := by rw [← S.pre]; exact S.nd.sublist (List.take_sublist _ _)
    refine ⟨u, rv, ?_⟩
    rcases S.par y (List.mem_of_getElem? hp) with k | k
    · exact .inl ⟨k, bindL_get ndP hp hu k⟩
    · obtain ⟨c, e⟩ := cell_has (n := s.heap.objs.size + 1) k
      refine .inr ⟨.inl k, c, e, ?_⟩
      have q := x.cell y c e
      rw [bindC_get ndP hp hu (by show scope.names.lookup y ≠ _; rw [k]; decide)] at q
      exact q
  · exact e0.hok.fresh (Nat.le_of_lt (x.above y c (PySem.mem_of_lookup h)))
  · unfold start
    show _ = N.length
    rw [List.length_append, List.length_map, List.length_replicate]
    omega
theorem fn_of {CX : CXT} {P : Program} {w : World} {K : PySem.W.Frag} {mg : Str → Option Value} {base : Heap} {k : Nat} {f : Addr} {name qual : Str} {params : Arguments} {body : List Stmt} {scope : Scope} {dV kV doc pm cdv ct oc : Value} {an od : Option Addr}
    {osl : Array (Option Value)} {N ps : List Str} {sp : Sp} (lk : K.lookup f = some ⟨oc, od, .func (PySem.W.fnOf name qual params body scope dV kV doc pm an cdv ct), osl⟩) (hcd : PySem.W.codeIn K cdv qual = true) (S : FnScope N ps scope)
    (len : ∀ vs H Q E, sp vs H Q E → vs.length = ps.length)
    (hbody : ∀ (A : Around) (outer : List Env) (s : Shared) (H : Hp) (vs : List V) (Q : VK) (E : XK), Room k (A.deeper (envOfC qual scope s.heap.objs.size f cdv)) → sp vs H Q E →
      ∃ t, PSs (cxOf CX P w K mg base N qual scope f cdv A outer s H E) body t ∧ t { nx := fun _ H' => Q .non H', rt := Q } (start N vs) H) :
    FnOk P w K mg base CX (k + 1) f (PySem.W.fnOf name qual params body scope dV kV doc pm an cdv ct) ps sp := by
  refine ⟨len, fun A outer s H args us vs Q E hr e0 hb r hsp => ?_⟩
  have hl := len _ _ _ _ hsp
  have KX : K.In s.heap := e0.mod.kin.keeps fun b o e => (e0.bs b o e).1
  have lim : s.heap.NoLimit := e0.mod.nolimit.keeps fun b o e => (e0.bs b o e).1
  have hkind : ∀ y ∈ ps.zip us, scope.names.lookup y.1 = some .local ∨ (scope.names.lookup y.1 = some .cell ∧ ((cellsFrom (s.heap.objs.size + 1) scope.names []).lookup y.1).isSome = true) := fun ⟨n, v⟩ hy => by
    rcases S.par n (List.of_mem_zip hy).1 with q | q
    · exact .inl q
    · exact .inr ⟨q, PySem.W.cellsFrom_some _ _ _ (.inl q)⟩
  refine codeAny_call_function hr.depth (KX _ _ lk) rfl S.co S.gen rfl (PySem.W.codeRec_of KX hcd) (hb _ _ _ _ ?_)
  refine wpAny_newFunctionEnv_cells S.kind hkind fun env he s1 x => ?_
  subst he
  refine ⟨lim.keeps x.toInCall.keep, codeAny_func ?_⟩
  obtain ⟨t, ht, hq⟩ := hbody A outer s H vs Q E (hr.deeper _) hsp
  have I : Inv (cxOf CX P w K mg base N qual scope f cdv A outer s H E) [] (start N vs) H s1 := inv_start S hr.hd e0 hl r x
  refine wpAny_mono (ht [] s1 (start N vs) H _ I hq) (fun fl s' hs => ?_) fun e s' hs => hs
  have fin : ∀ {σ' : St} {H' : Hp} {v : V} {u : Value}, Inv (cxOf CX P w K mg base N qual scope f cdv A outer s H E) [] σ' H' s' → RelV v u → Q v H' → CE outer P w H s Q u s' :=
    fun {σ' H' v u} J rv q => ⟨v, H', J.os, J.bare, J.base, J.hok, rv, q⟩
  cases fl with
  | ret u =>
    obtain ⟨v, σ', H', J, rv, q⟩ := hs
    exact fin J rv q
  | next =>
    obtain ⟨σ', H', J, q⟩ := hs
    exact fin (v := V.non) (u := Value.none) J rfl q
  | brk =>
    obtain ⟨_, _, _, q⟩ := hs
    exact False.elim q
  | cont =>
    obtain ⟨_, _, _, q⟩ := hs
    exact False.elim q
end L2
namespace L2
open PySem PySem.Spec PyProof.Rows
section
variable {X : Cx} {x : Str} {p pos : Pos} {e : Expr} {es : List Expr} {t : TA} {id T : String} {r : List V → Hp → VK → Prop}
def tCB (r : List V → Hp → VK → Prop) (t : TA) : TE := fun σ H Q => t σ H fun vs H1 => r vs H1 Q
theorem pe_callB (hc : CallR X (.builtin id) r) (hg : Gl X x) (hm : X.mg x = none) (hv : bootBuiltins x = some (.builtin id)) (ha : PA X (e :: es) t) (hn : x ≠ "__name__" := by decide) (hdb : (x == ("__debug__" : Str)) = false := by decide)
    (he : starEach (e :: es) X.env = (false, eval e X.env) :: starEach es X.env := by rfl) (hpl : (backTo pos (starEach es X.env)).any (·.1) = false := by rfl) : PE X (.Call (.Name x p) (e :: es) [] pos) (tCB r t) := by
  intro pins s σ H Q I h
  refine wpAny_Call_Name_kw (ld_blt I hg hm hv ?_ hn hdb)
  exact PyProof.Rows.callWith_builtin1 (thn (ha pos pins s σ H _ I h) fun us s1 ⟨vs, H1, I1, r1, q1⟩ => hc pins s1 σ H1 vs us Q I1 r1 q1) he hpl
theorem pe_callTy (hc : CallR X (.type T) r) (hg : Gl X x) (hm : X.mg x = none) (hv : bootBuiltins x = some (.type T)) (ha : PA X (e :: es) t) (hn : x ≠ "__name__" := by decide) (hdb : (x == ("__debug__" : Str)) = false := by decide)
    (he : starEach (e :: es) X.env = (false, eval e X.env) :: starEach es X.env := by rfl) (hpl : (backTo pos (starEach es X.env)).any (·.1) = false := by rfl) : PE X (.Call (.Name x p) (e :: es) [] pos) (tCB r t) := by
  intro pins s σ H Q I h
  refine wpAny_Call_Name_kw (ld_blt I hg hm hv ?_ hn hdb)
  exact PyProof.Rows.callWith_type1 (thn (ha pos pins s σ H _ I h) fun us s1 ⟨vs, H1, I1, r1, q1⟩ => hc pins s1 σ H1 vs us Q I1 r1 q1) he hpl
end
end L2
namespace HT
open PySem PyProof.Rows
def lexLt : List Int → List Int → Bool
  | [], [] => false
  | [], _ :: _ => true
  | _ :: _, [] => false
  | x :: xs, y :: ys => if x = y then lexLt xs ys else decide (x < y)
section
open PySem.SeqAt
open PySem.AutoSeq1 (wpAny_loadPart')
open PySem.MeetsSeq PySem.MeetsSeq2 PySem.MeetsSeq3
end
section
variable {prog : Program} {w : World} {A : Around} {E : Value → Shared → Prop} {s : Shared}
theorem cat_tup {t b : Addr} {vs ws : List Value} {Q : Value → Shared → Prop} (ht : IsTup s.heap t vs.toArray) (hb : IsTup s.heap b ws.toArray) (hv : vs ≠ [])
    (h1 : ws = [] → Q (.ref t) s) (h2 : ws ≠ [] → Q (.ref s.heap.objs.size) { s with heap := s.heap.push { cls := .type "tuple", data := .seq (vs ++ ws).toArray } })
    (hsz : vs.length + ws.length ≤ sizeLine) : wpAny (model prog w) A (binaryOp .Add (.ref t) (.ref b)) Q E s := by
  obtain ⟨⟨cls, dd, data, sl⟩, ho, hc, n, hd⟩ := id ht
  obtain ⟨⟨cls2, dd2, data2, sl2⟩, ho2, hc2, n2, hd2⟩ := id hb
  simp only at hc hd hc2 hd2
  subst hc hd hc2 hd2
  have e : vs.toArray ++ ws.toArray = (vs ++ ws).toArray := by simp
  by_cases hw : ws = []
  · exact concat_meets ⟨_, ho, rfl⟩ ⟨_, ho2, rfl⟩ noFill_tuple_add seq_tuple_add PySem.F.slot_tuple_add PySem.F.entry_tuple_add (PySem.F.args_tuple_add_2 _ _)
      (tuple_addW1 t b vs.toArray ws.toArray n n2 dd dd2 sl sl2 (by simpa using hv) (by simp [hw])) ⟨ho, ho2, h1 hw⟩
  · refine concat_meets ⟨_, ho, rfl⟩ ⟨_, ho2, rfl⟩ noFill_tuple_add seq_tuple_add PySem.F.slot_tuple_add PySem.F.entry_tuple_add (PySem.F.args_tuple_add_2 _ _)
      (tuple_addW2 t b vs.toArray ws.toArray n n2 dd dd2 sl sl2 (by simpa using hv) (by simpa using hw) (by rw [List.size_toArray, List.size_toArray]; exact hsz)) ⟨ho, ho2, ?_⟩
    rw [e]
    exact h2 hw
def sIx (n d : Nat) : Option Int → Nat
  | none => d
  | some v => if v < 0 then (v + (n : Int)).toNat else min v.toNat n
theorem sIx_none (n d : Nat) : sIx n d none = d := rfl
theorem sIx_nat (n d k : Nat) : sIx n d (some (k : Int)) = min k n := by
  show (if (k : Int) < 0 then ((k : Int) + (n : Int)).toNat else min (k : Int).toNat n) = min k n
  rw [if_neg (by omega), Int.toNat_natCast]
theorem sIx_le (n d : Nat) (hd : d ≤ n) (o : Option Int) : sIx n d o ≤ n := by
  cases o with
  | none => exact hd
  | some v =>
    show (if v < 0 then (v + (n : Int)).toNat else min v.toNat n) ≤ n
    by_cases hv : v < 0
    · rw [if_pos hv]; omega
    · rw [if_neg hv]; exact Nat.min_le_right _ _
theorem clip_eq (v : Int) (n d : Nat) : (if v < 0 then max (v + (n : Int)) 0 else min v (n : Int)) = ((sIx n d (some v) : Nat) : Int) := by
  show (if v < 0 then max (v + (n : Int)) 0 else min v (n : Int)) = (((if v < 0 then (v + (n : Int)).toNat else min v.toNat n) : Nat) : Int)
  by_cases hv : v < 0
  · simp only [if_pos hv]; omega
  · simp only [if_neg hv]; omega
theorem adjust_gen (lo hi : Option Int) (n : Nat) : Builtin.Slice.sliceAdjust lo hi 1 (n : Int) = (((sIx n 0 lo : Nat) : Int), ((sIx n n hi : Nat) : Int)) := by
  have h1 : ¬ ((1 : Int) < 0) := by omega
  unfold Builtin.Slice.sliceAdjust
  simp only [h1, if_false]
  refine Prod.ext ?_ ?_
  · cases lo with
    | none => rfl
    | some v => exact clip_eq v n 0
  · cases hi with
    | none => rfl
    | some v => exact clip_eq v n n
theorem places_gen (i j : Nat) : Builtin.Slice.slicePlaces (i : Int) (j : Int) 1 = j - i := by
  unfold Builtin.Slice.slicePlaces
  have h1 : (1 : Int) > 0 := by omega
  simp only [h1, if_true, Int.ediv_one]
  split <;> omega
theorem slicePart_ {v : Value} {o : Option Int} {Q : Option Int → Shared → Prop} (p : IsPart v o) (h : Q o s) : wpAny (model prog w) A (Builtin.Slice.slicePartIndex v) Q E s := by
  cases p with
  | none => exact slicePart_none h
  | int i t => exact slicePart_int h
theorem sliceApplied_gen {sl : Addr} {vl vu : Value} {lo hi : Option Int} {n : Nat} {Q : Int × Int × Nat → Shared → Prop} (hs : s.heap.IsSliceOf sl vl vu .none) (pl : IsPart vl lo) (pu : IsPart vu hi)
    (h : Q (((sIx n 0 lo : Nat) : Int), 1, sIx n n hi - sIx n 0 lo) s) : wpAny (model prog w) A (Builtin.Slice.sliceApplied (.ref sl) (pure (n : Int))) Q E s := by
  obtain ⟨os, hos, hcs, hds⟩ := id hs
  unfold Builtin.Slice.sliceApplied Builtin.Slice.sliceFields
  refine wpAny_bind (wpAny_bind (wpAny_field hos hds (x := vl) rfl (wpAny_bind (wpAny_field hos hds (x := vu) rfl (wpAny_bind (wpAny_field hos hds (x := .none) rfl (wpAny_pure ?_)))))))
  refine wpAny_bind (slicePart_none ?_)
  show wpAny _ _ (if ((1 : Int) == 0) = true then _ else _) _ _ s
  rw [if_neg (by decide)]
  refine wpAny_bind (slicePart_ pl (wpAny_bind (slicePart_ pu (wpAny_bind (wpAny_pure ?_)))))
  show wpAny _ _ (match Builtin.Slice.sliceAdjust lo hi 1 (n : Int) with | (lo, hi) => pure (lo, (1 : Int), Builtin.Slice.slicePlaces lo hi 1)) _ _ s
  rw [adjust_gen lo hi n]
  show wpAny _ _ (pure (((sIx n 0 lo : Nat) : Int), (1 : Int), Builtin.Slice.slicePlaces ((sIx n 0 lo : Nat) : Int) ((sIx n n hi : Nat) : Int) 1)) _ _ s
  rw [places_gen]
  exact wpAny_pure h
theorem pick_gen (xs : Array Value) (i k : Nat) : ((List.range k).filterMap fun (m : Nat) => xs[((i : Int) + (m : Int) * 1).toNat]?).toArray = ((xs.toList.drop i).take k).toArray := by
  have e : (fun (m : Nat) => xs[((i : Int) + (m : Int) * 1).toNat]?) = fun m => xs[i + m]? := by
    funext m
    have : ((i : Int) + (m : Int) * 1).toNat = i + m := by omega
    rw [this]
  rw [e]
  have := pick_run xs i k
  rw [List.filterMap_map] at this
  have e2 : ((fun x => xs[x]?) ∘ fun x => i + x) = fun m => xs[i + m]? := rfl
  rw [e2] at this
  rw [this]
theorem getItem_tuple_cut {t sl : Addr} {items : Array Value} {vl vu : Value} {lo hi : Option Int} {Q : Value → Shared → Prop} (ht : IsTup s.heap t items) (hs : s.heap.IsSliceOf sl vl vu .none) (pl : IsPart vl lo) (pu : IsPart vu hi)
    (hw : ¬ (sIx items.size 0 lo = 0 ∧ sIx items.size items.size hi = items.size))
    (h : Q (.ref s.heap.objs.size) { s with heap := s.heap.push { cls := .type "tuple", data := .seq ((items.toList.drop (sIx items.size 0 lo)).take (sIx items.size items.size hi - sIx items.size 0 lo)).toArray } })
    (hsz : items.size ≤ sizeLine) : wpAny (model prog w) A (getItem (.ref t) (.ref sl)) Q E s := by
  have htake : sizeOk (.seq ((items.toList.drop (sIx items.size 0 lo)).take (sIx items.size items.size hi - sIx items.size 0 lo)).toArray) := by
    show ((items.toList.drop (sIx items.size 0 lo)).take (sIx items.size items.size hi - sIx items.size 0 lo)).toArray.size ≤ sizeLine
    rw [List.size_toArray, List.length_take, List.length_drop, Array.length_toList]
    omega
  have hj : sIx items.size items.size hi ≤ items.size := sIx_le _ _ (Nat.le_refl _) hi
  obtain ⟨os, hos, hcs, hds⟩ := id hs
  have hTs : s.TypeIs (.ref sl) "slice" := ⟨os, hos, hcs⟩
  unfold getItem
  try with_reducible refine wpAny_holding ?_
  first | refine wpAny_bind (wpAny_pure ?_) | skip
  refine wpAny_bind (wpAny_sequenceKey ht.typeIs (by decide) ?_)
  refine wpAny_bind (wpAny_callSpecial?_slot (name := Str.ofString "__getitem__") ht.typeIs PyProof.Rows.slot_tuple_getitem
    (wpAny_call_entry PyProof.Rows.slot_tuple_getitem ht.typeIs entry_tuple_getitem ?_ (args_tuple_getitem _ _)))
  show wpAny _ _ (Builtin.Tuple.tupleItemsOf (.ref t) >>= _) _ _ s
  refine wpAny_bind (tupleItemsOf_ ht ?_)
  refine wpAny_bind (wpAny_typeOf hTs ?_)
  rw [if_pos (by decide)]
  refine wpAny_bind (sliceApplied_gen hs pl pu ?_)
  have hno : ¬ ((((sIx items.size 0 lo : Nat) : Int) == 0 && (1 : Int) == 1 && (sIx items.size items.size hi - sIx items.size 0 lo) == items.size) = true) := by
    intro q
    rw [Bool.and_eq_true, Bool.and_eq_true] at q
    have q1 : ((sIx items.size 0 lo : Nat) : Int) = 0 := eq_of_beq q.1.1
    have q2 : sIx items.size items.size hi - sIx items.size 0 lo = items.size := eq_of_beq q.2
    exact hw ⟨by omega, by omega⟩
  show wpAny _ _ (if (((sIx items.size 0 lo : Nat) : Int) == 0 && (1 : Int) == 1 && (sIx items.size items.size hi - sIx items.size 0 lo) == items.size) = true then _ else _) _ _ s
  rw [if_neg hno, pick_gen]
  first
    | exact wpAny_bind (m := Builtin.Tuple.tupleExact _) (wpAny_newObj_type (wpAny_pure ⟨_, rfl, wpAny_pure h⟩) htake)
    | exact wpAny_bind (m := Builtin.Tuple.tupleExact _) (wpAny_newObj_type (wpAny_bind (wpAny_pure (wpAny_pure ⟨_, rfl, wpAny_pure h⟩))) htake)
    | exact wpAny_bind (wpAny_bind (m := Builtin.Tuple.tupleExact _) (wpAny_newObj_type (wpAny_pure (wpAny_pure ⟨_, rfl, wpAny_pure h⟩)) htake))
    | exact wpAny_bind (wpAny_bind (m := Builtin.Tuple.tupleExact _) (wpAny_newObj_type (wpAny_pure ⟨_, rfl, wpAny_pure h⟩) htake))
end
end HT
namespace L2
open PySem PySem.Spec PyProof.Rows
abbrev TO := St → Hp → (Option Int → Hp → Prop) → Prop
def PO (X : Cx) (e : Option Expr) (t : TO) : Prop :=
  ∀ (pins : List (Addr × Obj)) (s : Shared) (σ : St) (H : Hp) (Q : Option Int → Hp → Prop), Inv X pins σ H s → t σ H Q →
    wpAny (model X.prog X.w) X.A (evalPart e X.env) (fun u s' => ∃ o H', Inv X pins σ H' s' ∧ IsPart u o ∧ Q o H') X.xe s
def tNoPart : TO := fun _ H Q => Q none H
def tPart (t : TE) : TO := fun σ H Q => t σ H fun x H1 => ∃ i, x = .int i ∧ Q (some i) H1
section
variable {X : Cx} {e : Expr} {te : TE} {lo hi : Option Expr} {tl th : TO} {pos p2 : Pos}
theorem po_none : PO X none tNoPart := by
  intro pins s σ H Q I h
  rw [evalPart_none]
  exact wpAny_pure ⟨none, H, I, .none, h⟩
theorem po_some (h : PE X e te) : PO X (some e) (tPart te) := by
  intro pins s σ H Q I hw
  rw [evalPart_some]
  refine thn (h pins s σ H _ I hw) fun u s1 ⟨x, H1, I1, r1, q1⟩ => ?_
  obtain ⟨i, rfl, q⟩ := q1
  obtain ⟨t, rfl⟩ := r1
  exact ⟨some i, H1, I1, .int i t, q⟩
def SlR (X : Cx) (r : V → Option Int → Option Int → Hp → VK → Prop) : Prop :=
  ∀ (pins : List (Addr × Obj)) (s : Shared) (σ : St) (H : Hp) (x : V) (v vl vu : Value) (lo hi : Option Int) (sl : Addr) (Q : VK), Inv X pins σ H s → RelV x v → s.heap.IsSliceOf sl vl vu .none → IsPart vl lo → IsPart vu hi → r x lo hi H Q →
    ∃ T id, typeLookup (.type T) "__getitem__" = pure (some (.builtin id)) ∧ s.TypeIs v T ∧ wpAny (model X.prog X.w) X.A (getItem v (.ref sl)) (EP X pins σ Q) X.xe s
theorem SlR.or {r r' : V → Option Int → Option Int → Hp → VK → Prop} (h : SlR X r) (h' : SlR X r') : SlR X (fun x lo hi H Q => r x lo hi H Q ∨ r' x lo hi H Q) := by
  intro pins s σ H x v vl vu lo hi sl Q I rx hs pl pu q
  rcases q with q | q
  · exact h pins s σ H x v vl vu lo hi sl Q I rx hs pl pu q
  · exact h' pins s σ H x v vl vu lo hi sl Q I rx hs pl pu q
def tSl (r : V → Option Int → Option Int → Hp → VK → Prop) (te : TE) (tl th : TO) : TE := fun σ H Q => te σ H fun x H1 => tl σ H1 fun l H2 => th σ H2 fun u H3 => r x l u H3 Q
theorem pe_slice {r : V → Option Int → Option Int → Hp → VK → Prop} (hr : SlR X r) (he : PE X e te) (hl : PO X lo tl) (hu : PO X hi th) : PE X (.Subscript e (.Slice lo hi none p2) pos) (tSl r te tl th) := by
  intro pins s σ H Q I h
  refine Subscript_ (thn (he pins s σ H _ I h) fun v s1 ⟨x, H1, I1, r1, q1⟩ => ?_)
  refine wpAny_Slice (thn (hl pins s1 σ H1 _ I1 q1) fun vl s2 ⟨l, H2, I2, pl, q2⟩ => thn (hu pins s2 σ H2 _ I2 q2) fun vu s3 ⟨u, H3, I3, pu, q3⟩ => ?_)
  rw [evalPart_none]
  refine wpAny_pure ?_
  have I4 : Inv X pins σ H3 { s3 with heap := s3.heap.push { cls := .type "slice", data := .fields #[vl, vu, .none] } } := I3.kept (t' := s3.toks) fun b ob q => Heap.get?_push_of_some _ q
  obtain ⟨T, id, hT, ht, hg⟩ := hr pins { s3 with heap := s3.heap.push { cls := .type "slice", data := .fields #[vl, vu, .none] } } σ H3 x v vl vu l u s3.heap.objs.size Q I4 r1 (Heap.IsSliceOf.new ..) pl pu q3
  show wpAny (model X.prog X.w) X.A (subscriptTail e (.Slice lo hi none p2) v (.ref s3.heap.objs.size)) (EP X pins σ Q) X.xe { s3 with heap := s3.heap.push { cls := .type "slice", data := .fields #[vl, vu, .none] } }
  exact tail_any (ops := [.ref s3.heap.objs.size, v]) ht hT hg (by with_unfolding_all rfl)
def cutV (xs : List V) (lo hi : Option Int) : List V := (xs.drop (HT.sIx xs.length 0 lo)).take (HT.sIx xs.length xs.length hi - HT.sIx xs.length 0 lo)
theorem cutV_length (xs : List V) (lo hi : Option Int) : (cutV xs lo hi).length ≤ xs.length := by
  unfold cutV
  rw [List.length_take, List.length_drop]
  omega
def rSlT (K : PySem.W.Frag) : V → Option Int → Option Int → Hp → VK → Prop := fun x lo hi H Q => ∃ a xs, x = .ref a ∧ SqT K H a xs ∧
  ¬ (HT.sIx xs.length 0 lo = 0 ∧ HT.sIx xs.length xs.length hi = xs.length) ∧ ∀ p, H p = none → Q (.ref p) (upd H p (.tup (cutV xs lo hi)))
theorem sl_tup : SlR X (rSlT X.K) := by
  intro pins s σ H x v vl vu lo hi sl Q I rx hs pl pu h
  obtain ⟨a, xs, rfl, hx, hw, q⟩ := h
  cases rx
  obtain ⟨its, r, ht, hz⟩ := I.tuple hx
  have hlen : its.toArray.size = xs.length := by rw [List.size_toArray]; exact r.length.symm
  refine ⟨"tuple", _, PyProof.Rows.slot_tuple_getitem.lookup, ht.typeIs, ?_⟩
  refine HT.getItem_tuple_cut ht hs pl pu (by rw [hlen]; exact hw) ?_ (by rw [hlen]; exact hz)
  rw [hlen]
  refine ⟨.ref s.heap.objs.size, _, I.laid (t' := s.toks) (o := .tup (cutV xs lo hi)) (fun b ob q => Heap.get?_push_of_some _ q) (Nat.le_refl _) ?_, rfl, q _ (I.hok.fresh (Nat.le_refl _))⟩
  exact ⟨Nat.le_trans (cutV_length xs lo hi) hz, _, (r.drop (HT.sIx xs.length 0 lo)).take (HT.sIx xs.length xs.length hi - HT.sIx xs.length 0 lo), IsTup.new _ _⟩
theorem Vals.nil_iff {xs : List V} {us : List Value} (r : Vals xs us) : us = [] ↔ xs = [] := by
  cases r with
  | nil => simp
  | cons _ _ => simp
end
end L2
namespace L2
open PySem PySem.Spec PyProof.Rows
def ixN (n : Nat) (i : Int) : Option Nat := if 0 ≤ i then (if i < n then some i.toNat else none) else if -(n : Int) ≤ i then some (i + n).toNat else none
def atI {α : Type} (xs : List α) (i : Int) : Option α := (ixN xs.length i).bind fun j => xs[j]?
theorem ixN_seq {n : Nat} {i : Int} {j : Nat} (h : ixN n i = some j) : seqIndex? i n = some j ∧ j < n ∧ -(n : Int) ≤ i ∧ i < n := by
  unfold ixN at h
  by_cases h0 : 0 ≤ i
  · rw [if_pos h0] at h
    by_cases h1 : i < n
    · rw [if_pos h1] at h
      have e : i.toNat = j := Option.some.inj h
      exact ⟨by rw [seqIndex_of h0 h1, e], by omega, by omega, h1⟩
    · rw [if_neg h1] at h; cases h
  · rw [if_neg h0] at h
    by_cases h1 : -(n : Int) ≤ i
    · rw [if_pos h1] at h
      have e : (i + n).toNat = j := Option.some.inj h
      exact ⟨by rw [seqIndex_neg (by omega) h1, e], by omega, h1, by omega⟩
    · rw [if_neg h1] at h; cases h
theorem atI_get {α : Type} {xs : List α} {i : Int} {v : α} (h : atI xs i = some v) : ∃ j, seqIndex? i xs.length = some j ∧ xs[j]? = some v ∧ j < xs.length ∧ -(xs.length : Int) ≤ i ∧ i < xs.length := by
  unfold atI at h
  cases e : ixN xs.length i with
  | none => rw [e] at h; cases h
  | some j =>
    rw [e] at h
    obtain ⟨h1, h2, h3, h4⟩ := ixN_seq e
    exact ⟨j, h1, h, h2, h3, h4⟩
theorem atI_last {α : Type} (xs : List α) (v : α) : atI (xs ++ [v]) (-1) = some v := by
  have hl : (xs ++ [v]).length = xs.length + 1 := by simp
  have e : ixN (xs ++ [v]).length (-1) = some xs.length := by
    unfold ixN
    rw [hl, if_neg (by decide), if_pos (by omega)]
    congr 1
    omega
  unfold atI
  rw [e]
  show (xs ++ [v])[xs.length]? = some v
  simp
def PlainIx (b : Expr) : Prop := ∀ o i, subscripted b false o i = operate [o, i] (getItem o i)
def IxR (X : Cx) (r : R2) : Prop :=
  ∀ (value slice : Expr) (pins : List (Addr × Obj)) (s : Shared) (σ : St) (H : Hp) (x y : V) (v u : Value) (Q : VK), Inv X pins σ H s → RelV x v → RelV y u → r x y H Q →
    subscripted slice false v u = operate [v, u] (getItem v u) → wpAny (model X.prog X.w) X.A (subscriptTail value slice v u) (EP X pins σ Q) X.xe s
def MtR (X : Cx) (id : String) (r : V → List V → Hp → VK → Prop) : Prop :=
  ∀ (pins : List (Addr × Obj)) (s : Shared) (σ : St) (H : Hp) (x : V) (xs : List V) (v : Value) (us : List Value) (Q : VK), Inv X pins σ H s → RelV x v → Vals xs us → r x xs H Q →
    wpAny (model X.prog X.w) X.A (call (.builtin id) (v :: us)) (EP X pins σ Q) X.xe s
section
variable {X : Cx} {a b : Expr} {ta tb : TE} {pos : Pos}
theorem IxR.or {r r' : R2} (h : IxR X r) (h' : IxR X r') : IxR X (fun x y H Q => r x y H Q ∨ r' x y H Q) := by
  intro value slice pins s σ H x y v u Q I rx ry q hs
  rcases q with q | q
  · exact h value slice pins s σ H x y v u Q I rx ry q hs
  · exact h' value slice pins s σ H x y v u Q I rx ry q hs
theorem MtR.or {id : String} {r r' : V → List V → Hp → VK → Prop} (h : MtR X id r) (h' : MtR X id r') : MtR X id (fun x xs H Q => r x xs H Q ∨ r' x xs H Q) := by
  intro pins s σ H x xs v us Q I rx rs q
  rcases q with q | q
  · exact h pins s σ H x xs v us Q I rx rs q
  · exact h' pins s σ H x xs v us Q I rx rs q
theorem pe_ix {r : R2} (hr : IxR X r) (ha : PE X a ta) (hb : PE X b tb) (hs : PlainIx b) : PE X (.Subscript a b pos) (tOp r ta tb) := by
  intro pins s σ H Q I h
  exact Subscript_ (binT ha hb I h fun v u s2 x y H2 I2 rx ry q => hr a b pins s2 σ H2 x y v u Q I2 rx ry q (hs _ _))
def rIxL (K : PySem.W.Frag) : R2 := fun x y H Q => ∃ p xs i v, x = .ref p ∧ y = .int i ∧ SqL K H p xs ∧ atI xs i = some v ∧ Q v H
def rIxT (K : PySem.W.Frag) : R2 := fun x y H Q => ∃ p xs i v, x = .ref p ∧ y = .int i ∧ SqT K H p xs ∧ atI xs i = some v ∧ Q v H
def rIxS : R2 := fun x y H Q => ∃ z i c, x = .str z ∧ y = .int i ∧ z.length ≤ sizeLine ∧ atI z.cps.toList i = some c ∧ Q (.str ⟨#[c]⟩) H
theorem ix_list : IxR X (rIxL X.K) := by
  intro value slice pins s σ H x y v u Q I rx ry h hs
  obtain ⟨p, xs, i, z, rfl, rfl, hq, he, q⟩ := h
  cases rx
  obtain ⟨t, rfl⟩ := ry
  obtain ⟨its, r, pl, hz⟩ := I.list hq
  obtain ⟨j, h1, h2, h3, h4, h5⟩ := atI_get he
  obtain ⟨w, ew, rw'⟩ := r.get h2
  have hl := r.length
  have hn := line63
  have fin : EP X pins σ Q w s := ⟨z, H, I, rw', q⟩
  by_cases h0 : 0 ≤ i
  · have hj : i.toNat = j := by
      rw [seqIndex_of h0 h5] at h1
      exact Option.some.inj h1
    exact item_listR pl.isList h0 (by omega) (by rw [hj]; simpa using ew) fin hs
  · have hj : (i + (its.toArray.size : Int)).toNat = j := by
      rw [seqIndex_neg (by omega) h4] at h1
      rw [List.size_toArray, ← hl]
      exact Option.some.inj h1
    exact subscriptTail_builtinR (x := w) pl.isList.typeIs slot_list_getitem.lookup
      (wpAny_getItem_list_neg (Q := fun r s' => r = w ∧ EP X pins σ Q r s') pl.isList (by omega) (by rw [List.size_toArray] <;> omega) (by omega) (by rw [hj]; simpa using ew) ⟨rfl, fin⟩) hs
theorem ix_tup : IxR X (rIxT X.K) := by
  intro value slice pins s σ H x y v u Q I rx ry h hs
  obtain ⟨p, xs, i, z, rfl, rfl, hq, he, q⟩ := h
  cases rx
  obtain ⟨t, rfl⟩ := ry
  obtain ⟨its, r, pl, hz⟩ := I.tuple hq
  obtain ⟨j, h1, h2, h3, h4, h5⟩ := atI_get he
  obtain ⟨w, ew, rw'⟩ := r.get h2
  have hl := r.length
  have hn := line63
  have fin : EP X pins σ Q w s := ⟨z, H, I, rw', q⟩
  exact subscriptTail_builtinR (x := w) pl.typeIs slot_tuple_getitem.lookup
    (getItem_tuple (j := j) (Q := fun r s' => r = w ∧ EP X pins σ Q r s') pl (by omega) (by omega) (by rw [List.size_toArray, ← hl]; exact h1) (by simpa using ew) ⟨rfl, fin⟩) hs
theorem ix_str : IxR X rIxS := by
  intro value slice pins s σ H x y v u Q I rx ry h hs
  obtain ⟨z, i, c, rfl, rfl, hz, he, q⟩ := h
  obtain ⟨t, rfl⟩ := rx
  obtain ⟨t', rfl⟩ := ry
  obtain ⟨j, h1, h2, h3, h4, h5⟩ := atI_get he
  have hl : z.cps.toList.length = z.length := by simp [Str.length]
  rw [hl] at h1 h4 h5
  have hn := line63
  exact tail_any (typeIs_str s z t) slot_str_getitem.lookup (getItem_str (c := c) (by
    have e1 : decide (i < -(2 ^ 63 : Int)) = false := decide_eq_false (by omega)
    have e2 : decide (i ≥ 2 ^ 63) = false := decide_eq_false (by omega)
    rw [e1, e2, Bool.or_false]) (by rw [h1]; simpa using h2) ⟨.str ⟨#[c]⟩, H, I.tok _, ⟨_, rfl⟩, q⟩) hs
def rIx (K : PySem.W.Frag) : R2 := fun x y H Q => rIxL K x y H Q ∨ rIxT K x y H Q ∨ rIxS x y H Q
theorem ix_seq : IxR X (rIx X.K) := ix_list.or (ix_tup.or ix_str)
theorem mapSeq_set (its : List Value) (n j : Nat) (u : Value) : Obj.mapSeq (·.setIfInBounds j u) { cls := .type "list", data := .seq its.toArray n } = { cls := .type "list", data := .seq (its.set j u).toArray n } := by
  simp [Obj.mapSeq]
theorem Inv.lst {pins : List (Addr × Obj)} {σ : St} {H : Hp} {s : Shared} {p : Addr} {xs : List V} (I : Inv X pins σ H s) (h : H p = some (.lst xs)) :
    ∃ (its : List Value) (n : Nat), Vals xs its ∧ s.heap.get? p = some { cls := .type "list", data := .seq its.toArray n } ∧ xs.length ≤ sizeLine := by
  obtain ⟨z, its, n, r, e⟩ := I.hok p _ h
  exact ⟨its, n, r, e, z⟩
theorem Inv.lstUpd {pins : List (Addr × Obj)} {σ : St} {H : Hp} {s : Shared} {p : Addr} {xs ys : List V} {its its' : List Value} {n n' : Nat} {f : Obj → Obj} (I : Inv X pins σ H s) (h : H p = some (.lst xs))
    (ho : s.heap.get? p = some { cls := .type "list", data := .seq its.toArray n }) (hf : f { cls := .type "list", data := .seq its.toArray n } = { cls := .type "list", data := .seq its'.toArray n' }) (r : Vals ys its') (hz : ys.length ≤ sizeLine) (t : Nat) :
    Inv X pins σ (upd H p (.lst ys)) { s with heap := s.heap.update p f, toks := t } := by
  have e : (s.heap.update p f).get? p = some { cls := .type "list", data := .seq its'.toArray n' } := by
    rw [Heap.get?_update_self f ho (by rw [hf] <;> rfl), hf]
  refine I.write (x := p) (e := p) (by rw [h]; trivial) (.inl rfl) (fun b u hb q => (Heap.get?_update_other _ _ (Ne.symm hb)).trans q) ⟨_, e⟩ ?_
  exact ⟨hz, its', n', r, e⟩
def rSetL : V → V → V → Hp → (Hp → Prop) → Prop := fun o i v H Q => ∃ p xs k j, o = .ref p ∧ i = .int k ∧ H p = some (.lst xs) ∧ ixN xs.length k = some j ∧ Q (upd H p (.lst (xs.set j v)))
theorem set_list : PSet X rSetL := by
  intro pins s σ H o i v ov iv u Q I ro ri rv h
  obtain ⟨p, xs, k, j, rfl, rfl, hp, hj, q⟩ := h
  cases ro
  obtain ⟨t, rfl⟩ := ri
  obtain ⟨its, n, r, ho, hz⟩ := I.lst hp
  obtain ⟨h1, h2, h3, h4⟩ := ixN_seq hj
  have hl := r.length
  have hn := line63
  have I' : Inv X pins σ (upd H p (.lst (xs.set j v))) { s with heap := s.heap.update p (Obj.mapSeq (·.setIfInBounds j u)) } :=
    I.lstUpd hp ho (mapSeq_set its n j u) (r.set rv j) (by rw [List.length_set]; exact hz) s.toks
  by_cases h0 : 0 ≤ k
  · have hk : k.toNat = j := by
      rw [seqIndex_of h0 h4] at h1
      exact Option.some.inj h1
    exact PySem.W.ki_setAt ho h0 (by omega) (by rw [List.size_toArray, ← hl]; exact h4) (by rw [hk]; exact ⟨_, I', q⟩)
  · have hk : (k + (its.toArray.size : Int)).toNat = j := by
      rw [seqIndex_neg (by omega) h3] at h1
      rw [List.size_toArray, ← hl]
      exact Option.some.inj h1
    exact PySem.W.ki_setBack ho (by omega) (by rw [List.size_toArray, ← hl]; exact h3) (by omega) (by rw [hk]; exact ⟨_, I', q⟩)
theorem slice_bounds (lo hi : Option Int) (n : Nat) : (sliceBounds lo hi none n).1 = ((HT.sIx n 0 lo : Nat) : Int) ∧ (sliceBounds lo hi none n).2.1 = ((HT.sIx n n hi : Nat) : Int) ∧ (sliceBounds lo hi none n).2.2 = 1 := by
  refine ⟨?_, ?_, rfl⟩
  · cases lo with
    | none => simp [sliceBounds, HT.sIx]
    | some i =>
      simp only [sliceBounds, HT.sIx, Option.getD_none, show (1 : Int) > 0 by decide, if_true]
      by_cases h : i < 0
      · simp only [h, if_true] <;> omega
      · simp only [h, if_false] <;> omega
  · cases hi with
    | none => simp [sliceBounds, HT.sIx]
    | some i =>
      simp only [sliceBounds, HT.sIx, Option.getD_none, show (1 : Int) > 0 by decide, if_true]
      by_cases h : i < 0
      · simp only [h, if_true] <;> omega
      · simp only [h, if_false] <;> omega
theorem slicePick_cut (its : List Value) (lo hi : Option Int) : slicePick its.toArray lo hi none = ((its.drop (HT.sIx its.length 0 lo)).take (HT.sIx its.length its.length hi - HT.sIx its.length 0 lo)).toArray := by
  obtain ⟨h1, h2, h3⟩ := slice_bounds lo hi its.toArray.size
  unfold slicePick
  rw [h1, h2, h3]
  simp only [sliceRange_one, pick_run, List.size_toArray] <;> rfl
def rSlL (K : PySem.W.Frag) : V → Option Int → Option Int → Hp → VK → Prop := fun x lo hi H Q => ∃ a xs, x = .ref a ∧ SqL K H a xs ∧ ∀ p, H p = none → Q (.ref p) (upd H p (.lst (cutV xs lo hi)))
theorem sl_list : SlR X (rSlL X.K) := by
  intro pins s σ H x v vl vu lo hi sl Q I rx hs pl pu h
  obtain ⟨a, xs, rfl, hx, q⟩ := h
  cases rx
  obtain ⟨its, r, ht, hz⟩ := I.list hx
  have hlen := r.length
  refine ⟨"list", _, slot_list_getitem.lookup, ht.isList.typeIs, ?_⟩
  refine wpAny_getItem_list_slice ht.isList hs pl pu .none (by simp) ?_ (by rw [List.size_toArray] <;> omega)
  rw [slicePick_cut, ← hlen]
  refine ⟨.ref s.heap.objs.size, _, I.laid (t' := s.toks) (o := .lst (cutV xs lo hi)) (fun b ob q => Heap.get?_push_of_some _ q) (Nat.le_refl _) ?_, rfl, q _ (I.hok.fresh (Nat.le_refl _))⟩
  exact ⟨Nat.le_trans (cutV_length xs lo hi) hz, _, 0, (r.drop (HT.sIx xs.length 0 lo)).take (HT.sIx xs.length xs.length hi - HT.sIx xs.length 0 lo), Heap.get?_push_size _ rfl⟩
theorem CallR.or {f : Value} {r r' : List V → Hp → VK → Prop} (h : CallR X f r) (h' : CallR X f r') : CallR X f (fun xs H Q => r xs H Q ∨ r' xs H Q) := by
  intro pins s σ H xs us Q I rs q
  rcases q with q | q
  · exact h pins s σ H xs us Q I rs q
  · exact h' pins s σ H xs us Q I rs q
theorem call_tuple_of : CallR X (.type "tuple") (fun xs H Q => ∃ p ys, xs = [.ref p] ∧ ((SqL X.K H p ys ∧ ∀ l, H l = none → Q (.ref l) (upd H l (.tup ys))) ∨ (SqT X.K H p ys ∧ Q (.ref p) H))) := by
  intro pins s σ H xs us Q I r h
  obtain ⟨p, ys, rfl, h⟩ := h
  obtain ⟨u, rfl, rx⟩ := vals1 r
  cases rx
  rcases h with ⟨hq, q⟩ | ⟨hq, q⟩
  · obtain ⟨its, r', pl, hz⟩ := I.list hq
    have hlen := r'.length
    refine call_tuple_list pl.isList (fun h' kp => ?_) (by simp only [List.size_toArray] <;> omega)
    have I1 : Inv X pins σ H { s with heap := h' } := I.kept (t' := s.toks) kp
    have I2 : Inv X pins σ (upd H h'.objs.size (.tup ys)) { s with heap := h'.push { cls := .type "tuple", data := .seq its.toArray } } :=
      I1.laid (t' := s.toks) (fun b o e => Heap.get?_push_of_some _ e) (Nat.le_refl _) (show ObjOk X.prog X.w _ _ _ (.tup ys) from ⟨hz, its, r', IsTup.new _ _⟩)
    exact ⟨.ref h'.objs.size, _, I2, rfl, q _ (I1.hok.fresh (Nat.le_refl _))⟩
  · obtain ⟨its, r', pl, hz⟩ := I.tuple hq
    exact call_tuple_same pl ⟨.ref p, H, I, rfl, q⟩
def tyV (K : PySem.W.Frag) (T : String) (x : V) (H : Hp) : Prop := match x with
  | .str _ => T = "str"
  | .int _ => T = "int"
  | .ref p => (T = "list" ∧ ∃ xs, SqL K H p xs) ∨ (T = "tuple" ∧ ∃ o, K.lookup p = some o ∧ o.cls = .type "tuple" ∧ o.dict = none) ∨
      (T = "dict" ∧ ((∃ kvs, H p = some (.dK kvs)) ∨ ∃ kvs, H p = some (.dT kvs))) ∨ (T = "set" ∧ ∃ S n, H p = some (.set S n))
  | _ => False
theorem tyV_is {pins : List (Addr × Obj)} {σ : St} {H : Hp} {s : Shared} {T : String} {x : V} {v : Value} (I : Inv X pins σ H s) (r : RelV x v) (ty : tyV X.K T x H) :
    s.TypeIs v T ∧ ∀ a, v = .ref a → ∃ ob, s.heap.get? a = some ob ∧ ob.dict = none := by
  cases x with
  | str z =>
    obtain ⟨t, rfl⟩ := r
    cases (show T = "str" from ty)
    exact ⟨typeIs_str s z t, fun _ e => nomatch e⟩
  | int i =>
    obtain ⟨t, rfl⟩ := r
    cases (show T = "int" from ty)
    exact ⟨typeIs_int s i t, fun _ e => nomatch e⟩
  | ref p =>
    cases r
    rcases ty with ⟨rfl, xs, hq⟩ | ⟨rfl, o, hk, hc, hd⟩ | ⟨rfl, hk⟩ | ⟨rfl, S, n, hk⟩
    · obtain ⟨its, _, pl, _⟩ := I.list hq
      refine ⟨pl.isList.typeIs, fun a e => ?_⟩
      cases e
      obtain ⟨o, n, e, c, hd, _⟩ := pl
      exact ⟨o, e, hd⟩
    · refine ⟨⟨o, I.kIn p o hk, hc⟩, fun a e => ?_⟩
      cases e
      exact ⟨o, I.kIn _ o hk, hd⟩
    · have z : ∃ o, s.heap.get? p = some o ∧ o.ExactDict := by
        rcases hk with ⟨kvs, hk⟩ | ⟨kvs, hk⟩
        · obtain ⟨_, _, _, _, o, _, _, e, ex, _⟩ := I.hok p _ hk
          exact ⟨o, e, ex⟩
        · obtain ⟨_, _, _, _, o, _, _, e, ex, _⟩ := I.hok p _ hk
          exact ⟨o, e, ex⟩
      obtain ⟨o, e, ex⟩ := z
      refine ⟨⟨o, e, ex.1⟩, fun a e2 => ?_⟩
      cases e2
      exact ⟨o, e, ex.2.1⟩
    · obtain ⟨o, _, _, _, e, ex, _⟩ := I.hok p _ hk
      refine ⟨⟨o, e, ex.1⟩, fun a e2 => ?_⟩
      cases e2
      exact ⟨o, e, ex.2.1⟩
  | _ => exact False.elim ty
def tBM (K : PySem.W.Frag) (T : String) (r : V → List V → Hp → VK → Prop) (to : TE) (t : TA) : TE := fun σ H Q => to σ H fun x H1 => tyV K T x H1 ∧ t σ H1 fun xs H2 => r x xs H2 Q
variable {o e : Expr} {es : List Expr} {to : TE} {t : TA} {name : Str} {apos cpos : Pos} {T id : String} {r : V → List V → Hp → VK → Prop}
theorem pe_bm (pa : PlainAttrs T) (slot : Slot T name id) (hty : typeOf (.builtin id) = pure (.type "method_descriptor")) (hm : MtR X id r) (ho : PE X o to) (ha : PA X (e :: es) t)
    (hbase : attributeBase o name X.env (eval o X.env) = eval o X.env := by rfl)
    (hfew : ((backTo cpos (starEach (e :: es) X.env)).all (fun x => !x.1) && (backToKw cpos (keywordEach [] X.env)).all (fun x => x.1.isSome)
      && decide ((e :: es).length + ([] : List Keyword).length + (if ([] : List Keyword).isEmpty then 0 else 1) < 30)) = true := by rfl)
    (hline : (apos.endLine == cpos.line) = true := by rfl) (hs : starEach (e :: es) X.env = (false, eval e X.env) :: starEach es X.env := by rfl) (hplain : (backTo cpos (starEach es X.env)).any (·.1) = false := by rfl) :
    PE X (.Call (.Attribute o name apos) (e :: es) [] cpos) (tBM X.K T r to t) := by
  intro pins s σ H Q I h
  refine wpAny_Call_method_late hbase hfew hline rfl (thn (ho pins s σ H _ I h) fun v s1 ⟨x, H1, I1, r1, ty, q1⟩ => ?_)
  obtain ⟨h1, h2⟩ := tyV_is I1 r1 ty
  refine ⟨T, id, pa, slot, hty, h1, h2, ?_⟩
  have hA := ha cpos pins s1 σ H1 _ I1 q1
  rw [hs] at hA ⊢
  refine Calls.callWith_builtin (by show (false || (backTo cpos (starEach es X.env)).any (·.1)) = false; rw [hplain] <;> rfl) (Calls.evalArgs_plain ?_)
  exact thn hA fun us s2 ⟨vs, H2, I2, r2, q2⟩ => hm pins s2 σ H2 x vs v us Q I2 r1 r2 q2
end
end L2
namespace L2
open PySem PySem.Spec PyProof.Rows
def MtM (X : Cx) (id : String) (r : V → List V → Hp → VK → Prop) : Prop :=
  ∀ (pins : List (Addr × Obj)) (s : Shared) (σ : St) (H : Hp) (x : V) (xs : List V) (v : Value) (us : List Value) (Q : VK), Inv X pins σ H s → RelV x v → Vals xs us → r x xs H Q →
    wpAny (model X.prog X.w) X.A (call (.builtin id) (v :: us)) (EP X pins σ Q) X.xe s
theorem Vals.one : ∀ {x : V} {us : List Value}, Vals [x] us → ∃ u, us = [u] ∧ RelV x u
  | _, _, .cons r .nil => ⟨_, rfl, r⟩
theorem Vals.two : ∀ {x y : V} {us : List Value}, Vals [x, y] us → ∃ u v, us = [u, v] ∧ RelV x u ∧ RelV y v
  | _, _, _, .cons r (.cons q .nil) => ⟨_, _, rfl, r, q⟩
theorem Vals.zero : ∀ {us : List Value}, Vals [] us → us = []
  | _, .nil => rfl
theorem Vals.dropLast {xs : List V} {us : List Value} (h : Vals xs us) : Vals xs.dropLast us.dropLast := by
  induction h with
  | nil => exact .nil
  | cons r t ih =>
    cases t with
    | nil => exact .nil
    | cons q t' => exact .cons r ih
theorem Vals.eraseIdx : ∀ {xs : List V} {us : List Value} (i : Nat), Vals xs us → Vals (xs.eraseIdx i) (us.eraseIdx i)
  | _, _, _, .nil => .nil
  | _, _, 0, .cons _ t => t
  | _, _, i + 1, .cons r t => .cons r (Vals.eraseIdx i t)
theorem Vals.reverse {xs : List V} {us : List Value} (h : Vals xs us) : Vals xs.reverse us.reverse := by
  induction h with
  | nil => exact .nil
  | cons r t ih => rw [List.reverse_cons, List.reverse_cons]; exact Vals.append ih (.cons r .nil)
section
variable {X : Cx} {pins : List (Addr × Obj)} {σ : St} {H : Hp} {s : Shared} {l b : Addr} {xs ys zs : List V}
theorem Inv.lset {its its' : List Value} {n : Nat} {f : Array Value → Array Value} {t' : Nat} (I : Inv X pins σ H s) (hH : H l = some (.lst xs))
    (e : s.heap.get? l = some { cls := .type "list", data := .seq its.toArray n }) (hf : f its.toArray = its'.toArray) (hv : Vals ys its') (hz : ys.length ≤ sizeLine) :
    Inv X pins σ (upd H l (.lst ys)) { s with heap := s.heap.update l (Obj.mapSeq f), toks := t' } := by
  have q := PySem.IsL.update e f
  rw [hf] at q
  refine I.write (x := l) (e := l) (by rw [hH]; exact trivial) (.inl rfl) (fun b' u hb hu => (Heap.get?_update_other s.heap (Obj.mapSeq f) (Ne.symm hb)).trans hu) ⟨_, q⟩ ?_
  exact ⟨hz, its', _, hv, q⟩
theorem Inv.lnew {its : List Value} {t' : Nat} (I : Inv X pins σ H s) (hv : Vals ys its) (hz : ys.length ≤ sizeLine) :
    Inv X pins σ (upd H s.heap.objs.size (.lst ys)) { s with heap := s.heap.push { cls := .type "list", data := .seq its.toArray }, toks := t' } :=
  I.laid (fun _ _ q => Heap.get?_push_of_some _ q) (Nat.le_refl _) ⟨hz, its, 0, hv, Heap.get?_push_size _ rfl⟩
theorem Inv.fresh (I : Inv X pins σ H s) : H s.heap.objs.size = none := I.hok.fresh (Nat.le_refl _)
theorem Inv.lstM (I : Inv X pins σ H s) (hH : H l = some (.lst xs)) : xs.length ≤ sizeLine ∧ ∃ (its : List Value) (n : Nat), Vals xs its ∧ xs.length = its.length ∧ s.heap.get? l = some { cls := .type "list", data := .seq its.toArray n } := by
  obtain ⟨z, its, n, r, e⟩ := I.hok l _ hH
  exact ⟨z, its, n, r, r.length, e⟩
theorem notLongL {n : Nat} (h : n ≤ sizeLine) : Builtin.List.listTooLong n = false := by
  unfold Builtin.List.listTooLong
  exact decide_eq_false (by omega)
end
section
variable {X : Cx}
def rAppend : V → List V → Hp → VK → Prop := fun x vs H Q => ∃ l xs y, x = .ref l ∧ vs = [y] ∧ H l = some (.lst xs) ∧ xs.length < sizeLine ∧ Q .non (upd H l (.lst (xs ++ [y])))
theorem mt_append : MtM X "list.append" rAppend := by
  intro pins s σ H x vs v us Q I rx rv h
  obtain ⟨l, xs, y, rfl, rfl, hH, hz, q⟩ := h
  cases rx
  obtain ⟨u, rfl, ru⟩ := rv.one
  obtain ⟨z, its, n, r, hl, e⟩ := I.lstM hH
  refine call_meets F.slot_list_append ⟨_, e, rfl⟩ F.entry_list_append (F.args_list_append_2 _ _) (PySem.list_append l its.toArray n u (by rw [List.size_toArray]; omega)) ⟨e, ?_⟩
  refine ⟨.non, _, I.lset (its' := its ++ [u]) hH e (by simp) (r.append (.cons ru .nil)) ?_, rfl, q⟩
  rw [List.length_append, List.length_singleton]
  omega
end
section
variable {prog : Program} {w : World} {A : Around} {E : Value → Shared → Prop} {s : Shared}
end
section
variable {X : Cx}
end
end L2
namespace L2
open PySem PySem.Spec PyProof.Rows
theorem Vals.ints : ∀ {ns : List Int} {us : List Value}, Vals (ns.map V.int) us → IntsAre us ns
  | [], us, h => by
    rw [List.map_nil] at h
    cases h
    exact IntsAre.nil
  | n :: ns, us, h => by
    rw [List.map_cons] at h
    cases h with
    | cons r t =>
      obtain ⟨k, rfl⟩ := r
      exact IntsAre.cons n k (Vals.ints t)
theorem Vals.strs : ∀ {xs : List Str} {us : List Value}, Vals (xs.map V.str) us → StrsAre us xs
  | [], us, h => by
    rw [List.map_nil] at h
    cases h
    exact StrsAre.nil
  | x :: xs, us, h => by
    rw [List.map_cons] at h
    cases h with
    | cons r t =>
      obtain ⟨k, rfl⟩ := r
      exact StrsAre.cons x k (Vals.strs t)
theorem Vals.ref1 {a : Addr} {us : List Value} (r : Vals [V.ref a] us) : us = [Value.ref a] := by
  cases r with
  | cons r t =>
    cases t
    cases r
    rfl
section
variable {prog : Program} {w : World} {A : Around} {E : Value → Shared → Prop} {s : Shared} {l : Addr} {its : List Value} {ns : List Int} {Q : Value → Shared → Prop}
end
section
variable {X : Cx}
end
section
variable {X : Cx}
end
section
variable {X : Cx}
end
section
variable {X : Cx}
end
def keyD : Key → PyData
  | .inl i => .int i
  | .inr x => .str x
mutual
inductive Dp (K : PySem.W.Frag) (H : Hp) : V → PyData → Prop
  | non : Dp K H .non .none
  | bl (b : Bool) : Dp K H (.bl b) (.bool b)
  | int (i : Int) : Dp K H (.int i) (.int i)
  | str (x : Str) : Dp K H (.str x) (.str x)
  | lst {a : Addr} {xs : List V} {ds : List PyData} : SqL K H a xs → DpAll K H xs ds → Dp K H (.ref a) (.list ds)
  | tup {a : Addr} {xs : List V} {ds : List PyData} : SqT K H a xs → DpAll K H xs ds → Dp K H (.ref a) (.tuple ds)
  | dct {a : Addr} {us : List (Key × V)} {kvs : List (PyData × PyData)} : Rd H a (.dK us) → us.map (fun u => keyD u.1) = kvs.map (·.1) → DpAll K H (us.map (·.2)) (kvs.map (·.2)) → Dp K H (.ref a) (.dict kvs)
inductive DpAll (K : PySem.W.Frag) (H : Hp) : List V → List PyData → Prop
  | nil : DpAll K H [] []
  | cons {v : V} {vs : List V} {d : PyData} {ds : List PyData} : Dp K H v d → DpAll K H vs ds → DpAll K H (v :: vs) (d :: ds)
end
theorem keys_read {P : Program} {w : World} {h : Heap} : ∀ {es : List DictEntry} {vs : List (Key × Value)}, Pairs (mixKind P w) es vs → ∃ as, ReadsAll h (es.map (·.key)) (vs.map fun v => keyD v.1) as
  | _, _, .nil => ⟨_, .nil⟩
  | _, _, .cons (e := e) (kv := kv) hk _ t => by
    obtain ⟨as, q⟩ := keys_read t
    rcases keyIs_shape hk with ⟨i, t, e1, e2⟩ | ⟨x, t, e1, e2⟩
    · refine ⟨_, .cons (as := []) ?_ q⟩
      show Reads h e.key (keyD kv.1) []
      rw [e1, e2]; exact Reads.int _ _
    · refine ⟨_, .cons (as := []) ?_ q⟩
      show Reads h e.key (keyD kv.1) []
      rw [e1, e2]; exact Reads.str _ _
theorem vals_of_pairs {P : Program} {w : World} : ∀ {es : List DictEntry} {vs : List (Key × Value)}, Pairs (mixKind P w) es vs → es.map (·.val) = vs.map (·.2)
  | _, _, .nil => rfl
  | _, _, .cons _ hv t => by simp [hv, vals_of_pairs t]
theorem KV.ks {us : List (Key × V)} {vs : List (Key × Value)} (r : KV us vs) : us.map (fun u => keyD u.1) = vs.map fun v => keyD v.1 := by
  induction r with
  | nil => rfl
  | cons h _ ih => simp [h.1, ih]
theorem KV.vs {us : List (Key × V)} {vs : List (Key × Value)} (r : KV us vs) : Vals (us.map (·.2)) (vs.map (·.2)) := by
  induction r with
  | nil => exact .nil
  | cons h _ ih => exact .cons h.2 ih
section
variable {X : Cx} {pins : List (Addr × Obj)} {σ : St} {H : Hp} {s : Shared}
mutual
theorem Dp.rd (I : Inv X pins σ H s) : ∀ {v : V} {d : PyData}, Dp X.K H v d → ∀ u : Value, RelV v u → ∃ as, Reads s.heap u d as
  | _, _, .non, _, r => by cases r; exact ⟨_, Reads.none⟩
  | _, _, .bl b, _, r => by cases r; exact ⟨_, Reads.bool b⟩
  | _, _, .int i, _, r => by obtain ⟨t, rfl⟩ := r; exact ⟨_, Reads.int i t⟩
  | _, _, .str x, _, r => by obtain ⟨t, rfl⟩ := r; exact ⟨_, Reads.str x t⟩
  | _, _, .lst hs ha, _, r => by
      cases r
      obtain ⟨its, rv, ⟨o, n, ho, hc, _, hd⟩, _⟩ := I.list hs
      obtain ⟨as, hr⟩ := DpAll.rd I ha its rv
      exact ⟨_, Reads.list ho hc hd hr⟩
  | _, _, .tup hs ha, _, r => by
      cases r
      obtain ⟨its, rv, ⟨o, ho, hc, n, hd⟩, _⟩ := I.tuple hs
      obtain ⟨as, hr⟩ := DpAll.rd I ha its rv
      exact ⟨_, Reads.tuple ho hc hd hr⟩
  | _, _, .dct (a := a) (us := us) hs hk ha, _, r => by
      cases r
      obtain ⟨_, _, vs, rel, o, es, ep, ho, hx, hd, _, pr, _⟩ := (show ObjOk X.prog X.w H s.heap a (.dK us) from hs.ok I.hok)
      obtain ⟨as, hr⟩ := DpAll.rd I ha _ rel.vs
      obtain ⟨bs, hq⟩ := keys_read (h := s.heap) pr
      have hq' := hq
      rw [← rel.ks, hk] at hq'
      rw [← vals_of_pairs pr] at hr
      exact ⟨_, Reads.dict ho hx.1 hd hq' hr⟩
theorem DpAll.rd (I : Inv X pins σ H s) : ∀ {vs : List V} {ds : List PyData}, DpAll X.K H vs ds → ∀ us : List Value, Vals vs us → ∃ as, ReadsAll s.heap us ds as
  | _, _, .nil, _, r => by cases r; exact ⟨_, ReadsAll.nil⟩
  | _, _, .cons h1 h2, _, r => by
      cases r with
      | cons r1 r2 =>
        obtain ⟨as, q1⟩ := Dp.rd I h1 _ r1
        obtain ⟨bs, q2⟩ := DpAll.rd I h2 _ r2
        exact ⟨_, ReadsAll.cons q1 q2⟩
end
theorem Dp.reads (I : Inv X pins σ H s) (d : PyData) (v : V) (u : Value) (h : Dp X.K H v d) (r : RelV v u) : ∃ as, Reads s.heap u d as := Dp.rd I h u r
end
section
variable {X : Cx}
def rEqD (K : PySem.W.Frag) : R2 := fun x y H Q => ∃ d e, Dp K H x d ∧ Dp K H y e ∧ SeqAt.shaped d = true ∧ SeqAt.shaped e = true ∧ Q (.bl (PyData.eqv d e)) H
def rNeD (K : PySem.W.Frag) : R2 := fun x y H Q => ∃ d e, Dp K H x d ∧ Dp K H y e ∧ SeqAt.shaped d = true ∧ SeqAt.shaped e = true ∧ Q (.bl (!PyData.eqv d e)) H
theorem op_eqD (hu : X.A.units + 64 < cLine) : OpR X (compareOp .Eq) (rEqD X.K) := by
  intro pins s σ H x y v u Q I rx ry h
  obtain ⟨d, e, hd, he, sd, se, q⟩ := h
  obtain ⟨as, r1⟩ := Dp.reads I d x v hd rx
  obtain ⟨bs, r2⟩ := Dp.reads I e y u he ry
  exact SeqAt.compareEq_shaped r1 r2 sd se hu ⟨.bl _, H, I, rfl, q⟩
theorem op_neD (hu : X.A.units + 64 < cLine) : OpR X (compareOp .NotEq) (rNeD X.K) := by
  intro pins s σ H x y v u Q I rx ry h
  obtain ⟨d, e, hd, he, sd, se, q⟩ := h
  obtain ⟨as, r1⟩ := Dp.reads I d x v hd rx
  obtain ⟨bs, r2⟩ := Dp.reads I e y u he ry
  exact SeqAt.compareNe_shaped r1 r2 sd se hu ⟨.bl _, H, I, rfl, q⟩
end
end L2
namespace L2
open PySem PySem.Spec PyProof.Rows
abbrev CellAt (h : Heap) (c : Addr) (v : Option Value) : Prop := h.IsCell c v
def relS (scope sc : Scope) : Scope :=
  { scope with names := scope.names.map fun (n, k) => if (k == .free && sc.kind == .function && sc.names.lookup n == some .cell) then (n, .cell) else (n, k) }
def cloFrom (cells : List (Str × Addr)) : List (Str × NameKind) → List (Str × Addr) → List (Str × Addr)
  | [], acc => acc
  | (n, k) :: r, acc => if k == .free then cloFrom cells r ((n, (cells.lookup n).getD 0) :: acc) else cloFrom cells r acc
theorem closure_loop (env : Env) (f : Str × NameKind → List (Str × Addr) → Sem (ForInStep (List (Str × Addr))))
    (hf : ∀ n k c, f (n, k) c = if k == .free then (do let a ← cellOf env n; pure (.yield ((n, a) :: c))) else pure (.yield c)) :
    ∀ (names : List (Str × NameKind)) (acc : List (Str × Addr)), (∀ y ∈ names, y.2 = .free → ∃ c, env.cells.lookup y.1 = some c) → forIn names acc f = pure (cloFrom env.cells names acc)
  | [], acc, _ => by rw [List.forIn_nil]; rfl
  | (n, k) :: r, acc, h => by
    rw [List.forIn_cons, hf]
    have ih := fun acc => closure_loop env f hf r acc fun y hy => h y (List.mem_cons_of_mem _ hy)
    unfold cloFrom
    by_cases hk : (k == NameKind.free) = true
    · rw [if_pos hk, if_pos hk]
      obtain ⟨c, hc⟩ := h (n, k) List.mem_cons_self (by simpa using hk)
      have e : cellOf env n = pure c := by unfold cellOf; rw [hc]
      rw [e]
      have e2 : (env.cells.lookup n).getD 0 = c := by rw [hc]; rfl
      rw [e2]
      exact ih _
    · rw [if_neg hk, if_neg hk]
      exact ih _
theorem closure_ok {scope : Scope} {env : Env} (h : ∀ y ∈ scope.names, y.2 = .free → ∃ c, env.cells.lookup y.1 = some c) : closureFor scope env = pure (cloFrom env.cells scope.names []) := by
  simp only [closureFor]
  rw [closure_loop env _ (fun n k c => rfl) scope.names [] h]
  rfl
theorem mem_lookup {α : Type} : ∀ {l : List (Str × α)} {n : Str} {c : α}, (n, c) ∈ l → ∃ c', l.lookup n = some c'
  | (k, v) :: r, n, c, h => by
    rw [List.lookup_cons]
    cases hb : n == k with
    | true => exact ⟨_, rfl⟩
    | false =>
      rcases List.mem_cons.mp h with e | h
      · cases e; simp at hb
      · exact mem_lookup h
theorem cloFrom_mem {cells : List (Str × Addr)} : ∀ {names : List (Str × NameKind)} {acc : List (Str × Addr)} {n : Str} {c : Addr}, (n, c) ∈ cloFrom cells names acc → (n, c) ∈ acc ∨ ((n, .free) ∈ names ∧ c = (cells.lookup n).getD 0)
  | [], _, _, _, h => .inl h
  | (m, k) :: r, acc, n, c, h => by
    unfold cloFrom at h
    split at h
    · rename_i hk
      have hk : k = .free := by simpa using hk
      rcases cloFrom_mem h with h | ⟨h1, h2⟩
      · rcases List.mem_cons.mp h with e | h
        · cases e; exact .inr ⟨hk ▸ List.mem_cons_self, rfl⟩
        · exact .inl h
      · exact .inr ⟨List.mem_cons_of_mem _ h1, h2⟩
    · rcases cloFrom_mem h with h | ⟨h1, h2⟩
      · exact .inl h
      · exact .inr ⟨List.mem_cons_of_mem _ h1, h2⟩
theorem cloFrom_acc {cells : List (Str × Addr)} : ∀ {names : List (Str × NameKind)} {acc : List (Str × Addr)} {p : Str × Addr}, p ∈ acc → p ∈ cloFrom cells names acc
  | [], _, _, h => h
  | (m, k) :: r, acc, p, h => by
    unfold cloFrom
    split
    · exact cloFrom_acc (List.mem_cons_of_mem _ h)
    · exact cloFrom_acc h
theorem cloFrom_has {cells : List (Str × Addr)} : ∀ {names : List (Str × NameKind)} {acc : List (Str × Addr)} {n : Str}, (n, .free) ∈ names → (n, (cells.lookup n).getD 0) ∈ cloFrom cells names acc
  | (m, k) :: r, acc, n, h => by
    unfold cloFrom
    rcases List.mem_cons.mp h with e | h
    · cases e
      exact cloFrom_acc List.mem_cons_self
    · split
      · exact cloFrom_has h
      · exact cloFrom_has h
theorem cells_mem : ∀ {names : List (Str × NameKind)} {h : Heap} {acc : List (Str × Addr)} {x : Str} {c : Addr}, (x, c) ∈ cellsFrom h.objs.size names acc →
    (x, c) ∈ acc ∨ ((x, .cell) ∈ names ∧ h.objs.size ≤ c ∧ CellAt (pushCells h names) c none)
  | [], _, _, _, _, h => .inl h
  | (n, k) :: r, h, acc, x, c, hm => by
    unfold cellsFrom at hm
    unfold pushCells
    split at hm
    · rename_i hk
      rw [if_pos hk]
      have hk : k = .cell := by simpa using hk
      rw [← Heap.size_push h { cls := .type "cell", data := .cell none }] at hm
      rcases cells_mem hm with hm | ⟨h1, h2, h3⟩
      · rcases List.mem_cons.mp hm with e | hm
        · cases e
          exact .inr ⟨hk ▸ List.mem_cons_self, Nat.le_refl _, _, pushCells_keeps r _ _ _ (Heap.get?_push_size _ rfl), rfl⟩
        · exact .inl hm
      · rw [Heap.size_push] at h2
        exact .inr ⟨List.mem_cons_of_mem _ h1, Nat.le_of_succ_le h2, h3⟩
    · rename_i hk
      rw [if_neg hk]
      rcases cells_mem hm with hm | ⟨h1, h2, h3⟩
      · exact .inl hm
      · exact .inr ⟨List.mem_cons_of_mem _ h1, h2, h3⟩
theorem cells_acc : ∀ {names : List (Str × NameKind)} {n : Nat} {acc : List (Str × Addr)} {p : Str × Addr}, p ∈ acc → p ∈ cellsFrom n names acc
  | [], _, _, _, h => h
  | (m, k) :: r, n, acc, p, h => by
    unfold cellsFrom
    split
    · exact cells_acc (List.mem_cons_of_mem _ h)
    · exact cells_acc h
theorem cells_has : ∀ {names : List (Str × NameKind)} {n : Nat} {acc : List (Str × Addr)} {x : Str}, (x, .cell) ∈ names → ∃ c, (x, c) ∈ cellsFrom n names acc
  | (m, k) :: r, n, acc, x, h => by
    unfold cellsFrom
    rcases List.mem_cons.mp h with e | h
    · cases e
      exact ⟨n, cells_acc List.mem_cons_self⟩
    · split
      · exact cells_has h
      · exact cells_has h
theorem cells_inj : ∀ {names : List (Str × NameKind)} {h : Heap} {acc : List (Str × Addr)} {x y : Str} {c : Addr}, (∀ p ∈ acc, p.2 < h.objs.size) → (∀ x y c, (x, c) ∈ acc → (y, c) ∈ acc → x = y) →
    (x, c) ∈ cellsFrom h.objs.size names acc → (y, c) ∈ cellsFrom h.objs.size names acc → x = y
  | [], _, _, _, _, _, _, hi, h1, h2 => hi _ _ _ h1 h2
  | (n, k) :: r, h, acc, x, y, c, hl, hi, h1, h2 => by
    unfold cellsFrom at h1 h2
    split at h1
    · rename_i hk
      rw [if_pos hk] at h2
      rw [← Heap.size_push h { cls := .type "cell", data := .cell none }] at h1 h2
      refine cells_inj (h := h.push _) (fun p hp => ?_) (fun x y c a b => ?_) h1 h2
      · rw [Heap.size_push]
        rcases List.mem_cons.mp hp with rfl | hp
        · exact Nat.lt_succ_self _
        · exact Nat.lt_succ_of_lt (hl p hp)
      · rcases List.mem_cons.mp a with e | a <;> rcases List.mem_cons.mp b with e' | b
        · cases e; cases e'; rfl
        · cases e; exact absurd (hl _ b) (Nat.lt_irrefl _)
        · cases e'; exact absurd (hl _ a) (Nat.lt_irrefl _)
        · exact hi _ _ _ a b
    · rename_i hk
      rw [if_neg hk] at h2
      exact cells_inj hl hi h1 h2
theorem newEnv_comp {M : Model} {A : Around} {E : Value → Shared → Prop} {s : Shared} {scope : Scope} {globals : Addr} {closure : List (Str × Addr)} {qual : Str} {func : Option Addr} {code : Value} {around : Env} {builtins : Addr} {Q : Env → Shared → Prop}
    (h : Q (newEnv scope s.heap.objs.size globals (cellsFrom (s.heap.objs.size + 1) scope.names closure) qual func code (some around) builtins)
      { s with heap := pushCells (s.heap.push { cls := .type "dict", data := .dict #[] }) scope.names }) :
    wpAny M A (newFunctionEnv scope globals closure [] qual func code (some around) builtins) Q E s := by
  simp only [newFunctionEnv, Option.isSome_some, if_true]
  refine wpAny_bind (wpAny_alloc ?_)
  refine wpAny_bind (wpAny_layCells _ (fun n k c => rfl) scope.names closure _ _ ?_)
  rw [show ({ s with heap := s.heap.push { cls := .type "dict", data := .dict #[] } } : Shared).heap.objs.size = s.heap.objs.size + 1 from Heap.size_push ..]
  rw [List.forIn_nil]
  exact wpAny_bind (wpAny_pure (wpAny_pure h))
theorem lookup_relS {sc : Scope} : ∀ {names : List (Str × NameKind)} {x : Str} {k : NameKind},
    (names.map fun (n, k) => if (k == NameKind.free && sc.kind == .function && sc.names.lookup n == some .cell) then (n, NameKind.cell) else (n, k)).lookup x = some k →
    ∃ k', names.lookup x = some k' ∧ (k = k' ∨ (k' = .free ∧ k = .cell))
  | [], _, _, h => by simp at h
  | (n, k₀) :: r, x, k, h => by
    have ih := @lookup_relS sc r x k
    have h' : List.lookup x ((if (k₀ == NameKind.free && sc.kind == .function && sc.names.lookup n == some .cell) = true then (n, NameKind.cell) else (n, k₀)) :: (r.map _)) = some k := h
    cases hx : x == n with
    | true =>
      simp only [List.lookup_cons, hx]
      by_cases hc : (k₀ == NameKind.free && sc.kind == .function && sc.names.lookup n == some .cell) = true
      · rw [if_pos hc] at h'
        simp only [List.lookup_cons, hx] at h'
        cases h'
        simp only [Bool.and_eq_true, beq_iff_eq] at hc
        exact ⟨k₀, rfl, .inr ⟨hc.1.1, rfl⟩⟩
      · rw [if_neg hc] at h'
        simp only [List.lookup_cons, hx] at h'
        cases h'
        exact ⟨_, rfl, .inl rfl⟩
    | false =>
      simp only [List.lookup_cons, hx]
      by_cases hc : (k₀ == NameKind.free && sc.kind == .function && sc.names.lookup n == some .cell) = true
      · rw [if_pos hc] at h'
        simp only [List.lookup_cons, hx] at h'
        exact ih h'
      · rw [if_neg hc] at h'
        simp only [List.lookup_cons, hx] at h'
        exact ih h'
structure BlkOk (N : List Str) (sc scope : Scope) (own : List (Str × Nat)) : Prop where
  kind : scope.kind = .function
  uniq : ∀ y ∈ scope.names, scope.names.lookup y.1 = some y.2
  ix : ∀ p ∈ own, N[p.2]? = some p.1
  free : ∀ y ∈ scope.names, y.2 = .free → sc.names.lookup y.1 = some .cell ∨ sc.names.lookup y.1 = some .free
  own : ∀ y ∈ scope.names, y.2 = .local ∨ y.2 = .cell → y.1 ∈ own.map (·.1) ∨ y.1 ∉ N
def wipe (σ : St) : List Nat → St
  | [] => σ
  | v :: vs => (wipe σ vs).set v none
theorem wipe_length (σ : St) : ∀ vs : List Nat, (wipe σ vs).length = σ.length
  | [] => rfl
  | v :: vs => by unfold wipe; rw [List.length_set, wipe_length σ vs]
theorem wipe_some {σ : St} {i : Nat} {x : V} : ∀ {vs : List Nat}, (wipe σ vs)[i]? = some (some x) → σ[i]? = some (some x) ∧ i ∉ vs
  | [], h => ⟨h, by simp⟩
  | v :: vs, h => by
    unfold wipe at h
    by_cases hi : v = i
    · subst hi
      by_cases hv : v < (wipe σ vs).length
      · rw [List.getElem?_set_self hv] at h; cases h
      · rw [List.getElem?_eq_none (by simpa using hv)] at h; cases h
    · rw [List.getElem?_set_ne hi] at h
      obtain ⟨h1, h2⟩ := wipe_some h
      exact ⟨h1, by simp only [List.mem_cons, not_or]; exact ⟨fun e => hi e.symm, h2⟩⟩
abbrev Cx.blk (X : Cx) (s : Shared) (H : Hp) (scope : Scope) (cenv : Env) (fp : List Addr) : Cx := { X with s_0 := s, H_0 := H, env := cenv, outer := X.stack, ex := fp, fn := fun x => scope.names.lookup x == some .cell, pn := [], xe := fun _ _ => False }
section
variable {X : Cx} {pins : List (Addr × Obj)} {σ : St} {H : Hp} {s : Shared}
theorem block_start {scope : Scope} {own : List (Str × Nat)} {fp : List Addr} (I : Inv X pins σ H s) (ok : BlkOk X.N X.env.scope scope own) (hN : X.N.Nodup) (hfp : ∀ b ∈ fp, FpOk X pins H b ∧ b < s.heap.objs.size) :
    Inv (X.blk s H scope (compEnvC scope (cellsFrom (s.heap.objs.size + 1) scope.names (cloFrom X.env.cells scope.names [])) s.heap.objs.size X.env) fp) [] (wipe σ (own.map (·.2))) H { s with heap := pushCells (s.heap.push { cls := .type "dict", data := .dict #[] }) scope.names } := by
  have hfree : ∀ y ∈ scope.names, y.2 = .free → ∃ c, X.env.cells.lookup y.1 = some c := fun y hy e => by
    rcases ok.free y hy e with k | k
    · exact I.ok.has _ (.inl k)
    · exact I.ok.has _ (.inr k)
  generalize hcenv : compEnvC scope (cellsFrom (s.heap.objs.size + 1) scope.names (cloFrom X.env.cells scope.names [])) s.heap.objs.size X.env = cenv
  have kp : ∀ b o, s.heap.get? b = some o → (pushCells (s.heap.push { cls := .type "dict", data := .dict #[] }) scope.names).get? b = some o := fun b o e => pushCells_keeps _ _ _ _ (Heap.get?_push_of_some _ e)
  have hL : cenv.locals = s.heap.objs.size := by rw [← hcenv]; rfl
  have hcl : cenv.cells = cellsFrom (s.heap.objs.size + 1) scope.names (cloFrom X.env.cells scope.names []) := by rw [← hcenv]; rfl
  have hsc : cenv.scope = relS scope X.env.scope := by rw [← hcenv]; rfl
  rw [← Heap.size_push s.heap { cls := .type "dict", data := .dict #[] }] at hcl
  have cm : ∀ {y c}, (y, c) ∈ cloFrom X.env.cells scope.names [] → X.env.cells.lookup y = some c ∧ c < s.heap.objs.size := fun {y c} hm => by
    rcases cloFrom_mem hm with hm | ⟨h1, rfl⟩
    · cases hm
    · obtain ⟨c, hc⟩ := hfree _ h1 rfl
      rw [hc]
      obtain ⟨w, z⟩ := I.cell _ _ hc
      exact ⟨rfl, z.lt⟩
  have mem : ∀ {y c}, cenv.cells.lookup y = some c → (X.env.cells.lookup y = some c ∧ c < s.heap.objs.size) ∨ (s.heap.objs.size + 1 ≤ c ∧ CellAt (pushCells (s.heap.push { cls := .type "dict", data := .dict #[] }) scope.names) c none) := fun {y c} e => by
    rw [hcl] at e
    rcases cells_mem (PySem.mem_of_lookup e) with hm | ⟨_, h2, h3⟩
    · exact .inl (cm hm)
    · rw [Heap.size_push] at h2; exact .inr ⟨h2, h3⟩
  have look : ∀ {y}, scope.names.lookup y = some .free → ∃ c, cenv.cells.lookup y = some c ∧ X.env.cells.lookup y = some c := fun {y} hl => by
    have hy : (y, NameKind.free) ∈ scope.names := PySem.mem_of_lookup hl
    obtain ⟨c', e'⟩ := mem_lookup (cells_acc (names := scope.names) (n := (s.heap.push { cls := .type "dict", data := .dict #[] }).objs.size) (cloFrom_has (cells := X.env.cells) (acc := []) hy))
    rw [← hcl] at e'
    refine ⟨c', e', ?_⟩
    rw [hcl] at e'
    rcases cells_mem (PySem.mem_of_lookup e') with hm | ⟨h1, _, _⟩
    · exact (cm hm).1
    · have := ok.uniq _ h1
      rw [hl] at this; cases this
  have okB : (X.blk s H scope cenv fp).Ok := by
    refine ⟨I.ok.mod, by show cenv.scope.kind = _; rw [hsc]; exact ok.kind, by show cenv.globals = _; rw [← hcenv]; exact I.ok.glob, by show cenv.builtins = _; rw [← hcenv]; exact I.ok.blt, by show s.heap.objs.size ≤ cenv.locals; rw [hL]; exact Nat.le_refl _,
      fun y z c e1 e2 => ?_, fun y hy => ?_, fun y c z e => ?_, I.ok.hd, I.ok.frames, .inl rfl, fun b hb => ⟨?_, fun y c e z => ?_⟩, I.bs, Nat.le_trans I.ok.bsz I.sz, fun b o e hb => ?_, fun b hb z => ?_, I.stack, I.stkFree⟩
    · have e1 : cenv.cells.lookup y = some c := e1
      have e2 : cenv.cells.lookup z = some c := e2
      rw [hcl] at e1 e2
      refine cells_inj (fun p hp => ?_) (fun y z c a b => I.ok.inj y z c (cm a).1 (cm b).1) (PySem.mem_of_lookup e1) (PySem.mem_of_lookup e2)
      rw [Heap.size_push]
      exact Nat.lt_succ_of_lt (cm (y := p.1) (c := p.2) hp).2
    · show ∃ c, cenv.cells.lookup y = some c
      have key : ∀ k, cenv.kindOf y = some k → (k = .cell ∨ k = .free) → ∃ c, cenv.cells.lookup y = some c := fun k hk hk' => by
        unfold Env.kindOf at hk
        rw [hsc] at hk
        obtain ⟨k', e, r⟩ := lookup_relS hk
        have : k' = .cell ∨ k' = .free := by
          rcases r with rfl | ⟨rfl, _⟩
          · exact hk'
          · exact .inr rfl
        rcases this with rfl | rfl
        · obtain ⟨c, hm⟩ := cells_has (n := (s.heap.push { cls := .type "dict", data := .dict #[] }).objs.size) (acc := cloFrom X.env.cells scope.names []) (PySem.mem_of_lookup e)
          obtain ⟨c', e'⟩ := mem_lookup hm
          exact ⟨c', by rw [hcl]; exact e'⟩
        · obtain ⟨c, h1, _⟩ := look e
          exact ⟨c, h1⟩
      rcases hy with hy | hy
      · exact key _ hy (.inl rfl)
      · exact key _ hy (.inr rfl)
    · have z : (scope.names.lookup y == some NameKind.cell) = true := z
      have z : scope.names.lookup y = some .cell := by simpa using z
      have e : cenv.cells.lookup y = some c := e
      rw [hcl] at e
      rcases cells_mem (PySem.mem_of_lookup e) with hm | ⟨_, h2, _⟩
      · rcases cloFrom_mem hm with hm | ⟨h1, _⟩
        · cases hm
        · have q := ok.uniq _ h1
          rw [z] at q; cases q
      · rw [Heap.size_push] at h2
        exact Nat.le_of_succ_le h2
    · show b ≠ cenv.locals
      rw [hL]; exact Nat.ne_of_lt (hfp b hb).2
    · have e : cenv.cells.lookup y = some c := e
      rcases mem e with ⟨h1, _⟩ | ⟨h1, _⟩
      · exact (hfp b hb).1.2.2.2.2.1 y c h1 z
      · have h2 : s.heap.objs.size + 1 ≤ b := by rw [← z]; exact h1
        exact absurd (Nat.lt_of_lt_of_le (hfp b hb).2 (Nat.le_of_succ_le h2)) (Nat.lt_irrefl _)
    · rcases (hfp b hb).1.2.2.2.1 with z | z
      · exact I.ok.noex b o e z
      · exact absurd (Nat.lt_of_lt_of_le (Heap.lt_size e) (Nat.le_trans I.ok.bsz z)) (Nat.lt_irrefl _)
    · rcases List.mem_cons.mp (I.stkSub b z) with z | z
      · exact (hfp b hb).1.2.1 z
      · exact (hfp b hb).1.2.2.1 z
  refine ⟨okB, rfl, I.bare, Un.kept kp, ⟨fun _ => none, ?_, fun i y av e1 e2 e3 => ?_⟩, fun y c e => ?_, ?_, fun y c e => ?_, fun p hp => ?_, I.hok.kept kp, by rw [wipe_length]; exact I.len⟩
  · show Heap.Ns _ cenv.locals _
    rw [hL]
    exact Heap.Ns.keeps (Heap.Ns.new ..) fun b o e => pushCells_keeps _ _ _ _ e
  · obtain ⟨e2, hne⟩ := wipe_some e2
    have hfr : scope.names.lookup y = some .free ∧ (cenv.kindOf y = some .cell ∨ cenv.kindOf y = some .free) := by
      have key : ∀ k, cenv.scope.names.lookup y = some k → k = .local ∨ k = .cell ∨ k = .free → scope.names.lookup y = some .free ∧ (cenv.kindOf y = some .cell ∨ cenv.kindOf y = some .free) := fun k hk hk' => by
        have hk0 := hk
        rw [hsc] at hk
        obtain ⟨k', e, r⟩ := lookup_relS hk
        have no : ¬ (k' = .local ∨ k' = .cell) := fun hh => by
          rcases ok.own _ (PySem.mem_of_lookup e) hh with e' | e'
          · obtain ⟨p, hp, hpy⟩ := List.mem_map.mp e'
            have e3 := ok.ix p hp
            have : p.1 = y := hpy
            rw [this] at e3
            exact hne (List.mem_map.mpr ⟨p, hp, nodup_ix hN e3 e1⟩)
          · exact e' (List.mem_of_getElem? e1)
        rcases r with rfl | ⟨rfl, rfl⟩
        · rcases hk' with rfl | rfl | rfl
          · exact absurd (.inl rfl) no
          · exact absurd (.inr rfl) no
          · exact ⟨e, .inr hk0⟩
        · exact ⟨e, .inl hk0⟩
      have e3 : Vis cenv.scope y := e3
      rcases e3 with e3 | e3 | e3
      · exact key _ e3 (.inl rfl)
      · exact key _ e3 (.inr (.inl rfl))
      · exact key _ e3 (.inr (.inr rfl))
    obtain ⟨m, hn, hl⟩ := I.loc
    have hvis : Vis X.env.scope y := (ok.free _ (PySem.mem_of_lookup hfr.1) rfl).elim (fun k => .inr (.inl k)) (fun k => .inr (.inr k))
    obtain ⟨w, r, q⟩ := hl i y av e1 e2 hvis
    refine ⟨w, r, .inr ⟨hfr.2, ?_⟩⟩
    obtain ⟨c, h1, h2⟩ := look hfr.1
    rcases q with ⟨k, _⟩ | ⟨_, c', e', z⟩
    · have k : X.env.scope.names.lookup y = some .local := k
      rcases ok.free _ (PySem.mem_of_lookup hfr.1) rfl with k' | k' <;> rw [show X.env.scope.names.lookup y = _ from k'] at k <;> cases k
    · rw [h2] at e'; cases e'
      exact ⟨c, h1, z.keeps kp⟩
  · have e : cenv.cells.lookup y = some c := e
    rcases mem e with ⟨h1, _⟩ | ⟨_, z⟩
    · obtain ⟨w, z⟩ := I.cell y c h1
      exact ⟨w, z.keeps kp⟩
    · exact ⟨_, z⟩
  · show H cenv.locals = none
    rw [hL]; exact I.hok.fresh (Nat.le_refl _)
  · have e : cenv.cells.lookup y = some c := e
    rcases mem e with ⟨h1, _⟩ | ⟨h1, _⟩
    · exact I.freeC y c h1
    · exact I.hok.fresh (Nat.le_of_succ_le h1)
  · exact absurd (show p ∈ ([] : List (Addr × Obj)) ++ [] from hp) (by simp)
theorem app_ok {E : Value → Shared → Prop} {D : Addr} {xs : List V} {y : V} {v : Value} {Q : Value → Shared → Prop} (I : Inv X pins σ H s) (hD : H D = some (.lst xs)) (hz : xs.length < sizeLine) (r : RelV y v)
    (h : ∀ s', Inv X pins σ (upd H D (.lst (xs ++ [y]))) s' → Q .none s') : wpAny (model X.prog X.w) X.A (call (.builtin "list.append") [.ref D, v]) Q E s := by
  obtain ⟨hz', its, n, ri, e⟩ := I.hok D _ hD
  have hl := ri.length
  refine append_at (hsz := by rw [List.size_toArray]; omega) e fun h' sb ho' => ?_
  refine h { s with heap := h' } (I.write (t' := s.toks) (by rw [hD]; trivial) (.inl rfl) (fun b u hb q => (sb.2 b hb).trans q) ⟨_, ho'⟩ ⟨by rw [List.length_append]; exact hz, its ++ [v], n + 1, ri.append (.cons r .nil), ?_⟩)
  rw [ho']
  simp
def PTs (X : Cx) (ifs : List Expr) (t : TT) : Prop :=
  ∀ (pins : List (Addr × Obj)) (s : Shared) (σ : St) (H : Hp) (Q : Bool → Hp → Prop), Inv X pins σ H s → t σ H Q →
    wpAny (model X.prog X.w) X.A (forIn ifs true fun c r => if r = true then do let ok ← isTrue c X.env (eval c X.env); pure (ForInStep.yield ok) else pure (ForInStep.yield r)) (TP X pins σ Q) X.xe s
def tYes : TT := fun _ H Q => Q true H
theorem pts_nil : PTs X [] tYes := fun _ _ _ H _ I h => wpAny_tests_nil ⟨H, I, h⟩
theorem pts_one {c : Expr} {t : TT} (h : PT X c t) : PTs X [c] t := fun pins s σ H Q I hw => wpAny_tests_one (h pins s σ H Q I hw)
end
theorem thnF {α : Type} {t : Sem α} {Q Q' : α → Shared → Prop} {M : Model} {A : Around} {E : Value → Shared → Prop} {s : Shared} (h : wpAny M A t Q (fun _ _ => False) s) (hQ : ∀ a s, Q a s → Q' a s) : wpAny M A t Q' E s := wpAny_mono h hQ fun _ _ z => False.elim z
theorem compLoop_any {prog : Program} {w : World} {A : Around} {R : Result → Shared → Prop} {s : Shared} {elt target iter : Expr} {ifs : List Expr} {scope : Scope} {pos : Pos} {it acc : Value} {env : Env} (I : Nat → Shared → Prop)
    (turn : ∀ n s, I n s → wpAny (model prog w) A (pyNext it) (fun r s₁ => match r with
      | none => R (.ok .next) s₁
      | some v => wpAny (model prog w) A (letOwnedTupleGo target it v) (fun _ s₁' => wpAny (model prog w) A (assign target env v) (fun _ s₂ =>
          wpAny (model prog w) A (forIn ifs true fun c r => if r = true then do let ok ← isTrue c env (eval c env); pure (ForInStep.yield ok) else pure (ForInStep.yield r)) (fun ok s₃ =>
            if ok = true then wpAny (model prog w) A (eval elt env) (fun x s₄ =>
              wpAny (model prog w) A (call (.builtin "list.append") [acc, x]) (fun _ s₅ => ∃ m, m < n ∧ I m s₅) (notedBy (model prog w) A env fun e s' => R (.error e) s') s₄) (notedBy (model prog w) A env fun e s' => R (.error e) s') s₃
            else ∃ m, m < n ∧ I m s₃) (notedBy (model prog w) A env fun e s' => R (.error e) s') s₂) (notedBy (model prog w) A env fun e s' => R (.error e) s') s₁') (notedBy (model prog w) A env fun e s' => R (.error e) s') s₁) (notedBy (model prog w) A env fun e s' => R (.error e) s') s)
    (n : Nat) (h : I n s) :
    codeAny (model prog w) A (.compLoop (.ListComp elt [⟨target, iter, ifs, 0⟩] scope pos) 0 it acc env) R s := by
  refine codeAny_loop rfl I (fun n s hI => ?_) n h
  show wpAny _ A ((compTurn (.ListComp elt [⟨target, iter, ifs, 0⟩] scope pos) 0 it acc env).onRaise (fun x => do noteFrame x env; theTreesLotGoes x)) _ _ s
  refine wpAny_noted ?_
  rw [compTurn_list]
  refine wpAny_bind (wpAny_standAt (wpAny_bind (wpAny_mono (turn n s hI) (fun r s₁ h₁ => ?_) fun _ _ h' => h')))
  cases r with
  | none => exact wpAny_pure h₁
  | some v =>
    refine wpAny_bind (wpAny_mono h₁ (fun _ s₁' h₁' => ?_) fun _ _ h' => h')
    refine wpAny_bind (wpAny_mono h₁' (fun _ s₂ h₂ => wpAny_bind (wpAny_mono h₂ (fun ok s₃ h₃ => ?_) fun _ _ h' => h')) fun _ _ h' => h')
    cases ok with
    | false => exact wpAny_pure ⟨rfl, h₃⟩
    | true =>
      exact wpAny_bind (wpAny_bind (wpAny_mono h₃ (fun x s₄ h₄ => wpAny_bind (wpAny_mono h₄ (fun _ s₅ h₅ => wpAny_pure (wpAny_pure ⟨rfl, h₅⟩)) fun _ _ h' => h')) fun _ _ h' => h'))
section
variable {X : Cx}
def tLc (wi : TI) (g : TG) (tt : TT) (te : TE) (vs : List Nat) : TE := fun σ H Q => wi σ H fun J H1 => ∀ D, H1 D = none → ∃ W : Nat → Nat → Hp → Prop, (∃ m, W 0 m (upd H1 D (.lst []))) ∧ ∀ i m H, W i m H →
  (J.stop i H ∧ Q (.ref D) H) ∨ (J.go i H ∧ ∃ Nx : Hp → Prop, (∀ H', Nx H' → ∃ m', m' < m ∧ W (i + 1) m' H') ∧ ∀ x H', J.yld i H x H' → g x (wipe σ vs) H' fun σ2 H2 => wipe σ2 vs = wipe σ vs ∧ tt σ2 H2 fun b H3 =>
    if b = true then te σ2 H3 fun y H4 => ∃ acc, H4 D = some (.lst acc) ∧ acc.length < sizeLine ∧ Nx (upd H4 D (.lst (acc ++ [y]))) else Nx H3)
theorem lc_core {pins : List (Addr × Obj)} {s : Shared} {σ : St} {H : Hp} {Q : VK} {elt tg iter : Expr} {ifs : List Expr} {scope : Scope} {own : List (Str × Nat)} {pos pos' : Pos} {wi : TI} {g : TG} {tt : TT} {te : TE} {use : Option (Value → Sem Unit)} {Qf : Value → Shared → Prop}
    (hc : X.calm = true) (hN : X.N.Nodup) (I : Inv X pins σ H s) (hi : PI X tg iter wi) (ok : BlkOk X.N X.env.scope scope own)
    (hg : ∀ (s : Shared) (H : Hp) (C : Addr) (cl : List (Str × Addr)) (fp : List Addr), PG (X.blk s H scope (compEnvC scope cl C X.env) fp) tg g) (ht : ∀ (s : Shared) (H : Hp) (C : Addr) (cl : List (Str × Addr)) (fp : List Addr), PTs (X.blk s H scope (compEnvC scope cl C X.env) fp) ifs tt)
    (he : ∀ (s : Shared) (H : Hp) (C : Addr) (cl : List (Str × Addr)) (fp : List Addr), PE (X.blk s H scope (compEnvC scope cl C X.env) fp) elt te) (hs : ∀ x, foldedSetIterable iter X.env x = pure x)
    (h : tLc wi g tt te (own.map (·.2)) σ H Q)
    (hRR : ∀ D C s' m H', Inv X pins σ H' s' → Q (.ref D) H' → s'.heap.Ns C m → FpOk X pins H' C → compPost (model X.prog X.w) X.A X.xe use Qf (.ref D) C (.ok .next) s') :
    wpAny (model X.prog X.w) X.A (comprehension (.ListComp elt [⟨tg, iter, ifs, 0⟩] scope pos) scope X.env pos' (newList []) false (eval iter X.env) use) Qf X.xe s := by
  have hfree : ∀ y ∈ scope.names, y.2 = .free → ∃ c, X.env.cells.lookup y.1 = some c := fun y hy e => by
    rcases ok.free y hy e with k | k
    · exact I.ok.has _ (.inl k)
    · exact I.ok.has _ (.inr k)
  refine wpAny_comprehension_free (use := use) rfl hs (closure_ok hfree) ok.kind (fun y hy e => by rw [ok.uniq y hy, e])
    (thn (hi pins s σ H _ I h) fun xv s1 hx => thn hx fun itv s2 h2 => ?_)
  obtain ⟨it, fp, tn, J, H2, e, I2, T, st2, f2, q⟩ := h2
  subst e
  refine wpAny_newObj_type (newEnv_comp ?_) (by show 0 ≤ sizeLine; decide)
  generalize hD : s2.heap.objs.size = D
  have hDn : H2 D = none := I2.hok.fresh (Nat.le_of_eq hD)
  obtain ⟨W, ⟨m0, w0⟩, turn⟩ := q D hDn
  -- the new list
  generalize hs3 : ({ s2 with heap := s2.heap.push { cls := .type "list", data := .seq ([] : List Value).toArray } } : Shared) = s3
  have I3 : Inv X pins σ (upd H2 D (.lst [])) s3 := by
    rw [← hs3]
    refine I2.laid (t' := s2.toks) (fun b o e => Heap.get?_push_of_some _ e) (Nat.le_of_eq hD) ⟨Nat.zero_le _, [], 0, .nil, ?_⟩
    rw [← hD]
    exact Heap.get?_push_size _ rfl
  have h3 : s3.heap = s2.heap.push { cls := .type "list", data := .seq ([] : List Value).toArray } := by rw [← hs3]
  have sz : ∀ b ∈ fp, b < s2.heap.objs.size := fun b hb => by
    obtain ⟨o, e, _⟩ := T.obj _ _ st2 b hb
    exact Heap.lt_size e
  have f3 : ∀ b ∈ fp, FpOk X pins (upd H2 D (.lst [])) b ∧ b < s3.heap.objs.size := fun b hb => by
    have hlt := sz b hb
    refine ⟨⟨?_, (f2 b hb).2⟩, by rw [h3, Heap.size_push]; exact Nat.lt_succ_of_lt hlt⟩
    rw [upd_ne (by rw [← hD]; exact Nat.ne_of_lt hlt)]
    exact (f2 b hb).1
  have st3 : tn 0 s3.heap := T.keep _ _ _ st2 fun b _ o e => by rw [h3]; exact Heap.get?_push_of_some _ e
  have I4 := block_start I3 ok hN f3
  have pg := hg s3 (upd H2 D (.lst [])) s3.heap.objs.size (cellsFrom (s3.heap.objs.size + 1) scope.names (cloFrom X.env.cells scope.names [])) fp
  have pt := ht s3 (upd H2 D (.lst [])) s3.heap.objs.size (cellsFrom (s3.heap.objs.size + 1) scope.names (cloFrom X.env.cells scope.names [])) fp
  have pe := he s3 (upd H2 D (.lst [])) s3.heap.objs.size (cellsFrom (s3.heap.objs.size + 1) scope.names (cloFrom X.env.cells scope.names [])) fp
  show codeAny _ _ (.compStart (.ListComp elt [⟨tg, iter, ifs, 0⟩] scope pos) 0 (.ref it) (.ref D) (compEnvC scope (cellsFrom (s3.heap.objs.size + 1) scope.names (cloFrom X.env.cells scope.names [])) s3.heap.objs.size X.env)) (compPost (model X.prog X.w) X.A X.xe use Qf (.ref D) s3.heap.objs.size) { s3 with heap := pushCells (s3.heap.push { cls := .type "dict", data := .dict #[] }) scope.names }
  have nfp : ∀ b ∈ fp, (upd H2 D (.lst [])) b = none := fun b hb => (f3 b hb).1.1
  generalize hce : compEnvC scope (cellsFrom (s3.heap.objs.size + 1) scope.names (cloFrom X.env.cells scope.names [])) s3.heap.objs.size X.env = ce at I4 pg pt pe ⊢
  have cL : ce.locals = s3.heap.objs.size := by subst hce; rfl
  generalize hH3 : upd H2 D (.lst []) = H3 at I3 I4 pg pt pe w0 nfp f3
  generalize hs4 : ({ s3 with heap := pushCells (s3.heap.push { cls := .type "dict", data := .dict #[] }) scope.names } : Shared) = s4 at I4 ⊢
  have st4 : tn 0 s4.heap := T.keep _ _ _ st3 fun b _ o e => by rw [← hs4]; exact pushCells_keeps _ _ _ _ (Heap.get?_push_of_some _ e)
  have stat : ∀ {σ' : St} {H' : Hp} {s' : Shared}, Inv (X.blk s3 H3 scope ce fp) [] σ' H' s' → (∀ b ∈ fp, H' b = none) → ∀ b ∈ fp, FpOk (X.blk s3 H3 scope ce fp) [] H' b := fun {σ' H' s'} I' hn b hb =>
    ⟨hn b hb, (I'.ok.exf b hb).1, I'.ok.exfs b hb, .inl hb, fun x c e => (I'.ok.exf b hb).2 x c e, fun p hp => absurd (show p ∈ ([] : List (Addr × Obj)) ++ [] from hp) (by simp)⟩
  have loop : codeAny (model X.prog X.w) X.A (.compLoop (.ListComp elt [⟨tg, iter, ifs, 0⟩] scope pos) 0 (.ref it) (.ref D) ce) (compPost (model X.prog X.w) X.A X.xe use Qf (.ref D) s3.heap.objs.size) s4 := by
    refine compLoop_any (fun n s' => ∃ i H', Inv (X.blk s3 H3 scope ce fp) [] (wipe σ (own.map (·.2))) H' s' ∧ tn i s'.heap ∧ (∀ b ∈ fp, H' b = none) ∧ W i n H') ?_ m0 ⟨0, H3, I4, st4, nfp, w0⟩
    rintro n s5 ⟨i, H5, I5, st5, n5, w5⟩
    rcases turn i n H5 w5 with ⟨stop, qq⟩ | ⟨go, Nx, hNx, step⟩
    · have td := T.done (X.blk s3 H3 scope ce fp) rfl rfl rfl hc i [] s5 _ H5 (fun _ _ => False) I5 (stat I5 n5) st5 stop
      refine thnF td fun r s6 ⟨hr, I6⟩ => ?_
      subst hr
      -- back in the def's context
      have I7 : Inv X pins σ H5 s6 := I3.call' (ch := fp) I6.os I6.base I6.hok I6.bare fun b hb => ⟨(f3 b hb).1.2.2.2.1, (f3 b hb).1.2.1, (f3 b hb).1.2.2.2.2.1, (f3 b hb).1.2.2.2.2.2⟩
      have nC : H5 s3.heap.objs.size = none := by
        have z : H5 ce.locals = none := I6.free
        rw [cL] at z
        exact z
      obtain ⟨m, hn, _⟩ := I6.loc
      have hn : s6.heap.Ns ce.locals m := hn
      rw [cL] at hn
      exact hRR D s3.heap.objs.size s6 m H5 I7 qq hn (I3.fpOk (Nat.le_refl _) nC)
    · have ti := T.item (X.blk s3 H3 scope ce fp) rfl rfl rfl hc i [] s5 _ H5 (fun _ _ => False) I5 (stat I5 n5) st5 go
      refine thnF ti fun r s6 ⟨u, hr, h6⟩ => ?_
      subst hr
      refine thnF h6 fun _ s7 ⟨x, H7, I7, r7, y7, st7, n7⟩ => ?_
      have I7' := I7.pinned (stat I7 n7) (T.obj _ _ st7)
      refine thnF (pg _ s7 _ H7 x u _ I7' r7 (step x H7 y7)) fun _ s8 ⟨σ8, H8, I8, hw8, q8⟩ => ?_
      refine thnF (pt _ s8 σ8 H8 _ I8 q8) fun b s9 ⟨H9, I9, q9⟩ => ?_
      -- the turn's end
      have fin : ∀ {s' : Shared} {H' : Hp}, Inv (X.blk s3 H3 scope ce fp) ([] ++ pinsAt fp s7.heap) σ8 H' s' → Nx H' → ∃ m, m < n ∧ ∃ i H', Inv (X.blk s3 H3 scope ce fp) [] (wipe σ (own.map (·.2))) H' s' ∧ tn i s'.heap ∧ (∀ b ∈ fp, H' b = none) ∧ W i m H' := fun {s' H'} I' nx => by
        obtain ⟨m', hm, w'⟩ := hNx H' nx
        have pin' : ∀ b ∈ fp, ∀ o, s7.heap.get? b = some o → s'.heap.get? b = some o ∧ H' b = none := fun b hb o e =>
          let z := I'.pin (b, o) (List.mem_append_right _ (List.mem_append_right _ (mem_pinsAt hb e)))
          ⟨z.1, z.2.1⟩
        have hl : (wipe σ (own.map (·.2))).length = σ8.length := by rw [← hw8, wipe_length]
        refine ⟨m', hm, i + 1, H', (I'.unpinned (pins := [])).weak hl (fun j v e => ?_), T.keep _ _ _ st7 fun b hb o e => (pin' b hb o e).1, fun b hb => ?_, w'⟩
        · rw [← hw8] at e
          exact (wipe_some e).1
        · obtain ⟨o, e, _⟩ := T.obj _ _ st7 b hb
          exact (pin' b hb o e).2
      cases b with
      | false =>
        simp only [Bool.false_eq_true, if_false] at q9 ⊢
        exact fin I9 q9
      | true =>
        simp only [if_true] at q9 ⊢
        refine thnF (pe _ s9 σ8 H9 _ I9 q9) fun z s10 ⟨yv, H10, I10, r10, acc, hD10, hz10, nx⟩ => ?_
        exact app_ok (X := X.blk s3 H3 scope ce fp) I10 hD10 hz10 r10 fun s11 I11 => fin I11 nx
  exact codeAny_compStart_list loop (T.self X.A 0 _ _ _ st4 loop)
theorem pe_lc {elt tg iter : Expr} {ifs : List Expr} {scope : Scope} {own : List (Str × Nat)} {pos : Pos} {wi : TI} {g : TG} {tt : TT} {te : TE} (hc : X.calm = true) (hN : X.N.Nodup) (hi : PI X tg iter wi) (ok : BlkOk X.N X.env.scope scope own)
    (hg : ∀ (s : Shared) (H : Hp) (C : Addr) (cl : List (Str × Addr)) (fp : List Addr), PG (X.blk s H scope (compEnvC scope cl C X.env) fp) tg g) (ht : ∀ (s : Shared) (H : Hp) (C : Addr) (cl : List (Str × Addr)) (fp : List Addr), PTs (X.blk s H scope (compEnvC scope cl C X.env) fp) ifs tt)
    (he : ∀ (s : Shared) (H : Hp) (C : Addr) (cl : List (Str × Addr)) (fp : List Addr), PE (X.blk s H scope (compEnvC scope cl C X.env) fp) elt te) (hs : ∀ x, foldedSetIterable iter X.env x = pure x := by intro _; rfl) :
    PE X (.ListComp elt [⟨tg, iter, ifs, 0⟩] scope pos) (tLc wi g tt te (own.map (·.2))) := by
  intro pins s σ H Q I h
  rw [eval_ListComp]
  refine lc_core hc hN I hi ok hg ht he hs h fun D C s' m H' I' q hn f => ⟨m, hn, fun h'' sb => ?_⟩
  obtain ⟨f0, f1, f2, f3, f4, f5⟩ := f
  exact ⟨.ref D, H', I'.turned (t' := s'.toks) (fun b o hb e => (sb.2 b hb).trans e) f0 f1 f3 f4 f5, rfl, q⟩
end
def blkC (N : List Str) (sc scope : Scope) (own : List (Str × Nat)) : Bool :=
  (match scope.kind with | .function => true | _ => false) && (scope.names.all fun y => decide (scope.names.lookup y.1 = some y.2)) && (own.all fun p => decide (N[p.2]? = some p.1)) &&
    (scope.names.all fun y => match y.2 with
      | .free => (match sc.names.lookup y.1 with | some .cell => true | some .free => true | _ => false)
      | .local => decide (y.1 ∈ own.map (·.1)) || decide (y.1 ∉ N)
      | .cell => decide (y.1 ∈ own.map (·.1)) || decide (y.1 ∉ N)
      | _ => true)
theorem blkOk_by {N : List Str} {sc scope : Scope} {own : List (Str × Nat)} (h : blkC N sc scope own = true) : BlkOk N sc scope own := by
  unfold blkC at h
  simp only [Bool.and_eq_true, List.all_eq_true, decide_eq_true_eq] at h
  obtain ⟨⟨⟨h1, h2⟩, h3⟩, h4⟩ := h
  refine ⟨?_, h2, h3, fun y hy e => ?_, fun y hy e => ?_⟩
  · split at h1
    · assumption
    · cases h1
  · have q := h4 y hy
    simp only [e] at q
    split at q <;> first | exact .inl (by assumption) | exact .inr (by assumption) | cases q
  · have q := h4 y hy
    rcases e with e | e <;> (simp only [e, Bool.or_eq_true, decide_eq_true_eq] at q; exact q)
end L2
namespace L2
open PySem PySem.Spec PyProof.Rows
section
variable {prog : Program} {w : World} {A : Around} {R : Result → Shared → Prop} {s : Shared} {elt t0 i0 t1 i1 : Expr} {ifs0 ifs1 : List Expr} {scope : Scope} {pos : Pos} {it acc : Value} {env : Env}
end
section
variable {X : Cx}
end
end L2
namespace L2
open PySem PySem.Spec PyProof.Rows
section
variable {κ : Type} [DecidableEq κ]
def valV (kvs : List (κ × V)) (k : κ) : Option V := (kvs.find? fun kv => decide (kv.1 = k)).map (·.2)
def putK (kvs : List (κ × V)) (k : κ) (v : V) : List (κ × V) :=
  if (kvs.any fun kv => decide (kv.1 = k)) = true then kvs.map (fun kv => if kv.1 = k then (kv.1, v) else kv) else kvs ++ [(k, v)]
def dropK (kvs : List (κ × V)) (k : κ) : List (κ × V) := kvs.filter fun kv => decide (kv.1 ≠ k)
theorem valV_pos {p : κ × V} {r : List (κ × V)} {k : κ} (e : p.1 = k) : valV (p :: r) k = some p.2 := by simp [valV, List.find?_cons, e]
theorem valV_neg {p : κ × V} {r : List (κ × V)} {k : κ} (e : ¬ p.1 = k) : valV (p :: r) k = valV r k := by simp [valV, List.find?_cons, e]
theorem valV_any (k : κ) : ∀ kvs : List (κ × V), (kvs.any fun kv => decide (kv.1 = k)) = (valV kvs k).isSome
  | [] => rfl
  | p :: r => by
    rw [List.any_cons]
    by_cases e : p.1 = k
    · simp only [valV_pos e, decide_eq_true e, Bool.true_or, Option.isSome_some]
    · rw [valV_neg e, decide_eq_false e, Bool.false_or]; exact valV_any k r
theorem length_putK (kvs : List (κ × V)) (k : κ) (v : V) : (putK kvs k v).length ≤ kvs.length + 1 := by
  unfold putK
  split
  · rw [List.length_map]; omega
  · rw [List.length_append, List.length_cons, List.length_nil]; omega
theorem RelO.isSome_eq {o : Option V} {u : Option Value} (r : RelO o u) : o.isSome = u.isSome := by
  cases o with
  | none => cases u with
    | none => rfl
    | some _ => exact (show False from r).elim
  | some _ => cases u with
    | none => exact (show False from r).elim
    | some _ => rfl
theorem RelO.getD {o : Option V} {u : Option Value} {d : V} {d' : Value} (r : RelO o u) (rd : RelV d d') : RelV (o.getD d) (u.getD d') := by
  cases o with
  | none => cases u with
    | none => exact rd
    | some _ => exact (show False from r).elim
  | some _ => cases u with
    | none => exact (show False from r).elim
    | some _ => exact r
theorem KV.val {kvs : List (κ × V)} {vs : List (κ × Value)} (r : KV kvs vs) (k : κ) : RelO (valV kvs k) (valueAt vs k) := by
  unfold KV at r
  induction r with
  | nil => exact True.intro
  | @cons p q ps qs h t ih =>
    obtain ⟨h1, h2⟩ := h
    by_cases e : p.1 = k
    · have e' : q.1 = k := h1.symm.trans e
      have b : valueAt (q :: qs) k = some q.2 := by simp [valueAt, List.find?_cons, e']
      rw [valV_pos e, b]; exact h2
    · have e' : ¬ q.1 = k := fun z => e (h1.trans z)
      have b : valueAt (q :: qs) k = valueAt qs k := by simp [valueAt, List.find?_cons, e']
      rw [valV_neg e, b]; exact ih
theorem KV.any {kvs : List (κ × V)} {vs : List (κ × Value)} (r : KV kvs vs) (k : κ) : (kvs.any fun kv => decide (kv.1 = k)) = vs.any fun kv => decide (kv.1 = k) := by
  unfold KV at r
  induction r with
  | nil => rfl
  | cons h t ih => rw [List.any_cons, List.any_cons, ih, h.1]
theorem KV.repl {kvs : List (κ × V)} {vs : List (κ × Value)} (r : KV kvs vs) (k : κ) {y : V} {u : Value} (ry : RelV y u) :
    KV (kvs.map fun kv => if kv.1 = k then (kv.1, y) else kv) (vs.map fun kv => if kv.1 = k then (kv.1, u) else kv) := by
  unfold KV at r ⊢
  induction r with
  | nil => exact .nil
  | @cons p q ps qs h t ih =>
    rw [List.map_cons, List.map_cons]
    refine .cons ?_ ih
    obtain ⟨h1, h2⟩ := h
    by_cases e : p.1 = k
    · rw [if_pos e, if_pos (h1.symm.trans e)]; exact ⟨h1, ry⟩
    · rw [if_neg e, if_neg (fun z => e (h1.trans z))]; exact ⟨h1, h2⟩
theorem KV.put {kvs : List (κ × V)} {vs : List (κ × Value)} (r : KV kvs vs) (k : κ) {y : V} {u : Value} (ry : RelV y u) : KV (putK kvs k y) (stored vs k u) := by
  unfold putK stored
  rw [r.any k]
  by_cases e : (vs.any fun kv => decide (kv.1 = k)) = true
  · rw [if_pos e, if_pos e]; exact r.repl k ry
  · rw [if_neg e, if_neg e]; exact Paired.snoc r ⟨rfl, ry⟩
theorem KV.drop {kvs : List (κ × V)} {vs : List (κ × Value)} (r : KV kvs vs) (k : κ) : KV (dropK kvs k) (without vs k) := by
  unfold KV at r ⊢
  unfold dropK without
  induction r with
  | nil => exact .nil
  | @cons p q ps qs h t ih =>
    obtain ⟨h1, h2⟩ := h
    rw [List.filter_cons, List.filter_cons]
    by_cases e : p.1 = k
    · have a : ¬ decide (p.1 ≠ k) = true := by simp [e]
      have b : ¬ decide (q.1 ≠ k) = true := by simp [h1.symm.trans e]
      rw [if_neg a, if_neg b]; exact ih
    · have e' : ¬ q.1 = k := fun z => e (h1.trans z)
      have a : decide (p.1 ≠ k) = true := by simp [e]
      have b : decide (q.1 ≠ k) = true := by simp [e']
      rw [if_pos a, if_pos b]; exact .cons ⟨h1, h2⟩ ih
theorem KV.keys {kvs : List (κ × V)} {vs : List (κ × Value)} (r : KV kvs vs) : kvs.map (·.1) = vs.map (·.1) := by
  unfold KV at r
  induction r with
  | nil => rfl
  | cons h t ih => rw [List.map_cons, List.map_cons, ih, h.1]
theorem KV.length {kvs : List (κ × V)} {vs : List (κ × Value)} (r : KV kvs vs) : kvs.length = vs.length := Paired.length r
end
theorem kV_is {P : Program} {w : World} {k : Key} {u : Value} (r : RelV (kV k) u) : (mixKind P w).is k u = true := by
  cases k with
  | inl i => obtain ⟨t, e⟩ := (show ∃ t, u = Value.int i t from r); subst e; exact mixKind_int P w i t
  | inr x => obtain ⟨t, e⟩ := (show ∃ t, u = Value.str x t from r); subst e; exact mixKind_str P w x t
theorem items_are {P : Program} {w : World} : ∀ {ks : List Key} {us : List Value}, Vals (ks.map kV) us → ItemsAre (mixKind P w) ks us
  | [], _, r => by rw [List.map_nil] at r; cases r; exact .nil
  | k :: ks, _, r => by
    rw [List.map_cons] at r
    cases r with
    | cons h t => exact .cons (kV_is h) (items_are t)
abbrev KT (H : Hp) : List (List Key × V) → List (List Key × Addr × Value) → Prop := Paired fun p q => p.1 = q.1 ∧ H q.2.1 = some (.tup (p.1.map kV)) ∧ RelV p.2 q.2.2
theorem KT.val {H : Hp} {kvs : List (List Key × V)} {xs : List (List Key × Addr × Value)} (r : KT H kvs xs) (k : List Key) : RelO (valV kvs k) ((atKey xs k).map (·.2)) := by
  induction r with
  | nil => exact True.intro
  | @cons p q ps qs h t ih =>
    obtain ⟨h1, _, h2⟩ := h
    by_cases e : p.1 = k
    · have e' : q.1 = k := h1.symm.trans e
      have b : atKey (q :: qs) k = some q.2 := by simp [atKey, List.find?_cons, e']
      rw [valV_pos e, b]; exact h2
    · have e' : ¬ q.1 = k := fun z => e (h1.trans z)
      have b : atKey (q :: qs) k = atKey qs k := by simp [atKey, List.find?_cons, e']
      rw [valV_neg e, b]; exact ih
theorem KT.repl {H : Hp} {kvs : List (List Key × V)} {xs : List (List Key × Addr × Value)} (r : KT H kvs xs) (k : List Key) {y : V} {u : Value} (ry : RelV y u) :
    KT H (kvs.map fun kv => if kv.1 = k then (kv.1, y) else kv) (xs.map (putAt k u)) := by
  induction r with
  | nil => exact .nil
  | @cons p q ps qs h t ih =>
    rw [List.map_cons, List.map_cons]
    refine .cons ?_ ih
    obtain ⟨h1, h2, h3⟩ := h
    unfold putAt
    by_cases e : p.1 = k
    · rw [if_pos e, if_pos (h1.symm.trans e)]; exact ⟨h1, h2, ry⟩
    · rw [if_neg e, if_neg (fun z => e (h1.trans z))]; exact ⟨h1, h2, h3⟩
theorem KT.put {H : Hp} {kvs : List (List Key × V)} {xs : List (List Key × Addr × Value)} (r : KT H kvs xs) (k : List Key) {b : Addr} {y : V} {u : Value} (hb : H b = some (.tup (k.map kV))) (ry : RelV y u) :
    KT H (putK kvs k y) (storedH xs k b u) := by
  have e : (kvs.any fun kv => decide (kv.1 = k)) = (atKey xs k).isSome := by
    rw [valV_any, (r.val k).isSome_eq, Option.isSome_map]
  unfold putK storedH
  rw [e]
  by_cases q : (atKey xs k).isSome = true
  · rw [if_pos q, if_pos q]; exact r.repl k ry
  · rw [if_neg q, if_neg q]; exact Paired.snoc r ⟨rfl, hb, ry⟩
theorem KT.keeps {H H' : Hp} {kvs : List (List Key × V)} {xs : List (List Key × Addr × Value)} (r : KT H kvs xs) (ht : ∀ b ys, H b = some (.tup ys) → H' b = some (.tup ys)) : KT H' kvs xs :=
  Paired.mapP r fun _ _ z => ⟨z.1, ht _ _ z.2.1, z.2.2⟩
section
variable {P : Program} {w : World} {H : Hp} {h : Heap} {a : Addr}
theorem rd_of {u : HO} (ok : HOk P w H h) (e : Rd H a u) : ObjOk P w H h a u := e.ok ok
theorem dk_rd {kvs : List (Key × V)} (ok : HOk P w H h) (e : Rd H a (.dK kvs)) : kvs.length ≤ sizeLine ∧ (a == sysModules) = false ∧ ∃ vs, KV kvs vs ∧ h.DictOf (mixKind P w) a vs :=
  show ObjOk P w H h a (.dK kvs) from rd_of ok e
theorem dk_of {kvs : List (Key × V)} (ok : HOk P w H h) (e : H a = some (.dK kvs)) : kvs.length ≤ sizeLine ∧ (a == sysModules) = false ∧ ∃ vs, KV kvs vs ∧ h.DictOf (mixKind P w) a vs := dk_rd ok (.inl e)
theorem key_of {ks : List Key} (ok : HOk P w H h) (e : H a = some (.tup (ks.map kV))) : (tupleKind (mixKind P w)).is h ks a := by
  obtain ⟨_, its, r, o, h1, h2, n, h3⟩ := (show ObjOk P w H h a (.tup (ks.map kV)) from ok a _ e)
  exact ⟨o, its.toArray, n, h1, h2, h3, by simpa using items_are r⟩
theorem dt_rd {kvs : List (List Key × V)} (ok : HOk P w H h) (e : Rd H a (.dT kvs)) : kvs.length ≤ sizeLine ∧ (a == sysModules) = false ∧
    ∃ xs, KT H kvs xs ∧ h.DictOfH (tupleKind (mixKind P w)) a xs := by
  obtain ⟨z, y, xs, r, o, es, ep, h1, h2, h3, h4, h5⟩ := (show ObjOk P w H h a (.dT kvs) from rd_of ok e)
  refine ⟨z, y, xs, r, o, es, ep, h1, h2, h3, h4, fun x hx => ?_, h5⟩
  have all : ∀ {l : List (List Key × V)} {m : List (List Key × Addr × Value)}, KT H l m → ∀ x ∈ m, (tupleKind (mixKind P w)).is h x.1 x.2.1 := by
    intro l m q
    induction q with
    | nil => intro x hx; exact nomatch hx
    | @cons p q ps qs hq t ih =>
      intro x hx
      rcases List.mem_cons.mp hx with e | hx
      · subst e
        exact key_of ok (by rw [← hq.1]; exact hq.2.1)
      · exact ih x hx
  exact all r x hx
theorem dt_of {kvs : List (List Key × V)} (ok : HOk P w H h) (e : H a = some (.dT kvs)) : kvs.length ≤ sizeLine ∧ (a == sysModules) = false ∧
    ∃ xs, KT H kvs xs ∧ h.DictOfH (tupleKind (mixKind P w)) a xs := dt_rd ok (.inl e)
end
def DGet (H : Hp) (a : Addr) (y : V) (r : Option V) : Prop :=
  (∃ kvs k, Rd H a (.dK kvs) ∧ y = kV k ∧ r = valV kvs k) ∨ ∃ kvs k b, Rd H a (.dT kvs) ∧ y = .ref b ∧ H b = some (.tup (k.map kV)) ∧ r = valV kvs k
def DPut (H : Hp) (a : Addr) (y v : V) (H' : Hp) : Prop :=
  (∃ kvs k, H a = some (.dK kvs) ∧ y = kV k ∧ kvs.length < sizeLine ∧ H' = upd H a (.dK (putK kvs k v))) ∨
  ∃ kvs k b, H a = some (.dT kvs) ∧ y = .ref b ∧ H b = some (.tup (k.map kV)) ∧ kvs.length < sizeLine ∧ H' = upd H a (.dT (putK kvs k v))
theorem DGet.k {H : Hp} {a : Addr} {kvs : List (Key × V)} {k : Key} (e : H a = some (.dK kvs)) : DGet H a (kV k) (valV kvs k) := .inl ⟨kvs, k, .inl e, rfl, rfl⟩
theorem DGet.t {H : Hp} {a b : Addr} {kvs : List (List Key × V)} {k : List Key} (e : H a = some (.dT kvs)) (eb : H b = some (.tup (k.map kV))) : DGet H a (.ref b) (valV kvs k) := .inr ⟨kvs, k, b, .inl e, rfl, eb, rfl⟩
theorem DPut.k {H : Hp} {a : Addr} {kvs : List (Key × V)} {k : Key} {v : V} (e : H a = some (.dK kvs)) (hl : kvs.length < sizeLine) : DPut H a (kV k) v (upd H a (.dK (putK kvs k v))) := .inl ⟨kvs, k, e, rfl, hl, rfl⟩
theorem DPut.t {H : Hp} {a b : Addr} {kvs : List (List Key × V)} {k : List Key} {v : V} (e : H a = some (.dT kvs)) (eb : H b = some (.tup (k.map kV))) (hl : kvs.length < sizeLine) :
    DPut H a (.ref b) v (upd H a (.dT (putK kvs k v))) := .inr ⟨kvs, k, b, e, rfl, eb, hl, rfl⟩
section
variable {X : Cx} {pins : List (Addr × Obj)} {σ : St} {H : Hp} {s : Shared} {a : Addr} {y v : V} {u r : Value} {o : Option V} {A : Around} {E : Value → Shared → Prop}
theorem Inv.big (I : Inv X pins σ H s) : sysModules < s.heap.objs.size := by
  have h : mainGlobals < s.heap.objs.size := (I.mod.glob.keeps I.bk).lt
  exact Nat.lt_trans (by decide) h
theorem d_write {h' : Heap} {t' : Nat} {ob : HO} (I : Inv X pins σ H s) (mu : Mut (H a)) (hs : Heap.SameBut a s.heap h') (he : ∃ q, h'.get? a = some q) (new : ObjOk X.prog X.w (upd H a ob) h' a ob) :
    Inv X pins σ (upd H a ob) { s with heap := h', toks := t' } :=
  I.write (x := a) (e := a) mu (.inl rfl) (fun b q hb z => (hs.2 b hb).trans z) he new
theorem dk_new {P : Program} {w : World} {H' : Hp} {h' : Heap} {kvs : List (Key × V)} {vs : List (Key × Value)} (z : kvs.length ≤ sizeLine) (hd : (a == sysModules) = false) (rel : KV kvs vs) (dd : h'.DictOf (mixKind P w) a vs) :
    ObjOk P w H' h' a (.dK kvs) := ⟨z, hd, vs, rel, dd⟩
theorem d_setItem {H' : Hp} {Q : Unit → Shared → Prop} (hu : A.units + 1 < cLine) (I : Inv X pins σ H s) (g : DPut H a y v H') (ry : RelV y u) (rv : RelV v r) (h : ∀ s', Inv X pins σ H' s' → Q () s') :
    wpAny (model X.prog X.w) A (setItem (.ref a) u r) Q E s := by
  rcases g with ⟨kvs, k, e, ey, l, eH⟩ | ⟨kvs, k, b, e, ey, eb, l, eH⟩
  · subst ey eH
    obtain ⟨z, hd, vs, rel, dd⟩ := dk_of I.hok e
    have hz : vs.length ≤ sizeLine := by rw [← rel.length]; exact z
    have hl : (putK kvs k v).length ≤ sizeLine := by have := length_putK kvs k v; omega
    refine wpAny_setItem_pairs (hsz := hz) (kV_is ry) dd fun h' dd' hs => h _ ?_
    have he : ∃ q, h'.get? a = some q := let ⟨q, _, _, hq, _⟩ := dd'; ⟨q, hq⟩
    exact d_write I (by rw [e]; exact True.intro) hs he (dk_new hl hd (rel.put k rv) dd')
  · subst ey eH
    cases (show u = Value.ref b from ry)
    obtain ⟨z, hd, xs, rel, dd⟩ := dt_of I.hok e
    have hz : xs.length ≤ sizeLine := by rw [← Paired.length rel]; exact z
    have hl : (putK kvs k v).length ≤ sizeLine := by have := length_putK kvs k v; omega
    refine wpAny_setItem_heap (hsz := hz) (tupleKind_room_in1 hu) (key_of I.hok eb) dd fun h' dd' hs => h _ ?_
    obtain ⟨q, es, ep, hq, h2, h3, h4, _, h5⟩ := dd'
    refine d_write I (by rw [e]; exact True.intro) hs ⟨q, hq⟩ ⟨hl, hd, _, (rel.put k eb rv).keeps fun c ys ec => ?_, q, es, ep, hq, h2, h3, h4, h5⟩
    rw [upd_ne (ne_of ec e (fun z => nomatch z))]
    exact ec
end
section
variable {X : Cx} {pins : List (Addr × Obj)} {σ : St} {H : Hp} {s : Shared} {a : Addr} {kvs : List (Key × V)} {k : Key} {u : Value} {A : Around} {E : Value → Shared → Prop}
end
def NoSl (i : Expr) : Prop := ∀ ov iv, subscripted i false ov iv = operate [ov, iv] (getItem ov iv)
theorem subD_of {prog : Program} {w : World} {A : Around} {E : Value → Shared → Prop} {s : Shared} {env : Env} {value slice : Expr} {pos : Pos} {T id : String} {Q : Value → Shared → Prop}
    (hl : typeLookup (.type T) "__getitem__" = pure (some (.builtin id))) (hs : NoSl slice)
    (h : wpAny (model prog w) A (eval value env) (fun o s₁ => wpAny (model prog w) A (eval slice env) (fun i s₂ => s₂.TypeIs o T ∧ wpAny (model prog w) A (getItem o i) Q E s₂) E s₁) E s) :
    wpAny (model prog w) A (eval (.Subscript value slice pos) env) Q E s := by
  refine Subscript_ (wpAny_mono h (fun o s₁ h₁ => wpAny_mono h₁ (fun i s₂ h₂ => ?_) fun _ _ x => x) fun _ _ x => x)
  obtain ⟨hT, h₂⟩ := h₂
  unfold subscriptTail
  refine wpAny_bind ?_
  rw [getitemInPython_of_ne hT.not_modules]
  refine wpAny_bind (wpAny_specialOf hT hl ?_)
  have fin : wpAny (model prog w) A (subscripted slice false o i) (fun r s₃ => wpAny (model prog w) A (letTemporaryGo value o r >>= fun _ => pure r) Q E s₃) E s₂ := by
    rw [hs o i]
    exact wpAny_operating (wpAny_mono h₂ (fun r s₃ h₃ => wpAny_bind (wpAny_letTemporaryGo (wpAny_pure h₃))) fun _ _ x => x)
  first
    | exact wpAny_pure (wpAny_bind fin)
    | exact wpAny_bind (wpAny_pure (wpAny_bind fin))
    | exact wpAny_bind fin
def sDPut (td ty tv : TE) : TS := fun D σ H => tv σ H fun v H1 => td σ H1 fun x H2 => ty σ H2 fun y H3 => ∃ a H4, x = .ref a ∧ DPut H3 a y v H4 ∧ D.nx σ H4
section
variable {X : Cx} {o i e value : Expr} {pos pos' tpos : Pos} {td ty tv : TE}
theorem ps_dput (hu : X.A.units + 1 < cLine) (ho : PE X o td) (hi : PE X i ty) (hv : PE X value tv) (hs : swapsWith value (some (.Subscript o i pos')) pos.line X.env = pure false) :
    PS X (.Assign [.Subscript o i pos'] value pos) (sDPut td ty tv) := by
  intro pins s σ H D I h
  refine wpAny_Assign_Subscript (thn (hv pins s σ H _ I h) fun r s1 ⟨v, H1, I1, rv, q1⟩ => thn (ho pins s1 σ H1 _ I1 q1) fun u s2 ⟨x, H2, I2, rx, q2⟩ => thn (hi pins s2 σ H2 _ I2 q2) fun iv s3 ⟨y, H3, I3, ry, a, H4, ex, g, q3⟩ => ?_) hs
  subst ex
  obtain rfl : u = Value.ref a := rx
  exact d_setItem hu I3 g ry rv fun s4 I4 => ⟨σ, H4, I4, q3⟩
end
theorem dt_empty {P : Program} {w : World} {H : Hp} (h : Heap) (hb : sysModules < h.objs.size) : ObjOk P w H (h.push { cls := .type "dict", data := .dict #[] }) h.objs.size (.dT []) :=
  ⟨Nat.zero_le _, beq_eq_false_iff_ne.mpr (Ne.symm (Nat.ne_of_lt hb)), [], .nil, _, #[], 0, Heap.get?_push_size _ rfl, ⟨rfl, rfl, rfl⟩, rfl, rfl, List.nodup_nil⟩
section
variable {X : Cx} {pos : Pos}
end
structure M1 (X : Cx) (o : Expr) (m : Str) (apos : Pos) (e : Expr) (cpos : Pos) : Prop where
  base : attributeBase o m X.env (eval o X.env) = eval o X.env
  few : ((backTo cpos (starEach [e] X.env)).all (fun x => !x.1) && (backToKw cpos (keywordEach [] X.env)).all (fun x => x.1.isSome)
    && decide (([e] : List Expr).length + ([] : List Keyword).length + (if ([] : List Keyword).isEmpty then 0 else 1) < 30)) = true
  line : (apos.endLine == cpos.line) = true
  trees : backTo cpos (starEach [e] X.env) = [(false, eval e X.env)]
structure M2 (X : Cx) (o : Expr) (m : Str) (apos : Pos) (e f : Expr) (cpos : Pos) : Prop where
  base : attributeBase o m X.env (eval o X.env) = eval o X.env
  few : ((backTo cpos (starEach [e, f] X.env)).all (fun x => !x.1) && (backToKw cpos (keywordEach [] X.env)).all (fun x => x.1.isSome)
    && decide (([e, f] : List Expr).length + ([] : List Keyword).length + (if ([] : List Keyword).isEmpty then 0 else 1) < 30)) = true
  line : (apos.endLine == cpos.line) = true
  trees : backTo cpos (starEach [e, f] X.env) = [(false, eval e X.env), (false, eval f X.env)]
section
variable {X : Cx} {pins : List (Addr × Obj)} {σ : St} {H : Hp} {s : Shared} {a : Addr} {y d : V} {u r : Value} {o : Option V} {A : Around} {E : Value → Shared → Prop}
end
section
variable {X : Cx} {o e f : Expr} {apos cpos : Pos} {td ty tx : TE}
end
section
variable {X : Cx} {pins : List (Addr × Obj)} {σ : St} {H : Hp} {s : Shared} {a : Addr} {kvs : List (Key × V)} {A : Around} {E : Value → Shared → Prop}
end
section
variable {X : Cx} {pins : List (Addr × Obj)} {σ : St} {H : Hp} {s : Shared} {a : Addr} {y : V} {u : Value} {A : Around} {E : Value → Shared → Prop}
end
end L2
namespace L2
open PySem PySem.Spec PyProof.Rows
section
variable {prog : Program} {w : World} {A : Around} {E : Value → Shared → Prop}
end
section
variable {X : Cx}
end
end L2
namespace L2
open PySem PySem.Spec PyProof.Rows
section
variable {X : Cx} {pins : List (Addr × Obj)} {σ : St} {H : Hp} {s : Shared} {h' : Heap}
end
section
variable {X : Cx}
theorem pi_one {tg : Expr} {pins : List (Addr × Obj)} {σ : St} {H : Hp} {s : Shared} {R : It → Hp → Prop} {J : It} {tn : Nat → Heap → Prop} {tk : Nat} (I : Inv X pins σ H s) (o : Obj)
    (T : Turn X.prog X.w X.K tg J [s.heap.objs.size] s.heap.objs.size tn) (st : tn 0 (s.heap.push o)) (q : R J H) : PIE X pins σ tg R (.ref s.heap.objs.size) { s with heap := s.heap.push o, toks := tk } := by
  refine ⟨s.heap.objs.size, [s.heap.objs.size], tn, J, H, rfl, I.kept fun b ob e => Heap.get?_push_of_some _ e, T, st, fun b hb => ?_, q⟩
  have e : b = s.heap.objs.size := by simpa using hb
  subst e
  exact I.fpOk (Nat.le_refl _) (I.hok.fresh (Nat.le_refl _))
end
section
variable {X : Cx} {tg : Expr}
end
section
variable {X : Cx} {tg : Expr}
end
def Its (x : Str) : It := ⟨fun i _ => i < x.cps.size, fun i H v H' => H' = H ∧ ∃ c, x.cps[i]? = some c ∧ v = .str ⟨#[c]⟩, fun i _ => x.cps.size ≤ i⟩
theorem turn_str {P : Program} {w : World} {K : PySem.W.Frag} {tg : Expr} (it : Addr) (x : Str) (t : Tok) (ty : String) (hty : ty = "str_ascii_iterator" ∨ ty = "str_iterator") :
    Turn P w K tg (Its x) [it] it (fun i h => h.IsStrIter it ty x t i) where
  mem := by simp
  obj := fun i h st b hb => by
    have e : b = it := by simpa using hb
    subst e
    obtain ⟨o, e, c, d⟩ := st
    exact ⟨o, e, fun v z => by rw [d] at z; cases z⟩
  keep := fun i h h' st k => let ⟨o, ho, r⟩ := st; ⟨o, k it (by simp) o ho, r⟩
  item := by
    intro X hP hw hK hc i pins s σ H E I hf st hg
    subst hP hw hK
    obtain ⟨f0, f1, f2, f3, f4, f5⟩ := hf it (by simp)
    have W : Walks X.prog X.w X.A it [it] [it] x.cps.size (SignAt x) (fun i h => h.IsStrIter it ty x t i) := by
      rcases hty with e | e
      · rw [e]; exact Walks.strAscii (I.ok.hd hc) it x t
      · rw [e]; exact Walks.strWide (I.ok.hd hc) it x t
    have hno : ["enumerate", "zip", "dict_itemiterator", "dict_reverseitemiterator", "odict_iterator", "itertools.zip_longest", "itertools.pairwise"].contains ty = false := by
      rcases hty with e | e
      · rw [e]; decide
      · rw [e]; decide
    refine W.item i s _ _ hg st fun v h' tk hv st' kk => ?_
    obtain ⟨c, u, hcx, rfl⟩ := hv
    have I1 : Inv X pins σ H { s with heap := h', toks := tk } := I.turned (fun b o hb e => kk b o (by simpa using hb) e) f0 f1 f3 f4 f5
    obtain ⟨oi, e, cc, dd⟩ := id st'
    exact ⟨_, rfl, go_of (s := { s with heap := h', toks := tk }) e cc dd hno ⟨.str ⟨#[c]⟩, H, I1, ⟨u, rfl⟩, ⟨rfl, c, hcx, rfl⟩, st', fun b hb => (hf b hb).1⟩⟩
  done := by
    intro X hP hw hK hc i pins s σ H E I hf st hg
    subst hP hw hK
    obtain ⟨f0, f1, f2, f3, f4, f5⟩ := hf it (by simp)
    have hx : x.cps[i]? = none := Array.getElem?_eq_none hg
    rcases hty with e | e
    · rw [e] at st
      exact wpAny_pyNext_ascii_end (I.ok.hd hc) st hx fun h' eb => ⟨rfl, I.turned (t' := s.toks) (fun b o hb e => eb b o hb e) f0 f1 f3 f4 f5⟩
    · rw [e] at st
      exact wpAny_pyNext_wide_end (I.ok.hd hc) st hx fun h' eb => ⟨rfl, I.turned (t' := s.toks) (fun b o hb e => eb b o hb e) f0 f1 f3 f4 f5⟩
  self := fun A i s Q E st h => by
    rcases hty with e | e
    · rw [e] at st; exact wpAny_pyIter_striter_ascii st h
    · rw [e] at st; exact wpAny_pyIter_striter_wide st h
section
variable {prog : Program} {w : World} {A : Around} {E : Value → Shared → Prop} {s : Shared}
end
section
variable {X : Cx} {pins : List (Addr × Obj)} {σ : St} {H : Hp} {s : Shared} {d : Addr} {o : Obj}
end
section
variable {P : Program} {w : World} {K : PySem.W.Frag} {tg : Expr} {d : Addr} {o : Obj} {es : Array DictEntry} {ep : Nat}
end
section
variable {X : Cx} {tg e : Expr} {td : TE} {apos cpos : Pos}
end
end L2
section 
namespace Bits
open PySem PyProof.Rows
end Bits
end 
section 
namespace TL
open PySem PySem.Builtin PySem.Builtin.Str PySem.StrLaws
abbrev tl (x : Str) : List Nat := x.cps.toList
theorem len_tl (x : Str) : x.length = (tl x).length := by simp [tl, Str.length]
theorem tl_append (x y : Str) : tl (x ++ y) = tl x ++ tl y := by
  show (x ++ y).cps.toList = _
  rw [Str.cps_append, Array.toList_append]
def pre (S l : List Nat) : Bool := l.take S.length == S
def par (S : List Nat) : List Nat → List Nat → Option (List Nat × List Nat)
  | _, [] => none
  | acc, c :: r => if pre S (c :: r) = true then some (acc, (c :: r).drop S.length) else par S (acc ++ [c]) r
def joinL (S : List Nat) : List (List Nat) → List Nat
  | [] => []
  | [p] => p
  | p :: q :: r => p ++ (S ++ joinL S (q :: r))
theorem tl_join (y : Str) : ∀ parts : List Str, tl (Str.join y parts) = joinL (tl y) (parts.map tl)
  | [] => rfl
  | [_] => rfl
  | x :: z :: r => by
    show tl (x ++ y ++ Str.join y (z :: r)) = tl x ++ (tl y ++ joinL (tl y) ((z :: r).map tl))
    rw [tl_append, tl_append, tl_join y (z :: r), List.append_assoc]
theorem join_eq (y : Str) (parts : List Str) : Txt.join y parts = Str.join y parts := glued_eq_join y parts
def numL (n : Nat) : List Nat := (Nat.toDigits 10 n).map Char.toNat
theorem tl_num (n : Nat) : tl (Str.ofString (toString ((n : Nat) : Int))) = numL n := PySem.W.KIN.signs_num n
theorem digitChar_nat : ∀ d : Nat, d < 10 → (Nat.digitChar d).toNat = 48 + d := by decide
theorem numL_lt {n : Nat} (h : n < 10) : numL n = [48 + n] := by
  unfold numL
  rw [Nat.toDigits_of_lt_base h]
  show [(Nat.digitChar n).toNat] = _
  rw [digitChar_nat n h]
theorem numL_step {n : Nat} (h : 10 ≤ n) : numL n = numL (n / 10) ++ [48 + n % 10] := by
  have hm : n % 10 < 10 := Nat.mod_lt n (by decide)
  have t : Nat.toDigits 10 (n / 10) ++ Nat.toDigits 10 (n % 10) = Nat.toDigits 10 (10 * (n / 10) + n % 10) := Nat.toDigits_append_toDigits (by decide) (by omega) hm
  rw [Nat.div_add_mod] at t
  show (Nat.toDigits 10 n).map Char.toNat = _
  rw [← t, List.map_append, Nat.toDigits_of_lt_base hm]
  show (Nat.toDigits 10 (n / 10)).map Char.toNat ++ [(Nat.digitChar (n % 10)).toNat] = _
  rw [digitChar_nat _ hm] <;> rfl
theorem numL_digits (n : Nat) : NumText.AllDigits (numL n) := by
  induction n using Nat.strongRecOn with
  | _ n ih =>
    by_cases h : n < 10
    · rw [numL_lt h]
      intro c hc
      rw [List.mem_singleton.mp hc]
      omega
    · rw [numL_step (by omega)]
      intro c hc
      rcases List.mem_append.mp hc with hc | hc
      · exact ih (n / 10) (by omega) c hc
      · have hm : n % 10 < 10 := Nat.mod_lt n (by decide)
        rw [List.mem_singleton.mp hc]
        omega
theorem numL_ne (n : Nat) : numL n ≠ [] := by
  by_cases h : n < 10
  · rw [numL_lt h]
    simp
  · rw [numL_step (by omega)]
    simp
theorem numL_val (n : Nat) : NumText.digitsVal (numL n) = n := PySem.W.KIN.val_back n
theorem numL_inj {m n : Nat} (h : numL m = numL n) : m = n := by
  have e := congrArg NumText.digitsVal h
  rw [numL_val, numL_val] at e
  exact e
theorem numL_len {n k : Nat} (hk : 0 < k) (h : n < 10 ^ k) : (numL n).length ≤ k := by
  have z := PyProof.Rows.toString_length_le (v := (n : Int)) (by omega) hk (by
    have e : ((10 : Int) ^ k) = ((10 ^ k : Nat) : Int) := by
      first
        | exact (Int.natCast_pow 10 k).symm
        | simp
    rw [e]
    first | exact Int.ofNat_lt.mpr h | omega)
  rw [len_tl, tl_num] at z
  exact z
end TL
end 
namespace L2
open PySem PySem.Spec PyProof.Rows
section
variable {X : Cx} {pins : List (Addr × Obj)} {σ : St} {H : Hp} {s : Shared} {Q : VK}
end
section
variable {X : Cx}
end
section
variable {X : Cx} {o e : Expr} {to te : TE}
end
end L2
namespace L2
open PySem PySem.Spec PyProof.Rows
section
variable {X : Cx}
end
theorem IsPart.raw {v : Value} {o : Option Int} (p : IsPart v o) : ∃ l : Option (Int × Tok), v = partValue l ∧ l.map (·.1) = o := by
  cases p with
  | none => exact ⟨none, rfl, rfl⟩
  | int i t => exact ⟨some (i, t), rfl, rfl⟩
def clipS (n d : Nat) : Option Int → Int
  | none => (d : Int)
  | some i => max 0 (min (if i < 0 then i + (n : Int) else i) (n : Int))
theorem clipS_eq (n d : Nat) (o : Option Int) : clipS n d o = ((HT.sIx n d o : Nat) : Int) := by
  cases o with
  | none => rfl
  | some v =>
    show max (0 : Int) (min (if v < 0 then v + (n : Int) else v) (n : Int)) = (((if v < 0 then (v + (n : Int)).toNat else min v.toNat n) : Nat) : Int)
    by_cases hv : v < 0
    · simp only [if_pos hv]
      omega
    · simp only [if_neg hv]
      omega
theorem sidx_clip (a b : Option Int) (n : Nat) : Builtin.Str.strSliceIndices a b 1 n = sliceRange (clipS n 0 a) (clipS n n b) 1 := by
  have h1 : ((1 : Int) > 0) = True := by simp
  cases a <;> cases b <;> first
    | rfl
    | (simp only [Builtin.Str.strSliceIndices, clipS, h1, if_true]; rfl)
    | simp [Builtin.Str.strSliceIndices, clipS]
theorem sidx (a b : Option Int) (n : Nat) : Builtin.Str.strSliceIndices a b 1 n = (List.range (HT.sIx n n b - HT.sIx n 0 a)).map (fun k => HT.sIx n 0 a + k) := by
  rw [sidx_clip, clipS_eq, clipS_eq]
  generalize HT.sIx n 0 a = p
  generalize HT.sIx n n b = q
  simp only [sliceRange, show ((1 : Int) > 0) = True from by simp, if_true]
  by_cases hlt : (p : Int) < q
  · have e3 : (((q : Int) - p + 1 - 1) / 1).toNat = q - p := by first | omega | (simp; done) | (simp; omega)
    simp only [hlt, if_true, e3]
    refine List.map_congr_left fun k _ => ?_
    omega
  · have : q - p = 0 := by omega
    simp [hlt, this]
def cutS (z : Str) (lo hi : Option Int) : Str :=
  ⟨((z.cps.toList.drop (HT.sIx z.length 0 lo)).take (HT.sIx z.length z.length hi - HT.sIx z.length 0 lo)).toArray⟩
theorem sliceText_cut (z : Str) (lo hi : Option Int) : PySem.StrLaws.sliceText z lo hi = cutS z lo hi := by
  have h1 : HT.sIx z.length 0 lo ≤ z.length := HT.sIx_le _ _ (Nat.zero_le _) _
  have h2 : HT.sIx z.length z.length hi ≤ z.length := HT.sIx_le _ _ (Nat.le_refl _) _
  have hp : HT.sIx z.length 0 lo ≤ max (HT.sIx z.length 0 lo) (HT.sIx z.length z.length hi) := Nat.le_max_left _ _
  have hq : max (HT.sIx z.length 0 lo) (HT.sIx z.length z.length hi) ≤ z.length := Nat.max_le.mpr ⟨h1, h2⟩
  have hd : max (HT.sIx z.length 0 lo) (HT.sIx z.length z.length hi) - HT.sIx z.length 0 lo = HT.sIx z.length z.length hi - HT.sIx z.length 0 lo := by omega
  have e : Builtin.Str.strSliceIndices lo hi 1 z.length =
      Builtin.Str.strSliceIndices (some ((HT.sIx z.length 0 lo : Nat) : Int)) (some ((max (HT.sIx z.length 0 lo) (HT.sIx z.length z.length hi) : Nat) : Int)) 1 z.length := by
    rw [PySem.StrLaws.strSliceIndices_plain hp hq, hd, sidx]
  have e2 : PySem.StrLaws.sliceText z lo hi =
      PySem.StrLaws.sliceText z (some ((HT.sIx z.length 0 lo : Nat) : Int)) (some ((max (HT.sIx z.length 0 lo) (HT.sIx z.length z.length hi) : Nat) : Int)) := by
    unfold PySem.StrLaws.sliceText
    rw [e]
  rw [e2, PySem.StrLaws.sliceText_nat z hp hq, hd]
  rfl
theorem cutS_length (z : Str) (lo hi : Option Int) : (cutS z lo hi).length ≤ z.length := by
  show (((z.cps.toList.drop (HT.sIx z.length 0 lo)).take (HT.sIx z.length z.length hi - HT.sIx z.length 0 lo)).toArray).size ≤ z.cps.size
  rw [List.size_toArray, List.length_take, List.length_drop, Array.length_toList]
  omega
def rSlS : V → Option Int → Option Int → Hp → VK → Prop := fun x lo hi H Q => ∃ z, x = .str z ∧ z.length ≤ sizeLine ∧ Q (.str (cutS z lo hi)) H
theorem sl_str {X : Cx} : SlR X rSlS := by
  intro pins s σ H x v vl vu lo hi sl Q I rx hs pl pu h
  obtain ⟨z, rfl, hz, q⟩ := h
  obtain ⟨t, rfl⟩ := rx
  obtain ⟨os, hos, hcs, hds⟩ := hs
  obtain ⟨l, rfl, rfl⟩ := IsPart.raw pl
  obtain ⟨u, rfl, rfl⟩ := IsPart.raw pu
  refine ⟨"str", _, F.slot_str_getitem.lookup, typeIs_str _ _ _, ?_⟩
  refine wpAny_getItem_str_slice (l := l) (u := u) (st := none) ⟨os, hos, hcs, hds⟩ rfl ?_
  have hl : (PySem.StrLaws.sliceText z (l.map (·.1)) (u.map (·.1))).length ≤ sizeLine := by
    rw [sliceText_cut]
    exact Nat.le_trans (cutS_length z _ _) hz
  rw [← sliceText_cut] at q
  unfold PySem.StrLaws.sliceText at q hl
  show Made.post (if ((1 : Int) == 1 && (Builtin.Str.strSliceIndices (l.map (·.1)) (u.map (·.1)) 1 z.length).length == z.length) = true then Made.val (.str z t)
    else Made.str ⟨((Builtin.Str.strSliceIndices (l.map (·.1)) (u.map (·.1)) 1 z.length).filterMap (z.cps[·]?)).toArray⟩) (EP X pins σ Q) s
  by_cases c : ((1 : Int) == 1 && (Builtin.Str.strSliceIndices (l.map (·.1)) (u.map (·.1)) 1 z.length).length == z.length) = true
  · rw [if_pos c] at q ⊢
    exact ⟨.str z, H, I, ⟨t, rfl⟩, q⟩
  · rw [if_neg c] at q hl ⊢
    exact ⟨hl, .str _, H, I.tok _, ⟨_, rfl⟩, q⟩
end L2
namespace Att
open PySem PySem.W PySem.Calls PyProof.Rows
theorem ints_of_wellAll {P : Params} {h : Heap} : ∀ (ns : List Int) (vs : List Value), WellAll P h vs (ns.map WData.int) → IntsAre vs ns := by
  intro ns
  induction ns with
  | nil =>
    intro vs w
    rw [List.map_nil] at w
    cases w
    exact .nil
  | cons n ns ih =>
    intro vs w
    rw [List.map_cons] at w
    cases w with
    | cons a b =>
      cases a
      exact .cons _ _ (ih _ b)
theorem script_of {l : OpenLaw} {n : Nat} (hn : l.most = some n) {P : Params} {h : Heap} {args : List WData} {vals : List Value}
    (hpre : l.row.toRowW.claim.pre args = true) (hwl : WellAll P h vals args) :
    ∃ a vs ns, vals = [Value.ref a] ∧ args = [WData.list (ns.map WData.int)] ∧ h.get? a = some { cls := .type "list", data := .seq vs.toArray } ∧ IntsAre vs ns ∧ ns.length ≤ n := by
  have hsh : WShape.hasAll [] args [.list .int] = true := (pre_splitW hpre).1
  have hc : l.pre.holds [] { args := args } = true := (pre_splitW hpre).2
  obtain ⟨d, r, rfl, h1, h2⟩ := hasAllW_cons hsh
  obtain rfl := hasAllW_nil h2
  obtain ⟨xs, rfl, h3⟩ := hasW_list h1
  obtain ⟨ns, rfl⟩ := items_int h3
  have hlen : ns.length ≤ n := by
    unfold OpenLaw.pre at hc
    have h4 : (WTm.not (.lt (.lit (.int (n : Int))) (.len (.arg 0)))).holds [] { args := [.list (ns.map .int)] } = true := by
      have h4 := (holds_andW hc).1
      rw [hn] at h4
      exact h4
    have h5 := condW_of h4 (w_not (w_lt w_lit (w_len_list (w_arg rfl))))
    rw [List.length_map] at h5
    refine Nat.le_of_not_lt fun q => ?_
    have q' : (n : Int) < ((ns.length : Nat) : Int) := by omega
    first
      | (rw [decide_eq_true q'] at h5; exact absurd h5 (by decide))
      | (simp at h5; omega)
  cases hwl with
  | cons w1 w2 =>
    cases w2
    cases w1 with
    | list ho hall => exact ⟨_, _, ns, rfl, rfl, ho, ints_of_wellAll ns _ hall, hlen⟩
theorem post_true (l : OpenLaw) (args : List WData) : l.row.toRowW.claim.post args (.bool true) args = true :=
  postW_of (r := l.row.toRowW) (X := (true == true))
    (show WShape.has [] (.bool true) .bool = true by first | rfl | decide | simp [WShape.has, WShape.arms, WShape.armsAll])
    (show (WTm.eq .res (.lit (.bool true))).value [] { args := args, res := some (.bool true), after := args } = some (.bool (true == true)) from w_eq_bool (w_res rfl) w_lit) rfl
theorem attach_call {l : OpenLaw} {n : Nat} {q : Program} {loose : List Str} {XP : (Str → Option Value) → Heap → Prop} {YP : World → Heap → Prop} {d : DefRec}
    (hn : l.most = some n) (hdf : d.params.defaults = [])
    (call : ∀ (w : World) (s₀ s₁ : Shared) (mg mb : Str → Option Value) (fa : Addr) (o : Obj) (pm cd doc : Value) (a : Addr) (vs : List Value) (ns : List Int),
      Ground q loose [] XP w s₀ mg mb s₁.heap → YP w s₁.heap →
      s₁.heap.get? fa = some o → o.data = .func (docDef d.name d.params d.body d.scope pm cd doc) → s₁.heap.CodeRec cd d.name → mg d.name = some (.ref fa) →
      s₁.heap.get? a = some { cls := .type "list", data := .seq vs.toArray } → IntsAre vs ns → ns.length ≤ n → s₁.gens = #[] →
      codeAny (model l.prog w) callerA (.call (.ref fa) ⟨[.ref a], []⟩) (fun r s' => r = .ok (.ret (.bool true)) ∧ OldK s₁.heap s'.heap ∧ s'.os = s₁.os ∧ AllBare s'.gens) s₁) :
    WalkO q loose XP YP l.row.toRowW d [] (fun f vs => PySem.call f vs) := by
  intro w s₀ s₁ mg mb G Y fa o pm cd doc dV kV ho hd hcd hD hmg hg args vals as hpre hlay hrd hwl hlo
  obtain rfl : dV = .none := Dflts.none hD hdf
  obtain rfl : kV = .none := Dflts.noKw hD
  obtain ⟨a, vs, ns, rfl, rfl, hobj, hints, hlen⟩ := script_of hn hpre hwl
  refine enter_call (codeAny_mono (call w s₀ s₁ mg mb fa o pm cd doc a vs ns G Y ho (fd_plain hd) hcd hmg hobj hints hlen hg) fun r s' hq => ?_)
  obtain ⟨rfl, h2, h3, h4⟩ := hq
  exact ⟨.inl ⟨.bool true, .bool true, [], rfl, fun _ => rfl, .bool true, post_true l _, fun _ => ⟨List.Pairwise.nil, fun _ hm => (nomatch hm)⟩⟩, h2, h3, h4⟩
section
variable {prog : Program} {w : World} {A : Around} {E : Value → Shared → Prop} {s : Shared} {K : Frag}
end
end Att
namespace L2
open PySem PySem.Spec PyProof.Rows
theorem vals_ints : ∀ {vs : List Value} {ns : List Int}, IntsAre vs ns → Vals (ns.map V.int) vs
  | _, _, .nil => .nil
  | _, _, .cons n t h => .cons ⟨t, rfl⟩ (vals_ints h)
end L2
namespace L2
open PySem PySem.Spec PyProof.Rows
abbrev KOf {K : PySem.W.Frag} {h : Heap} (_ : K.In h) : PySem.W.Frag := K
end L2
namespace L2
open PySem PySem.Spec PyProof.Rows
def defArgs (s : Stmt) : Arguments := match s with
  | .FunctionDef _ a _ _ _ _ _ _ _ _ => a
  | _ => { posonlyargs := [], args := [], vararg := none, kwonlyargs := [], kw_defaults := [], kwarg := none, defaults := [] }
def defBody (s : Stmt) : List Stmt := match s with
  | .FunctionDef _ _ b _ _ _ _ _ _ _ => b
  | _ => []
def defScope (s : Stmt) : Scope := match s with
  | .FunctionDef _ _ _ _ _ _ sc _ _ _ => sc
  | _ => { kind := .function, names := [], isGenerator := false, isCoroutine := false }
abbrev CX0 : CXT := fun _ _ _ _ _ _ => False
abbrev E0 : XK := fun _ _ _ => False
theorem pass0 {X : Cx} : Passes CX0 X E0 := fun _ _ _ _ _ _ _ h => h.elim
structure Fun (K : PySem.W.Frag) (x qual : Str) (st : Stmt) (f : Addr) (fd : FuncData) : Prop where
  ex : ∃ (oc : Value) (od : Option Addr) (kV doc pm : Value) (an : Option Addr) (cdv ct : Value) (osl : Array (Option Value)),
    fd = PySem.W.fnOf x qual (defArgs st) (defBody st) (defScope st) .none kV doc pm an cdv ct ∧ K.lookup f = some ⟨oc, od, .func fd, osl⟩ ∧ PySem.W.codeIn K cdv qual = true
  kp : PySem.W.keepIn K (.ref f) = true
section
variable {P : Program} {w : World} {K : PySem.W.Frag} {mg : Str → Option Value} {base : Heap}
theorem Fun.ok {x qual : Str} {st : Stmt} {f : Addr} {fd : FuncData} {N ps : List Str} {k : Nat} {sp : Sp} (F : Fun K x qual st f fd) (S : FnScope N ps (defScope st)) (len : ∀ vs H Q E, sp vs H Q E → vs.length = ps.length)
    (hbody : ∀ (cdv : Value) (A : Around) (outer : List Env) (s : Shared) (H : Hp) (vs : List V) (Q : VK) (E : XK), Room k (A.deeper (envOfC qual (defScope st) s.heap.objs.size f cdv)) → sp vs H Q E →
      ∃ t, PSs (cxOf CX0 P w K mg base N qual (defScope st) f cdv A outer s H E).nox (defBody st) t ∧ t { nx := fun _ H' => Q .non H', rt := Q } (start N vs) H) : FnOk P w K mg base CX0 (k + 1) f fd ps sp := by
  obtain ⟨oc, od, kV, doc, pm, an, cdv, ct, osl, rfl, lk, hcd⟩ := F.ex
  refine fn_of lk hcd S len fun A outer s H vs Q E hr hsp => ?_
  obtain ⟨t, h, q⟩ := hbody cdv A outer s H vs Q E hr hsp
  exact ⟨t, h.nox, q⟩
theorem Fun.binds {x qual : Str} {st : Stmt} {f : Addr} {fd : FuncData} {ps : List Str} (F : Fun K x qual st f fd)
    (h : ∀ (kV doc pm : Value) (an : Option Addr) (cdv ct : Value) (us : List Value), us.length = ps.length → bindArgs (PySem.W.fnOf x qual (defArgs st) (defBody st) (defScope st) .none kV doc pm an cdv ct) ⟨us, []⟩ = pure (ps.zip us)) : Binds K fd ps [] := by
  obtain ⟨oc, od, kV, doc, pm, an, cdv, ct, osl, rfl, lk, hcd⟩ := F.ex
  exact .all (h kV doc pm an cdv ct)
theorem fun_mk {x qual : Str} {st : Stmt} {f : Addr} {oc : Value} {od an : Option Addr} {osl : Array (Option Value)} {kV doc pm cdv ct : Value} (l : K.lookup f = some ⟨oc, od, .func (PySem.W.fnOf x qual (defArgs st) (defBody st) (defScope st) .none kV doc pm an cdv ct), osl⟩)
    (c : PySem.W.codeIn K cdv qual = true) (k : PySem.W.keepIn K (.ref f) = true) : Fun K x qual st f (PySem.W.fnOf x qual (defArgs st) (defBody st) (defScope st) .none kV doc pm an cdv ct) := ⟨⟨oc, od, kV, doc, pm, an, cdv, ct, osl, rfl, l, c⟩, k⟩
end
section
variable {X : Cx}
theorem pv (i : Nat) {x : Str} {pos : Pos} (hN : X.N[i]? = some x := by rfl) (hv : Vis X.env.scope x := by first | exact Or.inl rfl | exact Or.inr (Or.inl rfl) | exact Or.inr (Or.inr rfl)) (hd : (x == ("__debug__" : Str)) = false := by decide)
    (hcd : (x == ("__classdict__" : Str)) = false := by decide) : PE X (.Name x pos) (tVar i) := pe_var hN hv hd hcd
end
def Same (H H' : Hp) : Prop := ∀ b o, H b = some o → H' b = some o
theorem Same.refl (H : Hp) : Same H H := fun _ _ h => h
theorem Same.trans {H H1 H2 : Hp} (a : Same H H1) (b : Same H1 H2) : Same H H2 := fun c o h => b c o (a c o h)
theorem Same.free {H H' : Hp} (e : Same H H') {l : Addr} (h : H' l = Option.none) : H l = Option.none := by
  cases q : H l with
  | none => rfl
  | some o =>
    rw [e l o q] at h
    cases h
theorem Same.seq {K : PySem.W.Frag} {H H' : Hp} {a : Addr} {xs : List V} (e : Same H H') (h : SqL K H a xs) : SqL K H' a xs := by
  rcases h with (h | ⟨o, h⟩) | h
  · exact .inl (.inl (e _ _ h))
  · exact .inl (.inr ⟨o, e _ _ h⟩)
  · exact .inr h
section
variable {κ : Type} [DecidableEq κ]
end
theorem Same.made {H H1 : Hp} {x dx C : Addr} (nx : H x = Option.none) (nd : H dx = Option.none) (k : ∀ b o, (upd (upd H dx (.own x)) x (.ins C dx [])) b = some o → b ≠ x → H1 b = some o) : Same H H1 := fun b o e =>
  k b o (by rw [upd_ne (ne_of_none e nx), upd_ne (ne_of_none e nd)]; exact e) (ne_of_none e nx)
end L2
namespace L2.Ev
open PySem PySem.Spec PyProof.Rows
inductive W where
  | p (d : PyData)
  | r (n : Nat)
  | t (n : String)
  | s (xs : List PyData)
  | u (ns : List Nat)
  | q (n j : Nat)
inductive Sub where
  | d (x : PyData)
  | l (j : Nat) (xs : List PyData)
  | k (j : Nat) (kvs : List (Key × PyData))
def Sub.js : Sub → List Nat
  | .d _ => []
  | .l j _ => [j]
  | .k j _ => [j]
def jsOf (ss : List Sub) : List Nat := ss.flatMap Sub.js
inductive Cell where
  | lst (xs : List PyData)
  | dk (kvs : List (Key × PyData))
  | lw (ws : List W)
  | dn (kvs : List (Key × Sub))
  | ln (xs : List Sub)
  | dt (kvs : List (List Key × PyData))
  | zk (kvs : List (Key × PyData))
  | zn (kvs : List (Key × Sub))
  | zt (kvs : List (List Key × PyData))
abbrev Mu := List Cell
abbrev Rho := List (Option W)
abbrev WK := W → Mu → Prop
abbrev SE := Rho → Mu → WK → Prop
abbrev ST := Rho → Mu → (Bool → Mu → Prop) → Prop
abbrev SA := Rho → Mu → (List W → Mu → Prop) → Prop
structure Fin where
  nx : Rho → Mu → Prop
  rt : WK
  bk : Rho → Mu → Prop := fun _ _ => False
  ct : Rho → Mu → Prop := fun _ _ => False
abbrev SS := Fin → Rho → Mu → Prop
structure Cs where
  hid : List Addr
  as : List Addr
  own : List (Addr × Nat)
def Cs.ao (c : Cs) : List Addr := c.as ++ c.own.map (·.1)
instance : Membership Addr Cs := ⟨fun c a => a ∈ c.hid ++ c.ao⟩
theorem Cs.mem_iff {c : Cs} {a : Addr} : a ∈ c ↔ a ∈ c.hid ∨ a ∈ c.ao := List.mem_append
theorem Cs.ao_iff {c : Cs} {a : Addr} : a ∈ c.ao ↔ a ∈ c.as ∨ a ∈ c.own.map (·.1) := List.mem_append
theorem Cs.ao_as {c : Cs} {a : Addr} (h : a ∈ c.as) : a ∈ c.ao := List.mem_append_left _ h
theorem Cs.ao_own {c : Cs} {a : Addr} {j n : Nat} (h : c.own[j]? = some (a, n)) : a ∈ c.ao := List.mem_append_right _ (List.mem_map.mpr ⟨_, List.mem_of_getElem? h, rfl⟩)
def nil : Hp := fun _ => none
def TzT (K : PySem.W.Frag) (as : Cs) (H : Hp) (a : Addr) (xs : List V) : Prop := (a ∉ as ∧ Rd H a (.tup xs)) ∨ SqT K nil a xs
def TzL (K : PySem.W.Frag) (as : Cs) (H : Hp) (a : Addr) (xs : List V) : Prop := a ∉ as ∧ Rd H a (.lst xs)
def KeptL (K : PySem.W.Frag) (a : Addr) : Prop := ∃ its n, K.lookup a = some ⟨.type "list", none, .seq its n, #[]⟩
def SzL (K : PySem.W.Frag) (as : Cs) (H : Hp) (a : Addr) (xs : List V) : Prop := (a ∉ as ∧ Rd H a (.lst xs)) ∨ (SqL K nil a xs ∧ KeptL K a)
theorem Rd.nil {a : Addr} {u : HO} : ¬ Rd nil a u := by
  rintro (h | ⟨o, h⟩) <;> cases h
theorem TzT.sq {K : PySem.W.Frag} {as : Cs} {H : Hp} {a : Addr} {xs : List V} (h : TzT K as H a xs) : SqT K H a xs := by
  rcases h with ⟨_, h⟩ | h
  · exact .inl h
  · rcases h with h | h
    · exact absurd h Rd.nil
    · exact .inr h
theorem SzL.sq {K : PySem.W.Frag} {as : Cs} {H : Hp} {a : Addr} {xs : List V} (h : SzL K as H a xs) : SqL K H a xs := by
  rcases h with ⟨_, h⟩ | ⟨h, _⟩
  · exact .inl h
  · rcases h with h | h
    · exact absurd h Rd.nil
    · exact .inr h
theorem TzL.sq {K : PySem.W.Frag} {as : Cs} {H : Hp} {a : Addr} {xs : List V} (h : TzL K as H a xs) : SqL K H a xs := .inl h.2
def Fz (H : Hp) (a : Addr) (u : HO) : Prop := ∃ o, H a = some (.frz o u)
theorem Fz.rd {H : Hp} {a : Addr} {u : HO} (h : Fz H a u) : Rd H a u := .inr h
mutual
inductive Dz (K : PySem.W.Frag) (as : Cs) (H : Hp) : V → PyData → Prop
  | non : Dz K as H .non .none
  | bl (b : Bool) : Dz K as H (.bl b) (.bool b)
  | int (i : Int) : Dz K as H (.int i) (.int i)
  | str (x : Str) : Dz K as H (.str x) (.str x)
  | lst {a : Addr} {xs : List V} {ds : List PyData} : TzL K as H a xs → DzAll K as H xs ds → Dz K as H (.ref a) (.list ds)
  | tup {a : Addr} {xs : List V} {ds : List PyData} : TzT K as H a xs → DzAll K as H xs ds → Dz K as H (.ref a) (.tuple ds)
  | dct {a : Addr} {us : List (Key × V)} {kvs : List (PyData × PyData)} : a ∉ as → Fz H a (.dK us) → us.map (fun u => keyD u.1) = kvs.map (·.1) → DzAll K as H (us.map (·.2)) (kvs.map (·.2)) → Dz K as H (.ref a) (.dict kvs)
inductive DzAll (K : PySem.W.Frag) (as : Cs) (H : Hp) : List V → List PyData → Prop
  | nil : DzAll K as H [] []
  | cons {v : V} {vs : List V} {d : PyData} {ds : List PyData} : Dz K as H v d → DzAll K as H vs ds → DzAll K as H (v :: vs) (d :: ds)
end
def nt (o : HO) : Prop := ∀ ps, o ≠ .tbl ps
theorem nt_tup {xs : List V} : nt (.tup xs) := fun _ e => nomatch e
theorem nt_lst {xs : List V} : nt (.lst xs) := fun _ e => nomatch e
theorem nt_dK {us : List (Key × V)} : nt (.dK us) := fun _ e => nomatch e
theorem nt_frz {o : Obj} {u : HO} : nt (.frz o u) := fun _ e => nomatch e
def genNames : List Str := ["is_figures", "is_row_of", "is_net", "floors_hold", "rows_hold", "none_is_missing", "are_steps", "wait_paper_holds", "way_holds", "spread_holds", "ways_hold", "is_rising_below", "can_part", "most_apart", "way_shuns"]
def tabOf (o : Obj) : Option Addr := match o.cls, o.data with
  | Value.type "code", Data.fields vs => (match vs.toList with
    | _ :: Value.str n _ :: _ => if genNames.contains n = true then (match vs[11]? with | some (Value.ref P) => some P | _ => none) else none
    | _ => none)
  | _, _ => none
def IsTab (K : PySem.W.Frag) (P : Addr) : Prop := ∃ c o, K.lookup c = some o ∧ tabOf o = some P
structure Stp (as : Cs) (H : Hp) (as' : Cs) (H' : Hp) : Prop where
  hid : as'.hid = as.hid
  pre : ∃ t, as'.as = as.as ++ t
  keep : ∀ a o, nt o → H a = some o → a ∉ as.ao → a ∉ as'.ao ∧ H' a = some o
  preo : ∃ t, as'.own = as.own ++ t
  frz : ∀ a o u, H a = some (.frz o u) → H' a = some (.frz o u)
theorem Stp.refl (as : Cs) (H : Hp) : Stp as H as H := ⟨rfl, ⟨[], by simp⟩, fun _ _ _ h n => ⟨n, h⟩, ⟨[], by simp⟩, fun _ _ _ e => e⟩
theorem Stp.trans {as as' as'' : Cs} {H H' H'' : Hp} (h : Stp as H as' H') (k : Stp as' H' as'' H'') : Stp as H as'' H'' := by
  obtain ⟨t, e⟩ := h.pre
  obtain ⟨u, e'⟩ := k.pre
  obtain ⟨t2, e2⟩ := h.preo
  obtain ⟨u2, e2'⟩ := k.preo
  refine ⟨k.hid.trans h.hid, ⟨t ++ u, by rw [e', e, List.append_assoc]⟩, fun a o w q n => ?_, ⟨t2 ++ u2, by rw [e2', e2, List.append_assoc]⟩, fun a o u e => k.frz a o u (h.frz a o u e)⟩
  obtain ⟨n1, q1⟩ := h.keep a o w q n
  exact k.keep a o w q1 n1
theorem Stp.ownAt {as as' : Cs} {H H' : Hp} (h : Stp as H as' H') {j : Nat} {p : Addr × Nat} (e : as.own[j]? = some p) : as'.own[j]? = some p := by
  obtain ⟨t, e'⟩ := h.preo
  rw [e', List.getElem?_append_left (List.getElem?_eq_some_iff.mp e).1]; exact e
theorem Stp.rd {as as' : Cs} {H H' : Hp} (h : Stp as H as' H') {a : Addr} {u : HO} (w : nt u) (n : a ∉ as) (r : Rd H a u) : a ∉ as' ∧ Rd H' a u := by
  have n1 : a ∉ as.hid ∧ a ∉ as.ao := ⟨fun z => n (Cs.mem_iff.mpr (.inl z)), fun z => n (Cs.mem_iff.mpr (.inr z))⟩
  have fin : a ∉ as'.ao → a ∉ as' := fun z q => (Cs.mem_iff.mp q).elim (fun q => n1.1 (by rw [← h.hid]; exact q)) z
  rcases r with r | ⟨o, r⟩
  · exact ⟨fin (h.keep _ _ w r n1.2).1, .inl (h.keep _ _ w r n1.2).2⟩
  · exact ⟨fin (h.keep _ _ nt_frz r n1.2).1, .inr ⟨o, (h.keep _ _ nt_frz r n1.2).2⟩⟩
theorem Stp.fz {as as' : Cs} {H H' : Hp} (h : Stp as H as' H') {a : Addr} {u : HO} (n : a ∉ as) (r : Fz H a u) : a ∉ as' ∧ Fz H' a u := by
  obtain ⟨o, r⟩ := r
  have n1 : a ∉ as.hid ∧ a ∉ as.ao := ⟨fun z => n (Cs.mem_iff.mpr (.inl z)), fun z => n (Cs.mem_iff.mpr (.inr z))⟩
  obtain ⟨q1, q2⟩ := h.keep _ _ nt_frz r n1.2
  exact ⟨fun z => (Cs.mem_iff.mp z).elim (fun q => n1.1 (by rw [← h.hid]; exact q)) q1, ⟨o, q2⟩⟩
theorem TzT.mono {K : PySem.W.Frag} {as as' : Cs} {H H' : Hp} {a : Addr} {xs : List V} (s : Stp as H as' H') (h : TzT K as H a xs) : TzT K as' H' a xs := by
  rcases h with ⟨n, h⟩ | h
  · exact .inl (s.rd nt_tup n h)
  · exact .inr h
theorem SzL.mono {K : PySem.W.Frag} {as as' : Cs} {H H' : Hp} {a : Addr} {xs : List V} (s : Stp as H as' H') (h : SzL K as H a xs) : SzL K as' H' a xs := by
  rcases h with ⟨n, h⟩ | h
  · exact .inl (s.rd nt_lst n h)
  · exact .inr h
theorem TzL.mono {K : PySem.W.Frag} {as as' : Cs} {H H' : Hp} {a : Addr} {xs : List V} (s : Stp as H as' H') (h : TzL K as H a xs) : TzL K as' H' a xs := s.rd nt_lst h.1 h.2
mutual
theorem Dz.mono {K : PySem.W.Frag} {as as' : Cs} {H H' : Hp} (s : Stp as H as' H') : ∀ {v : V} {d : PyData}, Dz K as H v d → Dz K as' H' v d
  | _, _, .non => .non
  | _, _, .bl b => .bl b
  | _, _, .int i => .int i
  | _, _, .str x => .str x
  | _, _, .lst t a => .lst (t.mono s) (DzAll.mono s a)
  | _, _, .tup t a => .tup (t.mono s) (DzAll.mono s a)
  | _, _, .dct n r k a => .dct (s.fz n r).1 (s.fz n r).2 k (DzAll.mono s a)
theorem DzAll.mono {K : PySem.W.Frag} {as as' : Cs} {H H' : Hp} (s : Stp as H as' H') : ∀ {vs : List V} {ds : List PyData}, DzAll K as H vs ds → DzAll K as' H' vs ds
  | _, _, .nil => .nil
  | _, _, .cons h t => .cons (Dz.mono s h) (DzAll.mono s t)
end
mutual
theorem Dz.dp {K : PySem.W.Frag} {as : Cs} {H : Hp} : ∀ {v : V} {d : PyData}, Dz K as H v d → Dp K H v d
  | _, _, .non => .non
  | _, _, .bl b => .bl b
  | _, _, .int i => .int i
  | _, _, .str x => .str x
  | _, _, .lst t a => .lst t.sq (DzAll.dp a)
  | _, _, .tup t a => .tup t.sq (DzAll.dp a)
  | _, _, .dct n r k a => .dct r.rd k (DzAll.dp a)
theorem DzAll.dp {K : PySem.W.Frag} {as : Cs} {H : Hp} : ∀ {vs : List V} {ds : List PyData}, DzAll K as H vs ds → DpAll K H vs ds
  | _, _, .nil => .nil
  | _, _, .cons h t => .cons (Dz.dp h) (DzAll.dp t)
end
section
variable {K : PySem.W.Frag} {as : Cs} {H : Hp}
theorem DzAll.length {vs : List V} {ds : List PyData} (h : DzAll K as H vs ds) : vs.length = ds.length := by
  induction ds generalizing vs with
  | nil => cases h; rfl
  | cons d ds ih => cases h with | cons _ t => simp [ih t]
theorem DzAll.get {vs : List V} {ds : List PyData} (h : DzAll K as H vs ds) {i : Nat} {d : PyData} (e : ds[i]? = some d) : ∃ v, vs[i]? = some v ∧ Dz K as H v d := by
  induction ds generalizing vs i with
  | nil => simp at e
  | cons x ds ih =>
    cases h with
    | cons h t =>
      cases i with
      | zero => simp at e; subst e; exact ⟨_, rfl, h⟩
      | succ i => obtain ⟨v, a, b⟩ := ih t (i := i) (by simpa using e); exact ⟨v, by simpa using a, b⟩
theorem DzAll.getV {vs : List V} {ds : List PyData} (h : DzAll K as H vs ds) {i : Nat} {v : V} (e : vs[i]? = some v) : ∃ d, ds[i]? = some d ∧ Dz K as H v d := by
  induction ds generalizing vs i with
  | nil => cases h; simp at e
  | cons x ds ih =>
    cases h with
    | cons h t =>
      cases i with
      | zero => simp at e; subst e; exact ⟨_, rfl, h⟩
      | succ i => obtain ⟨v, a, b⟩ := ih t (i := i) (by simpa using e); exact ⟨v, by simpa using a, b⟩
theorem DzAll.append {vs ws : List V} {ds es : List PyData} (h : DzAll K as H vs ds) (k : DzAll K as H ws es) : DzAll K as H (vs ++ ws) (ds ++ es) := by
  induction ds generalizing vs with
  | nil => cases h; exact k
  | cons d ds ih => cases h with | cons h t => exact .cons h (ih t)
theorem DzAll.set {vs : List V} {ds : List PyData} {v : V} {d : PyData} (h : DzAll K as H vs ds) (k : Dz K as H v d) (i : Nat) : DzAll K as H (vs.set i v) (ds.set i d) := by
  induction ds generalizing vs i with
  | nil => cases h; exact .nil
  | cons x ds ih =>
    cases h with
    | cons h t =>
      cases i with
      | zero => exact .cons k t
      | succ i => exact .cons h (ih t i)
theorem DzAll.drop {vs : List V} {ds : List PyData} (h : DzAll K as H vs ds) (n : Nat) : DzAll K as H (vs.drop n) (ds.drop n) := by
  induction n generalizing vs ds with
  | zero => simpa using h
  | succ n ih =>
    cases ds with
    | nil => cases h; exact .nil
    | cons d ds => cases h with | cons h t => simpa using ih t
theorem DzAll.take {vs : List V} {ds : List PyData} (h : DzAll K as H vs ds) (n : Nat) : DzAll K as H (vs.take n) (ds.take n) := by
  induction n generalizing vs ds with
  | zero => simpa using DzAll.nil
  | succ n ih =>
    cases ds with
    | nil => cases h; exact .nil
    | cons d ds => cases h with | cons h t => simpa using DzAll.cons h (ih t)
theorem DzAll.reverse {vs : List V} {ds : List PyData} (h : DzAll K as H vs ds) : DzAll K as H vs.reverse ds.reverse := by
  induction ds generalizing vs with
  | nil => cases h; exact .nil
  | cons d ds ih => cases h with | cons h t => simp only [List.reverse_cons]; exact (ih t).append (.cons h .nil)
end
inductive Cells (as : Cs) : List Nat → List V → Prop
  | nil : Cells as [] []
  | cons {n : Nat} {a : Addr} {ns : List Nat} {vs : List V} : as.as[n]? = some a → Cells as ns vs → Cells as (n :: ns) (.ref a :: vs)
theorem Cells.mono {as as' : Cs} {H H' : Hp} (s : Stp as H as' H') {ns : List Nat} {vs : List V} (h : Cells as ns vs) : Cells as' ns vs := by
  induction h with
  | nil => exact .nil
  | cons e _ ih =>
    obtain ⟨t, e'⟩ := s.pre
    exact .cons (by rw [e', List.getElem?_append_left (List.getElem?_eq_some_iff.mp e).1]; exact e) ih
theorem Cells.at {as as' : Cs} {ns : List Nat} {vs : List V} (h : Cells as ns vs) (k : ∀ n ∈ ns, ∀ a, as.as[n]? = some a → as'.as[n]? = some a) : Cells as' ns vs := by
  induction h with
  | nil => exact .nil
  | cons e _ ih => exact .cons (k _ (by simp) _ e) (ih fun n hn => k n (by simp [hn]))
def Rel (K : PySem.W.Frag) (as : Cs) (H : Hp) : W → V → Prop
  | .p d, v => Dz K as H v d
  | .r n, v => ∃ a, v = .ref a ∧ as.as[n]? = some a
  | .t n, v => v = .ty n
  | .s ds, v => ∃ a vs, v = .ref a ∧ SzL K as H a vs ∧ DzAll K as H vs ds
  | .u ns, v => ∃ a vs, v = .ref a ∧ a ∉ as ∧ Rd H a (.tup vs) ∧ Cells as ns vs
  | .q n j, v => ∃ b, v = .ref b ∧ as.own[j]? = some (b, n)
theorem Rel.mono {K : PySem.W.Frag} {as as' : Cs} {H H' : Hp} (s : Stp as H as' H') {w : W} {v : V} (h : Rel K as H w v) : Rel K as' H' w v := by
  cases w with
  | p d => exact Dz.mono s h
  | r n =>
    obtain ⟨a, e, q⟩ := h
    obtain ⟨t, e'⟩ := s.pre
    refine ⟨a, e, ?_⟩
    rw [e', List.getElem?_append_left (List.getElem?_eq_some_iff.mp q).1]
    exact q
  | t n => exact h
  | s ds => obtain ⟨a, vs, e, h1, h2⟩ := h; exact ⟨a, vs, e, h1.mono s, h2.mono s⟩
  | u ns => obtain ⟨a, vs, e, h1, h2, h3⟩ := h; exact ⟨a, vs, e, (s.rd nt_tup h1 h2).1, (s.rd nt_tup h1 h2).2, h3.mono s⟩
  | q n j => obtain ⟨b, e, q⟩ := h; exact ⟨b, e, s.ownAt q⟩
inductive Rels (K : PySem.W.Frag) (as : Cs) (H : Hp) : List W → List V → Prop
  | nil : Rels K as H [] []
  | cons {w ws v vs} : Rel K as H w v → Rels K as H ws vs → Rels K as H (w :: ws) (v :: vs)
theorem Rels.mono {K : PySem.W.Frag} {as as' : Cs} {H H' : Hp} (s : Stp as H as' H') {ws : List W} {vs : List V} (h : Rels K as H ws vs) : Rels K as' H' ws vs := by
  induction h with
  | nil => exact .nil
  | cons h _ ih => exact .cons (h.mono s) ih
def refOk (m : Nat) : W → Prop
  | .r k => k < m
  | .u ns => ∀ k ∈ ns, k < m
  | _ => True
def SubOk (K : PySem.W.Frag) (as : Cs) (H : Hp) (n : Nat) (v : V) : Sub → Prop
  | .d x => Dz K as H v x
  | .l j xs => ∃ b vs, v = .ref b ∧ as.own[j]? = some (b, n) ∧ H b = some (.lst vs) ∧ DzAll K as H vs xs
  | .k j kvs => ∃ (b : Addr) (us : List (Key × V)), v = .ref b ∧ as.own[j]? = some (b, n) ∧ H b = some (.dK us) ∧ us.map (·.1) = kvs.map (·.1) ∧ DzAll K as H (us.map (·.2)) (kvs.map (·.2))
inductive SubsOk (K : PySem.W.Frag) (as : Cs) (H : Hp) (n : Nat) : List V → List Sub → Prop
  | nil : SubsOk K as H n [] []
  | cons {v : V} {vs : List V} {s : Sub} {ss : List Sub} : SubOk K as H n v s → SubsOk K as H n vs ss → SubsOk K as H n (v :: vs) (s :: ss)
theorem SubOk.mono {K : PySem.W.Frag} {as as' : Cs} {H H' : Hp} {n : Nat} {v : V} (s : Stp as H as' H') (eo : ∀ (j : Nat) (b : Addr), as.own[j]? = some (b, n) → H' b = H b) {u : Sub} (h : SubOk K as H n v u) : SubOk K as' H' n v u := by
  cases u with
  | d x => exact Dz.mono s h
  | l j xs => obtain ⟨b, vs, e, q, h1, h2⟩ := h; exact ⟨b, vs, e, s.ownAt q, (eo _ _ q).trans h1, h2.mono s⟩
  | k j xs => obtain ⟨b, vs, e, q, h1, h3, h2⟩ := h; exact ⟨b, vs, e, s.ownAt q, (eo _ _ q).trans h1, h3, h2.mono s⟩
theorem SubsOk.mono {K : PySem.W.Frag} {as as' : Cs} {H H' : Hp} {n : Nat} (s : Stp as H as' H') (eo : ∀ (j : Nat) (b : Addr), as.own[j]? = some (b, n) → H' b = H b) {vs : List V} {us : List Sub} (h : SubsOk K as H n vs us) : SubsOk K as' H' n vs us := by
  induction h with
  | nil => exact .nil
  | cons h _ ih => exact .cons (h.mono s eo) ih
def Cok (K : PySem.W.Frag) (as : Cs) (H : Hp) (n : Nat) (a : Addr) : Cell → Prop
  | .lst ds => ∃ vs, H a = some (.lst vs) ∧ DzAll K as H vs ds
  | .dk kvs => ∃ us : List (Key × V), H a = some (.dK us) ∧ us.map (·.1) = kvs.map (·.1) ∧ DzAll K as H (us.map (·.2)) (kvs.map (·.2))
  | .lw ws => ∃ vs, H a = some (.lst vs) ∧ Rels K as H ws vs ∧ ∀ w ∈ ws, refOk n w
  | .dn kvs => ∃ us : List (Key × V), H a = some (.dK us) ∧ us.map (·.1) = kvs.map (·.1) ∧ SubsOk K as H n (us.map (·.2)) (kvs.map (·.2)) ∧ (jsOf (kvs.map (·.2))).Nodup
  | .ln xs => ∃ vs, H a = some (.lst vs) ∧ SubsOk K as H n vs xs ∧ (jsOf xs).Nodup
  | .dt kvs => ∃ us : List (List Key × V), H a = some (.dT us) ∧ us.map (·.1) = kvs.map (·.1) ∧ DzAll K as H (us.map (·.2)) (kvs.map (·.2))
  | .zk kvs => ∃ us : List (Key × V), Fz H a (.dK us) ∧ us.map (·.1) = kvs.map (·.1) ∧ DzAll K as H (us.map (·.2)) (kvs.map (·.2))
  | .zn kvs => ∃ us : List (Key × V), Fz H a (.dK us) ∧ us.map (·.1) = kvs.map (·.1) ∧ SubsOk K as H n (us.map (·.2)) (kvs.map (·.2)) ∧ (jsOf (kvs.map (·.2))).Nodup
  | .zt kvs => ∃ us : List (List Key × V), Fz H a (.dT us) ∧ us.map (·.1) = kvs.map (·.1) ∧ DzAll K as H (us.map (·.2)) (kvs.map (·.2))
def OwnOk (x : Option HO) : Prop := (∃ xs, x = some (.lst xs)) ∨ ∃ us, x = some (.dK us)
theorem OwnOk.some {x : Option HO} (h : OwnOk x) : ∃ o, x = some o ∧ nt o := by
  rcases h with ⟨xs, e⟩ | ⟨us, e⟩
  · exact ⟨_, e, nt_lst⟩
  · exact ⟨_, e, nt_dK⟩
def HidOk (x : Option HO) : Prop := (∃ xs, x = some (.lst xs)) ∨ ∃ φ, x = some (.ext φ)
theorem HidOk.some {x : Option HO} (h : HidOk x) : ∃ o, x = some o ∧ nt o ∧ ∀ ys, o ≠ .tup ys := by
  rcases h with ⟨xs, e⟩ | ⟨us, e⟩
  · exact ⟨_, e, nt_lst, fun _ z => nomatch z⟩
  · exact ⟨_, e, (fun _ z => nomatch z), fun _ z => nomatch z⟩
structure SimH (K : PySem.W.Frag) (as : Cs) (μ : Mu) (H : Hp) : Prop where
  nd : (as.hid ++ as.ao).Nodup
  len : as.as.length = μ.length
  hide : ∀ a ∈ as.hid, HidOk (H a)
  tab : ∀ P, IsTab K P → ∃ ps, H P = some (.tbl ps) ∧ TriplesOk ps.toList
  cell : ∀ (n : Nat) (a : Addr) (c : Cell), as.as[n]? = some a → μ[n]? = some c → Cok K as H n a c
  ownd : ∀ p ∈ as.own, OwnOk (H p.1)
theorem SimH.ndA {K : PySem.W.Frag} {as : Cs} {μ : Mu} {H : Hp} (S : SimH K as μ H) : as.as.Nodup := (List.nodup_append.mp (List.nodup_append.mp S.nd).2.1).1
theorem SimH.ndO {K : PySem.W.Frag} {as : Cs} {μ : Mu} {H : Hp} (S : SimH K as μ H) : (as.own.map (·.1)).Nodup := (List.nodup_append.mp (List.nodup_append.mp S.nd).2.1).2.1
theorem SimH.ne_own {K : PySem.W.Frag} {as : Cs} {μ : Mu} {H : Hp} (S : SimH K as μ H) {a b : Addr} {j n : Nat} (ha : a ∈ as.as) (hb : as.own[j]? = some (b, n)) : b ≠ a := fun e =>
  (List.nodup_append.mp (List.nodup_append.mp S.nd).2.1).2.2 a ha b (List.mem_map.mpr ⟨_, List.mem_of_getElem? hb, rfl⟩) e.symm
theorem SimH.own_inj {K : PySem.W.Frag} {as : Cs} {μ : Mu} {H : Hp} (S : SimH K as μ H) {b : Addr} {j j' n n' : Nat} (h : as.own[j]? = some (b, n)) (h' : as.own[j']? = some (b, n')) : j = j' := by
  have l1 := List.getElem?_eq_some_iff.mp h
  have l2 := List.getElem?_eq_some_iff.mp h'
  refine (List.getElem_inj (xs := as.own.map (·.1)) (h₀ := by simpa using l1.1) (h₁ := by simpa using l2.1) S.ndO).mp ?_
  rw [List.getElem_map, List.getElem_map, l1.2, l2.2]
theorem SimH.own_some {K : PySem.W.Frag} {as : Cs} {μ : Mu} {H : Hp} (S : SimH K as μ H) {b : Addr} {j n : Nat} (h : as.own[j]? = some (b, n)) : ∃ o, H b = some o ∧ nt o := (S.ownd (b, n) (List.mem_of_getElem? h)).some
theorem SimH.get {K : PySem.W.Frag} {as : Cs} {μ : Mu} {H : Hp} (S : SimH K as μ H) {n : Nat} {c : Cell} (e : μ[n]? = some c) : ∃ a, as.as[n]? = some a ∧ Cok K as H n a c := by
  have h := (List.getElem?_eq_some_iff.mp e).1
  have h2 : n < as.as.length := by rw [S.len]; exact h
  exact ⟨as.as[n], List.getElem?_eq_getElem h2, S.cell n _ c (List.getElem?_eq_getElem h2) e⟩
theorem SimH.mem {K : PySem.W.Frag} {as : Cs} {μ : Mu} {H : Hp} (S : SimH K as μ H) {a : Addr} (h : a ∈ as.as) : ∃ o, H a = some o := by
  obtain ⟨n, hn, e⟩ := List.getElem_of_mem h
  have h2 : n < μ.length := by rw [← S.len]; exact hn
  have q := S.cell n a μ[n] (by rw [List.getElem?_eq_getElem hn, e]) (List.getElem?_eq_getElem h2)
  cases c : μ[n] with
  | lst ds => rw [c] at q; obtain ⟨vs, e, _⟩ := q; exact ⟨_, e⟩
  | dk ds => rw [c] at q; obtain ⟨vs, e, _⟩ := q; exact ⟨_, e⟩
  | lw ds => rw [c] at q; obtain ⟨vs, e, _⟩ := q; exact ⟨_, e⟩
  | dn ds => rw [c] at q; obtain ⟨vs, e, _⟩ := q; exact ⟨_, e⟩
  | ln ds => rw [c] at q; obtain ⟨vs, e, _⟩ := q; exact ⟨_, e⟩
  | dt ds => rw [c] at q; obtain ⟨vs, e, _⟩ := q; exact ⟨_, e⟩
  | zk ds => rw [c] at q; obtain ⟨vs, ⟨o, e⟩, _⟩ := q; exact ⟨_, e⟩
  | zn ds => rw [c] at q; obtain ⟨vs, ⟨o, e⟩, _⟩ := q; exact ⟨_, e⟩
  | zt ds => rw [c] at q; obtain ⟨vs, ⟨o, e⟩, _⟩ := q; exact ⟨_, e⟩
theorem SimH.memN {K : PySem.W.Frag} {as : Cs} {μ : Mu} {H : Hp} (S : SimH K as μ H) {a : Addr} (h : a ∈ as.as) : ∃ o, H a = some o ∧ nt o := by
  obtain ⟨n, hn, e⟩ := List.getElem_of_mem h
  have h2 : n < μ.length := by rw [← S.len]; exact hn
  have q := S.cell n a μ[n] (by rw [List.getElem?_eq_getElem hn, e]) (List.getElem?_eq_getElem h2)
  cases c : μ[n] with
  | lst ds => rw [c] at q; obtain ⟨vs, e, _⟩ := q; exact ⟨_, e, nt_lst⟩
  | dk ds => rw [c] at q; obtain ⟨vs, e, _⟩ := q; exact ⟨_, e, fun _ z => nomatch z⟩
  | lw ds => rw [c] at q; obtain ⟨vs, e, _⟩ := q; exact ⟨_, e, nt_lst⟩
  | dn ds => rw [c] at q; obtain ⟨vs, e, _⟩ := q; exact ⟨_, e, fun _ z => nomatch z⟩
  | ln ds => rw [c] at q; obtain ⟨vs, e, _⟩ := q; exact ⟨_, e, nt_lst⟩
  | dt ds => rw [c] at q; obtain ⟨vs, e, _⟩ := q; exact ⟨_, e, fun _ z => nomatch z⟩
  | zk ds => rw [c] at q; obtain ⟨vs, ⟨o, e⟩, _⟩ := q; exact ⟨_, e, fun _ z => nomatch z⟩
  | zn ds => rw [c] at q; obtain ⟨vs, ⟨o, e⟩, _⟩ := q; exact ⟨_, e, fun _ z => nomatch z⟩
  | zt ds => rw [c] at q; obtain ⟨vs, ⟨o, e⟩, _⟩ := q; exact ⟨_, e, fun _ z => nomatch z⟩
theorem SimH.tabUpd {K : PySem.W.Frag} {as : Cs} {μ : Mu} {H : Hp} (S : SimH K as μ H) {p : Addr} {o : HO} (hp : ∀ ps, H p ≠ some (.tbl ps)) : ∀ P, IsTab K P → ∃ ps, upd H p o P = some (.tbl ps) ∧ TriplesOk ps.toList := fun P hP => by
  obtain ⟨ps, e, t⟩ := S.tab P hP
  exact ⟨ps, by rw [upd_ne (fun z => hp ps (by rw [← z]; exact e))]; exact e, t⟩
theorem SimH.fresh {K : PySem.W.Frag} {as : Cs} {μ : Mu} {H : Hp} (S : SimH K as μ H) {p : Addr} (hp : H p = none) : p ∉ as := fun h => by
  rcases Cs.mem_iff.mp h with h | h
  · obtain ⟨o, e, _⟩ := (S.hide p h).some
    rw [hp] at e; cases e
  · rcases Cs.ao_iff.mp h with h | h
    · obtain ⟨o, e⟩ := S.mem h
      rw [hp] at e; cases e
    · obtain ⟨x, hx, rfl⟩ := List.mem_map.mp h
      obtain ⟨o, e, _⟩ := (S.ownd x hx).some
      rw [hp] at e; cases e
theorem Stp.lay (as : Cs) {H : Hp} {p : Addr} (hp : H p = none) (o : HO) : Stp as H as (upd H p o) :=
  ⟨rfl, ⟨[], by simp⟩, fun a u _ h n => ⟨n, by rw [upd_ne (ne_of_none h hp)]; exact h⟩, ⟨[], by simp⟩, fun a u v h => by rw [upd_ne (ne_of_none h hp)]; exact h⟩
theorem Cok.mono {K : PySem.W.Frag} {as as' : Cs} {H H' : Hp} {n : Nat} {a : Addr} (s : Stp as H as' H') (e : H' a = H a) (eo : ∀ (j : Nat) (b : Addr), as.own[j]? = some (b, n) → H' b = H b) {c : Cell} (h : Cok K as H n a c) : Cok K as' H' n a c := by
  cases c with
  | lst ds => obtain ⟨vs, h1, h2⟩ := h; exact ⟨vs, e.trans h1, h2.mono s⟩
  | dk ds => obtain ⟨vs, h1, h2, h3⟩ := h; exact ⟨vs, e.trans h1, h2, h3.mono s⟩
  | lw ds => obtain ⟨vs, h1, h2, h3⟩ := h; exact ⟨vs, e.trans h1, h2.mono s, h3⟩
  | dn ds => obtain ⟨vs, h1, h2, h3, h4⟩ := h; exact ⟨vs, e.trans h1, h2, h3.mono s eo, h4⟩
  | ln ds => obtain ⟨vs, h1, h2, h3⟩ := h; exact ⟨vs, e.trans h1, h2.mono s eo, h3⟩
  | dt ds => obtain ⟨vs, h1, h2, h3⟩ := h; exact ⟨vs, e.trans h1, h2, h3.mono s⟩
  | zk ds => obtain ⟨vs, ⟨o, h1⟩, h2, h3⟩ := h; exact ⟨vs, ⟨o, e.trans h1⟩, h2, h3.mono s⟩
  | zn ds => obtain ⟨vs, ⟨o, h1⟩, h2, h3, h4⟩ := h; exact ⟨vs, ⟨o, e.trans h1⟩, h2, h3.mono s eo, h4⟩
  | zt ds => obtain ⟨vs, ⟨o, h1⟩, h2, h3⟩ := h; exact ⟨vs, ⟨o, e.trans h1⟩, h2, h3.mono s⟩
theorem SimH.lay {K : PySem.W.Frag} {as : Cs} {μ : Mu} {H : Hp} (S : SimH K as μ H) {p : Addr} (hp : H p = none) (o : HO) : SimH K as μ (upd H p o) := by
  refine ⟨S.nd, S.len, fun a h => ?_, S.tabUpd (fun ps z => by rw [hp] at z; cases z), fun n a c h1 h2 => (S.cell n a c h1 h2).mono (Stp.lay as hp o) ?_ ?_, fun p h => ?_⟩
  · obtain ⟨o', e, _⟩ := (S.hide a h).some
    rw [upd_ne (ne_of_none e hp)]; exact S.hide a h
  · obtain ⟨o', e⟩ := S.mem (List.mem_of_getElem? h1)
    exact upd_ne (ne_of_none e hp)
  · intro j b hb
    obtain ⟨o', e, _⟩ := S.own_some hb
    exact upd_ne (ne_of_none e hp)
  · obtain ⟨o', e, w⟩ := (S.ownd p h).some
    rw [upd_ne (ne_of_none e hp)]; exact S.ownd p h
abbrev Cs.add (as : Cs) (p : Addr) : Cs := ⟨as.hid, as.as ++ [p], as.own⟩
theorem Cs.add_ao {as : Cs} {p a : Addr} : a ∈ (as.add p).ao ↔ a ∈ as.ao ∨ a = p := by
  simp only [Cs.ao, List.mem_append, List.mem_singleton]
  exact ⟨fun h => h.elim (fun h => h.elim (fun h => .inl (.inl h)) .inr) fun h => .inl (.inr h), fun h => h.elim (fun h => h.elim (fun h => .inl (.inl h)) .inr) fun h => .inl (.inr h)⟩
theorem Cs.add_nd {as : Cs} {p : Addr} (h : (as.hid ++ as.ao).Nodup) (n : p ∉ as) : ((as.add p).hid ++ (as.add p).ao).Nodup := by
  have n : p ∉ as.hid ++ as.ao := n
  have e : (p :: (as.hid ++ as.ao)).Nodup := List.nodup_cons.mpr ⟨n, h⟩
  refine (List.Perm.nodup_iff ?_).mp e
  show (p :: (as.hid ++ (as.as ++ as.own.map (·.1)))).Perm (as.hid ++ ((as.as ++ [p]) ++ as.own.map (·.1)))
  refine (List.perm_middle (a := p) (l₁ := as.hid) (l₂ := as.as ++ as.own.map (·.1))).symm.trans (List.Perm.append_left _ ?_)
  rw [List.append_assoc]
  exact (List.perm_middle (a := p) (l₁ := as.as) (l₂ := as.own.map (·.1))).symm
theorem Stp.cell (as : Cs) {H : Hp} {p : Addr} (hp : H p = none) (o : HO) : Stp as H (as.add p) (upd H p o) := by
  refine ⟨rfl, ⟨[p], rfl⟩, fun a u _ h n => ⟨?_, by rw [upd_ne (ne_of_none h hp)]; exact h⟩, ⟨[], by simp⟩, fun a u v h => by rw [upd_ne (ne_of_none h hp)]; exact h⟩
  rw [Cs.add_ao, not_or]
  exact ⟨n, ne_of_none h hp⟩
theorem SimH.newCell {K : PySem.W.Frag} {as : Cs} {μ : Mu} {H : Hp} (S : SimH K as μ H) {p : Addr} (hp : H p = none) (o : HO) (c : Cell) (h : Cok K (as.add p) (upd H p o) μ.length p c) : SimH K (as.add p) (μ ++ [c]) (upd H p o) := by
  have eo : ∀ (n j : Nat) (b : Addr), as.own[j]? = some (b, n) → upd H p o b = H b := fun n j b hb => by
    obtain ⟨o', e, _⟩ := S.own_some hb
    exact upd_ne (ne_of_none e hp)
  refine ⟨?_, by simp [S.len], fun a h => ?_, S.tabUpd (fun ps z => by rw [hp] at z; cases z), fun n a c' h1 h2 => ?_, fun x h => ?_⟩
  · exact Cs.add_nd S.nd (S.fresh hp)
  · obtain ⟨o', e, _⟩ := (S.hide a h).some
    rw [upd_ne (ne_of_none e hp)]; exact S.hide a h
  · have h1 : (as.as ++ [p])[n]? = some a := h1
    by_cases hn : n < as.as.length
    · rw [List.getElem?_append_left hn] at h1
      rw [List.getElem?_append_left (by rw [← S.len]; exact hn)] at h2
      obtain ⟨o', e⟩ := S.mem (List.mem_of_getElem? h1)
      exact (S.cell n a c' h1 h2).mono (Stp.cell as hp o) (upd_ne (ne_of_none e hp)) (eo n)
    · rw [List.getElem?_append_right (by omega)] at h1
      rw [List.getElem?_append_right (by rw [← S.len]; omega)] at h2
      have : n - as.as.length = 0 := by
        have := (List.getElem?_eq_some_iff.mp h1).1
        simp at this; omega
      have en : n = μ.length := by have := S.len; omega
      rw [this] at h1
      rw [← S.len, this] at h2
      simp at h1 h2
      subst h1 h2
      rw [en]
      exact h
  · obtain ⟨o', e, w⟩ := (S.ownd x h).some
    rw [upd_ne (ne_of_none e hp)]; exact S.ownd x h
def nfz (x : Option HO) : Prop := ∀ o u, x ≠ some (.frz o u)
theorem nf_lst {x : Option HO} {xs : List V} (e : x = some (.lst xs)) : nfz x := fun _ _ z => by rw [e] at z; cases z
theorem nf_dK {x : Option HO} {us : List (Key × V)} (e : x = some (.dK us)) : nfz x := fun _ _ z => by rw [e] at z; cases z
theorem nf_dT {x : Option HO} {us : List (List Key × V)} (e : x = some (.dT us)) : nfz x := fun _ _ z => by rw [e] at z; cases z
theorem Stp.write {as : Cs} {H : Hp} {a : Addr} (h : a ∈ as.as) (o : HO) (nf : nfz (H a) := by first | exact nf_lst (by assumption) | exact nf_dK (by assumption) | exact nf_dT (by assumption)) : Stp as H as (upd H a o) :=
  ⟨rfl, ⟨[], by simp⟩, fun b u _ q n => ⟨n, by rw [upd_ne (fun e => n (by rw [e]; exact Cs.ao_as h))]; exact q⟩, ⟨[], by simp⟩, fun b u v q => by rw [upd_ne (fun e => nf u v (by rw [← e]; exact q))]; exact q⟩
theorem SimH.write {K : PySem.W.Frag} {as : Cs} {μ : Mu} {H : Hp} (S : SimH K as μ H) {n : Nat} {a : Addr} (ha : as.as[n]? = some a) (o : HO) (c : Cell) (h : Cok K as (upd H a o) n a c) (nf : nfz (H a) := by first | exact nf_lst (by assumption) | exact nf_dK (by assumption) | exact nf_dT (by assumption)) : SimH K as (μ.set n c) (upd H a o) := by
  have hm := List.mem_of_getElem? ha
  have nd2 : as.as.Nodup := S.ndA
  refine ⟨S.nd, by simp [S.len], fun b hb => ?_, S.tabUpd (fun ps z => by obtain ⟨o', e', no⟩ := S.memN hm; rw [z] at e'; cases e'; exact no ps rfl), fun m b c' h1 h2 => ?_, fun x h => ?_⟩
  rotate_left 2
  · obtain ⟨i, hi, ei⟩ := List.getElem_of_mem h
    rw [upd_ne (S.ne_own (n := x.2) hm (List.getElem?_eq_some_iff.mpr ⟨hi, ei⟩))]; exact S.ownd x h
  · rw [upd_ne (fun z => (List.nodup_append.mp S.nd).2.2 b hb a (Cs.ao_as hm) z)]; exact S.hide b hb
  · by_cases e : n = m
    · subst e
      rw [ha] at h1
      cases h1
      have hl : n < μ.length := by rw [← S.len]; exact (List.getElem?_eq_some_iff.mp ha).1
      rw [List.getElem?_set_self hl] at h2
      cases h2
      exact h
    · rw [List.getElem?_set_ne e] at h2
      refine (S.cell m b c' h1 h2).mono (Stp.write hm o nf) (upd_ne fun z => e ?_) (fun j b' hb => upd_ne (S.ne_own hm hb))
      subst z
      have l1 := (List.getElem?_eq_some_iff.mp ha)
      have l2 := (List.getElem?_eq_some_iff.mp h1)
      exact (List.getElem_inj (h₀ := l1.1) (h₁ := l2.1) nd2).mp (l1.2.trans l2.2.symm)
def EnvOk (K : PySem.W.Frag) (as : Cs) (H : Hp) (ρ : Rho) (σ : St) : Prop := ρ.length = σ.length ∧ ∀ (i : Nat) (w : W), ρ[i]? = some (some w) → ∃ v, σ[i]? = some (some v) ∧ Rel K as H w v
theorem EnvOk.mono {K : PySem.W.Frag} {as as' : Cs} {H H' : Hp} {ρ : Rho} {σ : St} (s : Stp as H as' H') (h : EnvOk K as H ρ σ) : EnvOk K as' H' ρ σ :=
  ⟨h.1, fun i w e => let ⟨v, h1, h2⟩ := h.2 i w e; ⟨v, h1, h2.mono s⟩⟩
theorem EnvOk.set {K : PySem.W.Frag} {as : Cs} {H : Hp} {ρ : Rho} {σ : St} (h : EnvOk K as H ρ σ) {w : W} {v : V} (r : Rel K as H w v) (i : Nat) : EnvOk K as H (ρ.set i (some w)) (σ.set i (some v)) := by
  refine ⟨by simp [h.1], fun j w' e => ?_⟩
  by_cases hij : i = j
  · subst hij
    by_cases hl : i < ρ.length
    · rw [List.getElem?_set_self hl] at e
      cases e
      exact ⟨v, List.getElem?_set_self (by rw [← h.1]; exact hl), r⟩
    · rw [List.getElem?_eq_none (by simpa using hl)] at e; cases e
  · rw [List.getElem?_set_ne hij] at e ⊢
    exact h.2 j w' e
def Aft (K : PySem.W.Frag) (as : Cs) (H : Hp) (Q0 : WK) (Q : VK) : Prop := ∀ w μ' as' v H', Q0 w μ' → Stp as H as' H' → SimH K as' μ' H' → Rel K as' H' w v → Q v H'
def rdE (K : PySem.W.Frag) (f : SE) : TE := fun σ H Q => ∃ as ρ μ Q0, SimH K as μ H ∧ EnvOk K as H ρ σ ∧ f ρ μ Q0 ∧ Aft K as H Q0 Q
def rdT (K : PySem.W.Frag) (f : ST) : TT := fun σ H Q => ∃ as ρ μ Q0, SimH K as μ H ∧ EnvOk K as H ρ σ ∧ f ρ μ Q0 ∧ ∀ b μ' as' H', Q0 b μ' → Stp as H as' H' → SimH K as' μ' H' → Q b H'
theorem Rels.length {K : PySem.W.Frag} {as : Cs} {H : Hp} {ws : List W} {vs : List V} (h : Rels K as H ws vs) : ws.length = vs.length := by
  induction h with
  | nil => rfl
  | cons _ _ ih => simp [ih]
def rdA (K : PySem.W.Frag) (f : SA) : TA := fun σ H Q => ∃ as ρ μ Q0, SimH K as μ H ∧ EnvOk K as H ρ σ ∧ f ρ μ Q0 ∧ ∀ ws μ' as' vs H', Q0 ws μ' → Stp as H as' H' → SimH K as' μ' H' → Rels K as' H' ws vs → Q vs H'
def FinOk (K : PySem.W.Frag) (as : Cs) (H : Hp) (F : Fin) (D : Ends) : Prop :=
  (∀ ρ' μ' as' σ' H', F.nx ρ' μ' → Stp as H as' H' → SimH K as' μ' H' → EnvOk K as' H' ρ' σ' → D.nx σ' H') ∧
  (∀ w μ' as' v H', F.rt w μ' → Stp as H as' H' → SimH K as' μ' H' → Rel K as' H' w v → D.rt v H') ∧
  (∀ ρ' μ' as' σ' H', F.bk ρ' μ' → Stp as H as' H' → SimH K as' μ' H' → EnvOk K as' H' ρ' σ' → D.bk σ' H') ∧
  (∀ ρ' μ' as' σ' H', F.ct ρ' μ' → Stp as H as' H' → SimH K as' μ' H' → EnvOk K as' H' ρ' σ' → D.ct σ' H')
def rdS (K : PySem.W.Frag) (f : SS) : TS := fun D σ H => ∃ as ρ μ F, SimH K as μ H ∧ EnvOk K as H ρ σ ∧ f F ρ μ ∧ FinOk K as H F D
theorem FinOk.mono {K : PySem.W.Frag} {as as1 : Cs} {H H1 : Hp} {F : Fin} {D : Ends} (h : FinOk K as H F D) (s : Stp as H as1 H1) : FinOk K as1 H1 F D :=
  ⟨fun _ _ _ _ _ q t => h.1 _ _ _ _ _ q (s.trans t), fun _ _ _ _ _ q t => h.2.1 _ _ _ _ _ q (s.trans t), fun _ _ _ _ _ q t => h.2.2.1 _ _ _ _ _ q (s.trans t), fun _ _ _ _ _ q t => h.2.2.2 _ _ _ _ _ q (s.trans t)⟩
structure GE (X : Cx) (e : Expr) (f : SE) : Prop where go : PE X e (rdE X.K f)
structure GT (X : Cx) (e : Expr) (f : ST) : Prop where go : PT X e (rdT X.K f)
structure GW (X : Cx) (e : Expr) (f : ST) : Prop where go : PW X e (rdT X.K f)
structure GA (X : Cx) (es : List Expr) (f : SA) : Prop where go : PA X es (rdA X.K f)
structure GS (X : Cx) (st : Stmt) (f : SS) : Prop where go : PS X st (rdS X.K f)
structure GB (X : Cx) (st : List Stmt) (f : SS) : Prop where go : PSs X st (rdS X.K f)
end L2.Ev
namespace L2.Ev
open PySem PySem.Spec PyProof.Rows
theorem PE_imp {X : Cx} {e : Expr} {t t' : TE} (h : PE X e t) (k : ∀ σ H Q, t' σ H Q → t σ H Q) : PE X e t' := fun pins s σ H Q I q => h pins s σ H Q I (k σ H Q q)
theorem PT_imp {X : Cx} {e : Expr} {t t' : TT} (h : PT X e t) (k : ∀ σ H Q, t' σ H Q → t σ H Q) : PT X e t' := fun pins s σ H Q I q => h pins s σ H Q I (k σ H Q q)
theorem PW_imp {X : Cx} {e : Expr} {t t' : TT} (h : PW X e t) (k : ∀ σ H Q, t' σ H Q → t σ H Q) : PW X e t' := fun wh pins s σ H Q I q => h wh pins s σ H Q I (k σ H Q q)
theorem PA_imp {X : Cx} {e : List Expr} {t t' : TA} (h : PA X e t) (k : ∀ σ H Q, t' σ H Q → t σ H Q) : PA X e t' := fun pos pins s σ H Q I q => h pos pins s σ H Q I (k σ H Q q)
theorem PS_imp {X : Cx} {e : Stmt} {t t' : TS} (h : PS X e t) (k : ∀ D σ H, t' D σ H → t D σ H) : PS X e t' := fun pins s σ H D I q => h pins s σ H D I (k D σ H q)
theorem PSs_imp {X : Cx} {e : List Stmt} {t t' : TS} (h : PSs X e t) (k : ∀ D σ H, t' D σ H → t D σ H) : PSs X e t' := fun pins s σ H D I q => h pins s σ H D I (k D σ H q)
section
variable {K : PySem.W.Frag} {as : Cs} {μ : Mu} {H : Hp} {Q0 : WK} {Q : VK}
theorem Aft.mono {as1 : Cs} {H1 : Hp} (A : Aft K as H Q0 Q) (s : Stp as H as1 H1) : Aft K as1 H1 Q0 Q := fun w μ' as' v H' q s' S r => A w μ' as' v H' q (s.trans s') S r
theorem Aft.now (A : Aft K as H Q0 Q) (S : SimH K as μ H) {w : W} {v : V} (q : Q0 w μ) (r : Rel K as H w v) : Q v H := A w μ as v H q (Stp.refl _ _) S r
theorem Aft.tup (A : Aft K as H Q0 Q) (S : SimH K as μ H) {vs : List V} {ds : List PyData} (d : DzAll K as H vs ds) (q : Q0 (.p (.tuple ds)) μ) : ∀ p, H p = none → Q (.ref p) (upd H p (.tup vs)) := fun p hp =>
  A _ μ as _ _ q (Stp.lay as hp _) (S.lay hp _) (Dz.tup (.inl ⟨S.fresh hp, .inl upd_same⟩) (d.mono (Stp.lay as hp _)))
theorem Aft.lst (A : Aft K as H Q0 Q) (S : SimH K as μ H) {vs : List V} {ds : List PyData} (d : DzAll K as H vs ds) (q : Q0 (.p (.list ds)) μ) : ∀ p, H p = none → Q (.ref p) (upd H p (.lst vs)) := fun p hp =>
  A _ μ as _ _ q (Stp.lay as hp _) (S.lay hp _) (Dz.lst ⟨S.fresh hp, .inl upd_same⟩ (d.mono (Stp.lay as hp _)))
theorem Aft.new (A : Aft K as H Q0 Q) (S : SimH K as μ H) {vs : List V} {ds : List PyData} (d : DzAll K as H vs ds) (q : Q0 (.r μ.length) (μ ++ [.lst ds])) : ∀ p, H p = none → Q (.ref p) (upd H p (.lst vs)) := fun p hp =>
  A _ _ (as.add p) _ _ q (Stp.cell as hp _) (S.newCell hp _ _ ⟨vs, upd_same, d.mono (Stp.cell as hp _)⟩) ⟨p, rfl, by rw [← S.len]; simp⟩
end
def wVar (i : Nat) : SE := fun ρ μ Q => match ρ[i]? with | some (some w) => Q w μ | _ => False
def wC (d : PyData) : SE := fun _ μ Q => Q (.p d) μ
section
variable {X : Cx} {pos : Pos}
theorem ge_var {i : Nat} {x : Str} (h : PE X (.Name x pos) (tVar i)) : GE X (.Name x pos) (wVar i) := ⟨PE_imp h fun σ H Q ⟨as, ρ, μ, Q0, S, E, h, A⟩ => by
  unfold wVar at h
  split at h
  · rename_i w e
    obtain ⟨v, h1, h2⟩ := E.2 i w e
    exact ⟨v, h1, A.now S h h2⟩
  · exact h.elim⟩
theorem ge_int {i j} : GE X (.Constant (.int i) j pos) (wC (.int i)) := ⟨PE_imp pe_int fun σ H Q ⟨as, ρ, μ, Q0, S, E, h, A⟩ => A.now S h (Dz.int i)⟩
theorem ge_bl {b j} : GE X (.Constant (.bool b) j pos) (wC (.bool b)) := ⟨PE_imp pe_bl fun σ H Q ⟨as, ρ, μ, Q0, S, E, h, A⟩ => A.now S h (Dz.bl b)⟩
theorem ge_non {j} : GE X (.Constant .none j pos) (wC .none) := ⟨PE_imp pe_non fun σ H Q ⟨as, ρ, μ, Q0, S, E, h, A⟩ => A.now S h Dz.non⟩
theorem ge_str {x j} : GE X (.Constant (.str x) j pos) (wC (.str x)) := ⟨PE_imp pe_str fun σ H Q ⟨as, ρ, μ, Q0, S, E, h, A⟩ => A.now S h (Dz.str x)⟩
end
abbrev O2 := W → W → Mu → WK → Prop
def rdO (K : PySem.W.Frag) (o : O2) : R2 := fun x y H Q => ∃ as μ w1 w2 Q0, SimH K as μ H ∧ Rel K as H w1 x ∧ Rel K as H w2 y ∧ o w1 w2 μ Q0 ∧ Aft K as H Q0 Q
structure GO (X : Cx) (f : Value → Value → Sem Value) (o : O2) : Prop where go : OpR X f (rdO X.K o)
theorem OpR_imp {X : Cx} {f : Value → Value → Sem Value} {r r' : R2} (h : OpR X f r) (k : ∀ x y H Q, r' x y H Q → r x y H Q) : OpR X f r' := fun pins s σ H x y v u Q I rx ry q => h pins s σ H x y v u Q I rx ry (k x y H Q q)
def wOp (o : O2) (fa fb : SE) : SE := fun ρ μ Q => fa ρ μ fun x μ1 => fb ρ μ1 fun y μ2 => o x y μ2 Q
theorem rdE_op {K : PySem.W.Frag} {o : O2} {fa fb : SE} {σ : St} {H : Hp} {Q : VK} (h : rdE K (wOp o fa fb) σ H Q) : tOp (rdO K o) (rdE K fa) (rdE K fb) σ H Q := by
  obtain ⟨as, ρ, μ, Q0, S, E, h, A⟩ := h
  exact ⟨as, ρ, μ, _, S, E, h, fun w1 μ1 as1 v1 H1 q1 s1 S1 r1 => ⟨as1, ρ, μ1, _, S1, E.mono s1, q1, fun w2 μ2 as2 v2 H2 q2 s2 S2 r2 => ⟨as2, μ2, w1, w2, Q0, S2, r1.mono s2, r2, q2, (A.mono s1).mono s2⟩⟩⟩
section
variable {X : Cx} {pos : Pos} {a b c : Expr} {fa fb fc : SE} {o o' : O2}
theorem ge_op {op : Operator} (ho : GO X (binaryOp op) o) (ha : GE X a fa) (hb : GE X b fb) : GE X (.BinOp a op b pos) (wOp o fa fb) := ⟨PE_imp (pe_op ho.go ha.go hb.go) fun _ _ _ h => rdE_op h⟩
theorem ge_cmp {op : CmpOp} (ho : GO X (compareOp op) o) (ha : GE X a fa) (hb : GE X b fb) (hm : behindInMarks op b = false) : GE X (.Compare a [op] [b] pos) (wOp o fa fb) := ⟨PE_imp (pe_cmpR ho.go ha.go hb.go hm) fun _ _ _ h => rdE_op h⟩
end
def wTest (f : SE) : ST := fun ρ μ Q => f ρ μ fun x μ1 => match x with | .p (.bool b) => Q b μ1 | _ => False
theorem rdT_test {K : PySem.W.Frag} {f : SE} {σ : St} {H : Hp} {Q : Bool → Hp → Prop} (h : rdT K (wTest f) σ H Q) : rdE K f σ H fun x H' => ∃ k, x = .bl k ∧ Q k H' := by
  obtain ⟨as, ρ, μ, Q0, S, E, h, A⟩ := h
  refine ⟨as, ρ, μ, _, S, E, h, fun w μ1 as1 v H1 q s S1 r => ?_⟩
  split at q
  · cases r
    exact ⟨_, rfl, A _ _ _ _ q s S1⟩
  · exact q.elim
section
variable {X : Cx} {pos : Pos} {a b c e : Expr} {fa fb fc f : SE} {o o' : O2} {t u : ST} {rest : List Expr}
theorem gt_cmp {op : CmpOp} (ho : GO X (compareOp op) o) (ha : GE X a fa) (hb : GE X b fb) (hm : behindInMarks op b = false) : GT X (.Compare a [op] [b] pos) (wTest (wOp o fa fb)) :=
  ⟨PT_imp (pt_cmpR ho.go ha.go hb.go hm) fun σ H Q h => rdE_op (rdT_test h)⟩
def wChain (o o' : O2) (fa fb fc : SE) : SE := fun ρ μ Q => fa ρ μ fun x μ1 => fb ρ μ1 fun y μ2 => o x y μ2 fun z μ3 => match z with
  | .p (.bool k) => if k = true then fc ρ μ3 fun w' μ4 => o' y w' μ4 Q else Q (.p (.bool false)) μ3
  | _ => False
theorem rdE_chain {K : PySem.W.Frag} {σ : St} {H : Hp} {Q : VK} (h : rdE K (wChain o o' fa fb fc) σ H Q) : tChain (rdO K o) (rdO K o') (rdE K fa) (rdE K fb) (rdE K fc) σ H Q := by
  obtain ⟨as, ρ, μ, Q0, S, E, h, A⟩ := h
  refine ⟨as, ρ, μ, _, S, E, h, fun w1 μ1 as1 v1 H1 q1 s1 S1 r1 => ⟨as1, ρ, μ1, _, S1, E.mono s1, q1, fun w2 μ2 as2 v2 H2 q2 s2 S2 r2 => ⟨as2, μ2, w1, w2, _, S2, r1.mono s2, r2, q2, fun w3 μ3 as3 v3 H3 q3 s3 S3 r3 => ?_⟩⟩⟩
  split at q3
  · rename_i k
    cases r3
    refine ⟨k, rfl, ?_⟩
    cases k with
    | true =>
      rw [if_pos rfl] at q3 ⊢
      exact ⟨as3, ρ, μ3, _, S3, (E.mono s1).mono (s2.trans s3), q3, fun w4 μ4 as4 v4 H4 q4 s4 S4 r4 => ⟨as4, μ4, w2, w4, Q0, S4, r2.mono (s3.trans s4), r4, q4, (A.mono s1).mono (s2.trans (s3.trans s4))⟩⟩
    | false =>
      rw [if_neg Bool.false_ne_true] at q3 ⊢
      exact A _ _ _ _ _ q3 (s1.trans (s2.trans s3)) S3 (Dz.bl false)
  · exact q3.elim
theorem ge_chain {op op' : CmpOp} (ho : GO X (compareOp op) o) (ho' : GO X (compareOp op') o') (ha : GE X a fa) (hb : GE X b fb) (hc : GE X c fc)
    (hm : lastMarks [op, op'] [b, c] = false := by with_unfolding_all rfl) : GE X (.Compare a [op, op'] [b, c] pos) (wChain o o' fa fb fc) := ⟨PE_imp (pe_chain ho.go ho'.go ha.go hb.go hc.go hm) fun _ _ _ h => rdE_chain h⟩
theorem gt_val (h : GE X e f) (he : ∀ whole, isTrue e X.env whole = (do let v ← whole; standAt e.pos; holding [v] (truthy v)) := by intro _; rfl) : GT X e (wTest f) :=
  ⟨PT_imp (pt_val h.go he) fun σ H Q h => rdT_test h⟩
def wAnd (t u : ST) : ST := fun ρ μ Q => t ρ μ fun c μ1 => if c = true then u ρ μ1 Q else Q false μ1
def wOr (t u : ST) : ST := fun ρ μ Q => t ρ μ fun c μ1 => if c = true then Q true μ1 else u ρ μ1 Q
def wNot (t : ST) : ST := fun ρ μ Q => t ρ μ fun c μ1 => Q (!c) μ1
theorem gw_and1 (ha : GT X a t) : GW X (.BoolOp .And [a] pos) t := ⟨pw_and1 ha.go⟩
theorem gw_or1 (ha : GT X a t) : GW X (.BoolOp .Or [a] pos) t := ⟨pw_or1 ha.go⟩
theorem gw_and (ha : GT X a t) (hb : GW X (.BoolOp .And (b :: rest) pos) u) : GW X (.BoolOp .And (a :: b :: rest) pos) (wAnd t u) := ⟨PW_imp (pw_and ha.go hb.go) fun σ H Q ⟨as, ρ, μ, Q0, S, E, h, A⟩ =>
  ⟨as, ρ, μ, _, S, E, h, fun c μ1 as1 H1 q1 s1 S1 => by
    cases c with
    | true => exact ⟨as1, ρ, μ1, Q0, S1, E.mono s1, q1, fun b μ' as' H' q s' S' => A b μ' as' H' q (s1.trans s') S'⟩
    | false => exact A _ _ _ _ q1 s1 S1⟩⟩
theorem gw_or (ha : GT X a t) (hb : GW X (.BoolOp .Or (b :: rest) pos) u) : GW X (.BoolOp .Or (a :: b :: rest) pos) (wOr t u) := ⟨PW_imp (pw_or ha.go hb.go) fun σ H Q ⟨as, ρ, μ, Q0, S, E, h, A⟩ =>
  ⟨as, ρ, μ, _, S, E, h, fun c μ1 as1 H1 q1 s1 S1 => by
    cases c with
    | false => exact ⟨as1, ρ, μ1, Q0, S1, E.mono s1, q1, fun b μ' as' H' q s' S' => A b μ' as' H' q (s1.trans s') S'⟩
    | true => exact A _ _ _ _ q1 s1 S1⟩⟩
theorem GW.gt (h : GW X e t) : GT X e t := ⟨h.go.pt⟩
theorem gt_not (ha : GT X a t) : GT X (.UnaryOp .Not a pos) (wNot t) := ⟨PT_imp (pt_not ha.go) fun σ H Q ⟨as, ρ, μ, Q0, S, E, h, A⟩ => ⟨as, ρ, μ, _, S, E, h, fun c μ1 as1 H1 q1 s1 S1 => A _ _ _ _ q1 s1 S1⟩⟩
def wAndV (fa fb : SE) : SE := fun ρ μ Q => fa ρ μ fun x μ1 => match x with | .p (.bool c) => if c = true then fb ρ μ1 Q else Q (.p (.bool false)) μ1 | _ => False
def wOrV (fa fb : SE) : SE := fun ρ μ Q => fa ρ μ fun x μ1 => match x with | .p (.bool c) => if c = true then Q (.p (.bool true)) μ1 else fb ρ μ1 Q | _ => False
def wNotV (fa : SE) : SE := fun ρ μ Q => fa ρ μ fun x μ1 => match x with | .p (.bool c) => Q (.p (.bool (!c))) μ1 | _ => False
theorem ge_one {op} (h : GE X a f) : GE X (.BoolOp op [a] pos) f := ⟨pe_one h.go⟩
theorem ge_and (ha : GE X a fa) (hb : GE X (.BoolOp .And (b :: rest) pos) fb) : GE X (.BoolOp .And (a :: b :: rest) pos) (wAndV fa fb) := ⟨PE_imp (pe_and ha.go hb.go) fun σ H Q ⟨as, ρ, μ, Q0, S, E, h, A⟩ =>
  ⟨as, ρ, μ, _, S, E, h, fun w μ1 as1 v H1 q1 s1 S1 r1 => by
    split at q1
    · rename_i c
      cases r1
      refine ⟨c, rfl, ?_⟩
      cases c with
      | true => exact ⟨as1, ρ, μ1, Q0, S1, E.mono s1, q1, A.mono s1⟩
      | false => exact A _ _ _ _ _ q1 s1 S1 (Dz.bl false)
    · exact q1.elim⟩⟩
theorem ge_not (ha : GE X a fa) : GE X (.UnaryOp .Not a pos) (wNotV fa) := ⟨PE_imp (pe_not ha.go) fun σ H Q ⟨as, ρ, μ, Q0, S, E, h, A⟩ =>
  ⟨as, ρ, μ, _, S, E, h, fun w μ1 as1 v H1 q1 s1 S1 r1 => by
    split at q1
    · rename_i c
      cases r1
      exact ⟨c, rfl, A _ _ _ _ _ q1 s1 S1 (Dz.bl _)⟩
    · exact q1.elim⟩⟩
def wIf (t : ST) (fa fb : SE) : SE := fun ρ μ Q => t ρ μ fun c μ1 => if c = true then fa ρ μ1 Q else fb ρ μ1 Q
end
def oI (C : Int → Int → Prop) (g : Int → Int → PyData) : O2
  | .p (.int i), .p (.int j), μ, Q => C i j ∧ Q (.p (g i j)) μ
  | _, _, _, _ => False
def oI0 (g : Int → Int → PyData) : O2
  | .p (.int i), .p (.int j), μ, Q => Q (.p (g i j)) μ
  | _, _, _, _ => False
section
variable {X : Cx} {f : Value → Value → Sem Value}
theorem GO.i {C : Int → Int → Prop} {g : Int → Int → PyData} {gv : Int → Int → V} (h : OpR X f (rI C gv)) (k : ∀ i j K as H, Dz K as H (gv i j) (g i j)) : GO X f (oI C g) := ⟨OpR_imp h fun x y H Q ⟨as, μ, w1, w2, Q0, S, r1, r2, q, A⟩ => by
  unfold oI at q
  split at q
  · cases r1
    cases r2
    exact ⟨_, _, rfl, rfl, q.1, A.now S q.2 (k _ _ _ _ _)⟩
  · exact q.elim⟩
theorem GO.i0 {g : Int → Int → PyData} {gv : Int → Int → V} (h : OpR X f (rI0 gv)) (k : ∀ i j K as H, Dz K as H (gv i j) (g i j)) : GO X f (oI0 g) := ⟨OpR_imp h fun x y H Q ⟨as, μ, w1, w2, Q0, S, r1, r2, q, A⟩ => by
  unfold oI0 at q
  split at q
  · cases r1
    cases r2
    exact ⟨_, _, rfl, rfl, A.now S q (k _ _ _ _ _)⟩
  · exact q.elim⟩
end
abbrev oSub : O2 := oI0 fun i j => .int (i - j)
abbrev oMul : O2 := oI CMul fun i j => .int (i * j)
abbrev oDiv : O2 := oI CDiv fun i j => .int (i / j)
abbrev oMod : O2 := oI (fun _ j => 0 < j) fun i j => .int (i % j)
abbrev oPow : O2 := oI CPow fun i j => .int (i ^ j.toNat)
abbrev oLt : O2 := oI0 fun i j => .bool (decide (i < j))
abbrev oLe : O2 := oI0 fun i j => .bool (decide (i ≤ j))
abbrev oGt : O2 := oI0 fun i j => .bool (decide (j < i))
abbrev oGe : O2 := oI0 fun i j => .bool (decide (j ≤ i))
section
variable {X : Cx}
theorem go_sub : GO X (binaryOp .Sub) oSub := .i0 op_sub fun _ _ _ _ _ => .int _
theorem go_mul : GO X (binaryOp .Mult) oMul := .i op_mul fun _ _ _ _ _ => .int _
theorem go_div : GO X (binaryOp .FloorDiv) oDiv := .i op_fdiv fun _ _ _ _ _ => .int _
theorem go_mod : GO X (binaryOp .Mod) oMod := .i op_mod fun _ _ _ _ _ => .int _
theorem go_pow : GO X (binaryOp .Pow) oPow := .i op_pow fun _ _ _ _ _ => .int _
theorem go_lt : GO X (compareOp .Lt) oLt := .i0 op_lt fun _ _ _ _ _ => .bl _
theorem go_le : GO X (compareOp .LtE) oLe := .i0 op_le fun _ _ _ _ _ => .bl _
theorem go_gt : GO X (compareOp .Gt) oGt := .i0 op_gt fun _ _ _ _ _ => .bl _
theorem go_ge : GO X (compareOp .GtE) oGe := .i0 op_ge fun _ _ _ _ _ => .bl _
end
def Cell.subs : Cell → List Sub
  | .dn kvs => kvs.map (·.2)
  | .zn kvs => kvs.map (·.2)
  | .ln xs => xs
  | _ => []
def Sub.isJ (j : Nat) : Sub → Bool
  | .l i _ => i == j
  | .k i _ => i == j
  | _ => false
def subAt (μ : Mu) (n j : Nat) : Option Sub := match μ[n]? with
  | some c => c.subs.find? (Sub.isJ j)
  | none => none
theorem SubsOk.at {K : PySem.W.Frag} {as : Cs} {H : Hp} {n : Nat} {vs : List V} {us : List Sub} (h : SubsOk K as H n vs us) {u : Sub} (m : u ∈ us) : ∃ v, SubOk K as H n v u := by
  induction h with
  | nil => cases m
  | cons h _ ih =>
    rcases List.mem_cons.mp m with rfl | m
    · exact ⟨_, h⟩
    · exact ih m
theorem subAt_ok {K : PySem.W.Frag} {as : Cs} {μ : Mu} {H : Hp} (S : SimH K as μ H) {n j : Nat} {u : Sub} (e : subAt μ n j = some u) {b : Addr} (hb : as.own[j]? = some (b, n)) : u.isJ j = true ∧ SubOk K as H n (.ref b) u := by
  unfold subAt at e
  split at e
  · rename_i c hc
    obtain ⟨a, ha, ck⟩ := S.get hc
    have hj := List.find?_some e
    refine ⟨hj, ?_⟩
    have hm := List.mem_of_find?_eq_some e
    obtain ⟨v, hv⟩ : ∃ v, SubOk K as H n v u := by
      cases c with
      | dn kvs => obtain ⟨us, _, _, h, _⟩ := ck; exact h.at hm
      | zn kvs => obtain ⟨us, _, _, h, _⟩ := ck; exact h.at hm
      | ln xs => obtain ⟨us, _, h, _⟩ := ck; exact h.at hm
      | _ => cases hm
    cases u with
    | d x => simp [Sub.isJ] at hj
    | l i xs =>
      have hj : i = j := by simpa [Sub.isJ] using hj
      subst hj
      obtain ⟨b', vs, rfl, q, h⟩ := hv
      rw [hb] at q; cases q
      exact ⟨b, vs, rfl, hb, h⟩
    | k i xs =>
      have hj : i = j := by simpa [Sub.isJ] using hj
      subst hj
      obtain ⟨b', vs, rfl, q, h⟩ := hv
      rw [hb] at q; cases q
      exact ⟨b, vs, rfl, hb, h⟩
  · cases e
def lsOf (μ : Mu) : W → Option (List PyData)
  | .p (.list xs) => some xs
  | .r n => match μ[n]? with | some (.lst xs) => some xs | _ => none
  | .q n j => match subAt μ n j with | some (.l _ xs) => some xs | _ => none
  | _ => none
def daOf (μ : Mu) : W → Option PyData
  | .t _ => none
  | .s _ => none
  | .u _ => none
  | .q n j => match subAt μ n j with | some (.l _ xs) => some (.list xs) | _ => none
  | .p d => some d
  | .r n => match μ[n]? with | some (.lst xs) => some (.list xs) | _ => none
section
variable {K : PySem.W.Frag} {as : Cs} {μ : Mu} {H : Hp}
theorem lsOf_sq (S : SimH K as μ H) {w : W} {v : V} {ds : List PyData} (r : Rel K as H w v) (e : lsOf μ w = some ds) : ∃ a vs, v = .ref a ∧ Rd H a (.lst vs) ∧ DzAll K as H vs ds := by
  cases w with
  | p d =>
    cases d with
    | list xs =>
      cases e
      cases r with
      | lst t h => exact ⟨_, _, rfl, t.2, h⟩
    | _ => cases e
  | r n =>
    obtain ⟨a, rfl, ha⟩ := r
    simp only [lsOf] at e
    split at e
    · rename_i c hc
      cases e
      obtain ⟨vs, h1, h2⟩ := S.cell n a _ ha hc
      exact ⟨a, vs, rfl, .inl h1, h2⟩
    · cases e
  | t n => cases e
  | s ds => cases e
  | u ds => cases e
  | q n j =>
    obtain ⟨b, rfl, hb⟩ := r
    simp only [lsOf] at e
    split at e
    · rename_i i xs hu
      cases e
      obtain ⟨_, b', vs, eb, _, h1, h2⟩ := subAt_ok S hu hb
      cases eb
      exact ⟨b, vs, rfl, .inl h1, h2⟩
    · cases e
def rlOf (μ : Mu) : W → Option (List PyData)
  | .s xs => some xs
  | w => lsOf μ w
theorem rlOf_sq (S : SimH K as μ H) {w : W} {v : V} {ds : List PyData} (r : Rel K as H w v) (e : rlOf μ w = some ds) : ∃ a vs, v = .ref a ∧ SqL K H a vs ∧ DzAll K as H vs ds := by
  cases w with
  | s xs => cases e; obtain ⟨a, vs, e, h1, h2⟩ := r; exact ⟨a, vs, e, h1.sq, h2⟩
  | p d => obtain ⟨a, vs, e, h1, h2⟩ := lsOf_sq S r (show lsOf μ (.p d) = some ds from e); exact ⟨a, vs, e, .inl h1, h2⟩
  | r n => obtain ⟨a, vs, e, h1, h2⟩ := lsOf_sq S r (show lsOf μ (.r n) = some ds from e); exact ⟨a, vs, e, .inl h1, h2⟩
  | t n => cases e
  | u n => cases e
  | q n j => obtain ⟨a, vs, e, h1, h2⟩ := lsOf_sq S r (show lsOf μ (.q n j) = some ds from e); exact ⟨a, vs, e, .inl h1, h2⟩
theorem daOf_dp (S : SimH K as μ H) {w : W} {v : V} {d : PyData} (r : Rel K as H w v) (e : daOf μ w = some d) : Dp K H v d := by
  cases w with
  | p d => cases e; exact Dz.dp r
  | r n =>
    obtain ⟨a, rfl, ha⟩ := r
    simp only [daOf] at e
    split at e
    · rename_i c hc
      cases e
      obtain ⟨vs, h1, h2⟩ := S.cell n a _ ha hc
      exact .lst (.of h1) h2.dp
    · cases e
  | t n => cases e
  | s ds => cases e
  | u ds => cases e
  | q n j =>
    obtain ⟨b, rfl, hb⟩ := r
    simp only [daOf] at e
    split at e
    · rename_i i xs hu
      cases e
      obtain ⟨_, b', vs, eb, _, h1, h2⟩ := subAt_ok S hu hb
      cases eb
      exact .lst (.of h1) h2.dp
    · cases e
end
def oEq : O2 := fun x y μ Q => match daOf μ x, daOf μ y with
  | some d, some e => SeqAt.shaped d = true ∧ SeqAt.shaped e = true ∧ Q (.p (.bool (PyData.eqv d e))) μ
  | _, _ => False
def oNe : O2 := fun x y μ Q => match daOf μ x, daOf μ y with
  | some d, some e => SeqAt.shaped d = true ∧ SeqAt.shaped e = true ∧ Q (.p (.bool (!PyData.eqv d e))) μ
  | _, _ => False
section
variable {X : Cx}
theorem go_eq (hu : X.A.units + 64 < cLine) : GO X (compareOp .Eq) oEq := ⟨OpR_imp (op_eqD hu) fun x y H Q ⟨as, μ, w1, w2, Q0, S, r1, r2, q, A⟩ => by
  unfold oEq at q
  split at q
  · rename_i d e h1 h2
    exact ⟨d, e, daOf_dp S r1 h1, daOf_dp S r2 h2, q.1, q.2.1, A.now S q.2.2 (Dz.bl _)⟩
  · exact q.elim⟩
theorem go_ne (hu : X.A.units + 64 < cLine) : GO X (compareOp .NotEq) oNe := ⟨OpR_imp (op_neD hu) fun x y H Q ⟨as, μ, w1, w2, Q0, S, r1, r2, q, A⟩ => by
  unfold oNe at q
  split at q
  · rename_i d e h1 h2
    exact ⟨d, e, daOf_dp S r1 h1, daOf_dp S r2 h2, q.1, q.2.1, A.now S q.2.2 (Dz.bl _)⟩
  · exact q.elim⟩
def isNo : W → Bool
  | .p .none => true
  | _ => false
theorem isN_iff {K : PySem.W.Frag} {as : Cs} {H : Hp} {w : W} {v : V} (r : Rel K as H w v) : decide (v = .non) = isNo w := by
  cases w with
  | p d => cases r <;> simp [isNo]
  | r n => obtain ⟨a, rfl, _⟩ := r; simp [isNo]
  | t n => have e : v = .ty n := r; subst e; simp [isNo]
  | s ds => obtain ⟨a, vs, rfl, _⟩ := r; simp [isNo]
  | u ds => obtain ⟨a, vs, rfl, _⟩ := r; simp [isNo]
  | q n j => obtain ⟨a, rfl, _⟩ := r; simp [isNo]
end
end L2.Ev
namespace L2.Ev
open PySem PySem.Spec PyProof.Rows
theorem op_catT2 {X : Cx} : OpR X (binaryOp .Add) (fun x y H Q => ∃ a b xs ys, x = .ref a ∧ y = .ref b ∧ SqT X.K H a xs ∧ SqT X.K H b ys ∧ xs.length + ys.length ≤ sizeLine ∧
    (xs = [] → Q (.ref b) H) ∧ (xs ≠ [] → ys = [] → Q (.ref a) H) ∧ (xs ≠ [] → ys ≠ [] → ∀ p, H p = none → Q (.ref p) (upd H p (.tup (xs ++ ys))))) := by
  intro pins s σ H x y v u Q I rx ry h
  obtain ⟨a, b, xs, ys, rfl, rfl, ha, hb, hz, q0, q1, q2⟩ := h
  cases rx
  cases ry
  obtain ⟨its, r1, p1, _⟩ := I.tuple ha
  obtain ⟨its2, r2, p2, _⟩ := I.tuple hb
  obtain ⟨⟨cls, dd, data, sl⟩, ho, hc, n, hd⟩ := id p1
  obtain ⟨⟨cls2, dd2, data2, sl2⟩, ho2, hc2, n2, hd2⟩ := id p2
  simp only at hc hd hc2 hd2
  subst hc hd hc2 hd2
  by_cases hv : its = []
  · exact concat_meets ⟨_, ho, rfl⟩ ⟨_, ho2, rfl⟩ noFill_tuple_add seq_tuple_add PySem.F.slot_tuple_add PySem.F.entry_tuple_add (PySem.F.args_tuple_add_2 _ _)
      (tuple_addW0 a b its.toArray its2.toArray n n2 dd dd2 sl sl2 (by simp [hv])) ⟨ho, ho2, ⟨.ref b, H, I, rfl, q0 (r1.nil_iff.mp hv)⟩⟩
  · refine HT.cat_tup p1 p2 hv (fun z => ⟨.ref a, H, I, rfl, q1 (fun w => hv (r1.nil_iff.mpr w)) (r2.nil_iff.mp z)⟩) (fun z => ?_) (by rw [← r1.length, ← r2.length]; exact hz)
    refine ⟨.ref s.heap.objs.size, _, I.laid (t' := s.toks) (o := .tup (xs ++ ys)) (fun b ob q => Heap.get?_push_of_some _ q) (Nat.le_refl _) ?_, rfl, q2 (fun w => hv (r1.nil_iff.mpr w)) (fun w => z (r2.nil_iff.mpr w)) _ (I.hok.fresh (Nat.le_refl _))⟩
    exact ⟨by rw [List.length_append]; exact hz, _, r1.append r2, IsTup.new _ _⟩
theorem op_catL {X : Cx} : OpR X (binaryOp .Add) (fun x y H Q => ∃ l b xs zs, x = .ref l ∧ y = .ref b ∧ Rd H l (.lst xs) ∧ Rd H b (.lst zs) ∧ xs.length + zs.length ≤ sizeLine ∧ ∀ p, H p = none → Q (.ref p) (upd H p (.lst (xs ++ zs)))) := by
  intro pins s σ H x y v u Q I rx ry h
  obtain ⟨l, b, xs, zs, rfl, rfl, hH, hB, hz, q⟩ := h
  cases rx
  cases ry
  obtain ⟨z, its, n, r, e⟩ := hH.ok I.hok
  obtain ⟨z2, its2, n2, r2, e2⟩ := hB.ok I.hok
  have hl := r.length
  have hl2 := r2.length
  refine PySem.P.add_list e e2 ?_ (by rw [List.size_toArray, List.size_toArray]; omega)
  have ea : its.toArray ++ its2.toArray = (its ++ its2).toArray := by simp
  rw [ea]
  exact ⟨.ref _, _, I.lnew (t' := s.toks) (r.append r2) (by rw [List.length_append]; omega), rfl, q _ I.fresh⟩
def oAdd : O2 := fun x y μ Q => match x, y with
  | .p (.int i), .p (.int j) => Q (.p (.int (i + j))) μ
  | .p (.str a), .p (.str b) => a.length + b.length ≤ sizeLine ∧ Q (.p (.str (a ++ b))) μ
  | .p (.tuple a), .p (.tuple b) => a.length + b.length ≤ sizeLine ∧ Q (.p (.tuple (a ++ b))) μ
  | x, y => match lsOf μ x, lsOf μ y with
    | some a, some b => a.length + b.length ≤ sizeLine ∧ Q (.p (.list (a ++ b))) μ
    | _, _ => False
theorem go_add {X : Cx} : GO X (binaryOp .Add) oAdd := ⟨OpR_imp (op_add.or (op_add_str.or (op_catT2.or op_catL))) fun x y H Q ⟨as, μ, w1, w2, Q0, S, r1, r2, q, A⟩ => by
  unfold oAdd at q
  split at q
  · cases r1; cases r2
    exact .inl ⟨_, _, rfl, rfl, A.now S q (Dz.int _)⟩
  · cases r1; cases r2
    exact .inr (.inl ⟨_, _, rfl, rfl, q.1, A.now S q.2 (Dz.str _)⟩)
  · cases r1 with
    | tup t1 d1 =>
      cases r2 with
      | tup t2 d2 =>
        refine .inr (.inr (.inl ⟨_, _, _, _, rfl, rfl, t1.sq, t2.sq, by rw [d1.length, d2.length]; exact q.1, fun e => ?_, fun _ e => ?_, fun _ _ => A.tup S (d1.append d2) q.2⟩))
        · subst e
          cases d1
          exact A.now S q.2 (Dz.tup t2 d2)
        · subst e
          cases d2
          exact A.now S q.2 (by rw [List.append_nil]; exact Dz.tup t1 d1)
  · split at q
    · rename_i a b h1 h2
      obtain ⟨l1, v1, rfl, s1, d1⟩ := lsOf_sq S r1 h1
      obtain ⟨l2, v2, rfl, s2, d2⟩ := lsOf_sq S r2 h2
      exact .inr (.inr (.inr ⟨_, _, _, _, rfl, rfl, s1, s2, by rw [d1.length, d2.length]; exact q.1, A.lst S (d1.append d2) q.2⟩))
    · exact q.elim⟩
def oIx : O2 := fun x y μ Q => match x, y with
  | .p (.tuple xs), .p (.int i) => match atI xs i with | some d => Q (.p d) μ | none => False
  | .p (.str z), .p (.int i) => z.length ≤ sizeLine ∧ match atI z.cps.toList i with | some c => Q (.p (.str ⟨#[c]⟩)) μ | none => False
  | x, .p (.int i) => match rlOf μ x with
    | some xs => match atI xs i with | some d => Q (.p d) μ | none => False
    | none => False
  | _, _ => False
theorem atI_dz {K : PySem.W.Frag} {as : Cs} {H : Hp} {vs : List V} {ds : List PyData} (h : DzAll K as H vs ds) {i : Int} {d : PyData} (e : atI ds i = some d) : ∃ v, atI vs i = some v ∧ Dz K as H v d := by
  unfold atI at e ⊢
  rw [h.length]
  cases q : ixN ds.length i with
  | none => rw [q] at e; cases e
  | some j => rw [q] at e; exact h.get e
structure GI (X : Cx) (o : O2) : Prop where go : IxR X (rdO X.K o)
theorem gi_ix {X : Cx} : GI X oIx := ⟨by
  have base := ix_seq (X := X)
  intro value slice pins s σ H x y v u Q I rx ry h hs
  refine base value slice pins s σ H x y v u Q I rx ry ?_ hs
  obtain ⟨as, μ, w1, w2, Q0, S, r1, r2, q, A⟩ := h
  unfold oIx at q
  split at q
  · split at q
    · rename_i xs i _ d e
      cases r2
      cases r1 with
      | tup t1 d1 =>
        obtain ⟨v', h1, h2⟩ := atI_dz d1 e
        exact .inr (.inl ⟨_, _, _, v', rfl, rfl, t1.sq, h1, A.now S q h2⟩)
    · exact q.elim
  · obtain ⟨q1, q⟩ := q
    split at q
    · rename_i z i _ c e
      cases r2
      cases r1
      exact .inr (.inr ⟨_, _, _, rfl, rfl, q1, e, A.now S q (Dz.str _)⟩)
    · exact q.elim
  · split at q
    · rename_i xs e
      split at q
      · rename_i d e2
        cases r2
        obtain ⟨l1, v1, rfl, s1, d1⟩ := rlOf_sq S r1 e
        obtain ⟨v', h1, h2⟩ := atI_dz d1 e2
        exact .inl ⟨_, _, _, v', rfl, rfl, s1, h1, A.now S q h2⟩
      · exact q.elim
    · exact q.elim
  · exact q.elim⟩
section
variable {X : Cx} {pos p2 : Pos} {a b : Expr} {fa fb : SE} {o : O2}
theorem ge_ix (ho : GI X o) (ha : GE X a fa) (hb : GE X b fb) (hs : PlainIx b) : GE X (.Subscript a b pos) (wOp o fa fb) := ⟨PE_imp (pe_ix ho.go ha.go hb.go hs) fun _ _ _ h => rdE_op h⟩
end
def cut {α : Type} (xs : List α) (lo hi : Option Int) : List α := (xs.drop (HT.sIx xs.length 0 lo)).take (HT.sIx xs.length xs.length hi - HT.sIx xs.length 0 lo)
theorem cut_whole {α : Type} (xs : List α) {lo hi : Option Int} (h1 : HT.sIx xs.length 0 lo = 0) (h2 : HT.sIx xs.length xs.length hi = xs.length) : cut xs lo hi = xs := by
  unfold cut
  rw [h1, h2]
  simp
theorem cut_dz {K : PySem.W.Frag} {as : Cs} {H : Hp} {vs : List V} {ds : List PyData} (h : DzAll K as H vs ds) (lo hi : Option Int) : DzAll K as H (cutV vs lo hi) (cut ds lo hi) := by
  unfold cut cutV
  rw [h.length]
  exact (h.drop _).take _
theorem getItem_tuple_all {prog : Program} {w : World} {A : Around} {E : Value → Shared → Prop} {s : Shared} {t sl : Addr} {items : Array Value} {vl vu : Value} {lo hi : Option Int} {Q : Value → Shared → Prop} (ht : IsTup s.heap t items) (hs : s.heap.IsSliceOf sl vl vu .none) (pl : IsPart vl lo) (pu : IsPart vu hi)
    (hw : HT.sIx items.size 0 lo = 0 ∧ HT.sIx items.size items.size hi = items.size)
    (h : Q (.ref t) s) : wpAny (model prog w) A (getItem (.ref t) (.ref sl)) Q E s := by
  obtain ⟨os, hos, hcs, hds⟩ := id hs
  have hTs : s.TypeIs (.ref sl) "slice" := ⟨os, hos, hcs⟩
  unfold getItem
  try with_reducible refine wpAny_holding ?_
  first | refine wpAny_bind (wpAny_pure ?_) | skip
  refine wpAny_bind (wpAny_sequenceKey ht.typeIs (by decide) ?_)
  refine wpAny_bind (wpAny_callSpecial?_slot (name := Str.ofString "__getitem__") ht.typeIs PyProof.Rows.slot_tuple_getitem
    (wpAny_call_entry PyProof.Rows.slot_tuple_getitem ht.typeIs entry_tuple_getitem ?_ (args_tuple_getitem _ _)))
  show wpAny _ _ (Builtin.Tuple.tupleItemsOf (.ref t) >>= _) _ _ s
  refine wpAny_bind (tupleItemsOf_ ht ?_)
  refine wpAny_bind (wpAny_typeOf hTs ?_)
  rw [if_pos (by decide)]
  refine wpAny_bind (HT.sliceApplied_gen hs pl pu ?_)
  show wpAny _ _ (if (((HT.sIx items.size 0 lo : Nat) : Int) == 0 && (1 : Int) == 1 && (HT.sIx items.size items.size hi - HT.sIx items.size 0 lo) == items.size) = true then _ else _) _ _ s
  rw [if_pos (by rw [hw.1, hw.2]; simp)]
  refine wpAny_bind (m := Builtin.Tuple.tupleIsExact (.ref t)) (wpAny_bind (m := typeOf (.ref t)) (wpAny_typeOf ht.typeIs (wpAny_pure ?_)))
  rw [if_pos (by decide)]
  exact wpAny_bind (wpAny_rule (wpAny_pure ⟨_, rfl, wpAny_pure h⟩))
theorem sl_tupA {X : Cx} : SlR X (fun x lo hi H Q => ∃ a xs, x = .ref a ∧ SqT X.K H a xs ∧ (HT.sIx xs.length 0 lo = 0 ∧ HT.sIx xs.length xs.length hi = xs.length) ∧ Q (.ref a) H) := by
  intro pins s σ H x v vl vu lo hi sl Q I rx hs pl pu h
  obtain ⟨a, xs, rfl, hx, hw, q⟩ := h
  cases rx
  obtain ⟨its, r, ht, hz⟩ := I.tuple hx
  have hlen : its.toArray.size = xs.length := by rw [List.size_toArray]; exact r.length.symm
  refine ⟨"tuple", _, PyProof.Rows.slot_tuple_getitem.lookup, ht.typeIs, ?_⟩
  exact getItem_tuple_all ht hs pl pu (by rw [hlen]; exact hw) ⟨.ref a, H, I, rfl, q⟩
abbrev O3 := W → Option Int → Option Int → Mu → WK → Prop
def oSl : O3 := fun x lo hi μ Q => match x with
  | .p (.tuple xs) => Q (.p (.tuple (cut xs lo hi))) μ
  | .p (.str z) => z.length ≤ sizeLine ∧ Q (.p (.str (cutS z lo hi))) μ
  | x => match rlOf μ x with
    | some xs => Q (.p (.list (cut xs lo hi))) μ
    | none => False
def rdSl (K : PySem.W.Frag) (o : O3) : V → Option Int → Option Int → Hp → VK → Prop := fun x lo hi H Q => ∃ as μ w Q0, SimH K as μ H ∧ Rel K as H w x ∧ o w lo hi μ Q0 ∧ Aft K as H Q0 Q
structure GL (X : Cx) (o : O3) : Prop where go : SlR X (rdSl X.K o)
theorem gl_sl {X : Cx} : GL X oSl := ⟨by
  have base := ((sl_tup (X := X)).or sl_tupA).or (sl_list.or sl_str)
  intro pins s σ H x v vl vu lo hi sl Q I rx hs pl pu h
  refine base pins s σ H x v vl vu lo hi sl Q I rx hs pl pu ?_
  obtain ⟨as, μ, w, Q0, S, r1, q, A⟩ := h
  unfold oSl at q
  split at q
  · rename_i xs
    cases r1 with
    | tup t1 d1 =>
      refine .inl ?_
      rename_i a vs
      by_cases hw : HT.sIx vs.length 0 lo = 0 ∧ HT.sIx vs.length vs.length hi = vs.length
      · refine .inr ⟨_, _, rfl, t1.sq, hw, A.now S q ?_⟩
        rw [cut_whole xs (by rw [← d1.length]; exact hw.1) (by rw [← d1.length]; exact hw.2)]
        exact Dz.tup t1 d1
      · exact .inl ⟨_, _, rfl, t1.sq, hw, A.tup S (cut_dz d1 lo hi) q⟩
  · cases r1
    exact .inr (.inr ⟨_, rfl, q.1, A.now S q.2 (Dz.str _)⟩)
  · split at q
    · rename_i xs e
      obtain ⟨l1, v1, rfl, s1, d1⟩ := rlOf_sq S r1 e
      exact .inr (.inl ⟨_, _, rfl, s1, A.lst S (cut_dz d1 lo hi) q⟩)
    · exact q.elim⟩
abbrev SO := Rho → Mu → (Option Int → Mu → Prop) → Prop
def rdP (K : PySem.W.Frag) (f : SO) : TO := fun σ H Q => ∃ as ρ μ Q0, SimH K as μ H ∧ EnvOk K as H ρ σ ∧ f ρ μ Q0 ∧ ∀ o μ' as' H', Q0 o μ' → Stp as H as' H' → SimH K as' μ' H' → Q o H'
structure GP (X : Cx) (e : Option Expr) (f : SO) : Prop where go : PO X e (rdP X.K f)
def wNoP : SO := fun _ μ Q => Q none μ
def wP (f : SE) : SO := fun ρ μ Q => f ρ μ fun x μ1 => match x with | .p (.int i) => Q (some i) μ1 | _ => False
def wSl (o : O3) (fe : SE) (fl fh : SO) : SE := fun ρ μ Q => fe ρ μ fun x μ1 => fl ρ μ1 fun lo μ2 => fh ρ μ2 fun hi μ3 => o x lo hi μ3 Q
section
variable {X : Cx} {pos p2 : Pos} {e : Expr} {lo hi : Option Expr} {f : SE} {fl fh : SO} {o : O3}
theorem gp_none : GP X none wNoP := ⟨fun pins s σ H Q I ⟨as, ρ, μ, Q0, S, E, h, A⟩ => po_none pins s σ H Q I (A _ _ _ _ h (Stp.refl _ _) S)⟩
theorem gp_some (he : GE X e f) : GP X (some e) (wP f) := ⟨fun pins s σ H Q I ⟨as, ρ, μ, Q0, S, E, h, A⟩ => po_some he.go pins s σ H Q I ⟨as, ρ, μ, _, S, E, h, fun w μ1 as1 v H1 q s1 S1 r => by
  split at q
  · cases r
    exact ⟨_, rfl, A _ _ _ _ q s1 S1⟩
  · exact q.elim⟩⟩
theorem ge_sl (ho : GL X o) (he : GE X e f) (hl : GP X lo fl) (hu : GP X hi fh) : GE X (.Subscript e (.Slice lo hi none p2) pos) (wSl o f fl fh) := ⟨PE_imp (pe_slice ho.go he.go hl.go hu.go) fun σ H Q ⟨as, ρ, μ, Q0, S, E, h, A⟩ =>
  ⟨as, ρ, μ, _, S, E, h, fun w μ1 as1 v H1 q1 s1 S1 r1 => ⟨as1, ρ, μ1, _, S1, E.mono s1, q1, fun l μ2 as2 H2 q2 s2 S2 => ⟨as2, ρ, μ2, _, S2, (E.mono s1).mono s2, q2, fun u μ3 as3 H3 q3 s3 S3 =>
    ⟨as3, μ3, w, Q0, S3, r1.mono (s2.trans s3), q3, (A.mono s1).mono (s2.trans s3)⟩⟩⟩⟩⟩
end
def aNil : SA := fun _ μ Q => Q [] μ
def aCons (f : SE) (g : SA) : SA := fun ρ μ Q => f ρ μ fun x μ1 => g ρ μ1 fun xs μ2 => Q (x :: xs) μ2
def pdOf : List W → Option (List PyData)
  | [] => some []
  | .p d :: r => (pdOf r).map (d :: ·)
  | _ :: _ => none
theorem pdOf_dz {K : PySem.W.Frag} {as : Cs} {H : Hp} : ∀ {ws : List W} {vs : List V} {ds : List PyData}, Rels K as H ws vs → pdOf ws = some ds → DzAll K as H vs ds
  | [], _, _, .nil, e => by cases e; exact .nil
  | .p d :: r, _, _, .cons h t, e => by
    simp only [pdOf, Option.map_eq_some_iff] at e
    obtain ⟨ds, e1, rfl⟩ := e
    exact .cons h (pdOf_dz t e1)
  | .r _ :: _, _, _, .cons h t, e => by cases e
  | .t _ :: _, _, _, .cons h t, e => by cases e
  | .s _ :: _, _, _, .cons h t, e => by cases e
  | .q _ _ :: _, _, _, .cons h t, e => by cases e
def wTup (f : SA) : SE := fun ρ μ Q => f ρ μ fun ws μ1 => match pdOf ws with | some ds => ds.length ≤ sizeLine ∧ Q (.p (.tuple ds)) μ1 | none => False
def wLst (f : SA) : SE := fun ρ μ Q => f ρ μ fun ws μ1 => match pdOf ws with | some ds => ds.length ≤ sizeLine ∧ Q (.p (.list ds)) μ1 | none => False
def wNew (f : SA) : SE := fun ρ μ Q => f ρ μ fun ws μ1 => match pdOf ws with | some ds => ds.length ≤ sizeLine ∧ Q (.r μ1.length) (μ1 ++ [.lst ds]) | none => False
section
variable {X : Cx} {pos : Pos} {e : Expr} {es : List Expr} {f : SE} {g : SA}
theorem ga_nil : GA X [] aNil := ⟨PA_imp pa_nil fun σ H Q ⟨as, ρ, μ, Q0, S, E, h, A⟩ => A _ _ _ _ _ h (Stp.refl _ _) S .nil⟩
theorem ga_cons (ha : GE X e f) (hr : GA X es g) (hs : starEach (e :: es) X.env = (false, eval e X.env) :: starEach es X.env := by rfl) : GA X (e :: es) (aCons f g) := ⟨PA_imp (pa_cons ha.go hr.go hs) fun σ H Q ⟨as, ρ, μ, Q0, S, E, h, A⟩ =>
  ⟨as, ρ, μ, _, S, E, h, fun w μ1 as1 v H1 q1 s1 S1 r1 => ⟨as1, ρ, μ1, _, S1, E.mono s1, q1, fun ws μ2 as2 vs H2 q2 s2 S2 r2 => A _ _ _ _ _ q2 (s1.trans s2) S2 (.cons (r1.mono s2) r2)⟩⟩⟩
theorem ge_tup {x1} (h : GA X es g) : GE X (.Tuple es x1 pos) (wTup g) := ⟨PE_imp (pe_tup h.go) fun σ H Q ⟨as, ρ, μ, Q0, S, E, h, A⟩ =>
  ⟨as, ρ, μ, _, S, E, h, fun ws μ1 as1 vs H1 q1 s1 S1 r1 => by
    split at q1
    · rename_i ds e
      have d := pdOf_dz r1 e
      exact ⟨by rw [d.length]; exact q1.1, (A.mono s1).tup S1 d q1.2⟩
    · exact q1.elim⟩⟩
theorem ge_lst (h : GA X es g) : GE X (.List es pos) (wLst g) := ⟨PE_imp (pe_lst h.go) fun σ H Q ⟨as, ρ, μ, Q0, S, E, h, A⟩ =>
  ⟨as, ρ, μ, _, S, E, h, fun ws μ1 as1 vs H1 q1 s1 S1 r1 => by
    split at q1
    · rename_i ds e
      have d := pdOf_dz r1 e
      exact ⟨by rw [d.length]; exact q1.1, (A.mono s1).lst S1 d q1.2⟩
    · exact q1.elim⟩⟩
theorem ge_new (h : GA X es g) : GE X (.List es pos) (wNew g) := ⟨PE_imp (pe_lst h.go) fun σ H Q ⟨as, ρ, μ, Q0, S, E, h, A⟩ =>
  ⟨as, ρ, μ, _, S, E, h, fun ws μ1 as1 vs H1 q1 s1 S1 r1 => by
    split at q1
    · rename_i ds e
      have d := pdOf_dz r1 e
      exact ⟨by rw [d.length]; exact q1.1, (A.mono s1).new S1 d q1.2⟩
    · exact q1.elim⟩⟩
end
abbrev SpW := List W → Mu → WK → Prop
def rdSp (K : PySem.W.Frag) (sp : SpW) : Sp := fun vs H Q _ => ∃ as μ ws Q0, SimH K as μ H ∧ Rels K as H ws vs ∧ sp ws μ Q0 ∧ Aft K as H Q0 Q
def rdC (K : PySem.W.Frag) (sp : SpW) : List V → Hp → VK → Prop := fun vs H Q => ∃ as μ ws Q0, SimH K as μ H ∧ Rels K as H ws vs ∧ sp ws μ Q0 ∧ Aft K as H Q0 Q
def wCall (sp : SpW) (g : SA) : SE := fun ρ μ Q => g ρ μ fun ws μ1 => sp ws μ1 Q
structure GC (X : Cx) (f : Value) (sp : SpW) : Prop where go : CallR X f (rdC X.K sp)
theorem CallR_imp {X : Cx} {f : Value} {r r' : List V → Hp → VK → Prop} (h : CallR X f r) (k : ∀ vs H Q, r' vs H Q → r vs H Q) : CallR X f r' := fun pins s σ H xs us Q I rx q => h pins s σ H xs us Q I rx (k xs H Q q)
section
variable {X : Cx} {CX : CXT} {k : Nat} {f : Addr} {fd : FuncData} {ps : List Str} {sp : SpW} {x : Str} {p pos : Pos} {e : Expr} {es : List Expr} {g : SA} {E : XK} {id T : String}
theorem ge_call (F : FnOk X.prog X.w X.K X.mg X.base CX k f fd ps (rdSp X.K sp)) (hr : Room k X.A) (hg : Gl X x) (hm : X.mg x = some (.ref f)) (hk : PySem.W.keepIn X.K (.ref f) = true) (hb : Binds X.K fd ps []) (hx : Passes CX X E)
    (ha : GA X (e :: es) g) (hdb : (x == ("__debug__" : Str)) = false := by decide) (he : starEach (e :: es) X.env = (false, eval e X.env) :: starEach es X.env := by rfl) (hpl : (backTo pos (starEach es X.env)).any (·.1) = false := by rfl) :
    GE X (.Call (.Name x p) (e :: es) [] pos) (wCall sp g) := ⟨PE_imp (pe_call F hr hg hm hk hb .nil hx ha.go hdb he hpl) fun σ H Q ⟨as, ρ, μ, Q0, S, En, h, A⟩ =>
  ⟨as, ρ, μ, _, S, En, h, fun ws μ1 as1 vs H1 q1 s1 S1 r1 => ⟨as1, μ1, ws, Q0, S1, by rw [List.append_nil]; exact r1, q1, A.mono s1⟩⟩⟩
theorem ge_callB (hc : GC X (.builtin id) sp) (hg : Gl X x) (hm : X.mg x = none) (hv : bootBuiltins x = some (.builtin id)) (ha : GA X (e :: es) g) (hn : x ≠ "__name__" := by decide) (hdb : (x == ("__debug__" : Str)) = false := by decide)
    (he : starEach (e :: es) X.env = (false, eval e X.env) :: starEach es X.env := by rfl) (hpl : (backTo pos (starEach es X.env)).any (·.1) = false := by rfl) : GE X (.Call (.Name x p) (e :: es) [] pos) (wCall sp g) := ⟨PE_imp (pe_callB hc.go hg hm hv ha.go hn hdb he hpl) fun σ H Q ⟨as, ρ, μ, Q0, S, En, h, A⟩ =>
  ⟨as, ρ, μ, _, S, En, h, fun ws μ1 as1 vs H1 q1 s1 S1 r1 => ⟨as1, μ1, ws, Q0, S1, r1, q1, A.mono s1⟩⟩⟩
theorem ge_callTy (hc : GC X (.type T) sp) (hg : Gl X x) (hm : X.mg x = none) (hv : bootBuiltins x = some (.type T)) (ha : GA X (e :: es) g) (hn : x ≠ "__name__" := by decide) (hdb : (x == ("__debug__" : Str)) = false := by decide)
    (he : starEach (e :: es) X.env = (false, eval e X.env) :: starEach es X.env := by rfl) (hpl : (backTo pos (starEach es X.env)).any (·.1) = false := by rfl) : GE X (.Call (.Name x p) (e :: es) [] pos) (wCall sp g) := ⟨PE_imp (pe_callTy hc.go hg hm hv ha.go hn hdb he hpl) fun σ H Q ⟨as, ρ, μ, Q0, S, En, h, A⟩ =>
  ⟨as, ρ, μ, _, S, En, h, fun ws μ1 as1 vs H1 q1 s1 S1 r1 => ⟨as1, μ1, ws, Q0, S1, r1, q1, A.mono s1⟩⟩⟩
def wTy (T : String) : SE := fun _ μ Q => Q (.t T) μ
theorem ge_ty (hg : Gl X x) (hm : X.mg x = none) (hv : bootBuiltins x = some (.type T)) (hn : x ≠ "__name__" := by decide) (hdb : (x == ("__debug__" : Str)) = false := by decide) : GE X (.Name x pos) (wTy T) :=
  ⟨PE_imp (pe_bltn (v := .ty T) hg hm hv rfl hn hdb) fun σ H Q ⟨as, ρ, μ, Q0, S, En, h, A⟩ => A.now S h rfl⟩
end
end L2.Ev
namespace L2.Ev
open PySem PySem.Spec PyProof.Rows
def sNext : SS := fun F ρ μ => F.nx ρ μ
def sSeq (t u : SS) : SS := fun F ρ μ => t { F with nx := u F } ρ μ
def sDrop (f : SE) : SS := fun F ρ μ => f ρ μ fun _ μ1 => F.nx ρ μ1
def sRet (f : SE) : SS := fun F ρ μ => f ρ μ F.rt
def sRetN : SS := fun F _ μ => F.rt (.p .none) μ
def sIf (c : ST) (t u : SS) : SS := fun F ρ μ => c ρ μ fun b μ1 => if b = true then t F ρ μ1 else u F ρ μ1
section
variable {X : Cx} {st : Stmt} {rest : List Stmt} {t u : SS} {e : Expr} {f : SE} {pos : Pos}
theorem gb_nil : GB X [] sNext := ⟨PSs_imp pss_nil fun D σ H ⟨as, ρ, μ, F, S, E, h, A⟩ => A.1 _ _ _ _ _ h (Stp.refl _ _) S E⟩
theorem gb_cons (h1 : GS X st t) (h2 : GB X rest u) : GB X (st :: rest) (sSeq t u) := ⟨PSs_imp (pss_cons h1.go h2.go) fun D σ H ⟨as, ρ, μ, F, S, E, h, A⟩ =>
  ⟨as, ρ, μ, _, S, E, h, fun ρ1 μ1 as1 σ1 H1 q1 s1 S1 E1 => ⟨as1, ρ1, μ1, F, S1, E1, q1, A.mono s1⟩, A.2.1, A.2.2.1, A.2.2.2⟩⟩
theorem gb_one (h1 : GS X st t) : GB X [st] t := ⟨pss_one h1.go⟩
theorem gs_expr (he : GE X e f) (hs : swapsWith e none pos.line X.env = pure false := by rfl) : GS X (.Expr e pos) (sDrop f) := ⟨PS_imp (ps_expr he.go hs) fun D σ H ⟨as, ρ, μ, F, S, E, h, A⟩ =>
  ⟨as, ρ, μ, _, S, E, h, fun w μ1 as1 v H1 q1 s1 S1 r1 => A.1 _ _ _ _ _ q1 s1 S1 (E.mono s1)⟩⟩
theorem gs_ret (he : GE X e f) : GS X (.Return (some e) pos) (sRet f) := ⟨PS_imp (ps_ret he.go) fun D σ H ⟨as, ρ, μ, F, S, E, h, A⟩ =>
  ⟨as, ρ, μ, _, S, E, h, fun w μ1 as1 v H1 q1 s1 S1 r1 => A.2.1 _ _ _ _ _ q1 s1 S1 r1⟩⟩
theorem gs_if {c : Expr} {a b : List Stmt} {tc : ST} (hc : GT X c tc) (ha : GB X a t) (hb : GB X b u) : GS X (.If c a b pos) (sIf tc t u) := ⟨PS_imp (ps_if hc.go ha.go hb.go) fun D σ H ⟨as, ρ, μ, F, S, E, h, A⟩ =>
  ⟨as, ρ, μ, _, S, E, h, fun d μ1 as1 H1 q1 s1 S1 => by
    cases d with
    | true => exact ⟨as1, ρ, μ1, F, S1, E.mono s1, q1, A.mono s1⟩
    | false => exact ⟨as1, ρ, μ1, F, S1, E.mono s1, q1, A.mono s1⟩⟩⟩
end
abbrev SG := W → Rho → Mu → (Rho → Mu → Prop) → Prop
abbrev SGs := List PyData → Rho → Mu → (Rho → Mu → Prop) → Prop
def rdG (K : PySem.W.Frag) (g : SG) : TG := fun v σ H Q => ∃ as ρ μ w Q0, SimH K as μ H ∧ EnvOk K as H ρ σ ∧ Rel K as H w v ∧ g w ρ μ Q0 ∧ ∀ ρ' μ' as' σ' H', Q0 ρ' μ' → Stp as H as' H' → SimH K as' μ' H' → EnvOk K as' H' ρ' σ' → Q σ' H'
def rdGs (K : PySem.W.Frag) (g : SGs) : TGs := fun vs σ H Q => ∃ as ρ μ ds Q0, SimH K as μ H ∧ EnvOk K as H ρ σ ∧ DzAll K as H vs ds ∧ g ds ρ μ Q0 ∧ ∀ ρ' μ' as' σ' H', Q0 ρ' μ' → Stp as H as' H' → SimH K as' μ' H' → EnvOk K as' H' ρ' σ' → Q σ' H'
structure GG (X : Cx) (e : Expr) (g : SG) : Prop where go : PG X e (rdG X.K g)
structure GGs (X : Cx) (es : List Expr) (g : SGs) : Prop where go : PGs X es (rdGs X.K g)
theorem PG_imp {X : Cx} {e : Expr} {t t' : TG} (h : PG X e t) (k : ∀ v σ H Q, t' v σ H Q → t v σ H Q) : PG X e t' := fun pins s σ H v u Q I r q => h pins s σ H v u Q I r (k v σ H Q q)
theorem PGs_imp {X : Cx} {e : List Expr} {t t' : TGs} (h : PGs X e t) (k : ∀ v σ H Q, t' v σ H Q → t v σ H Q) : PGs X e t' := fun pins s σ H v u Q I r q => h pins s σ H v u Q I r (k v σ H Q q)
def nName (i : Nat) : SG := fun w ρ μ Q => Q (ρ.set i (some w)) μ
def nNil : SGs := fun ds ρ μ Q => match ds with | [] => Q ρ μ | _ => False
def nCons (g : SG) (h : SGs) : SGs := fun ds ρ μ Q => match ds with | d :: r => g (.p d) ρ μ fun ρ1 μ1 => h r ρ1 μ1 Q | _ => False
def nTup (n : Nat) (h : SGs) : SG := fun w ρ μ Q => match w with | .p (.tuple ds) => ds.length = n ∧ h ds ρ μ Q | _ => False
section
variable {X : Cx} {pos : Pos} {e : Expr} {es : List Expr} {g : SG} {h : SGs} {f : SE}
theorem gg_name {i : Nat} {x : Str} (hp : PG X (.Name x pos) (gName i)) : GG X (.Name x pos) (nName i) := ⟨PG_imp hp fun v σ H Q ⟨as, ρ, μ, w, Q0, S, E, r, q, A⟩ => A _ _ _ _ _ q (Stp.refl _ _) S (E.set r i)⟩
theorem ggs_nil : GGs X [] nNil := ⟨PGs_imp pgs_nil fun v σ H Q ⟨as, ρ, μ, ds, Q0, S, E, r, q, A⟩ => by
  unfold nNil at q
  split at q
  · cases r
    exact ⟨rfl, A _ _ _ _ _ q (Stp.refl _ _) S E⟩
  · exact q.elim⟩
theorem ggs_cons (h1 : GG X e g) (h2 : GGs X es h) (hs : (assignEach (e :: es) X.env).map (·.2) = assign e X.env :: (assignEach es X.env).map (·.2) := by rfl) : GGs X (e :: es) (nCons g h) := ⟨PGs_imp (pgs_cons h1.go h2.go hs) fun v σ H Q ⟨as, ρ, μ, ds, Q0, S, E, r, q, A⟩ => by
  unfold nCons at q
  split at q
  · cases r with
    | cons r1 r2 =>
      exact ⟨_, _, rfl, as, ρ, μ, .p _, _, S, E, r1, q, fun ρ1 μ1 as1 σ1 H1 q1 s1 S1 E1 => ⟨as1, ρ1, μ1, _, Q0, S1, E1, r2.mono s1, q1, fun ρ' μ' as' σ' H' q' s' => A ρ' μ' as' σ' H' q' (s1.trans s')⟩⟩
  · exact q.elim⟩
theorem gg_tup {k : Nat} {n : Nat} (hc : X.calm = true) (hh : GGs X es h) (hn : (assignEach es X.env).length = n := by rfl) (hst : (assignEach es X.env).findIdx? (·.1) = none := by rfl) : GG X (.Tuple es k pos) (nTup n h) := ⟨PG_imp (pg_tup hc hh.go hn hst) fun v σ H Q ⟨as, ρ, μ, w, Q0, S, E, r, q, A⟩ => by
  unfold nTup at q
  split at q
  · cases r with
    | tup t d => exact ⟨_, _, rfl, t.sq, by rw [d.length]; exact q.1, as, ρ, μ, _, Q0, S, E, d, q.2, A⟩
  · exact q.elim⟩
def sAsg (f : SE) (g : SG) : SS := fun F ρ μ => f ρ μ fun x μ1 => g x ρ μ1 F.nx
theorem rdS_asg {K : PySem.W.Frag} {D : Ends} {σ : St} {H : Hp} (h : rdS K (sAsg f g) D σ H) : tAsg (rdE K f) (rdG K g) D σ H := by
  obtain ⟨as, ρ, μ, F, S, E, h, A⟩ := h
  exact ⟨as, ρ, μ, _, S, E, h, fun w μ1 as1 v H1 q1 s1 S1 r1 => ⟨as1, ρ, μ1, w, _, S1, E.mono s1, r1, q1, fun ρ' μ' as' σ' H' q' s' => A.1 ρ' μ' as' σ' H' q' (s1.trans s')⟩⟩
theorem gs_asg {tg : Expr} (he : GE X e f) (hg : GG X tg g) (hs : swapsWithSole [tg] e pos.line X.env = pure false := by rfl) (hw : swappedStores [tg] e X.env = pure none := by rfl)
    (h1 : (assignEach [tg] X.env).map (·.2) = [assign tg X.env] := by rfl) : GS X (.Assign [tg] e pos) (sAsg f g) := ⟨PS_imp (ps_asg he.go hg.go hs hw h1) fun D σ H h => rdS_asg h⟩
def sSet (i : Nat) (f : SE) : SS := fun F ρ μ => f ρ μ fun x μ1 => F.nx (ρ.set i (some x)) μ1
theorem rdS_set {K : PySem.W.Frag} {i : Nat} {D : Ends} {σ : St} {H : Hp} (h : rdS K (sSet i f) D σ H) : tAsg (rdE K f) (gName i) D σ H := by
  obtain ⟨as, ρ, μ, F, S, E, h, A⟩ := h
  exact ⟨as, ρ, μ, _, S, E, h, fun w μ1 as1 v H1 q1 s1 S1 r1 => A.1 _ _ _ _ _ q1 s1 S1 ((E.mono s1).set r1 i)⟩
theorem gs_set {i : Nat} {x : Str} {pos' : Pos} (hN : X.N.Nodup) (hi : X.N[i]? = some x) (hx : Loc X.env.scope x) (he : GE X e f) (hs : swapsWith e (some (.Name x pos')) pos.line X.env = pure false := by rfl) (hf : X.fn x = true ∨ X.env.scope.names.lookup x = some .local := by first | exact .inl rfl | exact .inr rfl | assumption) :
    GS X (.Assign [.Name x pos'] e pos) (sSet i f) := ⟨PS_imp (ps_set hN hi hx he.go hs hf) fun D σ H h => rdS_set h⟩
end
abbrev O3S := W → W → W → Mu → (Mu → Prop) → Prop
def oSet : O3S := fun o i v μ Q => match o, i, v with
  | .r n, .p (.int k), .p d => match μ[n]? with
    | some (.lst xs) => match ixN xs.length k with | some j => Q (μ.set n (.lst (xs.set j d))) | none => False
    | _ => False
  | _, _, _ => False
def nSub (fo fi : SE) : SG := fun w ρ μ Q => fo ρ μ fun o μ1 => fi ρ μ1 fun i μ2 => oSet o i w μ2 fun μ3 => Q ρ μ3
section
variable {X : Cx} {pos : Pos} {o i : Expr} {fo fi : SE}
theorem gg_sub (ho : GE X o fo) (hi : GE X i fi) (ha : ∀ v, assign (.Subscript o i pos) X.env v = (do
      let ov ← holding [v] (eval o X.env)
      let iv ← holding [v, ov] (eval i X.env)
      standAt pos
      holding [v, ov, iv] (setItem ov iv v)
      release [v, ov, iv] []) := by intro _; rfl) : GG X (.Subscript o i pos) (nSub fo fi) := ⟨PG_imp (pg_sub ho.go hi.go set_list ha) fun v σ H Q ⟨as, ρ, μ, w, Q0, S, E, r, q, A⟩ =>
  ⟨as, ρ, μ, _, S, E, q, fun w1 μ1 as1 v1 H1 q1 s1 S1 r1 => ⟨as1, ρ, μ1, _, S1, E.mono s1, q1, fun w2 μ2 as2 v2 H2 q2 s2 S2 r2 => by
    unfold oSet at q2
    split at q2
    · rename_i n k d
      split at q2
      · rename_i xs hc
        split at q2
        · rename_i j hj
          have r1' := r1.mono s2
          obtain ⟨a, rfl, ha⟩ := r1'
          cases r2
          obtain ⟨vs, h1, h2⟩ := S2.cell n a _ ha hc
          have rv : Dz X.K as2 H2 v d := (r.mono s1).mono s2
          have hm := List.mem_of_getElem? ha
          refine ⟨a, vs, k, j, rfl, rfl, h1, by rw [h2.length]; exact hj, A _ _ as2 _ _ q2 (s1.trans (s2.trans (Stp.write hm _))) (S2.write ha _ _ ⟨_, upd_same, (h2.set rv j).mono (Stp.write hm _)⟩) ((E.mono s1).mono (s2.trans (Stp.write hm _)))⟩
        · exact q2.elim
      · exact q2.elim
    · exact q2.elim⟩⟩⟩
end
end L2.Ev
namespace L2.Ev
open PySem PySem.Spec PyProof.Rows
structure Grow (as : Cs) (H : Hp) (as' : Cs) (H' : Hp) : Prop where
  pre : ∃ t, as'.as = as.as ++ t
  keep : ∀ a o, nt o → H a = some o → a ∉ as.ao → a ∉ as'.ao ∧ H' a = some o
  preo : ∃ t, as'.own = as.own ++ t
  frz : ∀ a o u, H a = some (.frz o u) → H' a = some (.frz o u)
  out : ∀ a o, nt o → H a = some o → a ∉ as → a ∉ as'
theorem Stp.grow {as as' : Cs} {H H' : Hp} (s : Stp as H as' H') : Grow as H as' H' := ⟨s.pre, s.keep, s.preo, s.frz, fun a o w h n q => by
  rcases Cs.mem_iff.mp q with z | z
  · exact n (Cs.mem_iff.mpr (.inl (by rw [← s.hid]; exact z)))
  · exact (s.keep a o w h (fun y => n (Cs.mem_iff.mpr (.inr y)))).1 z⟩
theorem Grow.trans {as as' as'' : Cs} {H H' H'' : Hp} (h : Grow as H as' H') (k : Grow as' H' as'' H'') : Grow as H as'' H'' := by
  obtain ⟨t, e⟩ := h.pre
  obtain ⟨u, e'⟩ := k.pre
  obtain ⟨t2, e2⟩ := h.preo
  obtain ⟨u2, e2'⟩ := k.preo
  refine ⟨⟨t ++ u, by rw [e', e, List.append_assoc]⟩, fun a o w q n => ?_, ⟨t2 ++ u2, by rw [e2', e2, List.append_assoc]⟩, fun a o u e => k.frz a o u (h.frz a o u e), fun a o w q n => ?_⟩
  · obtain ⟨n1, q1⟩ := h.keep a o w q n
    exact k.keep a o w q1 n1
  · have n1 := h.out a o w q n
    have q1 := (h.keep a o w q (fun y => n (Cs.mem_iff.mpr (.inr y)))).2
    exact k.out a o w q1 n1
theorem Grow.ownAt {as as' : Cs} {H H' : Hp} (h : Grow as H as' H') {j : Nat} {p : Addr × Nat} (e : as.own[j]? = some p) : as'.own[j]? = some p := by
  obtain ⟨t, e'⟩ := h.preo
  rw [e', List.getElem?_append_left (List.getElem?_eq_some_iff.mp e).1]; exact e
theorem Grow.rd {as as' : Cs} {H H' : Hp} (h : Grow as H as' H') {a : Addr} {u : HO} (w : nt u) (n : a ∉ as) (r : Rd H a u) : a ∉ as' ∧ Rd H' a u := by
  have n1 : a ∉ as.ao := fun y => n (Cs.mem_iff.mpr (.inr y))
  rcases r with r | ⟨o, r⟩
  · exact ⟨h.out _ _ w r n, .inl (h.keep _ _ w r n1).2⟩
  · exact ⟨h.out _ _ nt_frz r n, .inr ⟨o, (h.keep _ _ nt_frz r n1).2⟩⟩
theorem Grow.fz {as as' : Cs} {H H' : Hp} (h : Grow as H as' H') {a : Addr} {u : HO} (n : a ∉ as) (r : Fz H a u) : a ∉ as' ∧ Fz H' a u := by
  obtain ⟨o, r⟩ := r
  exact ⟨h.out _ _ nt_frz r n, ⟨o, (h.keep _ _ nt_frz r (fun y => n (Cs.mem_iff.mpr (.inr y)))).2⟩⟩
theorem TzT.grow {K : PySem.W.Frag} {as as' : Cs} {H H' : Hp} {a : Addr} {xs : List V} (s : Grow as H as' H') (h : TzT K as H a xs) : TzT K as' H' a xs := by
  rcases h with ⟨n, h⟩ | h
  · exact .inl (s.rd nt_tup n h)
  · exact .inr h
theorem SzL.grow {K : PySem.W.Frag} {as as' : Cs} {H H' : Hp} {a : Addr} {xs : List V} (s : Grow as H as' H') (h : SzL K as H a xs) : SzL K as' H' a xs := by
  rcases h with ⟨n, h⟩ | h
  · exact .inl (s.rd nt_lst n h)
  · exact .inr h
mutual
theorem Dz.grow {K : PySem.W.Frag} {as as' : Cs} {H H' : Hp} (s : Grow as H as' H') : ∀ {v : V} {d : PyData}, Dz K as H v d → Dz K as' H' v d
  | _, _, .non => .non
  | _, _, .bl b => .bl b
  | _, _, .int i => .int i
  | _, _, .str x => .str x
  | _, _, .lst t a => .lst (s.rd nt_lst t.1 t.2) (DzAll.grow s a)
  | _, _, .tup t a => .tup (t.grow s) (DzAll.grow s a)
  | _, _, .dct n r k a => .dct (s.fz n r).1 (s.fz n r).2 k (DzAll.grow s a)
theorem DzAll.grow {K : PySem.W.Frag} {as as' : Cs} {H H' : Hp} (s : Grow as H as' H') : ∀ {vs : List V} {ds : List PyData}, DzAll K as H vs ds → DzAll K as' H' vs ds
  | _, _, .nil => .nil
  | _, _, .cons h t => .cons (Dz.grow s h) (DzAll.grow s t)
end
theorem Rel.grow {K : PySem.W.Frag} {as as' : Cs} {H H' : Hp} (s : Grow as H as' H') {w : W} {v : V} (h : Rel K as H w v) : Rel K as' H' w v := by
  cases w with
  | p d => exact Dz.grow s h
  | r n =>
    obtain ⟨a, e, q⟩ := h
    obtain ⟨t, e'⟩ := s.pre
    refine ⟨a, e, ?_⟩
    rw [e', List.getElem?_append_left (List.getElem?_eq_some_iff.mp q).1]
    exact q
  | t n => exact h
  | s ds => obtain ⟨a, vs, e, h1, h2⟩ := h; exact ⟨a, vs, e, h1.grow s, h2.grow s⟩
  | u ns =>
    obtain ⟨a, vs, e, h1, h2, h3⟩ := h
    refine ⟨a, vs, e, (s.rd nt_tup h1 h2).1, (s.rd nt_tup h1 h2).2, ?_⟩
    obtain ⟨t, e'⟩ := s.pre
    clear h1 h2 e
    induction h3 with
    | nil => exact .nil
    | cons e0 _ ih => exact .cons (by rw [e', List.getElem?_append_left (List.getElem?_eq_some_iff.mp e0).1]; exact e0) ih
  | q n j => obtain ⟨b, e, q⟩ := h; exact ⟨b, e, s.ownAt q⟩
theorem SubOk.grow {K : PySem.W.Frag} {as as' : Cs} {H H' : Hp} {n : Nat} {v : V} (s : Grow as H as' H') (eo : ∀ (j : Nat) (b : Addr), as.own[j]? = some (b, n) → H' b = H b) {u : Sub} (h : SubOk K as H n v u) : SubOk K as' H' n v u := by
  cases u with
  | d x => exact Dz.grow s h
  | l j xs => obtain ⟨b, vs, e, q, h1, h2⟩ := h; exact ⟨b, vs, e, s.ownAt q, (eo _ _ q).trans h1, h2.grow s⟩
  | k j xs => obtain ⟨b, vs, e, q, h1, h3, h2⟩ := h; exact ⟨b, vs, e, s.ownAt q, (eo _ _ q).trans h1, h3, h2.grow s⟩
theorem SubsOk.grow {K : PySem.W.Frag} {as as' : Cs} {H H' : Hp} {n : Nat} (s : Grow as H as' H') (eo : ∀ (j : Nat) (b : Addr), as.own[j]? = some (b, n) → H' b = H b) {vs : List V} {us : List Sub} (h : SubsOk K as H n vs us) : SubsOk K as' H' n vs us := by
  induction h with
  | nil => exact .nil
  | cons h _ ih => exact .cons (h.grow s eo) ih
theorem EnvOk.grow {K : PySem.W.Frag} {as as' : Cs} {H H' : Hp} {ρ : Rho} {σ : St} (s : Grow as H as' H') (h : EnvOk K as H ρ σ) : EnvOk K as' H' ρ σ :=
  ⟨h.1, fun i w e => let ⟨v, h1, h2⟩ := h.2 i w e; ⟨v, h1, h2.grow s⟩⟩
theorem Cok.grow {K : PySem.W.Frag} {as as' : Cs} {H H' : Hp} {n : Nat} {a : Addr} (s : Grow as H as' H') (e : H' a = H a) (eo : ∀ (j : Nat) (b : Addr), as.own[j]? = some (b, n) → H' b = H b) {c : Cell} (h : Cok K as H n a c) : Cok K as' H' n a c := by
  cases c with
  | lst ds => obtain ⟨vs, h1, h2⟩ := h; exact ⟨vs, e.trans h1, h2.grow s⟩
  | dk ds => obtain ⟨vs, h1, h2, h3⟩ := h; exact ⟨vs, e.trans h1, h2, h3.grow s⟩
  | lw ds =>
    obtain ⟨vs, h1, h2, h3⟩ := h
    refine ⟨vs, e.trans h1, ?_, h3⟩
    clear h1 h3
    induction h2 with
    | nil => exact .nil
    | cons r _ ih => exact .cons (r.grow s) ih
  | dn ds => obtain ⟨vs, h1, h2, h3, h4⟩ := h; exact ⟨vs, e.trans h1, h2, h3.grow s eo, h4⟩
  | ln ds => obtain ⟨vs, h1, h2, h3⟩ := h; exact ⟨vs, e.trans h1, h2.grow s eo, h3⟩
  | dt ds => obtain ⟨vs, h1, h2, h3⟩ := h; exact ⟨vs, e.trans h1, h2, h3.grow s⟩
  | zk ds => obtain ⟨vs, ⟨o, h1⟩, h2, h3⟩ := h; exact ⟨vs, ⟨o, e.trans h1⟩, h2, h3.grow s⟩
  | zn ds => obtain ⟨vs, ⟨o, h1⟩, h2, h3, h4⟩ := h; exact ⟨vs, ⟨o, e.trans h1⟩, h2, h3.grow s eo, h4⟩
  | zt ds => obtain ⟨vs, ⟨o, h1⟩, h2, h3⟩ := h; exact ⟨vs, ⟨o, e.trans h1⟩, h2, h3.grow s⟩
structure Walks (K : PySem.W.Frag) (as1 : Cs) (H1 : Hp) (xs : List PyData) (ok : Mu → Prop) (J : It) : Prop where
  go : ∀ i d as μ H, Grow as1 H1 as H → SimH K as μ H → ok μ → xs[i]? = some d → J.go i H
  stop : ∀ i as μ H, Grow as1 H1 as H → SimH K as μ H → ok μ → xs.length ≤ i → J.stop i H
  yld : ∀ i d as μ H v H', Grow as1 H1 as H → SimH K as μ H → ok μ → xs[i]? = some d → J.yld i H v H' → Stp as H as H' ∧ SimH K as μ H' ∧ Dz K as H' v d
abbrev SI := Rho → Mu → (List PyData → (Mu → Prop) → Mu → Prop) → Prop
def rdI (K : PySem.W.Frag) (it : SI) : TI := fun σ H R => ∃ as ρ μ Q0, SimH K as μ H ∧ EnvOk K as H ρ σ ∧ it ρ μ Q0 ∧ ∀ xs ok μ' as' H' J, Q0 xs ok μ' → Stp as H as' H' → SimH K as' μ' H' → Walks K as' H' xs ok J → R J H'
structure GIt (X : Cx) (tg iter : Expr) (it : SI) : Prop where go : PI X tg iter (rdI X.K it)
theorem PI_imp {X : Cx} {tg e : Expr} {t t' : TI} (h : PI X tg e t) (k : ∀ σ H R, t' σ H R → t σ H R) : PI X tg e t' := fun pins s σ H R I q => h pins s σ H R I (k σ H R q)
theorem pi_seq {X : Cx} {tg l : Expr} {tl : TE} (hl : PE X l tl) : PI X tg l (fun σ H R => tl σ H fun x H1 => (∃ a, x = .ref a ∧ (∃ xs, SqL X.K H1 a xs) ∧ R (Itl X.K a) H1) ∨ (∃ a, x = .ref a ∧ (∃ xs, SqT X.K H1 a xs) ∧ R (Itt X.K a) H1) ∨ ∃ z, x = .str z ∧ R (Its z) H1) := by
  intro pins s σ H R I h
  refine thn (hl pins s σ H _ I h) fun v s1 ⟨x, H1, I1, r1, q1⟩ => ?_
  rcases q1 with ⟨a, e, ⟨xs, hq⟩, q⟩ | ⟨a, e, ⟨xs, hq⟩, q⟩ | ⟨x, ex, q⟩
  · subst e
    cases r1
    obtain ⟨its, rv, p, hz⟩ := I1.list hq
    refine wpAny_pyIter_list p.isList ?_
    refine ⟨s1.heap.objs.size, [s1.heap.objs.size], _, _, H1, rfl, I1.kept (t' := s1.toks) fun b o e => Heap.get?_push_of_some _ e, turn_list a _, ⟨_, Heap.get?_push_size _ rfl, rfl, rfl⟩, fun b hb => ?_, q⟩
    have e : b = s1.heap.objs.size := by simpa using hb
    subst e
    exact I1.fpOk (Nat.le_refl _) (I1.hok.fresh (Nat.le_refl _))
  · subst e
    cases r1
    obtain ⟨its, rv, p, hz⟩ := I1.tuple hq
    refine wpAny_pyIter_tuple (show s1.heap.IsTuple a its.toArray from p) ?_
    refine ⟨s1.heap.objs.size, [s1.heap.objs.size], _, _, H1, rfl, I1.kept (t' := s1.toks) fun b o e => Heap.get?_push_of_some _ e, turn_tuple a _, ⟨_, Heap.get?_push_size _ rfl, rfl, rfl⟩, fun b hb => ?_, q⟩
    have e : b = s1.heap.objs.size := by simpa using hb
    subst e
    exact I1.fpOk (Nat.le_refl _) (I1.hok.fresh (Nat.le_refl _))
  · subst ex
    obtain ⟨t, rfl⟩ := r1
    cases ha : x.cps.all (· < 128)
    · exact wpAny_pyIter_wide ha (pi_one (tk := s1.toks) I1 _ (turn_str _ x t "str_iterator" (.inr rfl)) ⟨_, Heap.get?_push_size _ rfl, rfl, rfl⟩ q)
    · exact wpAny_pyIter_ascii ha (pi_one (tk := s1.toks) I1 _ (turn_str _ x t "str_ascii_iterator" (.inl rfl)) ⟨_, Heap.get?_push_size _ rfl, rfl, rfl⟩ q)
def signs (z : Str) : List PyData := z.cps.toList.map fun c => .str ⟨#[c]⟩
def iSeq (f : SE) : SI := fun ρ μ Q => f ρ μ fun w μ1 => match w with
  | .p (.tuple xs) => Q xs (fun _ => True) μ1
  | .p (.list xs) => Q xs (fun _ => True) μ1
  | .p (.str z) => Q (signs z) (fun _ => True) μ1
  | .r n => match μ1[n]? with
    | some (.lst xs) => Q xs (fun μ => μ[n]? = some (.lst xs)) μ1
    | _ => False
  | .s xs => Q xs (fun _ => True) μ1
  | .q n j => match subAt μ1 n j with
    | some (.l i xs) => Q xs (fun μ => subAt μ n j = some (.l i xs)) μ1
    | _ => False
  | _ => False
theorem walks_tup {K : PySem.W.Frag} {as1 : Cs} {H1 : Hp} {a : Addr} {vs : List V} {ds : List PyData} (t : TzT K as1 H1 a vs) (d : DzAll K as1 H1 vs ds) : Walks K as1 H1 ds (fun _ => True) (Itt K a) where
  go := fun i x as μ H g S _ e => by
    obtain ⟨v, h1, _⟩ := (d.grow g).get e
    exact ⟨vs, v, (t.grow g).sq, h1⟩
  stop := fun i as μ H g S _ e => ⟨vs, (t.grow g).sq, by rw [d.length]; exact e⟩
  yld := fun i x as μ H v H' g S _ e y => by
    obtain ⟨rfl, y⟩ := y
    obtain ⟨d', h1, h2⟩ := (d.grow g).getV (y vs (t.grow g).sq)
    rw [e] at h1
    cases h1
    exact ⟨Stp.refl _ _, S, h2⟩
theorem walks_lst {K : PySem.W.Frag} {as1 : Cs} {H1 : Hp} {a : Addr} {vs : List V} {ds : List PyData} (t : TzL K as1 H1 a vs) (d : DzAll K as1 H1 vs ds) : Walks K as1 H1 ds (fun _ => True) (Itl K a) where
  go := fun i x as μ H g S _ e => by
    obtain ⟨v, h1, _⟩ := (d.grow g).get e
    exact ⟨vs, v, .inl (g.rd nt_lst t.1 t.2).2, h1⟩
  stop := fun i as μ H g S _ e => ⟨vs, .inl (g.rd nt_lst t.1 t.2).2, by rw [d.length]; exact e⟩
  yld := fun i x as μ H v H' g S _ e y => by
    obtain ⟨rfl, y⟩ := y
    obtain ⟨d', h1, h2⟩ := (d.grow g).getV (y vs (.inl (g.rd nt_lst t.1 t.2).2))
    rw [e] at h1
    cases h1
    exact ⟨Stp.refl _ _, S, h2⟩
theorem walks_scr {K : PySem.W.Frag} {as1 : Cs} {H1 : Hp} {a : Addr} {vs : List V} {ds : List PyData} (t : SzL K as1 H1 a vs) (d : DzAll K as1 H1 vs ds) : Walks K as1 H1 ds (fun _ => True) (Itl K a) where
  go := fun i x as μ H g S _ e => by
    obtain ⟨v, h1, _⟩ := (d.grow g).get e
    exact ⟨vs, v, (t.grow g).sq, h1⟩
  stop := fun i as μ H g S _ e => ⟨vs, (t.grow g).sq, by rw [d.length]; exact e⟩
  yld := fun i x as μ H v H' g S _ e y => by
    obtain ⟨rfl, y⟩ := y
    obtain ⟨d', h1, h2⟩ := (d.grow g).getV (y vs (t.grow g).sq)
    rw [e] at h1
    cases h1
    exact ⟨Stp.refl _ _, S, h2⟩
theorem walks_cell {K : PySem.W.Frag} {as1 : Cs} {H1 : Hp} {n : Nat} {a : Addr} {ds : List PyData} (ha : as1.as[n]? = some a) : Walks K as1 H1 ds (fun μ => μ[n]? = some (.lst ds)) (Itl K a) := by
  have at' : ∀ {as μ H}, Grow as1 H1 as H → SimH K as μ H → μ[n]? = some (.lst ds) → ∃ vs, H a = some (.lst vs) ∧ DzAll K as H vs ds := fun {as μ H} g S h => by
    obtain ⟨t, e⟩ := g.pre
    have : as.as[n]? = some a := by rw [e, List.getElem?_append_left (List.getElem?_eq_some_iff.mp ha).1]; exact ha
    exact S.cell n a _ this h
  refine ⟨fun i x as μ H g S h e => ?_, fun i as μ H g S h e => ?_, fun i x as μ H v H' g S h e y => ?_⟩
  · obtain ⟨vs, h1, h2⟩ := at' g S h
    obtain ⟨v, h3, _⟩ := h2.get e
    exact ⟨vs, v, .of h1, h3⟩
  · obtain ⟨vs, h1, h2⟩ := at' g S h
    exact ⟨vs, .of h1, by rw [h2.length]; exact e⟩
  · obtain ⟨rfl, y⟩ := y
    obtain ⟨vs, h1, h2⟩ := at' g S h
    obtain ⟨d', h3, h4⟩ := h2.getV (y vs (.of h1))
    rw [e] at h3
    cases h3
    exact ⟨Stp.refl _ _, S, h4⟩
theorem walks_own {K : PySem.W.Frag} {as1 : Cs} {H1 : Hp} {n j i0 : Nat} {b : Addr} {ds : List PyData} (hb : as1.own[j]? = some (b, n)) : Walks K as1 H1 ds (fun μ => subAt μ n j = some (.l i0 ds)) (Itl K b) := by
  have at' : ∀ {as μ H}, Grow as1 H1 as H → SimH K as μ H → subAt μ n j = some (.l i0 ds) → ∃ vs, H b = some (.lst vs) ∧ DzAll K as H vs ds := fun {as μ H} g S h => by
    obtain ⟨_, b', vs, e, _, h1, h2⟩ := subAt_ok S h (g.ownAt hb)
    cases e
    exact ⟨vs, h1, h2⟩
  refine ⟨fun i x as μ H g S h e => ?_, fun i as μ H g S h e => ?_, fun i x as μ H v H' g S h e y => ?_⟩
  · obtain ⟨vs, h1, h2⟩ := at' g S h
    obtain ⟨v, h3, _⟩ := h2.get e
    exact ⟨vs, v, .of h1, h3⟩
  · obtain ⟨vs, h1, h2⟩ := at' g S h
    exact ⟨vs, .of h1, by rw [h2.length]; exact e⟩
  · obtain ⟨rfl, y⟩ := y
    obtain ⟨vs, h1, h2⟩ := at' g S h
    obtain ⟨d', h3, h4⟩ := h2.getV (y vs (.of h1))
    rw [e] at h3
    cases h3
    exact ⟨Stp.refl _ _, S, h4⟩
theorem walks_str {K : PySem.W.Frag} {as1 : Cs} {H1 : Hp} (z : Str) : Walks K as1 H1 (signs z) (fun _ => True) (Its z) where
  go := fun i x as μ H g S _ e => by
    have h := (List.getElem?_eq_some_iff.mp e).1
    show i < z.cps.size
    simpa [signs] using h
  stop := fun i as μ H g S _ e => by show z.cps.size ≤ i; simpa [signs] using e
  yld := fun i x as μ H v H' g S _ e y => by
    obtain ⟨rfl, c, hc, rfl⟩ := y
    refine ⟨Stp.refl _ _, S, ?_⟩
    have : (signs z)[i]? = some (.str ⟨#[c]⟩) := by
      unfold signs
      rw [List.getElem?_map]
      have h2 : z.cps.toList[i]? = some c := by simpa using hc
      rw [h2]; rfl
    rw [e] at this
    cases this
    exact Dz.str _
theorem gi_seq {X : Cx} {tg l : Expr} {f : SE} (hl : GE X l f) : GIt X tg l (iSeq f) := ⟨PI_imp (pi_seq hl.go) fun σ H R ⟨as, ρ, μ, Q0, S, E, h, A⟩ =>
  ⟨as, ρ, μ, _, S, E, h, fun w μ1 as1 v H1 q1 s1 S1 r1 => by
    split at q1
    · cases r1 with
      | tup t d => exact .inr (.inl ⟨_, rfl, ⟨_, t.sq⟩, A _ _ _ _ _ _ q1 s1 S1 (walks_tup t d)⟩)
    · cases r1 with
      | lst t d => exact .inl ⟨_, rfl, ⟨_, t.sq⟩, A _ _ _ _ _ _ q1 s1 S1 (walks_lst t d)⟩
    · cases r1
      exact .inr (.inr ⟨_, rfl, A _ _ _ _ _ _ q1 s1 S1 (walks_str _)⟩)
    · split at q1
      · rename_i n _ xs hc
        obtain ⟨a, rfl, ha⟩ := r1
        obtain ⟨vs, h1, h2⟩ := S1.cell n a _ ha hc
        exact .inl ⟨_, rfl, ⟨_, .of h1⟩, A _ _ _ _ _ _ q1 s1 S1 (walks_cell ha)⟩
      · exact q1.elim
    · obtain ⟨a, vs, rfl, t, d⟩ := r1
      exact .inl ⟨_, rfl, ⟨_, t.sq⟩, A _ _ _ _ _ _ q1 s1 S1 (walks_scr t d)⟩
    · split at q1
      · rename_i n j _ i xs hu
        obtain ⟨b, rfl, hb⟩ := r1
        obtain ⟨_, b', vs, e, _, h1, h2⟩ := subAt_ok S1 hu hb
        cases e
        exact .inl ⟨_, rfl, ⟨_, .of h1⟩, A _ _ _ _ _ _ q1 s1 S1 (walks_own hb)⟩
      · exact q1.elim
    · exact q1.elim⟩⟩
def rng (lo : Int) (n : Nat) : List PyData := (List.range n).map fun (i : Nat) => .int (lo + (i : Int))
theorem walks_rng {K : PySem.W.Frag} {as1 : Cs} {H1 : Hp} (lo : Int) (n : Nat) : Walks K as1 H1 (rng lo n) (fun _ => True) (Itr lo n) where
  go := fun i x as μ H g S _ e => by
    have h := (List.getElem?_eq_some_iff.mp e).1
    show i < n
    simpa [rng] using h
  stop := fun i as μ H g S _ e => by show n ≤ i; simpa [rng] using e
  yld := fun i x as μ H v H' g S _ e y => by
    obtain ⟨rfl, rfl⟩ := y
    refine ⟨Stp.refl _ _, S, ?_⟩
    have h := (List.getElem?_eq_some_iff.mp e).1
    have h : i < n := by simpa [rng] using h
    have : (rng lo n)[i]? = some (.int (lo + i)) := by
      unfold rng
      rw [List.getElem?_map, List.getElem?_range h]; rfl
    rw [e] at this
    cases this
    exact Dz.int _
def iRng (g : SA) : SI := fun ρ μ Q => g ρ μ fun ws μ1 => match ws with
  | [.p (.int j)] => -(2 ^ 62) ≤ j ∧ j < 2 ^ 62 ∧ Q (rng 0 j.toNat) (fun _ => True) μ1
  | _ => False
theorem gi_rng {X : Cx} {tg a : Expr} {g : SA} {p pos : Pos} (hg : Gl X "range") (hm : X.mg "range" = none) (ha : GA X [a] g) (hs : starEach [a] X.env = [(false, eval a X.env)] := by rfl) : GIt X tg (.Call (.Name "range" p) [a] [] pos) (iRng g) := ⟨PI_imp (pi_range1 hg hm ha.go hs) fun σ H R ⟨as, ρ, μ, Q0, S, E, h, A⟩ =>
  ⟨as, ρ, μ, _, S, E, h, fun ws μ1 as1 vs H1 q1 s1 S1 r1 => by
    split at q1
    · cases r1 with
      | cons r1 r2 =>
        cases r1
        cases r2
        exact ⟨_, rfl, q1.1, q1.2.1, A _ _ _ _ _ _ q1.2.2 s1 S1 (walks_rng _ _)⟩
    · exact q1.elim⟩⟩
def forR (g : SG) (b : SS) (ok : Mu → Prop) (F : Fin) : List PyData → Rho → Mu → Prop
  | [], ρ, μ => ok μ ∧ F.nx ρ μ
  | x :: xs, ρ, μ => ok μ ∧ g (.p x) ρ μ fun ρ2 μ2 => b { F with nx := forR g b ok F xs, ct := forR g b ok F xs, bk := F.nx } ρ2 μ2
def sFor (it : SI) (g : SG) (b : SS) : SS := fun F ρ μ => it ρ μ fun xs ok μ1 => forR g b ok F xs ρ μ1
theorem gs_for {X : Cx} {tg iter : Expr} {body : List Stmt} {it : SI} {g : SG} {b : SS} {pos : Pos} (hp : PassesOwn (model X.prog X.w) X.A X.env X.xe) (hc : X.calm = true) (hi : GIt X tg iter it) (hg : GG X tg g) (hb : GB X body b)
    (hs : ∀ x, foldedSetIterable iter X.env x = pure x := by intro _; rfl) : GS X (.For tg iter body [] pos) (sFor it g b) := ⟨PS_imp (ps_for hp hc hi.go hg.go hb.go hs) fun D σ H ⟨as, ρ, μ, F, S, E, h, A⟩ =>
  ⟨as, ρ, μ, _, S, E, h, fun xs ok μ1 as1 H1 J q1 s1 S1 w => by
    have A1 := A.mono s1
    refine ⟨fun i m σ2 H2 => ∃ as2 ρ2 μ2, Stp as1 H1 as2 H2 ∧ SimH X.K as2 μ2 H2 ∧ EnvOk X.K as2 H2 ρ2 σ2 ∧ forR g b ok F (xs.drop i) ρ2 μ2 ∧ m = xs.length - i ∧ i ≤ xs.length, ⟨xs.length, as1, ρ, μ1, Stp.refl _ _, S1, E.mono s1, by simpa using q1, by simp, by simp⟩, ?_⟩
    rintro i m σ2 H2 ⟨as2, ρ2, μ2, s2, S2, E2, q2, rfl, hi⟩
    by_cases hlt : i < xs.length
    · have e : xs.drop i = xs[i] :: xs.drop (i + 1) := List.drop_eq_getElem_cons hlt
      rw [e] at q2
      obtain ⟨o2, q2⟩ := q2
      have ex : xs[i]? = some xs[i] := List.getElem?_eq_getElem hlt
      refine .inr ⟨w.go i _ as2 μ2 H2 s2.grow S2 o2 ex, fun σ' H' => ∃ as' ρ' μ', Stp as1 H1 as' H' ∧ SimH X.K as' μ' H' ∧ EnvOk X.K as' H' ρ' σ' ∧ forR g b ok F (xs.drop (i + 1)) ρ' μ', fun σ' H' ⟨as', ρ', μ', s', S', E', q'⟩ => ⟨_, by omega, as', ρ', μ', s', S', E', q', rfl, hlt⟩, fun x H3 y => ?_⟩
      obtain ⟨s3, S3, d3⟩ := w.yld i _ as2 μ2 H2 x H3 s2.grow S2 o2 ex y
      refine ⟨as2, ρ2, μ2, .p xs[i], _, S3, E2.mono s3, d3, q2, fun ρ4 μ4 as4 σ4 H4 q4 s4 S4 E4 => ⟨as4, ρ4, μ4, _, S4, E4, q4, ?_⟩⟩
      have s14 := s2.trans (s3.trans s4)
      have A4 := A1.mono s14
      exact ⟨fun ρ' μ' as' σ' H' q s' S' E' => ⟨as', ρ', μ', s14.trans s', S', E', q⟩, A4.2.1, fun ρ' μ' as' σ' H' q s' S' E' => A4.1 _ _ _ _ _ q s' S' E', fun ρ' μ' as' σ' H' q s' S' E' => ⟨as', ρ', μ', s14.trans s', S', E', q⟩⟩
    · have e : xs.drop i = [] := List.drop_eq_nil_of_le (by omega)
      rw [e] at q2
      exact .inl ⟨w.stop i as2 μ2 H2 s2.grow S2 q2.1 (by omega), A1.1 _ _ _ _ _ q2.2 s2 S2 E2⟩⟩⟩
end L2.Ev
namespace L2.Ev
open PySem PySem.Spec PyProof.Rows
theorem wipe_get (σ : St) (j : Nat) : ∀ vs : List Nat, (wipe σ vs)[j]? = if j ∈ vs then (if j < σ.length then some none else none) else σ[j]?
  | [] => by simp [wipe]
  | v :: vs => by
    unfold wipe
    by_cases e : v = j
    · subst e
      rw [if_pos (by simp)]
      by_cases hl : v < σ.length
      · rw [List.getElem?_set_self (by rw [wipe_length]; exact hl), if_pos hl]
      · rw [if_neg hl, List.getElem?_eq_none (by rw [List.length_set, wipe_length]; omega)]
    · rw [List.getElem?_set_ne e, wipe_get σ j vs]
      have : (j ∈ v :: vs) ↔ j ∈ vs := by simp [Ne.symm e]
      simp only [this]
theorem wipe_set (σ : St) (i : Nat) (x : Option V) {vs : List Nat} (h : i ∈ vs) : wipe (σ.set i x) vs = wipe σ vs := by
  apply List.ext_getElem?
  intro j
  rw [wipe_get, wipe_get, List.length_set]
  by_cases e : j ∈ vs
  · rw [if_pos e, if_pos e]
  · rw [if_neg e, if_neg e, List.getElem?_set_ne]
    intro z; subst z; exact e h
def wipeW (ρ : Rho) : List Nat → Rho
  | [] => ρ
  | v :: vs => (wipeW ρ vs).set v none
theorem wipeW_length (ρ : Rho) : ∀ vs : List Nat, (wipeW ρ vs).length = ρ.length
  | [] => rfl
  | v :: vs => by unfold wipeW; rw [List.length_set, wipeW_length ρ vs]
theorem wipeW_some {ρ : Rho} {i : Nat} {x : W} : ∀ {vs : List Nat}, (wipeW ρ vs)[i]? = some (some x) → ρ[i]? = some (some x) ∧ i ∉ vs
  | [], h => ⟨h, by simp⟩
  | v :: vs, h => by
    unfold wipeW at h
    by_cases hi : v = i
    · subst hi
      by_cases hv : v < (wipeW ρ vs).length
      · rw [List.getElem?_set_self hv] at h; cases h
      · rw [List.getElem?_eq_none (by simpa using hv)] at h; cases h
    · rw [List.getElem?_set_ne hi] at h
      obtain ⟨h1, h2⟩ := wipeW_some h
      exact ⟨h1, by simp only [List.mem_cons, not_or]; exact ⟨fun e => hi e.symm, h2⟩⟩
theorem EnvOk.wipe {K : PySem.W.Frag} {as : Cs} {H : Hp} {ρ : Rho} {σ : St} (h : EnvOk K as H ρ σ) (vs : List Nat) : EnvOk K as H (wipeW ρ vs) (L2.wipe σ vs) := by
  refine ⟨by rw [wipeW_length, wipe_length, h.1], fun i w e => ?_⟩
  obtain ⟨e1, n⟩ := wipeW_some e
  obtain ⟨v, h1, h2⟩ := h.2 i w e1
  exact ⟨v, by rw [wipe_get, if_neg n]; exact h1, h2⟩
inductive Tg where
  | nm (i : Nat)
  | tp (is : List Nat)
  | tq (i : Nat) (is : List Nat)
def Tg.ix : Tg → List Nat
  | .nm i => [i]
  | .tp is => is
  | .tq i is => i :: is
def gsL : List Nat → TGs
  | [] => gNil
  | i :: is => gCons (gName i) (gsL is)
def tgL (K : PySem.W.Frag) : Tg → TG
  | .nm i => gName i
  | .tp is => gTup K is.length (gsL is)
  | .tq i is => gTup K 2 (gCons (gName i) (gCons (gTup K is.length (gsL is)) gNil))
def setAll (ρ : Rho) : List Nat → List PyData → Rho
  | i :: is, d :: ds => setAll (ρ.set i (some (.p d))) is ds
  | _, _ => ρ
def bindT : Tg → PyData → Rho → Option Rho
  | .nm i, d, ρ => some (ρ.set i (some (.p d)))
  | .tp is, .tuple ds, ρ => if ds.length = is.length then some (setAll ρ is ds) else none
  | .tq i is, .tuple [d, .tuple ds], ρ => if ds.length = is.length then some (setAll (ρ.set i (some (.p d))) is ds) else none
  | _, _, _ => none
theorem gsL_of {K : PySem.W.Frag} {as : Cs} {H : Hp} {vs0 : List Nat} {σ0 : St} {Q : St → Hp → Prop} : ∀ (is : List Nat) (vs : List V) (ds : List PyData) (ρ : Rho) (σ : St), (∀ i ∈ is, i ∈ vs0) → DzAll K as H vs ds → ds.length = is.length → EnvOk K as H ρ σ → wipe σ vs0 = wipe σ0 vs0 →
    (∀ σ2, EnvOk K as H (setAll ρ is ds) σ2 → wipe σ2 vs0 = wipe σ0 vs0 → Q σ2 H) → gsL is vs σ H Q
  | [], vs, ds, ρ, σ, hv, d, hl, E, hw, k => by
    cases ds with
    | nil => cases d; exact ⟨rfl, k σ (by cases ρ <;> exact E) hw⟩
    | cons _ _ => simp at hl
  | i :: is, vs, ds, ρ, σ, hv, d, hl, E, hw, k => by
    cases ds with
    | nil => simp at hl
    | cons d0 ds =>
      cases d with
      | cons d1 d2 =>
        refine ⟨_, _, rfl, ?_⟩
        exact gsL_of is _ ds (ρ.set i (some (.p d0))) _ (fun j hj => hv j (by simp [hj])) d2 (by simpa using hl) (E.set (w := .p d0) d1 i) (by rw [wipe_set _ _ _ (hv i (by simp)), hw]) k
theorem tgL_of {K : PySem.W.Frag} {as : Cs} {H : Hp} {vs0 : List Nat} {t : Tg} {v : V} {d : PyData} {ρ ρ2 : Rho} {σ : St} {Q : St → Hp → Prop} (hv : ∀ i ∈ t.ix, i ∈ vs0) (r : Dz K as H v d) (E : EnvOk K as H ρ σ) (b : bindT t d ρ = some ρ2)
    (k : ∀ σ2, EnvOk K as H ρ2 σ2 → wipe σ2 vs0 = wipe σ vs0 → Q σ2 H) : tgL K t v σ H Q := by
  cases t with
  | nm i =>
    cases b
    exact k _ (E.set (w := .p d) r i) (wipe_set _ _ _ (hv i (by simp [Tg.ix])))
  | tp is =>
    cases d with
    | tuple ds =>
      simp only [bindT] at b
      split at b
      · rename_i hl
        cases b
        cases r with
        | tup t d => exact ⟨_, _, rfl, t.sq, by rw [d.length]; exact hl, gsL_of is _ ds ρ σ hv d hl E rfl k⟩
      · cases b
    | _ => cases b
  | tq i is =>
    cases d with
    | tuple es =>
      cases es with
      | nil => cases b
      | cons d0 es =>
        cases es with
        | nil => cases b
        | cons d1 es =>
          cases es with
          | cons _ _ => cases d1 <;> cases b
          | nil =>
            cases d1 with
            | tuple ds =>
              simp only [bindT] at b
              split at b
              · rename_i hl
                cases b
                cases r with
                | tup t d =>
                  cases d with
                  | cons r0 d =>
                    cases d with
                    | cons r1 d =>
                      cases d
                      cases r1 with
                      | tup t1 d1 =>
                        refine ⟨_, _, rfl, t.sq, rfl, _, _, rfl, _, _, rfl, ⟨_, _, rfl, t1.sq, by rw [d1.length]; exact hl, ?_⟩⟩
                        exact gsL_of is _ ds (ρ.set i (some (.p d0))) _ (fun j hj => hv j (by simp [Tg.ix, hj])) d1 hl (E.set (w := .p d0) r0 i) (wipe_set _ _ _ (hv i (by simp [Tg.ix]))) fun σ2 E2 w2 => ⟨rfl, k σ2 E2 w2⟩
              · cases b
            | _ => cases b
    | _ => cases b
def compR (t : Tg) (c : ST) (e : SE) (ρ0 : Rho) (ok : Mu → Prop) (Q : List PyData → Mu → Prop) : List PyData → List PyData → Mu → Prop
  | [], acc, μ => ok μ ∧ Q acc μ
  | x :: xs, acc, μ => ok μ ∧ match bindT t x ρ0 with
    | some ρ2 => c ρ2 μ fun b μ1 => if b = true then e ρ2 μ1 fun y μ2 => match y with
        | .p d => acc.length < sizeLine ∧ compR t c e ρ0 ok Q xs (acc ++ [d]) μ2
        | _ => False
      else compR t c e ρ0 ok Q xs acc μ1
    | none => False
def wLc (it : SI) (t : Tg) (c : ST) (e : SE) (vs : List Nat) : SE := fun ρ μ Q => it ρ μ fun xs ok μ1 => compR t c e (wipeW ρ vs) ok (fun acc μ2 => Q (.p (.list acc)) μ2) xs [] μ1
def wYes : ST := fun _ μ Q => Q true μ
structure GTs (X : Cx) (ifs : List Expr) (f : ST) : Prop where go : PTs X ifs (rdT X.K f)
theorem gts_nil {X : Cx} : GTs X [] wYes := ⟨fun pins s σ H Q I ⟨as, ρ, μ, Q0, S, E, h, A⟩ => pts_nil pins s σ H Q I (A _ _ _ _ h (Stp.refl _ _) S)⟩
theorem gts_one {X : Cx} {c : Expr} {t : ST} (h : GT X c t) : GTs X [c] t := ⟨pts_one h.go⟩
def Out (as : Cs) (H : Hp) (as' : Cs) (H' : Hp) : Prop := ∀ a o, nt o → H a = some o → a ∉ as → a ∉ as' ∧ H' a = some o
theorem Out.rd {as as' : Cs} {H H' : Hp} (h : Out as H as' H') {a : Addr} {u : HO} (w : nt u) (n : a ∉ as) (r : Rd H a u) : a ∉ as' ∧ Rd H' a u := by
  rcases r with r | ⟨o, r⟩
  · exact ⟨(h _ _ w r n).1, .inl (h _ _ w r n).2⟩
  · exact ⟨(h _ _ nt_frz r n).1, .inr ⟨o, (h _ _ nt_frz r n).2⟩⟩
theorem Out.fz {as as' : Cs} {H H' : Hp} (h : Out as H as' H') {a : Addr} {u : HO} (n : a ∉ as) (r : Fz H a u) : a ∉ as' ∧ Fz H' a u := by
  obtain ⟨o, r⟩ := r
  exact ⟨(h _ _ nt_frz r n).1, ⟨o, (h _ _ nt_frz r n).2⟩⟩
mutual
theorem Dz.out {K : PySem.W.Frag} {as as' : Cs} {H H' : Hp} (s : Out as H as' H') : ∀ {v : V} {d : PyData}, Dz K as H v d → Dz K as' H' v d
  | _, _, .non => .non
  | _, _, .bl b => .bl b
  | _, _, .int i => .int i
  | _, _, .str x => .str x
  | _, _, .lst t a => .lst (s.rd nt_lst t.1 t.2) (DzAll.out s a)
  | _, _, .tup t a => .tup (t.elim (fun t => .inl (s.rd nt_tup t.1 t.2)) .inr) (DzAll.out s a)
  | _, _, .dct n r k a => .dct (s.fz n r).1 (s.fz n r).2 k (DzAll.out s a)
theorem DzAll.out {K : PySem.W.Frag} {as as' : Cs} {H H' : Hp} (s : Out as H as' H') : ∀ {vs : List V} {ds : List PyData}, DzAll K as H vs ds → DzAll K as' H' vs ds
  | _, _, .nil => .nil
  | _, _, .cons h t => .cons (Dz.out s h) (DzAll.out s t)
end
theorem Rel.out {K : PySem.W.Frag} {as as' : Cs} {H H' : Hp} (s : Out as H as' H') (e : as'.as = as.as) (eo : as'.own = as.own) {w : W} {v : V} (h : Rel K as H w v) : Rel K as' H' w v := by
  cases w with
  | p d => exact Dz.out s h
  | r n => obtain ⟨a, e1, q⟩ := h; exact ⟨a, e1, by rw [e]; exact q⟩
  | t n => exact h
  | s ds => obtain ⟨a, vs, e, h1, h2⟩ := h; exact ⟨a, vs, e, h1.elim (fun t => .inl (s.rd nt_lst t.1 t.2)) .inr, h2.out s⟩
  | u ns =>
    obtain ⟨a, vs, e1, h1, h2, h3⟩ := h
    refine ⟨a, vs, e1, (s.rd nt_tup h1 h2).1, (s.rd nt_tup h1 h2).2, ?_⟩
    clear h1 h2 e1
    induction h3 with
    | nil => exact .nil
    | cons e0 _ ih => exact .cons (by rw [e]; exact e0) ih
  | q n j => obtain ⟨b, e1, q⟩ := h; exact ⟨b, e1, by rw [eo]; exact q⟩
theorem EnvOk.out {K : PySem.W.Frag} {as as' : Cs} {H H' : Hp} {ρ : Rho} {σ : St} (s : Out as H as' H') (e : as'.as = as.as) (eo : as'.own = as.own) (h : EnvOk K as H ρ σ) : EnvOk K as' H' ρ σ :=
  ⟨h.1, fun i w q => let ⟨v, h1, h2⟩ := h.2 i w q; ⟨v, h1, h2.out s e eo⟩⟩
theorem Rel.outAt {K : PySem.W.Frag} {as as' : Cs} {H H' : Hp} (s : Out as H as' H') {m : Nat} {w : W} {v : V} (h : Rel K as H w v) (o : refOk m w) (k : ∀ j b, j < m → as.as[j]? = some b → as'.as[j]? = some b) (eo : as'.own = as.own) : Rel K as' H' w v := by
  cases w with
  | p d => exact Dz.out s h
  | r n => obtain ⟨a, e1, q⟩ := h; exact ⟨a, e1, k _ _ o q⟩
  | t n => exact h
  | s ds => obtain ⟨a, vs, e, h1, h2⟩ := h; exact ⟨a, vs, e, h1.elim (fun t => .inl (s.rd nt_lst t.1 t.2)) .inr, h2.out s⟩
  | u ns =>
    obtain ⟨a, vs, e1, h1, h2, h3⟩ := h
    exact ⟨a, vs, e1, (s.rd nt_tup h1 h2).1, (s.rd nt_tup h1 h2).2, h3.at fun n hn b eb => k _ _ (o n hn) eb⟩
  | q n j => obtain ⟨b, e1, q⟩ := h; exact ⟨b, e1, by rw [eo]; exact q⟩
theorem SubOk.out {K : PySem.W.Frag} {as as' : Cs} {H H' : Hp} {n : Nat} {v : V} (s : Out as H as' H') (eo : as'.own = as.own) (ek : ∀ (j : Nat) (b : Addr), as.own[j]? = some (b, n) → H' b = H b) {u : Sub} (h : SubOk K as H n v u) : SubOk K as' H' n v u := by
  cases u with
  | d x => exact Dz.out s h
  | l j xs => obtain ⟨b, vs, e, q, h1, h2⟩ := h; exact ⟨b, vs, e, by rw [eo]; exact q, (ek _ _ q).trans h1, h2.out s⟩
  | k j xs => obtain ⟨b, vs, e, q, h1, h3, h2⟩ := h; exact ⟨b, vs, e, by rw [eo]; exact q, (ek _ _ q).trans h1, h3, h2.out s⟩
theorem SubsOk.out {K : PySem.W.Frag} {as as' : Cs} {H H' : Hp} {n : Nat} (s : Out as H as' H') (eo : as'.own = as.own) (ek : ∀ (j : Nat) (b : Addr), as.own[j]? = some (b, n) → H' b = H b) {vs : List V} {us : List Sub} (h : SubsOk K as H n vs us) : SubsOk K as' H' n vs us := by
  induction h with
  | nil => exact .nil
  | cons h _ ih => exact .cons (h.out s eo ek) ih
theorem Cok.out {K : PySem.W.Frag} {as as' : Cs} {H H' : Hp} {n : Nat} {a : Addr} (s : Out as H as' H') (e : H' a = H a) (k : ∀ j b, j < n → as.as[j]? = some b → as'.as[j]? = some b) (eo : as'.own = as.own) (ek : ∀ (j : Nat) (b : Addr), as.own[j]? = some (b, n) → H' b = H b) {c : Cell} (h : Cok K as H n a c) : Cok K as' H' n a c := by
  cases c with
  | lst ds => obtain ⟨vs, h1, h2⟩ := h; exact ⟨vs, e.trans h1, h2.out s⟩
  | dk ds => obtain ⟨vs, h1, h2, h3⟩ := h; exact ⟨vs, e.trans h1, h2, h3.out s⟩
  | lw ds =>
    obtain ⟨vs, h1, h2, h3⟩ := h
    refine ⟨vs, e.trans h1, ?_, h3⟩
    clear h1
    induction h2 with
    | nil => exact .nil
    | cons r _ ih => exact .cons (r.outAt s (h3 _ (by simp)) k eo) (ih fun w hw => h3 w (by simp [hw]))
  | dn ds => obtain ⟨vs, h1, h2, h3, h4⟩ := h; exact ⟨vs, e.trans h1, h2, h3.out s eo ek, h4⟩
  | ln ds => obtain ⟨vs, h1, h2, h3⟩ := h; exact ⟨vs, e.trans h1, h2.out s eo ek, h3⟩
  | dt ds => obtain ⟨vs, h1, h2, h3⟩ := h; exact ⟨vs, e.trans h1, h2, h3.out s⟩
  | zk ds => obtain ⟨vs, ⟨o, h1⟩, h2, h3⟩ := h; exact ⟨vs, ⟨o, e.trans h1⟩, h2, h3.out s⟩
  | zn ds => obtain ⟨vs, ⟨o, h1⟩, h2, h3, h4⟩ := h; exact ⟨vs, ⟨o, e.trans h1⟩, h2, h3.out s eo ek, h4⟩
  | zt ds => obtain ⟨vs, ⟨o, h1⟩, h2, h3⟩ := h; exact ⟨vs, ⟨o, e.trans h1⟩, h2, h3.out s⟩
theorem Out.hid {as : Cs} {H : Hp} {D : Addr} (h : D ∈ as.hid) (o : HO) : Out as H as (upd H D o) := fun a u _ q n => ⟨n, by rw [upd_ne (fun e => n (Cs.mem_iff.mpr (.inl (by rw [e]; exact h))))]; exact q⟩
theorem SimH.hidO {K : PySem.W.Frag} {as : Cs} {μ : Mu} {H : Hp} (S : SimH K as μ H) {D : Addr} (h : D ∈ as.hid) (o : HO) (ho : HidOk (some o)) : SimH K as μ (upd H D o) := by
  have own0 : ∀ b ∈ as.own.map (·.1), b ≠ D := fun b hb e => (List.nodup_append.mp S.nd).2.2 D h b (List.mem_append_right _ hb) e.symm
  refine ⟨S.nd, S.len, fun a ha => ?_, S.tabUpd (fun ps z => by obtain ⟨o', e, no, _⟩ := (S.hide D h).some; rw [z] at e; cases e; exact no ps rfl), fun n a c h1 h2 => (S.cell n a c h1 h2).out (Out.hid h _) (upd_ne fun e => ?_) (fun _ _ _ z => z) rfl (fun j b hb => upd_ne (own0 b (List.mem_map.mpr ⟨_, List.mem_of_getElem? hb, rfl⟩))), fun x hx => ?_⟩
  · by_cases e : a = D
    · subst e; rw [upd_same]; exact ho
    · rw [upd_ne e]; exact S.hide a ha
  · subst e
    exact (List.nodup_append.mp S.nd).2.2 a h a (Cs.ao_as (List.mem_of_getElem? h1)) rfl
  · rw [upd_ne (own0 x.1 (List.mem_map.mpr ⟨x, hx, rfl⟩))]; exact S.ownd x hx
theorem SimH.hid {K : PySem.W.Frag} {as : Cs} {μ : Mu} {H : Hp} (S : SimH K as μ H) {D : Addr} (h : D ∈ as.hid) (xs : List V) : SimH K as μ (upd H D (.lst xs)) := S.hidO h _ (.inl ⟨_, rfl⟩)
section
variable {X : Cx} {elt tg iter : Expr} {ifs : List Expr} {scope : Scope} {own : List (Str × Nat)} {pos : Pos} {it : SI} {t : Tg} {c : ST} {e : SE}
theorem rdE_lc {K : PySem.W.Frag} {vs : List Nat} (hv : ∀ i ∈ t.ix, i ∈ vs) {σ : St} {H : Hp} {Q : VK} (h : rdE K (wLc it t c e vs) σ H Q) : tLc (rdI K it) (tgL K t) (rdT K c) (rdE K e) vs σ H Q := by
  obtain ⟨as, ρ, μ, Q0, S, E, h, A⟩ := h
  refine ⟨as, ρ, μ, _, S, E, h, fun xs ok μ1 as1 H1 J q1 s1 S1 w D hD => ?_⟩
  have E1 := E.mono s1
  have fr := S1.fresh hD
  have frh : D ∉ as1.hid := fun z => fr (Cs.mem_iff.mpr (.inl z))
  have fra : D ∉ as1.ao := fun z => fr (Cs.mem_iff.mpr (.inr z))
  let SA : Nat → Hp → Prop := fun i H2 => ∃ as2 μ2 acc ws, as2.hid = D :: as1.hid ∧ Grow as1 H1 as2 H2 ∧ SimH K as2 μ2 H2 ∧ EnvOk K as2 H2 (wipeW ρ vs) (wipe σ vs) ∧ H2 D = some (.lst ws) ∧ DzAll K as2 H2 ws acc ∧
    compR t c e (wipeW ρ vs) ok (fun acc μ2 => Q0 (.p (.list acc)) μ2) (xs.drop i) acc μ2
  have g0 : Grow as1 H1 ⟨D :: as1.hid, as1.as, as1.own⟩ (upd H1 D (.lst [])) := ⟨⟨[], by simp⟩, fun a o _ h n => ⟨n, by rw [upd_ne (ne_of_none h hD)]; exact h⟩, ⟨[], by simp⟩, fun a u v h => by rw [upd_ne (ne_of_none h hD)]; exact h, fun a o _ h n z => by
    rcases Cs.mem_iff.mp z with z | z
    · rcases List.mem_cons.mp z with z | z
      · exact ne_of_none h hD z
      · exact n (Cs.mem_iff.mpr (.inl z))
    · exact n (Cs.mem_iff.mpr (.inr z))⟩
  have start : SA 0 (upd H1 D (.lst [])) := by
    refine ⟨⟨D :: as1.hid, as1.as, as1.own⟩, μ1, [], [], rfl, g0, ⟨?_, S1.len, fun a ha => ?_, S1.tabUpd (fun ps z => by rw [hD] at z; cases z), fun n a c' h1 h2 => ?_, fun x hx => ?_⟩, (E1.wipe vs).grow g0, upd_same, .nil, by simpa using q1⟩
    · show (D :: (as1.hid ++ as1.ao)).Nodup
      exact List.nodup_cons.mpr ⟨fr, S1.nd⟩
    · rcases List.mem_cons.mp ha with z | z
      · subst z; rw [upd_same]; exact .inl ⟨_, rfl⟩
      · obtain ⟨o, q, _⟩ := (S1.hide a z).some
        rw [upd_ne (ne_of_none q hD)]; exact S1.hide a z
    · obtain ⟨o, q⟩ := S1.mem (List.mem_of_getElem? h1)
      exact (S1.cell n a c' h1 h2).grow g0 (upd_ne (ne_of_none q hD)) (fun j b hb => by obtain ⟨o2, q2, _⟩ := S1.own_some hb; exact upd_ne (ne_of_none q2 hD))
    · obtain ⟨o, q, w⟩ := (S1.ownd x hx).some
      rw [upd_ne (ne_of_none q hD)]; exact S1.ownd x hx
  refine ⟨fun i m H2 => SA i H2 ∧ m = xs.length - i ∧ i ≤ xs.length, ⟨xs.length, start, by simp, by simp⟩, ?_⟩
  rintro i m H2 ⟨⟨as2, μ2, acc, ws, hh, g2, S2, E2, hD2, d2, q2⟩, rfl, hi⟩
  have dh : D ∈ as2.hid := by rw [hh]; simp
  have da : D ∉ as2.ao := fun z => (List.nodup_append.mp S2.nd).2.2 D dh D z rfl
  by_cases hlt : i < xs.length
  · have ed : xs.drop i = xs[i] :: xs.drop (i + 1) := List.drop_eq_getElem_cons hlt
    rw [ed] at q2
    obtain ⟨o2, q2⟩ := q2
    have ex : xs[i]? = some xs[i] := List.getElem?_eq_getElem hlt
    refine .inr ⟨w.go i _ as2 μ2 H2 g2 S2 o2 ex, SA (i + 1), fun H' q => ⟨_, by omega, q, rfl, hlt⟩, fun x H3 y => ?_⟩
    obtain ⟨s3, S3, d3⟩ := w.yld i _ as2 μ2 H2 x H3 g2 S2 o2 ex y
    split at q2
    · rename_i ρ2 hb
      refine tgL_of hv d3 (E2.mono s3) hb fun σ2 E3 hw => ⟨by rw [hw]; apply List.ext_getElem?; intro j; rw [wipe_get]; by_cases z : j ∈ vs <;> simp [wipe_get, wipe_length, z], ?_⟩
      refine ⟨as2, ρ2, μ2, _, S3, E3, q2, fun b μb asb Hb qb sb Sb => ?_⟩
      have hhb : asb.hid = D :: as1.hid := sb.hid.trans hh
      have hDb : Hb D = some (.lst ws) := (sb.keep D _ nt_lst (s3.keep D _ nt_lst hD2 da).2 da).2
      have gb : Grow as1 H1 asb Hb := g2.trans (s3.trans sb).grow
      cases b with
      | false => exact ⟨asb, μb, acc, ws, hhb, gb, Sb, E2.mono (s3.trans sb), hDb, d2.mono (s3.trans sb), qb⟩
      | true =>
        refine ⟨asb, ρ2, μb, _, Sb, E3.mono sb, qb, fun y' μw asw v Hw qw sw Sw rw' => ?_⟩
        split at qw
        · rename_i dd
          have dab : D ∉ asb.ao := fun z => (List.nodup_append.mp Sb.nd).2.2 D (by rw [hhb]; simp) D z rfl
          have hhw : asw.hid = D :: as1.hid := sw.hid.trans hhb
          have hDw : Hw D = some (.lst ws) := (sw.keep D _ nt_lst hDb dab).2
          have dw := (d2.mono (s3.trans sb)).mono sw
          have dhw : D ∈ asw.hid := by rw [hhw]; simp
          have gw : Grow as1 H1 asw Hw := gb.trans sw.grow
          refine ⟨ws, hDw, by rw [dw.length]; exact qw.1, asw, μw, acc ++ [dd], ws ++ [v], hhw, ⟨gw.pre, fun a o w q n => ⟨(gw.keep a o w q n).1, by rw [upd_ne (ne_of_none q hD)]; exact (gw.keep a o w q n).2⟩, gw.preo, fun a u v q => by rw [upd_ne (ne_of_none q hD)]; exact gw.frz a u v q, gw.out⟩, Sw.hid dhw _, (E2.mono (s3.trans (sb.trans sw))).out (Out.hid dhw _) rfl rfl, upd_same, (dw.append (.cons rw' .nil)).out (Out.hid dhw _), qw.2⟩
        · exact qw.elim
    · exact q2.elim
  · have ed : xs.drop i = [] := List.drop_eq_nil_of_le (by omega)
    rw [ed] at q2
    refine .inl ⟨w.stop i as2 μ2 H2 g2 S2 q2.1 (by omega), ?_⟩
    have o2 : Out as2 H2 ⟨as1.hid, as2.as, as2.own⟩ H2 := fun a o _ q n => ⟨fun z => n (by
      rcases Cs.mem_iff.mp z with z | z
      · exact Cs.mem_iff.mpr (.inl (by rw [hh]; exact List.mem_cons_of_mem _ z))
      · exact Cs.mem_iff.mpr (.inr z)), q⟩
    have nd2 : (D :: (as1.hid ++ as2.ao)).Nodup := by have := S2.nd; rw [hh] at this; exact this
    refine A (.p (.list acc)) μ2 ⟨as1.hid, as2.as, as2.own⟩ (.ref D) H2 q2.2 (s1.trans ⟨rfl, g2.pre, g2.keep, g2.preo, g2.frz⟩) ⟨(List.nodup_cons.mp nd2).2, S2.len, fun a ha => S2.hide a (by rw [hh]; exact List.mem_cons_of_mem _ ha), S2.tab, fun n a c' h1 h2 => (S2.cell n a c' h1 h2).out o2 rfl (fun _ _ _ z => z) rfl (fun _ _ _ => rfl), S2.ownd⟩ (Dz.lst ⟨(List.nodup_cons.mp nd2).1, .inl hD2⟩ (d2.out o2))
theorem ge_lc (hc : X.calm = true) (hN : X.N.Nodup) (hi : GIt X tg iter it) (ok : BlkOk X.N X.env.scope scope own)
    (hg : ∀ (s : Shared) (H : Hp) (C : Addr) (cl : List (Str × Addr)) (fp : List Addr), PG (X.blk s H scope (compEnvC scope cl C X.env) fp) tg (tgL X.K t)) (ht : ∀ (s : Shared) (H : Hp) (C : Addr) (cl : List (Str × Addr)) (fp : List Addr), GTs (X.blk s H scope (compEnvC scope cl C X.env) fp) ifs c)
    (he : ∀ (s : Shared) (H : Hp) (C : Addr) (cl : List (Str × Addr)) (fp : List Addr), GE (X.blk s H scope (compEnvC scope cl C X.env) fp) elt e) (hv : ∀ i ∈ t.ix, i ∈ own.map (·.2)) (hs : ∀ x, foldedSetIterable iter X.env x = pure x := by intro _; rfl) :
    GE X (.ListComp elt [⟨tg, iter, ifs, 0⟩] scope pos) (wLc it t c e (own.map (·.2))) :=
  ⟨PE_imp (pe_lc hc hN hi.go ok hg (fun s H C cl fp => (ht s H C cl fp).go) (fun s H C cl fp => (he s H C cl fp).go) hs) fun _ _ _ h => rdE_lc hv h⟩
end
def startW (N : List Str) (ws : List W) : Rho := ws.map some ++ List.replicate (N.length - ws.length) none
def retW (n : Nat) (Q : WK) : WK := fun w μ' => ∃ m, n ≤ m ∧ m ≤ μ'.length ∧ refOk m w ∧ Q w (μ'.take m)
def spBody (N : List Str) (n : Nat) (f : SS) : SpW := fun ws μ Q => ws.length = n ∧ f { nx := fun _ μ' => retW μ.length Q (.p .none) μ', rt := retW μ.length Q } (startW N ws) μ
theorem Rels.get {K : PySem.W.Frag} {as : Cs} {H : Hp} {ws : List W} {vs : List V} (h : Rels K as H ws vs) {i : Nat} {w : W} (e : ws[i]? = some w) : ∃ v, vs[i]? = some v ∧ Rel K as H w v := by
  induction h generalizing i with
  | nil => simp at e
  | cons r _ ih =>
    cases i with
    | zero => simp at e; subst e; exact ⟨_, rfl, r⟩
    | succ i => obtain ⟨v, a, b⟩ := ih (i := i) (by simpa using e); exact ⟨v, by simpa using a, b⟩
theorem EnvOk.start {K : PySem.W.Frag} {as : Cs} {H : Hp} {N : List Str} {ws : List W} {vs : List V} (h : Rels K as H ws vs) : EnvOk K as H (startW N ws) (L2.start N vs) := by
  have hl := h.length
  refine ⟨by simp [startW, L2.start, hl], fun i w e => ?_⟩
  unfold startW at e
  by_cases hi : i < ws.length
  · rw [List.getElem?_append_left (by simpa using hi), List.getElem?_map] at e
    cases q : ws[i]? with
    | none => rw [q] at e; cases e
    | some w' =>
      rw [q] at e
      cases e
      obtain ⟨v, h1, h2⟩ := h.get q
      refine ⟨v, ?_, h2⟩
      unfold L2.start
      rw [List.getElem?_append_left (by simpa [← hl] using hi), List.getElem?_map, h1]
      rfl
  · rw [List.getElem?_append_right (by simpa using hi), List.getElem?_replicate] at e
    split at e <;> cases e
theorem cutCells {K : PySem.W.Frag} {as as' : Cs} {H H' : Hp} {μ' : Mu} {m : Nat} (s : Stp as H as' H') (S : SimH K as' μ' H') (h : as.as.length ≤ m) (hm : m ≤ μ'.length) :
    Stp as H ⟨as'.hid, as'.as.take m, as'.own⟩ H' ∧ SimH K ⟨as'.hid, as'.as.take m, as'.own⟩ (μ'.take m) H' ∧ Out as' H' ⟨as'.hid, as'.as.take m, as'.own⟩ H' := by
  have ta : ∀ a, a ∈ (⟨as'.hid, as'.as.take m, as'.own⟩ : Cs).ao → a ∈ as'.ao := fun a z => by
    rcases Cs.ao_iff.mp z with z | z
    · exact Cs.ao_iff.mpr (.inl (List.mem_of_mem_take z))
    · exact Cs.ao_iff.mpr (.inr z)
  have o : Out as' H' ⟨as'.hid, as'.as.take m, as'.own⟩ H' := fun a o _ q n => ⟨fun z => n (by
      rcases Cs.mem_iff.mp z with z | z
      · exact Cs.mem_iff.mpr (.inl z)
      · exact Cs.mem_iff.mpr (.inr (ta a z))), q⟩
  obtain ⟨t, e⟩ := s.pre
  refine ⟨⟨s.hid, ⟨t.take (m - as.as.length), ?_⟩, fun a u w q n => ⟨fun z => (s.keep a u w q n).1 (ta a z), (s.keep a u w q n).2⟩, s.preo, s.frz⟩, ⟨?_, by simp [S.len], S.hide, S.tab, fun n a c h1 h2 => ?_, S.ownd⟩, o⟩
  · show as'.as.take m = _
    rw [e, List.take_append, List.take_of_length_le h]
  · refine S.nd.sublist ?_
    exact (List.Sublist.refl _).append ((List.take_sublist _ _).append (List.Sublist.refl _))
  · have h1 : (as'.as.take m)[n]? = some a := h1
    have hn : n < m := by
      have := (List.getElem?_eq_some_iff.mp h1).1
      simp at this; omega
    rw [List.getElem?_take_of_lt hn] at h1 h2
    exact (S.cell n a c h1 h2).out o rfl (fun j b hj z => by
      show (as'.as.take m)[j]? = _
      rw [List.getElem?_take_of_lt (by omega)]
      exact z) rfl (fun _ _ _ => rfl)
theorem Fun.okW {P : Program} {w : World} {K : PySem.W.Frag} {mg : Str → Option Value} {base : Heap} {x qual : Str} {st : Stmt} {f : Addr} {fd : FuncData} {N ps : List Str} {k : Nat} {b : SS} (F : Fun K x qual st f fd) (S : FnScope N ps (defScope st))
    (hbody : ∀ (cdv : Value) (A : Around) (outer : List Env) (s : Shared) (H : Hp) (E : XK), Room k (A.deeper (envOfC qual (defScope st) s.heap.objs.size f cdv)) → fd.code = cdv →
      GB (cxOf CX0 P w K mg base N qual (defScope st) f cdv A outer s H E).nox (defBody st) b) : FnOk P w K mg base CX0 (k + 1) f fd ps (rdSp K (spBody N ps.length b)) := by
  obtain ⟨oc, od, kV, doc, pm, an, cdv, ct, osl, rfl, lk, hcd⟩ := F.ex
  refine fn_of lk hcd S (fun vs H Q E ⟨as, μ, ws, Q0, S1, r, h, A⟩ => by rw [← r.length]; exact h.1) fun A outer s H vs Q E hr ⟨as, μ, ws, Q0, S1, r, h, Af⟩ => ⟨_, PSs.nox (hbody cdv A outer s H E hr rfl).go, as, startW N ws, μ, _, S1, EnvOk.start r, h.2, ?_⟩
  have fin : ∀ w μ' as' v H', retW μ.length Q0 w μ' → Stp as H as' H' → SimH K as' μ' H' → Rel K as' H' w v → Q v H' := fun w μ' as' v H' ⟨m, h1, h2, h3, h4⟩ s' S' r' => by
    obtain ⟨sc, Sc, o⟩ := cutCells s' S' (by rw [S1.len]; exact h1) h2
    refine Af w (μ'.take m) _ v H' h4 sc Sc ?_
    cases w with
    | p d => exact Dz.out o r'
    | r n =>
      obtain ⟨a, e, q⟩ := r'
      exact ⟨a, e, by show (as'.as.take m)[n]? = _; rw [List.getElem?_take_of_lt h3]; exact q⟩
    | t n => exact r'
    | s ds => obtain ⟨a, vs, e, q1, q2⟩ := r'; exact ⟨a, vs, e, q1.elim (fun t => .inl (o.rd nt_lst t.1 t.2)) .inr, q2.out o⟩
    | u ns =>
      obtain ⟨a, vs, e, q1, q2, q3⟩ := r'
      refine ⟨a, vs, e, (o.rd nt_tup q1 q2).1, (o.rd nt_tup q1 q2).2, ?_⟩
      exact q3.at fun k hk b eb => by show (as'.as.take m)[k]? = _; rw [List.getElem?_take_of_lt (h3 k hk)]; exact eb
    | q n j => exact r'
  exact ⟨fun ρ' μ' as' σ' H' q s' S' _ => fin _ _ _ _ _ q s' S' Dz.non, fin, fun _ _ _ _ _ q => q.elim, fun _ _ _ _ _ q => q.elim⟩
end L2.Ev
namespace L2.Ev
open PySem PySem.Spec PyProof.Rows
section
variable {X : Cx}
def cLen : SpW := fun ws μ Q => match ws with
  | [.p (.str z)] => z.length ≤ sizeLine ∧ Q (.p (.int z.length)) μ
  | [.p (.tuple xs)] => Q (.p (.int xs.length)) μ
  | [w] => match rlOf μ w with | some xs => Q (.p (.int xs.length)) μ | none => False
  | _ => False
theorem gc_len : GC X (.builtin "len") cLen := ⟨CallR_imp call_len fun vs H Q ⟨as, μ, ws, Q0, S, r, h, A⟩ => by
  unfold cLen at h
  split at h
  · cases r with
    | cons r1 r2 =>
      cases r2
      cases r1
      exact ⟨_, _, rfl, ⟨h.1, rfl⟩, A.now S h.2 (Dz.int _)⟩
  · cases r with
    | cons r1 r2 =>
      cases r2
      cases r1 with
      | tup t d => exact ⟨_, _, rfl, .inr ⟨_, t.sq, d.length.symm⟩, A.now S h (Dz.int _)⟩
  · cases r with
    | cons r1 r2 =>
      cases r2
      split at h
      · rename_i xs e
        obtain ⟨a, vs, rfl, s1, d1⟩ := rlOf_sq S r1 e
        exact ⟨_, _, rfl, .inl ⟨_, s1, d1.length.symm⟩, A.now S h (Dz.int _)⟩
      · exact h.elim
  · exact h.elim⟩
def cInt : SpW := fun ws μ Q => match ws with
  | [.p (.int i)] => Q (.p (.int i)) μ
  | [.p (.bool b)] => Q (.p (.int (if b then 1 else 0))) μ
  | _ => False
theorem gc_int : GC X (.type "int") cInt := ⟨CallR_imp call_int1 fun vs H Q ⟨as, μ, ws, Q0, S, r, h, A⟩ => by
  unfold cInt at h
  split at h
  · cases r with
    | cons r1 r2 => cases r2; cases r1; exact .inl ⟨_, rfl, A.now S h (Dz.int _)⟩
  · cases r with
    | cons r1 r2 => cases r2; cases r1; exact .inr ⟨_, rfl, A.now S h (Dz.int _)⟩
  · exact h.elim⟩
theorem max_if (i j : Int) : (if j > i then j else i) = max i j := by rw [Int.max_def]; split <;> split <;> omega
theorem min_if (i j : Int) : (if j < i then j else i) = min i j := by rw [Int.min_def]; split <;> split <;> omega
def cMax : SpW := fun ws μ Q => match ws with
  | [.p (.int i), .p (.int j)] => Q (.p (.int (max i j))) μ
  | _ => False
def cMin : SpW := fun ws μ Q => match ws with
  | [.p (.int i), .p (.int j)] => Q (.p (.int (min i j))) μ
  | _ => False
theorem gc_max (hc : X.calm = true) : GC X (.builtin "max") cMax := ⟨CallR_imp (call_max2 hc) fun vs H Q ⟨as, μ, ws, Q0, S, r, h, A⟩ => by
  unfold cMax at h
  split at h
  · cases r with
    | cons r1 r2 =>
      cases r1
      cases r2 with
      | cons r2 r3 =>
        cases r3; cases r2
        refine ⟨_, _, rfl, A.now S h ?_⟩
        rw [← max_if]
        exact Dz.int _
  · exact h.elim⟩
theorem gc_min (hc : X.calm = true) : GC X (.builtin "min") cMin := ⟨CallR_imp (call_min2 hc) fun vs H Q ⟨as, μ, ws, Q0, S, r, h, A⟩ => by
  unfold cMin at h
  split at h
  · cases r with
    | cons r1 r2 =>
      cases r1
      cases r2 with
      | cons r2 r3 =>
        cases r3; cases r2
        refine ⟨_, _, rfl, A.now S h ?_⟩
        rw [← min_if]
        exact Dz.int _
  · exact h.elim⟩
def cTuple : SpW := fun ws μ Q => match ws with
  | [.p (.tuple xs)] => Q (.p (.tuple xs)) μ
  | [w] => match rlOf μ w with | some xs => Q (.p (.tuple xs)) μ | none => False
  | _ => False
theorem gc_tuple : GC X (.type "tuple") cTuple := ⟨CallR_imp call_tuple_of fun vs H Q ⟨as, μ, ws, Q0, S, r, h, A⟩ => by
  unfold cTuple at h
  split at h
  · cases r with
    | cons r1 r2 =>
      cases r2
      cases r1 with
      | tup t d => exact ⟨_, _, rfl, .inr ⟨t.sq, A.now S h (Dz.tup t d)⟩⟩
  · cases r with
    | cons r1 r2 =>
      cases r2
      split at h
      · rename_i xs e
        obtain ⟨a, vs, rfl, s1, d1⟩ := rlOf_sq S r1 e
        exact ⟨_, _, rfl, .inl ⟨s1, A.tup S d1 h⟩⟩
      · exact h.elim
  · exact h.elim⟩
def tyW (μ : Mu) : W → Option String
  | .p .none => some "NoneType"
  | .p (.bool _) => some "bool"
  | .p (.int _) => some "int"
  | .p (.str _) => some "str"
  | .p (.list _) => some "list"
  | .p (.tuple _) => some "tuple"
  | .p (.dict _) => some "dict"
  | .r n => match μ[n]? with | some (.lst _) => some "list" | _ => none
  | .s _ => some "list"
  | _ => none
def isT (T U : String) : Bool := T == U || (T == "bool" && U == "int")
def cIsi : SpW := fun ws μ Q => match ws with
  | [w, .t U] => match tyW μ w with
    | some T => (U = "int" ∨ U = "bool" ∨ U = "str" ∨ U = "tuple" ∨ U = "list") ∧ Q (.p (.bool (isT T U))) μ
    | none => False
  | _ => False
theorem kit_all {K : PySem.W.Frag} {T U : String} (hT : T = "NoneType" ∨ T = "bool" ∨ T = "int" ∨ T = "str" ∨ T = "list" ∨ T = "tuple" ∨ T = "dict") (hU : U = "int" ∨ U = "bool" ∨ U = "str" ∨ U = "tuple" ∨ U = "list") : PySem.W.kitOne K (.type T) (.type U) = some (isT T U) := by
  rcases hT with rfl | rfl | rfl | rfl | rfl | rfl | rfl <;> rcases hU with rfl | rfl | rfl | rfl | rfl <;> with_unfolding_all rfl
theorem call_isi {H : Hp} {pins : List (Addr × Obj)} {σ : St} {s : Shared} {x : V} {u : Value} {T U : String} {Q : VK} (I : Inv X pins σ H s) (r : RelV x u)
    (hx : match x with | .non => T = "NoneType" | .bl _ => T = "bool" | .int _ => T = "int" | .str _ => T = "str" | .ref a => (T = "list" ∧ ∃ xs, SqL X.K H a xs) ∨ (T = "tuple" ∧ ∃ xs, SqT X.K H a xs) ∨ (T = "dict" ∧ ∃ us, Rd H a (.dK us)) | _ => False)
    (hU : U = "int" ∨ U = "bool" ∨ U = "str" ∨ U = "tuple" ∨ U = "list") (q : Q (.bl (isT T U)) H) : wpAny (model X.prog X.w) X.A (call (.builtin "isinstance") [u, .type U]) (EP X pins σ Q) X.xe s := by
  have fin : ∀ tk, EP X pins σ Q (.bool (isT T U)) { s with toks := tk } := fun tk => ⟨.bl _, H, I.tok tk, rfl, q⟩
  cases x with
  | non => cases r; cases hx; exact PySem.W.kia_one (K := X.K) PySem.W.kitx_none I.kIn trivial (kit_all (by simp) hU) (by intro z; cases z) fin
  | bl b => cases r; cases hx; exact PySem.W.kia_one (K := X.K) PySem.W.kitx_bool I.kIn trivial (kit_all (by simp) hU) (by intro z; cases z) fin
  | int i => obtain ⟨t, rfl⟩ := r; cases hx; exact PySem.W.kia_one (K := X.K) PySem.W.kitx_int I.kIn trivial (kit_all (by simp) hU) (by intro z; cases z) fin
  | str i => obtain ⟨t, rfl⟩ := r; cases hx; exact PySem.W.kia_one (K := X.K) PySem.W.kitx_str I.kIn trivial (kit_all (by simp) hU) (by intro z; cases z) fin
  | ref a =>
    cases r
    rcases hx with ⟨rfl, xs, h⟩ | ⟨rfl, xs, h⟩ | ⟨rfl, us, h⟩
    · obtain ⟨its, _, ⟨o, n, e, c, _⟩, _⟩ := I.list h
      exact PySem.W.kia_one (K := X.K) PySem.W.kitx_list I.kIn ⟨o, e, c⟩ (kit_all (by simp) hU) (by intro z; cases z) fin
    · obtain ⟨its, _, ⟨o, e, c, _⟩, _⟩ := I.tuple h
      exact PySem.W.kia_one (K := X.K) PySem.W.kitx_tuple I.kIn ⟨o, e, c⟩ (kit_all (by simp) hU) (by intro z; cases z) fin
    · obtain ⟨_, _, vs, _, o, es, ep, e, c, _⟩ := dk_rd I.hok h
      exact PySem.W.kia_one (K := X.K) PySem.W.kitx_dict I.kIn ⟨o, e, c.1⟩ (kit_all (by simp) hU) (by intro z; cases z) fin
  | _ => exact hx.elim
theorem gc_isi : GC X (.builtin "isinstance") cIsi := ⟨by
  intro pins s σ H xs us Q I rx ⟨as, μ, ws, Q0, S, r, h, A⟩
  unfold cIsi at h
  split at h
  · rename_i w U
    split at h
    · rename_i T hT
      cases r with
      | cons r1 r2 =>
        cases r2 with
        | cons r2 r3 =>
          cases r3
          have r2 := (show _ = V.ty U from r2)
          subst r2
          cases rx with
          | cons ru rx =>
            cases rx with
            | cons ru2 rx =>
              cases rx
              cases ru2
              refine call_isi I ru ?_ h.1 (A.now S h.2 (Dz.bl _))
              cases w with
              | p d =>
                cases d with
                | none => cases r1; cases hT; rfl
                | bool b => cases r1; cases hT; rfl
                | int b => cases r1; cases hT; rfl
                | str b => cases r1; cases hT; rfl
                | list b => cases r1 with | lst t d => cases hT; exact .inl ⟨rfl, _, t.sq⟩
                | tuple b => cases r1 with | tup t d => cases hT; exact .inr (.inl ⟨rfl, _, t.sq⟩)
                | dict b => cases r1 with | dct n r k d => cases hT; exact .inr (.inr ⟨rfl, _, r.rd⟩)
              | r n =>
                simp only [tyW] at hT
                split at hT
                · rename_i c hc
                  cases hT
                  obtain ⟨a, rfl, ha⟩ := r1
                  obtain ⟨vs, h1, _⟩ := S.cell n a _ ha hc
                  exact .inl ⟨rfl, vs, .of h1⟩
                · cases hT
              | t n => cases hT
              | s ds => cases hT; obtain ⟨a, vs, rfl, t, _⟩ := r1; exact .inl ⟨rfl, vs, t.sq⟩
              | u ds => cases hT
              | q n j => cases hT
    · exact h.elim
  · exact h.elim⟩
def oIs : O2 := fun x y μ Q => match x, y with
  | .p (.bool c), .p (.bool b) => Q (.p (.bool (c == b))) μ
  | x, .p .none => Q (.p (.bool (isNo x))) μ
  | _, _ => False
def oIsNot : O2 := fun x y μ Q => match x, y with
  | .p (.bool c), .p (.bool b) => Q (.p (.bool (!(c == b)))) μ
  | x, .p .none => Q (.p (.bool (!isNo x))) μ
  | _, _ => False
theorem op_isB : OpR X (compareOp .Is) (fun x y H Q => ∃ c d, x = .bl c ∧ y = .bl d ∧ Q (.bl (c == d)) H) := by
  intro pins s σ H x y v u Q I rx ry ⟨c, d, e1, e2, q⟩
  subst e1 e2
  cases rx; cases ry
  exact is_bool ⟨.bl _, H, I, rfl, q⟩
theorem op_notB : OpR X (compareOp .IsNot) (fun x y H Q => ∃ c d, x = .bl c ∧ y = .bl d ∧ Q (.bl (!(c == d))) H) := by
  intro pins s σ H x y v u Q I rx ry ⟨c, d, e1, e2, q⟩
  subst e1 e2
  cases rx; cases ry
  exact isnot_bool ⟨.bl _, H, I, rfl, q⟩
theorem go_is : GO X (compareOp .Is) oIs := ⟨OpR_imp (op_isB.or op_isN) fun x y H Q ⟨as, μ, w1, w2, Q0, S, r1, r2, q, A⟩ => by
  unfold oIs at q
  split at q
  · cases r1; cases r2
    exact .inl ⟨_, _, rfl, rfl, A.now S q (Dz.bl _)⟩
  · cases r2
    exact .inr ⟨rfl, A.now S q (by rw [isN_iff r1]; exact Dz.bl _)⟩
  · exact q.elim⟩
theorem go_isNot : GO X (compareOp .IsNot) oIsNot := ⟨OpR_imp (op_notB.or op_notN) fun x y H Q ⟨as, μ, w1, w2, Q0, S, r1, r2, q, A⟩ => by
  unfold oIsNot at q
  split at q
  · cases r1; cases r2
    exact .inl ⟨_, _, rfl, rfl, A.now S q (Dz.bl _)⟩
  · cases r2
    exact .inr ⟨rfl, A.now S q (by rw [isN_iff r1]; exact Dz.bl _)⟩
  · exact q.elim⟩
def wApp (fo fe : SE) : SE := fun ρ μ Q => fo ρ μ fun o μ1 => (match o with | .r n => (match μ1[n]? with | some (.lst _) => True | _ => False) | _ => False) ∧ fe ρ μ1 fun y μ2 => match o, y with
  | .r n, .p d => match μ2[n]? with
    | some (.lst xs) => xs.length < sizeLine ∧ Q (.p .none) (μ2.set n (.lst (xs ++ [d])))
    | _ => False
  | _, _ => False
theorem ge_app {o e : Expr} {fo fe : SE} {apos cpos : Pos} (ho : GE X o fo) (he : GE X e fe) (hbase : attributeBase o "append" X.env (eval o X.env) = eval o X.env := by rfl)
    (hfew : ((backTo cpos (starEach [e] X.env)).all (fun x => !x.1) && (backToKw cpos (keywordEach [] X.env)).all (fun x => x.1.isSome)
      && decide ([e].length + ([] : List Keyword).length + (if ([] : List Keyword).isEmpty then 0 else 1) < 30)) = true := by rfl)
    (hline : (apos.endLine == cpos.line) = true := by rfl) (hs : starEach [e] X.env = (false, eval e X.env) :: starEach [] X.env := by rfl) (hplain : (backTo cpos (starEach [] X.env)).any (·.1) = false := by rfl) :
    GE X (.Call (.Attribute o "append" apos) [e] [] cpos) (wApp fo fe) := ⟨PE_imp (pe_bm PySem.F.plainAttrs_list PySem.F.slot_list_append PySem.F.type_list_append mt_append ho.go (pa_cons he.go pa_nil hs) hbase hfew hline hs hplain) fun σ H Q ⟨as, ρ, μ, Q0, S, E, h, A⟩ =>
  ⟨as, ρ, μ, _, S, E, h, fun w μ1 as1 v H1 q1 s1 S1 r1 => by
    obtain ⟨z, q1⟩ := q1
    split at z
    · rename_i n
      split at z
      · rename_i xs0 hc0
        obtain ⟨a, rfl, ha⟩ := r1
        obtain ⟨vs0, h0, _⟩ := S1.cell n a _ ha hc0
        refine ⟨.inl ⟨rfl, _, SqL.of h0⟩, as1, ρ, μ1, _, S1, E.mono s1, q1, fun y μ2 as2 v2 H2 q2 s2 S2 r2 => ?_⟩
        split at q2
        · rename_i n' d heq
          cases heq
          split at q2
          · rename_i xs hc
            have ha2 : as2.as[n]? = some a := by
              obtain ⟨t, e⟩ := s2.pre
              rw [e, List.getElem?_append_left (List.getElem?_eq_some_iff.mp ha).1]; exact ha
            obtain ⟨vs, h1, h2⟩ := S2.cell n a _ ha2 hc
            have hm := List.mem_of_getElem? ha2
            refine ⟨a, vs, _, rfl, rfl, h1, by rw [h2.length]; exact q2.1, A _ _ as2 _ _ q2.2 (s1.trans (s2.trans (Stp.write hm _))) (S2.write ha2 _ _ ⟨_, upd_same, (h2.append (.cons r2 .nil)).mono (Stp.write hm _)⟩) Dz.non⟩
          · exact q2.elim
        · exact q2.elim
      · exact z.elim
    · exact z.elim⟩⟩
end
end L2.Ev
namespace L2.Ev
open PySem PySem.Spec PyProof.Rows
end L2.Ev
namespace L2.Ev
open PySem PySem.Spec PyProof.Rows
section
variable {X : Cx} {pos : Pos}
def wNeg (f : SE) : SE := fun ρ μ Q => f ρ μ fun x μ1 => match x with | .p (.int i) => Q (.p (.int (-i))) μ1 | _ => False
theorem ge_neg {a : Expr} {f : SE} (ha : GE X a f) : GE X (.UnaryOp .USub a pos) (wNeg f) := ⟨PE_imp (pe_un un_neg ha.go) fun σ H Q ⟨as, ρ, μ, Q0, S, E, h, A⟩ =>
  ⟨as, ρ, μ, _, S, E, h, fun w μ1 as1 v H1 q1 s1 S1 r1 => by
    split at q1
    · cases r1
      exact ⟨_, rfl, A _ _ _ _ _ q1 s1 S1 (Dz.int _)⟩
    · exact q1.elim⟩⟩
end
end L2.Ev
namespace L2.Ev
open PySem PySem.Spec PyProof.Rows
section
variable {prog : Program} {w : World}
end
theorem Inv.tab {X : Cx} {pins : List (Addr × Obj)} {σ : List (Option V)} {H : Hp} {s : Shared} {P : Addr} {ps more : Array Value} {h' : Heap} {g' : Array GenState} {t' : Nat} {d' : Drawn} (I : Inv X pins σ H s) (hP : H P = some (.tbl ps))
    (k : ∀ b o, b ≠ P → s.heap.get? b = some o → h'.get? b = some o) (hnew : h'.get? P = some (PySem.W.tabObj (ps ++ more))) (hg : AllBare g') :
    Inv X pins σ (upd H P (.tbl (ps ++ more))) { s with heap := h', gens := g', drawn := d', toks := t' } := by
  have nP : ∀ b, H b = none → b ≠ P := fun b n z => by subst z; rw [n] at hP; cases hP
  refine I.step (ch := []) (fun _ z => nomatch z) (fun b o _ _ _ e n => k b o (nP b n) e) (fun b o _ _ _ e n => ⟨o.slots, k b o (nP b n) e⟩) (fun b o _ e n => by rw [upd_ne (nP b n)]; exact n) (fun b o _ e => ?_) (fun b xs e => ?_) (fun b o u e => ?_) (fun b qs e => ?_) (fun m hm => ?_) (fun b u e => ?_) hg
  · by_cases hb : b = P
    · subst hb; exact ⟨_, hnew⟩
    · exact ⟨o, k b o hb e⟩
  · rw [upd_ne (fun z => by subst z; rw [e] at hP; cases hP)]; exact e
  · rw [upd_ne (fun z => by subst z; rw [e] at hP; cases hP)]; exact e
  · by_cases hb : b = P
    · subst hb
      rw [e] at hP; cases hP
      exact ⟨more, upd_same⟩
    · exact ⟨#[], by rw [upd_ne hb, e]; simp⟩
  · obtain ⟨o, es, ep, ho, r⟩ := hm
    exact ⟨o, es, ep, k _ o (nP _ I.free) ho, r⟩
  · by_cases hb : b = P
    · subst hb
      rw [upd_same] at e; cases e
      exact hnew
    · rw [upd_ne hb] at e
      refine (I.hok b u e).stay (fun c v hc q => k c v ?_ q) (fun c q => by rw [upd_ne (fun z => by subst z; rw [q] at hP; cases hP)]; exact q) fun c xs q => by rw [upd_ne (fun z => by subst z; rw [q] at hP; cases hP)]; exact q
      rcases hc with rfl | hc
      · exact hb
      · exact fun z => by subst z; rw [hc] at hP; cases hP
structure GenB (K : PySem.W.Frag) (mg : Str → Option Value) (base : Heap) : Prop where
  bmod : ∃ bm ob, BMod base mainGlobals mg bm ob
  code : ∀ c o P, K.lookup c = some o → tabOf o = some P → PySem.W.CodeHd base c P
theorem Stp.tab {as : Cs} {H : Hp} {P : Addr} {ps : Array Value} (hP : H P = some (.tbl ps)) (o : HO) : Stp as H as (upd H P o) :=
  ⟨rfl, ⟨[], by simp⟩, fun a u w h n => ⟨n, by rw [upd_ne (fun z => by subst z; rw [h] at hP; cases hP; exact w ps rfl)]; exact h⟩, ⟨[], by simp⟩, fun a u v h => by rw [upd_ne (fun z => by subst z; rw [h] at hP; cases hP)]; exact h⟩
end L2.Ev
namespace L2.Ev
open PySem PySem.Spec PyProof.Rows
theorem dz_ints {K : PySem.W.Frag} {as : Cs} {H : Hp} : ∀ ns : List Int, DzAll K as H (ns.map V.int) (ns.map PyData.int)
  | [] => .nil
  | _ :: ns => .cons (.int _) (dz_ints ns)
noncomputable def H1 (K : PySem.W.Frag) (a : Addr) (u : Option HO) : Hp := fun b => open Classical in if IsTab K b then some (.tbl #[]) else if b = a then u else none
theorem H1_tab {K : PySem.W.Frag} {a b : Addr} {u : Option HO} (h : IsTab K b) : H1 K a u b = some (.tbl #[]) := if_pos h
theorem H1_a {K : PySem.W.Frag} {a : Addr} {u : Option HO} (h : ¬ IsTab K a) : H1 K a u a = u := (if_neg h).trans (if_pos rfl)
theorem H1_no {K : PySem.W.Frag} {a b : Addr} {u : Option HO} (h : ¬ IsTab K b) (n : b ≠ a) : H1 K a u b = none := (if_neg h).trans (if_neg n)
theorem callG {P : Program} {w : World} {K : PySem.W.Frag} {mg mb : Str → Option Value} {k : Nat} {fa a : Addr} {fd : FuncData} {x : Str} {sp : Sp} {s₁ : Shared} {vs : List Value} {ns : List Int}
    (KX : K.In s₁.heap) (hns : s₁.heap.Ns mainGlobals mg) (hb : s₁.heap.Ns builtinsNs mb) (hbb : ∀ x : Str, x ≠ "__name__" → mb x = bootBuiltins x) (hlim : s₁.heap.NoLimit) (hg : s₁.gens = #[]) (hB : ∃ bm ob, BMod s₁.heap mainGlobals mg bm ob)
    (hT : ∀ c o P, K.lookup c = some o → tabOf o = some P → PySem.W.CodeHd s₁.heap c P ∧ s₁.heap.TableAt c P #[])
    (ha : s₁.heap.get? a = some { cls := .type "list", data := .seq vs.toArray }) (hi : IntsAre vs ns) (hl : ns.length ≤ sizeLine) (hr : Room k callerA)
    (F : ∀ base : Heap, K.In base → base.Ns mainGlobals mg → GenB K mg base → FnOk P w K mg base CX0 k fa fd [x] sp) (hbind : ∀ (s : Shared) (u : Value), BindsTo s fd ⟨[u], []⟩ [(x, u)])
    (hK : PySem.W.noTabs K = true)
    (hsp : ∀ H : Hp, (∀ P, IsTab K P → H P = some (.tbl #[])) → SqL K H a (ns.map V.int) ∧ (Rd H a (.lst (ns.map V.int)) ∨ KeptL K a) → sp [.ref a] H (fun v _ => v = .bl true) fun _ _ _ => False) :
    codeAny (model P w) callerA (.call (.ref fa) ⟨[.ref a], []⟩) (fun r s' => r = .ok (.ret (.bool true)) ∧ OldK s₁.heap s'.heap ∧ s'.os = s₁.os ∧ AllBare s'.gens) s₁ := by
  have rv := vals_ints hi
  have lenV := hi.length
  have tObj : ∀ Q, IsTab K Q → s₁.heap.get? Q = some (PySem.W.tabObj #[]) := fun Q ⟨c, o, e, h⟩ => (hT c o Q e h).2.2
  have aT : ¬ IsTab K a := fun h => by have := tObj a h; rw [ha] at this; cases this
  have kT : ∀ b o, K.lookup b = some o → ¬ IsTab K b := fun b o e h => by
    have h1 := KX b o e
    rw [tObj b h] at h1
    cases h1
    have h2 := List.all_eq_true.mp hK (b, _) (PySem.W.mem_of_lookupK e)
    exact absurd (show false = true from h2) Bool.false_ne_true
  have core : ∀ u : Option HO, (u = none ∨ u = some (.frz { cls := .type "list", data := .seq vs.toArray } (.lst (ns.map V.int)))) → SqL K (H1 K a u) a (ns.map V.int) ∧ (Rd (H1 K a u) a (.lst (ns.map V.int)) ∨ KeptL K a) → (u ≠ none → K.lookup a = none) →
      codeAny (model P w) callerA (.call (.ref fa) ⟨[.ref a], []⟩) (fun r s' => r = .ok (.ret (.bool true)) ∧ OldK s₁.heap s'.heap ∧ s'.os = s₁.os ∧ AllBare s'.gens) s₁ := by
    intro u hu hS hKa
    generalize hH : H1 K a u = H at hS
    have cases3 : ∀ b, (IsTab K b ∧ H b = some (.tbl #[])) ∨ (¬ IsTab K b ∧ b = a ∧ H b = u) ∨ (¬ IsTab K b ∧ b ≠ a ∧ H b = none) := fun b => by
      rw [← hH]
      by_cases h : IsTab K b
      · exact .inl ⟨h, H1_tab h⟩
      · by_cases e : b = a
        · subst e; exact .inr (.inl ⟨h, rfl, H1_a h⟩)
        · exact .inr (.inr ⟨h, e, H1_no h e⟩)
    have hok : HOk P w H s₁.heap := fun b o e => by
      rcases cases3 b with ⟨h, q⟩ | ⟨h, rfl, q⟩ | ⟨h, n, q⟩
      · rw [q] at e; cases e; exact tObj b h
      · rw [q] at e
        subst e
        rcases hu with hu | hu
        · cases hu
        · cases hu; exact ⟨ha, by rw [List.length_map]; exact hl, vs, _, rv, ha⟩
      · rw [q] at e; cases e
    have un3 : ∀ {b : Addr} {o : Obj}, s₁.heap.get? b = some o → o ≠ PySem.W.tabObj #[] → (b = a → u = none) → H b = none := fun {b o} e hne hba => by
      rcases cases3 b with ⟨h, q⟩ | ⟨h, e', q⟩ | ⟨h, n, q⟩
      · have := tObj b h; rw [e] at this; exact absurd (Option.some.inj this) hne
      · rw [q]; exact hba e'
      · exact q
    have unO : ∀ {b : Addr} {o : Obj}, s₁.heap.get? b = some o → o ≠ PySem.W.tabObj #[] → o.cls ≠ .type "list" → H b = none := fun {b o} e hne hc => un3 e hne fun z => by subst z; rw [ha] at e; cases e; exact absurd rfl hc
    have nsK : ∀ {b : Addr} {m : Str → Option Value}, s₁.heap.Ns b m → (hidT s₁.heap H).Ns b m := fun {b m} ⟨o, es, ep, e, d, r⟩ => ⟨o, es, ep, hidT_get e (un3 e (fun z => by subst z; cases d) fun z => by subst z; rw [ha] at e; cases e; cases d), d, r⟩
    have hKb : K.In (hidT s₁.heap H) := fun b o e => hidT_get (KX b o e) (by
      rcases cases3 b with ⟨h, q⟩ | ⟨h, e', q⟩ | ⟨h, n, q⟩
      · exact absurd h (kT b o e)
      · subst e'
        cases hu' : u with
        | none => rw [q, hu']
        | some _ => rw [hKa (by rw [hu']; simp)] at e; cases e
      · exact q)
    have hM : Mod K mg (hidT s₁.heap H) := ⟨hKb, nsK hns, ⟨mb, nsK hb, hbb⟩, let ⟨mc, h1, h2⟩ := hlim; ⟨mc, nsK h1, h2⟩⟩
    have hG : GenB K mg (hidT s₁.heap H) := by
      refine ⟨?_, fun c o P' e h => ?_⟩
      · obtain ⟨bm, ob, B⟩ := hB
        exact ⟨bm, ob, nsK B.ns, B.name, B.ne, hidT_get B.obj (unO B.obj (fun z => by have := B.cls; rw [z] at this; cases this) (by rw [B.cls]; decide)), B.cls, B.dict, B.data⟩
      · obtain ⟨oc, vc, file, tf, flags, tg, inF, text, tt, e1, e2, e3, r⟩ := (hT c o P' e h).1
        exact ⟨oc, vc, file, tf, flags, tg, inF, text, tt, hidT_get e1 (unO e1 (fun z => by rw [z] at e2; cases e2) (by rw [e2]; decide)), e2, e3, r⟩
    have e0 : Env0 P w K mg (hidT s₁.heap H) callerA [] s₁ H := ⟨rfl, hM, fun b o e => of_hidT e, Nat.le_of_eq (hidT_size _ _), trivial, fun b hb => absurd (show b ∈ ([] : List Addr) from hb) (by simp), hok, .of_eq hg⟩
    refine codeAny_mono ((F _ hKb (nsK hns) hG).run callerA [] s₁ H ⟨[.ref a], []⟩ [.ref a] [.ref a] _ _ hr e0 (hbind s₁ (.ref a)) (.cons rfl .nil) (hsp H (fun P' h => by rcases cases3 P' with ⟨_, q⟩ | ⟨n, _⟩ | ⟨n, _⟩; exact q; exact absurd h n; exact absurd h n) hS)) fun r s' h => ?_
    cases r with
    | error e => exact h.elim
    | ok fl =>
      cases fl with
      | next => exact False.elim h
      | brk => exact False.elim h
      | cont => exact False.elim h
      | ret u' =>
        obtain ⟨v, H', os, bare, un, hok', r', q⟩ := h
        have q' : v = .bl true := q
        subst q'
        obtain rfl : u' = Value.bool true := r'
        have kept : ∀ b o, s₁.heap.get? b = some o → ¬ IsTab K b → s'.heap.get? b = some o := fun b o e hn => by
          rcases cases3 b with ⟨h, _⟩ | ⟨h, e', qa⟩ | ⟨h, n, qn⟩
          · exact absurd h hn
          · subst e'
            rcases hu with hu | hu
            · rw [hu] at qa
              exact un.keep b o e qa (by intro z; exact absurd (show b ∈ ([] : List Addr) from z) (by simp)) (by simp)
            · rw [hu] at qa
              have z2 := un.frzs b _ _ qa
              obtain ⟨e1, _⟩ := hok b _ qa
              obtain ⟨e2, _⟩ := hok' b _ z2
              rw [e] at e1; cases e1
              exact e2
          · exact un.keep b o e qn (by intro z; exact absurd (show b ∈ ([] : List Addr) from z) (by simp)) (by simp)
        have tab' : ∀ b, IsTab K b → ∃ more, s'.heap.get? b = some (PySem.W.tabObj more) := fun b h => by
          rcases cases3 b with ⟨_, qt⟩ | ⟨n, _⟩ | ⟨n, _⟩
          · obtain ⟨more, em⟩ := un.tbls b _ qt
            exact ⟨#[] ++ more, hok' b _ em⟩
          · exact absurd h n
          · exact absurd h n
        refine ⟨rfl, ⟨fun b o e => ?_, fun b o e => ?_⟩, os, bare⟩
        · by_cases h : IsTab K b
          · obtain ⟨more, em⟩ := tab' b h
            have eo := tObj b h
            rw [e] at eo; cases eo
            obtain ⟨c, o', e1, e2⟩ := h
            exact .inr (.inl ⟨(hT c o' b e1 e2).2.isCodeTable, rfl, #[], more, rfl, by simpa using em⟩)
          · exact .inl (kept b o e h)
        · by_cases h : IsTab K b
          · obtain ⟨more, em⟩ := tab' b h
            exact ⟨_, em⟩
          · exact ⟨o, kept b o e h⟩
  cases hk : K.lookup a with
  | some o =>
    have e := KX a o hk
    rw [ha] at e
    cases e
    exact core none (.inl rfl) ⟨.inr ⟨_, vs.toArray, _, hk, rfl, rfl, rfl, by rw [List.size_toArray, lenV]; exact hl, by simpa using rv⟩, .inr ⟨_, _, hk⟩⟩ fun z => absurd rfl z
  | none => exact core _ (.inr rfl) ⟨.inl (.inr ⟨_, H1_a aT⟩), .inl (.inr ⟨_, H1_a aT⟩)⟩ fun _ => hk
def codesOf (K : PySem.W.Frag) : List Addr := K.filterMap fun p => if (tabOf p.2).isSome = true then some p.1 else none
theorem own_mem {K : PySem.W.Frag} {c : Addr} {o : Obj} {P : Addr} (e : K.lookup c = some o) (h : tabOf o = some P) : c ∈ codesOf K := List.mem_filterMap.mpr ⟨(c, o), PySem.W.mem_of_lookupK e, by simp [h]⟩
def Owned (q : Program) (K : PySem.W.Frag) (mg : Str → Option Value) (c : Addr) : Prop :=
  ∃ (name : Str) (d : DefRec) (f : Addr) (oc : Value) (od : Option Addr) (fd : FuncData) (osl : Array (Option Value)), (recsOf q).find? (fun e => e.name == name) = some d ∧ mg name = some (.ref f) ∧ K.lookup f = some ⟨oc, od, .func fd, osl⟩ ∧ fd.code = .ref c
theorem own_none {q : Program} {K : PySem.W.Frag} {mg : Str → Option Value} (hcs : codesOf K = []) : ∀ c o P, K.lookup c = some o → tabOf o = some P → Owned q K mg c := fun c o P e h => by
  have := own_mem e h
  rw [hcs] at this
  simp at this
theorem walkW {l : PySem.W.OpenLaw} {k : Nat} {q : Program} {loose : List Str} {XP : (Str → Option Value) → Heap → Prop} {YP : World → Heap → Prop} {d : DefRec} {K : Params → PySem.W.Frag} {x : Str} {sp : SpW}
    (hn : l.most = some 63) (hdf : d.params.defaults = []) (hr : Room k callerA)
    (hY : ∀ (w : World) (h : Heap), YP w h → (K w.params).In h) (hK : ∀ w : World, PySem.W.noTabs (K w.params) = true)
    (hO : ∀ (w : World) (mg : Str → Option Value) (h : Heap), (K w.params).In h → h.Ns mainGlobals mg → ∀ c o P, (K w.params).lookup c = some o → tabOf o = some P →
      Owned q (K w.params) mg c)
    (F : ∀ (w : World) (mg : Str → Option Value) (fa : Addr) (h : Heap), (K w.params).In h → h.Ns mainGlobals mg → mg d.name = some (.ref fa) →
      ∃ fd : FuncData, (∀ (s : Shared) (u : Value), BindsTo s fd ⟨[u], []⟩ [(x, u)]) ∧
        ∀ base : Heap, (K w.params).In base → base.Ns mainGlobals mg → GenB (K w.params) mg base → FnOk l.prog w (K w.params) mg base CX0 k fa fd [x] (rdSp (K w.params) sp))
    (hsp : ∀ ns : List Int, ns.length ≤ 63 → sp [.s (ns.map PyData.int)] [] (fun w _ => w = .p (.bool true))) :
    PySem.W.WalkO q loose XP YP l.row.toRowW d [] (fun f vs => PySem.call f vs) := by
  refine Att.attach_call hn hdf fun w s₀ s₁ mg mb fa o pm cd doc a vs ns G Y ho hd hcd hmg hobj hints hlen hg => ?_
  have KX := hY w _ Y
  obtain ⟨fd, hb, hF⟩ := F w mg fa _ KX G.T.g hmg
  refine callG KX G.T.g G.T.b G.T.builtins G.T.nolimit hg (PySem.W.bmod_of_top G.T) (fun c o P e h => ?_) hobj hints (Nat.le_trans hlen (by decide)) hr hF hb (hK w) fun H hH hS => ?_
  · obtain ⟨name, d', f, oc, od, fd', osl, f1, f2, f3, f4⟩ := hO w mg _ KX G.T.g c o P e h
    obtain ⟨c', P', h1, B⟩ := PySem.W.based_of_top G.T f1 f2 (KX f _ f3) rfl
    rw [f4] at h1
    cases h1
    have ht := B.tab
    have hcd' := B.code
    obtain ⟨⟨o2, vs2, e1, e2, e3, e4⟩, _⟩ := id ht
    have eo := KX c o e
    rw [e1] at eo
    cases eo
    have eP : P' = P := by
      unfold tabOf at h
      rw [e2, e3] at h
      simp only at h
      split at h
      · split at h
        · rw [e4] at h; cases h; rfl
        · cases h
      · cases h
    subst eP
    exact ⟨PySem.W.CodeHd.of hcd' ht, ht⟩
  · have nm : a ∉ (⟨[], [], []⟩ : Cs) := fun z => by have := Cs.mem_iff.mp z; simp [Cs.ao] at this
    refine ⟨⟨[], [], []⟩, [], [.s (ns.map PyData.int)], _, ⟨by simp [Cs.ao], rfl, fun a h => by simp at h, fun P h => ⟨#[], hH P h, trivial⟩, fun n a c h => by simp at h, fun p h => by simp at h⟩, .cons ⟨a, _, rfl, ?_, dz_ints ns⟩ .nil, hsp ns hlen, fun w' μ' as' v H' e _ _ r => ?_⟩
    · obtain ⟨hS, hE⟩ := hS
      rcases hE with h | h
      · exact .inl ⟨nm, h⟩
      · rcases hS with h2 | h2
        · exact .inl ⟨nm, h2⟩
        · exact .inr ⟨.inr h2, h⟩
    · subst e
      cases r
      rfl
end L2.Ev
namespace L2.Ev
open PySem PySem.Spec PyProof.Rows
end L2.Ev
namespace L2.Ev
open PySem PySem.Spec PyProof.Rows
section
variable {prog : Program} {w : World} {A : Around} {E : Value → Shared → Prop} {s : Shared} {J : Addr} {fp wr : List Addr} {n : Nat} {P : Nat → Value → Prop} {St : Nat → Heap → Prop} {R : Result → Shared → Prop}
end
end L2.Ev
namespace L2.Ev
open PySem PySem.Spec PyProof.Rows
namespace Rv
theorem slot_init : Slot "reversed" "__init__" "object.__init__" := .of (owner := "object") (n := "__init__") (by rw [typeLookup_type, builtinLookup_eq_fast]; kernel_rfl) (by decide +kernel) (by decide +kernel) (by decide +kernel) (by first | exact .inl (by decide +kernel) | exact .inr (by decide +kernel)) (by rw [isSubtype_type]; kernel_rfl)
theorem slot_next : Slot "reversed" "__next__" "reversed.__next__" := .of (owner := "reversed") (n := "__next__") (by rw [typeLookup_type, builtinLookup_eq_fast]; kernel_rfl) (by decide +kernel) (by decide +kernel) (by decide +kernel) (by first | exact .inl (by decide +kernel) | exact .inr (by decide +kernel)) (by rw [isSubtype_type]; kernel_rfl)
theorem slot_iter : Slot "reversed" "__iter__" "reversed.__iter__" := .of (owner := "reversed") (n := "__iter__") (by rw [typeLookup_type, builtinLookup_eq_fast]; kernel_rfl) (by decide +kernel) (by decide +kernel) (by decide +kernel) (by first | exact .inl (by decide +kernel) | exact .inr (by decide +kernel)) (by rw [isSubtype_type]; kernel_rfl)
theorem tup_no_rev : typeLookup (.type "tuple") "__reversed__" = pure none := by rw [typeLookup_type, builtinLookup_eq_fast]; kernel_rfl
theorem called : TypeCalled "reversed" "reversed.__new__" "object.__init__" := ⟨by decide +kernel, PySem.F.create_reversed, ⟨_, _, PySem.F.mro_reversed⟩, PySem.F.made_reversed, PySem.F.plain_reversed_new, PySem.F.sub_reversed_self, slot_init⟩
theorem owner_rev : Manifest.owners.lookup (String.ofList ['d', 'e', 's', 'r', 'e', 'v', 'e', 'r'].reverse) = some Manifest.sig_reversed := by kernel_rfl
theorem entry_next : entryFor table "reversed.__next__" = some Builtin.«reversed.__next__» := entryFor_of_tree (by kernel_rfl)
theorem entry_iter : entryFor table "reversed.__iter__" = some Builtin.«dict_keyiterator.__iter__» := entryFor_alias (id' := "dict_keyiterator.__iter__") (by kernel_rfl) (by first | rfl | decide +kernel | (unfold String.splitOn; simp +decide [String.splitOnAux])) (by decide +kernel) (by kernel_rfl)
theorem args_next (a : Value) : argsOk "reversed.__next__" ⟨[a], []⟩ := by
  unfold argsOk; rw [signature?_of (id := "reversed.__next__") (n := ['_', '_', 't', 'x', 'e', 'n', '_', '_']) (o := ['d', 'e', 's', 'r', 'e', 'v', 'e', 'r']) (by kernel_rfl) owner_rev]; kernel_rfl
theorem args_iter (a : Value) : argsOk "reversed.__iter__" ⟨[a], []⟩ := by
  unfold argsOk; rw [signature?_of (id := "reversed.__iter__") (n := ['_', '_', 'r', 'e', 't', 'i', '_', '_']) (o := ['d', 'e', 's', 'r', 'e', 'v', 'e', 'r']) (by kernel_rfl) owner_rev]; kernel_rfl
def obj (t : Addr) (i : Int) : Obj := { cls := .type "reversed", data := .fields #[.ref t, rawInt i] }
def At (h : Heap) (a t : Addr) (i : Int) : Prop := ∃ o, h.get? a = some o ∧ o.cls = .type "reversed" ∧ o.data = .fields #[.ref t, rawInt i]
section
variable {prog : Program} {w : World} {A : Around} {E : Value → Shared → Prop} {s : Shared}
theorem At.ty {a t : Addr} {i : Int} (x : At s.heap a t i) : s.TypeIs (.ref a) "reversed" := let ⟨o, ho, hc, _⟩ := x; ⟨o, ho, hc⟩
theorem At.keep {h h' : Heap} {a t : Addr} {i : Int} (x : At h a t i) (e : ∀ o, h.get? a = some o → h'.get? a = some o) : At h' a t i := let ⟨o, ho, r⟩ := x; ⟨o, e _ ho, r⟩
theorem code_new {t : Addr} {its : Array Value} {Q₁ : Value → Shared → Prop} (ht : IsTup s.heap t its) (hz : its.size ≤ sizeLine)
    (h : ∀ tk, Q₁ (.ref s.heap.objs.size) { s with heap := s.heap.push (obj t ((its.size : Int) - 1)), toks := tk }) : codeAny (model prog w) A (.call (.builtin "reversed.__new__") ⟨[.type "reversed", .ref t], []⟩) (wants Q₁ E) s := by
  refine codeAny_of_tree ?_
  show wpAny _ A.in1 (do checkBuiltinCall "reversed.__new__" ⟨[.type "reversed", .ref t], []⟩; again (.builtin "reversed.__new__" ⟨[.type "reversed", .ref t], []⟩)) _ _ s
  refine wpAny_bind (wpAny_of_eq (PySem.F.newCall_reversed_1 _) (wpAny_pure ⟨plainId_quiet PySem.F.plain_reversed_new _, codeAny_builtin PySem.F.entry_reversed_new ?_⟩))
  rw [Around.under_plainId PySem.F.plain_reversed_new _]
  unfold Builtin.«reversed.__new__»
  refine wpAny_bind (wpAny_of_eq (newClass_reversed _) ?_)
  try dsimp only
  refine wpAny_bind (wpAny_of_eq (a := ()) (by first | rfl | kernel_rfl) ?_)
  refine wpAny_bind (wpAny_of_eq (a := ()) (by first | rfl | kernel_rfl) ?_)
  try dsimp only
  refine wpAny_bind (wpAny_specialOf ht.typeIs tup_no_rev ?_)
  try dsimp only
  refine wpAny_bind ?_
  show wpAny _ _ (isInstance (Value.ref t) (.type "dict") >>= _) _ _ s
  refine wpAny_bind (wpAny_isInstance (T := "tuple") (b := false) ht.typeIs (by rw [isSubtype_type]; kernel_rfl) ?_)
  show wpAny _ _ (specialOf (Value.ref t) "__getitem__" >>= _) _ _ s
  refine wpAny_bind (wpAny_specialOf ht.typeIs PyProof.Rows.slot_tuple_getitem.lookup ?_)
  refine wpAny_of_eq (a := true) (by first | rfl | kernel_rfl | (simp; rfl)) ?_
  simp only [Bool.not_true, Bool.false_eq_true, if_false]
  refine wpAny_bind (len_tuple ht (by have : its.size ≤ sizeLine := hz; rw [sizeLine_eq] at this; omega) ?_)
  refine wpAny_bind (wpAny_of_eq (a := some (its.size : Int)) (by rfl) ?_)
  try dsimp only
  refine wpAny_bind ?_
  show wpAny _ _ (newObj (.type "reversed") (.fields #[.ref t, rawInt ((its.size : Int) - 1)])) _ _ _
  refine wpAny_newObj_type (wpAny_pure ?_) (by size_fits)
  exact h _
theorem call {t : Addr} {its : Array Value} {Q : Value → Shared → Prop} (ht : IsTup s.heap t its) (hz : its.size ≤ sizeLine)
    (h : ∀ tk, Q (.ref s.heap.objs.size) { s with heap := s.heap.push (obj t ((its.size : Int) - 1)), toks := tk }) : wpAny (model prog w) A (PySem.call (.type "reversed") [.ref t]) Q E s := by
  refine callType_codes (Q₁ := fun o s1 => s1.TypeIs o "reversed" ∧ Q o s1) called (PySem.F.typeCall_reversed_1 _) PySem.F.entry_object_init (code_new ht hz fun tk => ⟨⟨_, Heap.get?_push_size _ rfl, rfl⟩, h tk⟩) fun o s1 h1 => ?_
  exact ⟨h1.1, PySem.F.args_object_init_2 o _, object_init_meets called.init.lookup called.made (by decide) prog w A.in1 _ s1 ⟨h1.1, rfl, h1.2⟩⟩
theorem next_item {a t : Addr} {i : Nat} {its : Array Value} {x : Value} {Q : Option Value → Shared → Prop} (hit : At s.heap a t (i : Int)) (ht : IsTup s.heap t its) (hne : t ≠ a) (hx : its[i]? = some x) (hz : its.size ≤ sizeLine)
    (hQ : ∀ h' tk, At h' a t ((i : Int) - 1) → Heap.SameBut a s.heap h' → Q (some x) { s with heap := h', toks := tk }) : wpAny (model prog w) A (pyNext (.ref a)) Q E s := by
  obtain ⟨o, ho, hc, hd⟩ := id hit
  have hi : i < its.size := (Array.getElem?_eq_some_iff.mp hx).1
  unfold pyNext
  refine wpAny_bind (wpAny_attempt (wpAny_callSpecial?_slot (name := Str.ofString "__next__") hit.ty slot_next (wpAny_call_entry slot_next hit.ty entry_next ?_ (args_next _))))
  unfold Builtin.«reversed.__next__»
  refine wpAny_bind (wpAny_of_eq (a := (Value.ref a, [])) rfl ?_)
  try dsimp only
  refine wpAny_bind (wpAny_field ho hd (x := .ref t) rfl ?_)
  refine wpAny_bind (wpAny_field ho hd (x := rawInt (i : Int)) rfl ?_)
  show wpAny _ _ (if (i : Int) < 0 then _ else _) _ _ s
  rw [if_neg (by omega)]
  show wpAny _ _ (specialOf (Value.ref t) "__getitem__" >>= _) _ _ s
  refine wpAny_bind (wpAny_specialOf ht.typeIs PyProof.Rows.slot_tuple_getitem.lookup ?_)
  simp only [Option.isNone_some, Bool.false_eq_true, if_false]
  refine wpAny_bind (wpAny_mkInt ?_)
  refine wpAny_bind (wpAny_attempt (PyProof.Rows.getItem_tuple (j := i) (x := x) ht ?_ ?_ ?_ ?_ ?_))
  · omega
  · rw [sizeLine_eq] at hz; omega
  · unfold seqIndex?; simp; omega
  · exact hx
  · try dsimp only
    refine wpAny_bind (wpAny_field ho hd (x := rawInt (i : Int)) rfl ?_)
    show wpAny _ _ (setField (.ref a) 1 (rawInt ((i : Int) - 1)) >>= _) _ _ _
    refine wpAny_bind (wpAny_setField ho hd (by simp) ?_)
    refine wpAny_pure ⟨x, rfl, wpAny_pure (hQ _ _ ?_ (Heap.SameBut.update ..))⟩
    exact ⟨_, Heap.get?_update_self _ ho (Obj.isFreed_of_fields (Obj.data_mapFields hd _)), (Obj.cls_mapFields ..).trans hc, by rw [Obj.data_mapFields hd]; simp⟩
theorem next_end {a t : Addr} {Q : Option Value → Shared → Prop} (hh : A.handled = none) (hit : At s.heap a t (-1)) (hQ : ∀ h' tk, Heap.ExtBut a s.heap h' → Q none { s with heap := h', toks := tk }) : wpAny (model prog w) A (pyNext (.ref a)) Q E s := by
  obtain ⟨o, ho, hc, hd⟩ := id hit
  unfold pyNext
  refine wpAny_bind (wpAny_attempt (wpAny_callSpecial?_slot (name := Str.ofString "__next__") hit.ty slot_next (wpAny_call_entry slot_next hit.ty entry_next ?_ (args_next _))))
  unfold Builtin.«reversed.__next__»
  refine wpAny_bind (wpAny_of_eq (a := (Value.ref a, [])) rfl ?_)
  try dsimp only
  refine wpAny_bind (wpAny_field ho hd (x := .ref t) rfl ?_)
  refine wpAny_bind (wpAny_field ho hd (x := rawInt (-1)) rfl ?_)
  show wpAny _ _ (if (-1 : Int) < 0 then _ else _) _ _ s
  rw [if_pos (by decide)]
  refine wpAny_bind (wpAny_rule (wpAny_bind ?_))
  show wpAny _ _ (setField (.ref a) 1 (rawInt (-1)) >>= fun _ => setField (.ref a) 0 .none) _ _ s
  refine wpAny_bind (wpAny_setField ho hd (by simp) ?_)
  have g1 := Heap.get?_update_self (h := s.heap) (fun o => Obj.mapFields (fun vs => vs.setIfInBounds 1 (rawInt (-1))) o) ho (Obj.isFreed_of_fields (Obj.data_mapFields hd _))
  refine wpAny_setField g1 (Obj.data_mapFields hd _) (by simp) ?_
  refine wpAny_bind ?_
  unfold Builtin.SmallTypes.stopIteration
  simp only [newExc, newTuple, raiseNew]
  refine wpAny_bind (wpAny_bind (wpAny_newObj_type (wpAny_bind (m := firstArgMember _ _) (wpAny_of_eq (a := Value.none) rfl (wpAny_newObj_type (wpAny_bind (wpAny_handled ?_)) (by size_fits)))) (by size_fits)))
  rw [show A.in1.handled = none from hh]
  refine wpAny_bind (wpAny_pure (wpAny_throw ?_))
  refine wpAny_bind (wpAny_isInstance (T := "StopIteration") (b := true) ⟨_, Heap.get?_push_size _ rfl, rfl⟩ isSubtype_stop (wpAny_pure (hQ _ _ ?_)))
  exact ((((Heap.SameBut.update ..).extBut.trans (Heap.SameBut.update ..).extBut).push _).push _)
theorem iter_self {a t : Addr} {i : Int} {Q : Value → Shared → Prop} (hit : At s.heap a t i) (h : Q (.ref a) s) : wpAny (model prog w) A (pyIter (.ref a)) Q E s := by
  refine wpAny_pyIter_slot hit.ty slot_iter (wpAny_call_entry slot_iter hit.ty entry_iter ?_ (args_iter _))
  show wpAny _ _ (ret (.ref a)) _ _ s
  exact wpAny_pure ⟨_, rfl, "reversed", _, hit.ty, slot_next.lookup, h⟩
theorem walks {prog : Program} {w : World} {A : Around} (hh : A.handled = none) (a t : Addr) (hne : t ≠ a) (its : Array Value) (hz : its.size ≤ sizeLine) :
    PySem.Walks prog w A a [a, t] [a] its.size (fun i v => its[its.size - 1 - i]? = some v) (fun i h => i ≤ its.size ∧ At h a t ((its.size : Int) - 1 - (i : Int)) ∧ IsTup h t its) where
  sub := fun b hb => by simp at hb; simp [hb]
  frame := fun _ _ _ x hk => ⟨x.1, x.2.1.keep fun o e => hk a (by simp) o e, by obtain ⟨o, e, r⟩ := x.2.2; exact ⟨o, hk t (by simp) o e, r⟩⟩
  item := fun i s Q E hi x hQ => by
    have hit := x.2.1
    rw [show (its.size : Int) - 1 - (i : Int) = ((its.size - 1 - i : Nat) : Int) by omega] at hit
    have hx : its[its.size - 1 - i]? = some (its[its.size - 1 - i]'(by omega)) := Array.getElem?_eq_getElem (by omega)
    refine next_item hit x.2.2 hne hx hz fun h' tk hit' hs' => ?_
    rw [show ((its.size - 1 - i : Nat) : Int) - 1 = (its.size : Int) - 1 - ((i + 1 : Nat) : Int) by omega] at hit'
    exact hQ _ h' tk hx ⟨hi, hit', by obtain ⟨o, e, r⟩ := x.2.2; exact ⟨o, (hs'.2 t hne).trans e, r⟩⟩ fun b o hb eo => hs'.extBut b o (fun h => hb (by simp [h])) eo
  done := fun s Q E x hQ => by
    have hit := x.2.1
    rw [show (its.size : Int) - 1 - (its.size : Int) = -1 by omega] at hit
    exact next_end hh hit fun h' tk he' => hQ h' tk fun b o hb eo => he' b o (fun h => hb (by simp [h])) eo
  self := fun _ _ _ _ x hQ => iter_self x.2.1 hQ
end
end Rv
def wTupRev (f : SE) : SE := fun ρ μ Q => f ρ μ fun x μ1 => match x with | .p (.tuple xs) => Q (.p (.tuple xs.reverse)) μ1 | _ => False
end L2.Ev
namespace L2.Ev
open PySem PySem.Spec PyProof.Rows
section
variable {μ : Mu} {Q : WK}
theorem oAdd_int (i j : Int) : oAdd (.p (.int i)) (.p (.int j)) μ Q = Q (.p (.int (i + j))) μ := rfl
theorem oI_int (C : Int → Int → Prop) (g : Int → Int → PyData) (i j : Int) : oI C g (.p (.int i)) (.p (.int j)) μ Q = (C i j ∧ Q (.p (g i j)) μ) := rfl
theorem oI0_int (g : Int → Int → PyData) (i j : Int) : oI0 g (.p (.int i)) (.p (.int j)) μ Q = Q (.p (g i j)) μ := rfl
theorem oIx_tup (xs : List PyData) (i : Int) : oIx (.p (.tuple xs)) (.p (.int i)) μ Q = (match atI xs i with | some d => Q (.p d) μ | none => False) := rfl
theorem oIx_lst (xs : List PyData) (i : Int) : oIx (.p (.list xs)) (.p (.int i)) μ Q = (match atI xs i with | some d => Q (.p d) μ | none => False) := rfl
theorem oIx_scr (xs : List PyData) (i : Int) : oIx (.s xs) (.p (.int i)) μ Q = (match atI xs i with | some d => Q (.p d) μ | none => False) := rfl
theorem oIx_ref {n : Nat} {xs : List PyData} (h : μ[n]? = some (.lst xs)) (i : Int) : oIx (.r n) (.p (.int i)) μ Q = (match atI xs i with | some d => Q (.p d) μ | none => False) := by
  show (match rlOf μ (.r n) with | some xs => (match atI xs i with | some d => Q (.p d) μ | none => False) | none => False) = _
  simp only [rlOf, lsOf, h]
theorem oEq_p (d e : PyData) : oEq (.p d) (.p e) μ Q = (SeqAt.shaped d = true ∧ SeqAt.shaped e = true ∧ Q (.p (.bool (PyData.eqv d e))) μ) := rfl
theorem oNe_p (d e : PyData) : oNe (.p d) (.p e) μ Q = (SeqAt.shaped d = true ∧ SeqAt.shaped e = true ∧ Q (.p (.bool (!PyData.eqv d e))) μ) := rfl
theorem oNe_ref {n : Nat} {xs : List PyData} (h : μ[n]? = some (.lst xs)) (e : PyData) : oNe (.r n) (.p e) μ Q = (SeqAt.shaped (.list xs) = true ∧ SeqAt.shaped e = true ∧ Q (.p (.bool (!PyData.eqv (.list xs) e))) μ) := by
  simp only [oNe, daOf, h]
theorem oIs_bb (b c : Bool) : oIs (.p (.bool b)) (.p (.bool c)) μ Q = Q (.p (.bool (b == c))) μ := rfl
theorem oIsNot_bb (b c : Bool) : oIsNot (.p (.bool b)) (.p (.bool c)) μ Q = Q (.p (.bool (!(b == c)))) μ := rfl
theorem oIs_n (x : W) : oIs x (.p .none) μ Q = Q (.p (.bool (isNo x))) μ := by
  cases x with
  | p d => cases d <;> rfl
  | _ => rfl
theorem oIsNot_n (x : W) : oIsNot x (.p .none) μ Q = Q (.p (.bool (!isNo x))) μ := by
  cases x with
  | p d => cases d <;> rfl
  | _ => rfl
theorem shaped_int (i : Int) : SeqAt.shaped (.int i) = true := rfl
theorem shaped_bool (i : Bool) : SeqAt.shaped (.bool i) = true := rfl
theorem shaped_nilL : SeqAt.shaped (.list []) = true := rfl
theorem shaped_nilT : SeqAt.shaped (.tuple []) = true := rfl
theorem eqv_int (i j : Int) : PyData.eqv (.int i) (.int j) = decide (i = j) := by
  simp only [PyData.eqv]; exact Bool.eq_iff_iff.mpr (by simp)
theorem eqv_str (i j : Str) : PyData.eqv (.str i) (.str j) = decide (i = j) := by
  simp only [PyData.eqv]; exact Bool.eq_iff_iff.mpr (by simp)
theorem eqv_bool (i j : Bool) : PyData.eqv (.bool i) (.bool j) = (i == j) := rfl
theorem eqv_lst_nil (xs : List PyData) : PyData.eqv (.list xs) (.list []) = xs.isEmpty := by cases xs <;> rfl
theorem eqv_tup_nil (xs : List PyData) : PyData.eqv (.tuple xs) (.tuple []) = xs.isEmpty := by cases xs <;> rfl
theorem atI_ofNat {α : Type} (xs : List α) (k : Nat) : atI xs (k : Int) = xs[k]? := by
  unfold atI ixN
  by_cases h : k < xs.length
  · rw [if_pos (by omega), if_pos (by omega)]; simp
  · rw [if_pos (by omega), if_neg (by omega), List.getElem?_eq_none (by omega)]; rfl
theorem atI_0 {α : Type} (x : α) (xs : List α) : atI (x :: xs) 0 = some x := atI_ofNat (x :: xs) 0
theorem atI_1 {α : Type} (x y : α) (xs : List α) : atI (x :: y :: xs) 1 = some y := atI_ofNat (x :: y :: xs) 1
theorem atI_2 {α : Type} (x y z : α) (xs : List α) : atI (x :: y :: z :: xs) 2 = some z := atI_ofNat (x :: y :: z :: xs) 2
theorem atI_3 {α : Type} (x y z u : α) (xs : List α) : atI (x :: y :: z :: u :: xs) 3 = some u := atI_ofNat (x :: y :: z :: u :: xs) 3
theorem atI_4 {α : Type} (x y z u v : α) (xs : List α) : atI (x :: y :: z :: u :: v :: xs) 4 = some v := atI_ofNat (x :: y :: z :: u :: v :: xs) 4
theorem atI_nn {α : Type} (xs : List α) {i : Int} (h : 0 ≤ i) : atI xs i = xs[i.toNat]? := by
  have := atI_ofNat xs i.toNat
  rw [show ((i.toNat : Nat) : Int) = i by omega] at this
  exact this
theorem ixN_0 (n : Nat) : ixN (n + 1) 0 = some 0 := by unfold ixN; rw [if_pos (by omega), if_pos (by omega)]; rfl
theorem ixN_2 (n : Nat) : ixN (n + 3) 2 = some 2 := by unfold ixN; rw [if_pos (by omega), if_pos (by omega)]; rfl
theorem oSet_ref {n : Nat} {xs : List PyData} {Q : Mu → Prop} (h : μ[n]? = some (.lst xs)) (k : Int) (d : PyData) : oSet (.r n) (.p (.int k)) (.p d) μ Q = (match ixN xs.length k with | some j => Q (μ.set n (.lst (xs.set j d))) | none => False) := by
  simp only [oSet, h] <;> (cases ixN xs.length k <;> rfl)
theorem ret_p {n : Nat} {μ' : Mu} {d : PyData} (h : μ'.length = n) (q : Q (.p d) μ') : retW n Q (.p d) μ' := ⟨n, Nat.le_refl _, by omega, trivial, by rw [List.take_of_length_le (by omega)]; exact q⟩
theorem ret_cut {n : Nat} {μ' : Mu} {d : PyData} (h : n ≤ μ'.length) (q : Q (.p d) (μ'.take n)) : retW n Q (.p d) μ' := ⟨n, Nat.le_refl _, h, trivial, q⟩
theorem ret_new {n : Nat} {μ' : Mu} {w : W} (h : n ≤ μ'.length) (r : refOk μ'.length w) (q : Q w μ') : retW n Q w μ' := ⟨μ'.length, h, Nat.le_refl _, r, by rw [List.take_length]; exact q⟩
end
theorem forR_of {g : SG} {b : SS} {ok : Mu → Prop} {F : Fin} (I : List PyData → Rho → Mu → Prop) (hok : ∀ xs ρ μ, I xs ρ μ → ok μ) (hn : ∀ ρ μ, I [] ρ μ → F.nx ρ μ)
    (hs : ∀ x xs ρ μ (R : Rho → Mu → Prop), (∀ ρ μ, I xs ρ μ → R ρ μ) → I (x :: xs) ρ μ → g (.p x) ρ μ fun ρ2 μ2 => b { F with nx := R, ct := R, bk := F.nx } ρ2 μ2) : ∀ xs ρ μ, I xs ρ μ → forR g b ok F xs ρ μ
  | [], ρ, μ, h => ⟨hok _ _ _ h, hn ρ μ h⟩
  | x :: xs, ρ, μ, h => ⟨hok _ _ _ h, hs x xs ρ μ _ (fun ρ' μ' h' => forR_of I hok hn hs xs ρ' μ' h') h⟩
theorem compR_of {t : Tg} {c : ST} {e : SE} {ρ0 : Rho} {ok : Mu → Prop} {Q : List PyData → Mu → Prop} (I : List PyData → List PyData → Mu → Prop) (hok : ∀ xs acc μ, I xs acc μ → ok μ) (hn : ∀ acc μ, I [] acc μ → Q acc μ)
    (hs : ∀ x xs acc μ (R : List PyData → Mu → Prop), (∀ acc μ, I xs acc μ → R acc μ) → I (x :: xs) acc μ → ∃ ρ2, bindT t x ρ0 = some ρ2 ∧ c ρ2 μ fun b μ1 => if b = true then e ρ2 μ1 fun y μ2 => match y with
        | .p d => acc.length < sizeLine ∧ R (acc ++ [d]) μ2
        | _ => False
      else R acc μ1) : ∀ xs acc μ, I xs acc μ → compR t c e ρ0 ok Q xs acc μ
  | [], acc, μ, h => ⟨hok _ _ _ h, hn acc μ h⟩
  | x :: xs, acc, μ, h => by
    obtain ⟨ρ2, e1, q⟩ := hs x xs acc μ _ (fun acc' μ' h' => compR_of I hok hn hs xs acc' μ' h') h
    refine ⟨hok _ _ _ h, ?_⟩
    rw [e1]
    exact q
theorem sSeq_def {t u : SS} {F : Fin} {ρ : Rho} {μ : Mu} : sSeq t u F ρ μ = t { F with nx := u F } ρ μ := rfl
theorem sSeq_cut {t u : SS} {F : Fin} {ρ : Rho} {μ : Mu} (R : Rho → Mu → Prop) (h1 : ∀ ρ μ, R ρ μ → u F ρ μ) (h2 : ∀ K : Rho → Mu → Prop, (∀ ρ μ, R ρ μ → K ρ μ) → t { F with nx := K } ρ μ) : sSeq t u F ρ μ := h2 (u F) h1
theorem rdSp_imp {K : PySem.W.Frag} {sp sp' : SpW} (h : ∀ ws μ Q, sp ws μ Q → sp' ws μ Q) : ∀ vs H Q E, rdSp K sp vs H Q E → rdSp K sp' vs H Q E := fun _ _ _ _ ⟨as, μ, ws, Q0, S, r, q, A⟩ => ⟨as, μ, ws, Q0, S, r, h _ _ _ q, A⟩
theorem szk {k : Nat} (h : k ≤ 16777216) : k ≤ sizeLine := by rw [sizeLine_eq]; exact h
theorem szl {k : Nat} (h : k < 16777216) : k < sizeLine := by rw [sizeLine_eq]; exact h
end L2.Ev
namespace L2.Ev
open PySem PySem.Spec PyProof.Rows
theorem Vals.at {vs : List V} {us : List Value} (h : Vals vs us) {i : Nat} {v : V} (e : vs[i]? = some v) : ∃ u, us[i]? = some u ∧ RelV v u := by
  induction h generalizing i with
  | nil => simp at e
  | cons r _ ih =>
    cases i with
    | zero => simp at e; subst e; exact ⟨_, rfl, r⟩
    | succ i => obtain ⟨u, a, b⟩ := ih (i := i) (by simpa using e); exact ⟨u, by simpa using a, b⟩
end L2.Ev
namespace L2.Ev
open PySem PySem.Spec PyProof.Rows
section
variable {X : Cx}
def sqOf (μ : Mu) : W → Option (List PyData)
  | .p (.tuple xs) => some xs
  | w => match daOf μ w with | some (.list xs) => some xs | _ => none
def oNotIn : O2 := fun x y μ Q => match sqOf μ y, daOf μ x with
  | some xs, some d => SeqAt.shaped (.list xs) = true ∧ SeqAt.shaped d = true ∧ Q (.p (.bool (!xs.any fun y => PyData.eqv y d))) μ
  | _, _ => False
theorem shaped_bits {xs : List PyData} (h : SeqAt.shaped (.list xs) = true) : PyData.canLayAll0 xs = true ∧ PyData.depthAll xs < 64 := by
  simp [SeqAt.shaped, PyData.canLay0, PyData.depth] at h
  exact ⟨h.1, by omega⟩
theorem go_notIn (hu : X.A.units + 64 < cLine) : GO X (compareOp .NotIn) oNotIn := ⟨fun pins s σ H x y v u Q I rx ry ⟨as, μ, w1, w2, Q0, S, r1, r2, q, A⟩ => by
  unfold oNotIn at q
  split at q
  · rename_i xs d e1 e2
    obtain ⟨hx, hd, q⟩ := q
    obtain ⟨c1, c2⟩ := shaped_bits hx
    have c3 := SeqAt.canLay_of_shaped hd
    obtain ⟨bs, rd1⟩ := Dp.reads I d x v (daOf_dp S r1 e2) rx
    have fin : EP X pins σ Q (.bool (!xs.any fun y => PyData.eqv y d)) s := ⟨.bl _, H, I, rfl, A.now S q (Dz.bl _)⟩
    have hu' : X.A.units + 1 + min (PyData.depthAll xs) d.depth < cLine := by have := Nat.min_le_left (PyData.depthAll xs) d.depth; omega
    unfold sqOf at e1
    split at e1
    · cases e1
      obtain ⟨cs, rd2⟩ := Dp.reads I _ y u (Dz.dp r2) ry
      exact SeqAt.notIn_tuple_reads rd2 rd1 c1 c3 hu' fin
    · split at e1
      · rename_i ys e3
        cases e1
        obtain ⟨cs, rd2⟩ := Dp.reads I _ y u (daOf_dp S r2 e3) ry
        exact SeqAt.notIn_list_reads rd2 rd1 c1 c3 hu' fin
      · cases e1
  · exact q.elim⟩
end
end L2.Ev
namespace L2.Ev
open PySem PySem.Spec PyProof.Rows
namespace Tr
section
variable {prog : Program} {w : World} {A : Around} {E : Value → Shared → Prop} {s : Shared} {r : Addr} {a b c : Int} {t u v : Tok} {n : Nat}
end
theorem vals {acc : Array Value} {n : Nat} (h : ItemsOf (fun i v => ∃ t, v = .int (0 + (i : Int) * 1) t) acc n) : Vals (((List.range n).map fun (i : Nat) => (i : Int)).map V.int) acc.toList := by
  have hs : acc.size = n := h.1
  have gen : ∀ (k : Nat) (us : List Value), us.length = n - k → k ≤ n → (∀ (j : Nat) (v : Value), us[j]? = some v → ∃ t, v = Value.int ((k + j : Nat) : Int) t) → Vals ((((List.range n).drop k).map fun (i : Nat) => (i : Int)).map V.int) us := by
    intro k us
    induction us generalizing k with
    | nil =>
      intro hl hk _
      rw [List.drop_of_length_le (by simp at hl ⊢; omega)]
      exact .nil
    | cons v us ih =>
      intro hl hk hv
      simp only [List.length_cons] at hl
      have hlt : k < n := by omega
      rw [PySem.range_drop hlt]
      obtain ⟨t, rfl⟩ := hv 0 v rfl
      refine .cons ⟨t, rfl⟩ (ih (k + 1) (by omega) (by omega) fun j v e => ?_)
      obtain ⟨t, e⟩ := hv (j + 1) v (by simpa using e)
      exact ⟨t, by rw [e]; congr 1; omega⟩
  have := gen 0 acc.toList (by simp; omega) (Nat.zero_le _) fun j v e => by
    obtain ⟨t, e⟩ := h.2 j v (by simpa using e)
    exact ⟨t, by rw [e]; congr 1; omega⟩
  simpa using this
end Tr
end L2.Ev
namespace L2.Ev
open PySem PySem.Spec PyProof.Rows
end L2.Ev
namespace L2.Ev
open PySem PySem.Spec PyProof.Rows
namespace Rv
section
variable {prog : Program} {w : World} {A : Around} {E : Value → Shared → Prop} {s : Shared}
end
end Rv
end L2.Ev
namespace L2.Ev
open PySem PySem.Spec PyProof.Rows
namespace Zt
section
variable {prog : Program} {w : World} {A : Around} {E : Value → Shared → Prop} {s : Shared}
theorem next_item {it t : Addr} {i : Nat} {its : Array Value} {x : Value} {Q : Value → Shared → Prop} (hit : s.heap.IsTupleIter it t i) (ht : s.heap.IsTuple t its) (hx : its[i]? = some x)
    (hQ : ∀ h', h'.IsTupleIter it t (i + 1) → Heap.SameBut it s.heap h' → Q x { s with heap := h' }) : wpAny (model prog w) A (Builtin.SmallTypes.nextOf (.ref it)) Q E s := by
  obtain ⟨o, ho, hc, hd⟩ := id hit
  obtain ⟨ol, hol, _, nl, hdl⟩ := ht
  unfold Builtin.SmallTypes.nextOf
  refine wpAny_bind (wpAny_callSpecial?_slot (name := Str.ofString "__next__") hit.typeIs PySem.F.slot_tuple_iterator_next (wpAny_call_entry PySem.F.slot_tuple_iterator_next hit.typeIs PySem.F.entry_tuple_iterator_next ?_ (PySem.F.args_tuple_iterator_next_1 _)))
  refine wpAny_bind (m := field (.ref it) 0) (wpAny_field ho hd (x := .ref t) rfl ?_)
  show wpAny _ _ (if (Value.ref t == Value.none) = true then _ else _) _ _ s
  rw [if_neg (show ¬ ((Value.ref t == Value.none) = true) from Bool.false_ne_true)]
  refine wpAny_bind (m := field (.ref it) 1) (wpAny_field ho hd (x := .int i 0) rfl ?_)
  refine wpAny_bind (m := seqItems? (.ref t)) (wpAny_seqItems hol hdl ?_)
  simp only [Int.toNat_natCast, hx]
  refine wpAny_bind (wpAny_setField ho hd (by simp) (wpAny_pure ⟨x, rfl, wpAny_pure (hQ _ ⟨_, Heap.get?_update_self _ ho (Obj.isFreed_of_fields (Obj.data_mapFields hd _)), (Obj.cls_mapFields ..).trans hc, by rw [Obj.data_mapFields hd]; simp [rawInt]⟩ (Heap.SameBut.update ..))⟩))
theorem next_end {it t : Addr} {i : Nat} {its : Array Value} {Q : Value → Shared → Prop} (hh : A.handled = none) (hit : s.heap.IsTupleIter it t i) (ht : s.heap.IsTuple t its) (hx : its[i]? = none)
    (hE : ∀ h' e, Heap.ExtBut it s.heap h' → (∃ o, h'.get? e = some o ∧ o.cls = .type "StopIteration") → E (.ref e) { s with heap := h' }) : wpAny (model prog w) A (Builtin.SmallTypes.nextOf (.ref it)) Q E s := by
  obtain ⟨o, ho, hc, hd⟩ := id hit
  obtain ⟨ol, hol, _, nl, hdl⟩ := ht
  unfold Builtin.SmallTypes.nextOf
  refine wpAny_bind (wpAny_callSpecial?_slot (name := Str.ofString "__next__") hit.typeIs PySem.F.slot_tuple_iterator_next (wpAny_call_entry PySem.F.slot_tuple_iterator_next hit.typeIs PySem.F.entry_tuple_iterator_next ?_ (PySem.F.args_tuple_iterator_next_1 _)))
  refine wpAny_bind (m := field (.ref it) 0) (wpAny_field ho hd (x := .ref t) rfl ?_)
  show wpAny _ _ (if (Value.ref t == Value.none) = true then _ else _) _ _ s
  rw [if_neg (show ¬ ((Value.ref t == Value.none) = true) from Bool.false_ne_true)]
  refine wpAny_bind (m := field (.ref it) 1) (wpAny_field ho hd (x := .int i 0) rfl ?_)
  refine wpAny_bind (m := seqItems? (.ref t)) (wpAny_seqItems hol hdl ?_)
  simp only [Int.toNat_natCast, hx]
  refine wpAny_bind (wpAny_rule (wpAny_bind (wpAny_setField ho hd (by simp) ?_)))
  refine wpAny_bind (m := newExc (.type "StopIteration") []) ?_
  simp only [newExc, newTuple]
  refine wpAny_bind (wpAny_newObj_type ?_ (by size_fits))
  refine wpAny_bind (m := firstArgMember _ _) (wpAny_of_eq (a := Value.none) (by first | rfl | (simp only [firstArgMember]; rfl)) ?_)
  refine wpAny_newObj_type ?_ (by size_fits)
  simp only [raiseNew]
  refine wpAny_bind (wpAny_handled ?_)
  first | rw [show A.in1.handled = none from hh] | rw [hh]
  exact wpAny_bind (wpAny_pure (wpAny_throw (hE _ _ (((Heap.SameBut.update ..).extBut.push _).push _) ⟨_, Heap.get?_push_size _ rfl, rfl⟩)))
end
theorem itAt {h h' : Heap} {it t : Addr} {i : Nat} (x : h.IsTupleIter it t i) (k : ∀ o, h.get? it = some o → h'.get? it = some o) : h'.IsTupleIter it t i := let ⟨o, ho, r⟩ := x; ⟨o, k o ho, r⟩
theorem tupAt {h h' : Heap} {t : Addr} {its : Array Value} (x : h.IsTuple t its) (k : ∀ o, h.get? t = some o → h'.get? t = some o) : h'.IsTuple t its := let ⟨o, ho, r⟩ := x; ⟨o, k o ho, r⟩
open AutoSeq1 (wpAny_loadPart')
section
variable {prog : Program} {w : World} {A : Around} {E : Value → Shared → Prop} {s : Shared}
end
end Zt
end L2.Ev
namespace L2.Ev
open PySem PySem.Spec PyProof.Rows
namespace Zt
structure Zat (h : Heap) (z TI TO i1 i2 : Addr) (f0 : Value) : Prop where
  zz : IsZip h z TI TO f0
  ti : IsPair h TI (.ref i1) (.ref i2)
  to : ∃ a b, IsPair h TO a b
structure Far (z TI TO i1 i2 a b : Addr) : Prop where
  TIz : TI ≠ z
  TOz : TO ≠ z
  i1z : i1 ≠ z
  i2z : i2 ≠ z
  TITO : TI ≠ TO
  TIi1 : TI ≠ i1
  TIi2 : TI ≠ i2
  TOi1 : TO ≠ i1
  TOi2 : TO ≠ i2
  i12 : i1 ≠ i2
  az : a ≠ z
  aTO : a ≠ TO
  ai1 : a ≠ i1
  ai2 : a ≠ i2
  bz : b ≠ z
  bTO : b ≠ TO
  bi1 : b ≠ i1
  bi2 : b ≠ i2
theorem far_of (n a b : Addr) (ha : a < n) (hb : b < n) : Far (n + 4) (n + 2) (n + 3) n (n + 1) a b := by
  constructor <;> (have := ha; have := hb; simp only [Addr] at *; omega)
section
variable {prog : Program} {w : World} {A : Around} {E : Value → Shared → Prop} {s : Shared}
end
abbrev itO (a : Addr) : Obj := { cls := .type "tuple_iterator", data := .fields #[.ref a, .int 0 0] }
abbrev zh1 (h : Heap) (a : Addr) : Heap := h.push (itO a)
section
variable {prog : Program} {w : World} {A : Around} {E : Value → Shared → Prop} {s : Shared}
end
theorem five {c z TI TO i1 i2 : Addr} (h : c ∈ [z, TI, TO, i1, i2]) : c = z ∨ c = TI ∨ c = TO ∨ c = i1 ∨ c = i2 := by simpa using h
end Zt
end L2.Ev
namespace L2.Ev
open PySem PySem.Spec PyProof.Rows
namespace Lr
section
variable {prog : Program} {w : World} {A : Around} {E : Value → Shared → Prop} {s : Shared}
end
end Lr
end L2.Ev
namespace L2.Ev
open PySem PySem.Spec PyProof.Rows
end L2.Ev
namespace L2.Ev
open PySem PySem.Spec PyProof.Rows
end L2.Ev
namespace L2.Ev
open PySem PySem.Spec PyProof.Rows
def keyOf : W → Option Key
  | .p (.int i) => some (.inl i)
  | .p (.str z) => some (.inr z)
  | _ => none
def valD (kvs : List (Key × PyData)) (k : Key) : Option PyData := (kvs.find? fun kv => decide (kv.1 = k)).map (·.2)
def putD (kvs : List (Key × PyData)) (k : Key) (d : PyData) : List (Key × PyData) :=
  if (kvs.any fun kv => decide (kv.1 = k)) = true then kvs.map (fun kv => if kv.1 = k then (kv.1, d) else kv) else kvs ++ [(k, d)]
section
variable {K : PySem.W.Frag} {as : Cs} {H : Hp}
theorem keyOf_v {w : W} {v : V} {k : Key} (r : Rel K as H w v) (e : keyOf w = some k) : v = kV k := by
  unfold keyOf at e
  split at e
  · cases e; cases r; rfl
  · cases e; cases r; rfl
  · cases e
def Prs (K : PySem.W.Frag) (as : Cs) (H : Hp) (us : List (Key × V)) (kvs : List (Key × PyData)) : Prop := us.map (·.1) = kvs.map (·.1) ∧ DzAll K as H (us.map (·.2)) (kvs.map (·.2))
theorem Prs.nil : Prs K as H [] [] := ⟨rfl, .nil⟩
theorem Prs.cons {k : Key} {v : V} {d : PyData} {us : List (Key × V)} {kvs : List (Key × PyData)} (h : Dz K as H v d) (p : Prs K as H us kvs) : Prs K as H ((k, v) :: us) ((k, d) :: kvs) := ⟨by simp [p.1], .cons h p.2⟩
theorem Prs.inv {u : Key × V} {us : List (Key × V)} {kv : Key × PyData} {kvs : List (Key × PyData)} (h : Prs K as H (u :: us) (kv :: kvs)) : u.1 = kv.1 ∧ Dz K as H u.2 kv.2 ∧ Prs K as H us kvs := by
  obtain ⟨h1, h2⟩ := h
  simp only [List.map_cons, List.cons.injEq] at h1
  cases h2 with
  | cons a b => exact ⟨h1.1, a, h1.2, b⟩
theorem Prs.len {us : List (Key × V)} {kvs : List (Key × PyData)} (h : Prs K as H us kvs) : us.length = kvs.length := by have := congrArg List.length h.1; simpa using this
theorem Prs.val : ∀ {us : List (Key × V)} {kvs : List (Key × PyData)} (k : Key), Prs K as H us kvs → (valV us k = none ∧ valD kvs k = none) ∨ ∃ v d, valV us k = some v ∧ valD kvs k = some d ∧ Dz K as H v d
  | [], [], k, _ => .inl ⟨rfl, rfl⟩
  | [], _ :: _, _, h => by have := h.len; simp at this
  | _ :: _, [], _, h => by have := h.len; simp at this
  | (a, v) :: us, (b, d) :: kvs, k, h => by
    obtain ⟨e, hd, t⟩ := h.inv
    simp only at e
    subst e
    by_cases hk : a = k
    · exact .inr ⟨v, d, by simp [valV, List.find?_cons, hk], by simp [valD, List.find?_cons, hk], hd⟩
    · have := Prs.val k t
      simp only [valV, valD, List.find?_cons, hk, decide_false] at this ⊢
      exact this
theorem Prs.any {us : List (Key × V)} {kvs : List (Key × PyData)} (k : Key) (h : Prs K as H us kvs) : (us.any fun kv => decide (kv.1 = k)) = kvs.any fun kv => decide (kv.1 = k) := by
  have e : ∀ {β : Type} (xs : List (Key × β)), (xs.any fun kv => decide (kv.1 = k)) = (xs.map (·.1)).any fun x => decide (x = k) := fun xs => by rw [List.any_map]; rfl
  rw [e, e, h.1]
theorem Prs.app {us us' : List (Key × V)} {kvs kvs' : List (Key × PyData)} (h : Prs K as H us kvs) (h' : Prs K as H us' kvs') : Prs K as H (us ++ us') (kvs ++ kvs') := ⟨by rw [List.map_append, List.map_append, h.1, h'.1], by rw [List.map_append, List.map_append]; exact h.2.append h'.2⟩
theorem Prs.mapIf {k : Key} {v : V} {d : PyData} (hd : Dz K as H v d) : ∀ {us : List (Key × V)} {kvs : List (Key × PyData)}, Prs K as H us kvs → Prs K as H (us.map (fun kv => if kv.1 = k then (kv.1, v) else kv)) (kvs.map (fun kv => if kv.1 = k then (kv.1, d) else kv))
  | [], [], _ => .nil
  | [], _ :: _, h => by have := h.len; simp at this
  | _ :: _, [], h => by have := h.len; simp at this
  | (a, v0) :: us, (b, d0) :: kvs, h => by
    obtain ⟨e, h0, t⟩ := h.inv
    simp only at e
    subst e
    have ih := Prs.mapIf (k := k) hd t
    by_cases hk : a = k
    · simp only [List.map_cons, hk, if_true]; exact Prs.cons hd (by simpa [hk] using ih)
    · simp only [List.map_cons, hk, if_false]; exact Prs.cons h0 ih
theorem Prs.put {us : List (Key × V)} {kvs : List (Key × PyData)} {k : Key} {v : V} {d : PyData} (h : Prs K as H us kvs) (hd : Dz K as H v d) : Prs K as H (putK us k v) (putD kvs k d) := by
  unfold putK putD
  rw [h.any k]
  split
  · exact h.mapIf hd
  · exact h.app (Prs.cons hd .nil)
theorem Prs.mono {as' : Cs} {H' : Hp} {us : List (Key × V)} {kvs : List (Key × PyData)} (s : Stp as H as' H') (h : Prs K as H us kvs) : Prs K as' H' us kvs := ⟨h.1, h.2.mono s⟩
end
section
variable {X : Cx} {pos : Pos}
end
section
variable {X : Cx} {pos : Pos}
end
end L2.Ev
set_option maxHeartbeats 4000000
namespace L2.Ev
open PySem PySem.Spec PyProof.Rows
namespace Sk
section
variable {prog : Program} {w : World} {A : Around} {E : Value → Shared → Prop} {s : Shared} {a kS : Addr} {b : Bool} {vs : List Value} {kz : List Int} {keys : Array Value} {e e1 : Nat} {P : PySem.Fin → Shared → Prop}
end
end Sk
end L2.Ev
namespace Net
open PySem L2 L2.Ev
def wd (b : Bool) : Str := if b = true then "both" else "to"
theorem shaped_wd (b : Bool) : SeqAt.shaped (.str (wd b)) = true := by cases b <;> decide +kernel
theorem shaped_both : SeqAt.shaped (.str "both") = true := by decide +kernel
theorem wd_both (b : Bool) : PyData.eqv (.str (wd b)) (.str "both") = b := by cases b <;> decide +kernel
structure Mt where
  w : Bool
  one : Int
  oth : Int
  b : Int
  l : Int
def Mt.d (m : Mt) : PyData := .tuple [.str (wd m.w), .int m.one, .int m.oth, .int m.b, .int m.l]
structure Mt.Ok (many : Int) (m : Mt) : Prop where
  o0 : 0 ≤ m.one
  o1 : m.one < many
  t0 : 0 ≤ m.oth
  t1 : m.oth < many
  ne : m.one ≠ m.oth
  b0 : 0 ≤ m.b
  l1 : 1 ≤ m.l
def netD (many : Int) (ms : List Mt) : PyData := .tuple [.int many, .tuple (ms.map Mt.d)]
def Mt.led (m : Mt) (p : Int) : Option Int := if p = m.one then some m.oth else if p = m.oth ∧ m.w = true then some m.one else none
def Mt.e (m : Mt) : Int := m.b + m.l
def Wy (ms : List Mt) : Int → Int → List Nat → Prop
  | _, _, [] => True
  | p, t, n :: ns => ∃ m q, ms[n]? = some m ∧ m.led p = some q ∧ t ≤ m.b ∧ Wy ms q m.e ns
def pls (ms : List Mt) : Int → List Nat → List Int
  | _, [] => []
  | p, n :: ns => match ms[n]? with
    | some m => match m.led p with | some q => q :: pls ms q ns | none => []
    | none => []
def wts (ms : List Mt) : Int → List Nat → List Int
  | _, [] => []
  | t, n :: ns => match ms[n]? with
    | some m => (m.b - t) :: wts ms m.e ns
    | none => []
def fin (ms : List Mt) : Int → List Nat → Int
  | t, [] => t
  | t, n :: ns => match ms[n]? with | some m => fin ms m.e ns | none => t
def lst (ms : List Mt) : Int → List Nat → Int
  | p, [] => p
  | p, n :: ns => match ms[n]? with
    | some m => match m.led p with | some q => lst ms q ns | none => p
    | none => p
theorem Wy.append {ms : List Mt} : ∀ {p t : Int} {xs ys : List Nat}, Wy ms p t (xs ++ ys) ↔ Wy ms p t xs ∧ Wy ms (lst ms p xs) (fin ms t xs) ys
  | p, t, [], ys => by simp [Wy, lst, fin]
  | p, t, n :: xs, ys => by
    simp only [List.cons_append, Wy]
    constructor
    · rintro ⟨m, q, h1, h2, h3, h4⟩
      have := (Wy.append (xs := xs) (ys := ys)).mp h4
      exact ⟨⟨m, q, h1, h2, h3, this.1⟩, by simp only [lst, fin, h1, h2]; exact this.2⟩
    · rintro ⟨⟨m, q, h1, h2, h3, h4⟩, h5⟩
      simp only [lst, fin, h1, h2] at h5
      exact ⟨m, q, h1, h2, h3, (Wy.append (xs := xs) (ys := ys)).mpr ⟨h4, h5⟩⟩
theorem Wy.idx {ms : List Mt} : ∀ {p t : Int} {xs : List Nat}, Wy ms p t xs → ∀ n ∈ xs, n < ms.length
  | _, _, [], _, n, h => by simp at h
  | p, t, n :: xs, ⟨m, q, h1, h2, h3, h4⟩, k, hk => by
    rcases List.mem_cons.mp hk with rfl | hk
    · exact (List.getElem?_eq_some_iff.mp h1).1
    · exact Wy.idx h4 k hk
theorem pls_append {ms : List Mt} : ∀ {p t : Int} {xs : List Nat} (ys : List Nat), Wy ms p t xs → pls ms p (xs ++ ys) = pls ms p xs ++ pls ms (lst ms p xs) ys
  | p, t, [], ys, _ => by simp [pls, lst]
  | p, t, n :: xs, ys, ⟨m, q, h1, h2, h3, h4⟩ => by
    simp only [List.cons_append, pls, lst, h1, h2]
    rw [pls_append ys h4]
theorem pls_last {ms : List Mt} : ∀ {p t : Int} {xs : List Nat}, Wy ms p t xs → (p :: pls ms p xs).getLast (by simp) = lst ms p xs
  | p, t, [], _ => by simp [pls, lst]
  | p, t, n :: xs, ⟨m, q, h1, h2, h3, h4⟩ => by
    have := pls_last h4
    simp only [pls, lst, h1, h2]
    rw [List.getLast_cons (by simp)]
    exact this
theorem wts_append {ms : List Mt} : ∀ {t : Int} {xs : List Nat} (ys : List Nat), (∀ n ∈ xs, n < ms.length) → wts ms t (xs ++ ys) = wts ms t xs ++ wts ms (fin ms t xs) ys
  | t, [], ys, _ => by simp [wts, fin]
  | t, n :: xs, ys, h => by
    have hn : n < ms.length := h n (by simp)
    have h1 : ms[n]? = some ms[n] := List.getElem?_eq_getElem hn
    simp only [List.cons_append, wts, fin, h1]
    rw [wts_append ys fun k hk => h k (by simp [hk])]
theorem wts_length {ms : List Mt} : ∀ {t : Int} {xs : List Nat}, (∀ n ∈ xs, n < ms.length) → (wts ms t xs).length = xs.length
  | t, [], _ => rfl
  | t, n :: xs, h => by
    have hn : n < ms.length := h n (by simp)
    have h1 : ms[n]? = some ms[n] := List.getElem?_eq_getElem hn
    simp only [wts, h1, List.length_cons]
    rw [wts_length fun k hk => h k (by simp [hk])]
theorem fin_append {ms : List Mt} : ∀ {t : Int} {xs : List Nat} (ys : List Nat), (∀ n ∈ xs, n < ms.length) → fin ms t (xs ++ ys) = fin ms (fin ms t xs) ys
  | t, [], ys, _ => rfl
  | t, n :: xs, ys, h => by
    have hn : n < ms.length := h n (by simp)
    have h1 : ms[n]? = some ms[n] := List.getElem?_eq_getElem hn
    simp only [List.cons_append, fin, h1]
    rw [fin_append ys fun k hk => h k (by simp [hk])]
def isW (ms : List Mt) : Int → Int → List Nat → Bool
  | _, _, [] => true
  | p, t, n :: ns => match ms[n]? with
    | some m => match m.led p with | some q => if m.b < t then false else isW ms q m.e ns | none => false
    | none => false
theorem isW_iff {ms : List Mt} : ∀ {p t : Int} {xs : List Nat}, isW ms p t xs = true ↔ Wy ms p t xs
  | p, t, [] => by simp [isW, Wy]
  | p, t, n :: xs => by
    simp only [isW, Wy]
    cases h1 : ms[n]? with
    | none => simp
    | some m =>
      cases h2 : m.led p with
      | none => simp [h2]
      | some q =>
        simp only [h2]
        by_cases hb : m.b < t
        · simp only [hb, if_true, Bool.false_eq_true, false_iff]
          rintro ⟨m', q', e1, e2, h3, _⟩
          cases e1
          omega
        · simp only [hb, if_false]
          rw [isW_iff]
          constructor
          · intro h; exact ⟨m, q, rfl, h2, by omega, h⟩
          · rintro ⟨m', q', e1, e2, h3, h4⟩
            cases e1
            rw [h2] at e2
            cases e2
            exact h4
theorem depth_all1 : ∀ ms : List Mt, PyData.depthAll (ms.map Mt.d) ≤ 1
  | [] => by simp [PyData.depthAll]
  | m :: ms => by
    have := depth_all1 ms
    simp only [List.map_cons, PyData.depthAll, Mt.d, PyData.depth]
    omega
theorem lay_all1 : ∀ ms : List Mt, PyData.canLayAll0 (ms.map Mt.d) = true
  | [] => rfl
  | m :: ms => by
    have h : PyData.canLay0 (.str (wd m.w)) = true := SeqAt.canLay_of_shaped (shaped_wd m.w)
    simp only [List.map_cons, PyData.canLayAll0, Mt.d, PyData.canLay0, lay_all1 ms, Bool.and_true]
    simpa [PyData.canLay0] using h
theorem shaped_lms (ms : List Mt) : SeqAt.shaped (.list (ms.map Mt.d)) = true := by
  have h1 := depth_all1 ms
  have h2 := lay_all1 ms
  simp [SeqAt.shaped, PyData.canLay0, PyData.depth, h2]
  omega
theorem shaped_tms (ms : List Mt) : SeqAt.shaped (.tuple (ms.map Mt.d)) = true := by
  have h1 := depth_all1 ms
  have h2 := lay_all1 ms
  simp [SeqAt.shaped, PyData.canLay0, PyData.depth, h2]
  omega
theorem depth_ints : ∀ ns : List Int, PyData.depthAll (ns.map PyData.int) = 0
  | [] => rfl
  | n :: ns => by simp [PyData.depthAll, PyData.depth, depth_ints ns]
theorem lay_ints : ∀ ns : List Int, PyData.canLayAll0 (ns.map PyData.int) = true
  | [] => rfl
  | n :: ns => by simp [PyData.canLayAll0, PyData.canLay0, lay_ints ns]
theorem shaped_intsL (ns : List Int) : SeqAt.shaped (.list (ns.map PyData.int)) = true := by
  simp [SeqAt.shaped, PyData.canLay0, PyData.depth, depth_ints, lay_ints]
end Net
namespace Net
open PySem L2 L2.Ev
def Mt.tm (T : Int) (m : Mt) : Mt := ⟨m.w, m.oth, m.one, T - (m.b + m.l), m.l⟩
theorem tm_e (T : Int) (m : Mt) : (m.tm T).e = T - m.b := by unfold Mt.tm Mt.e; simp; omega
theorem tm_b (T : Int) (m : Mt) : (m.tm T).b = T - m.e := rfl
theorem led_tm {T : Int} {m : Mt} (ne : m.one ≠ m.oth) {p q : Int} (h : m.led p = some q) : (m.tm T).led q = some p := by
  show (if q = m.oth then some m.one else if q = m.one ∧ m.w = true then some m.oth else none) = some p
  unfold Mt.led at h
  split at h
  · rename_i e
    cases h
    rw [if_pos rfl, e]
  · split at h
    · rename_i e1 e2
      cases h
      rw [if_neg ne, if_pos ⟨rfl, e2.2⟩, e2.1]
    · cases h
theorem at_tm {T : Int} {ms : List Mt} {n : Nat} {m : Mt} (h : ms[n]? = some m) : (ms.map (Mt.tm T))[n]? = some (m.tm T) := by rw [List.getElem?_map, h]; rfl
def lv (ms : List Mt) (t : Int) : List Nat → Int
  | [] => t
  | n :: _ => match ms[n]? with | some m => m.b | none => t
theorem lst_append {ms : List Mt} : ∀ {p t : Int} {xs : List Nat} (ys : List Nat), Wy ms p t xs → lst ms p (xs ++ ys) = lst ms (lst ms p xs) ys
  | p, t, [], ys, _ => rfl
  | p, t, n :: xs, ys, ⟨m, q, h1, h2, h3, h4⟩ => by
    simp only [List.cons_append, lst, h1, h2]
    exact lst_append ys h4
theorem Wy.turn {T : Int} {ms : List Mt} (ne : ∀ m ∈ ms, m.one ≠ m.oth) : ∀ {way : List Nat} {p t : Int}, Wy ms p t way →
    Wy (ms.map (Mt.tm T)) (lst ms p way) (T - fin ms t way) way.reverse ∧ lst (ms.map (Mt.tm T)) (lst ms p way) way.reverse = p ∧ fin (ms.map (Mt.tm T)) (T - fin ms t way) way.reverse = T - lv ms t way ∧
    (lst ms p way :: pls (ms.map (Mt.tm T)) (lst ms p way) way.reverse) = (p :: pls ms p way).reverse ∧ (wts (ms.map (Mt.tm T)) (T - fin ms t way) way.reverse).drop 1 = ((wts ms (lv ms t way) way).drop 1).reverse
  | [], p, t, _ => by simp [lst, fin, lv, pls, wts, Wy]
  | n :: ns, p, t, ⟨m, q, h1, h2, h3, h4⟩ => by
    obtain ⟨i1, i2, i3, i4, i5⟩ := Wy.turn ne h4
    have hm := ne m (List.mem_of_getElem? h1)
    have hl := led_tm (T := T) hm h2
    have ht := at_tm (T := T) h1
    have le : m.e ≤ lv ms m.e ns := by
      cases ns with
      | nil => exact Int.le_refl _
      | cons k ks => obtain ⟨m', q', e1, e2, e3, e4⟩ := h4; simp only [lv, e1]; exact e3
    have hf : fin ms t (n :: ns) = fin ms m.e ns := by simp only [fin, h1]
    have hls : lst ms p (n :: ns) = lst ms q ns := by simp only [lst, h1, h2]
    rw [hf, hls, List.reverse_cons]
    have hw : Wy (ms.map (Mt.tm T)) (lst ms q ns) (T - fin ms m.e ns) (ns.reverse ++ [n]) := Wy.append.mpr ⟨i1, by rw [i2, i3]; exact ⟨m.tm T, p, ht, hl, by rw [tm_b]; omega, trivial⟩⟩
    have hlv : lv ms t (n :: ns) = m.b := by simp only [lv, h1]
    refine ⟨hw, ?_, ?_, ?_, ?_⟩
    · rw [lst_append [n] i1, i2]; simp only [lst, ht, hl]
    · rw [fin_append [n] i1.idx]; simp only [fin, ht]; rw [tm_e, hlv]
    · rw [pls_append [n] i1, i2]
      simp only [pls, ht, hl, h1, h2]
      rw [← List.cons_append, i4]; simp
    · rw [wts_append [n] i1.idx, i3]
      simp only [wts, ht, h1, hlv]
      rw [tm_b]
      cases ns with
      | nil => simp [wts]
      | cons k ks =>
        have hne : 1 ≤ (wts (ms.map (Mt.tm T)) (T - fin ms m.e (k :: ks)) (k :: ks).reverse).length := by rw [wts_length i1.idx]; simp
        rw [List.drop_append_of_le_length hne, i5]
        obtain ⟨m', q', e1, e2, e3, e4⟩ := h4
        simp only [lv, wts, e1, List.drop_succ_cons, List.drop_zero]
        rw [List.reverse_cons]
        congr 2
        omega
theorem Wy.sooner {ms : List Mt} : ∀ {way : List Nat} {p t t' : Int}, t' ≤ t → Wy ms p t way → Wy ms p t' way
  | [], _, _, _, _, _ => trivial
  | n :: ns, p, t, t', h, ⟨m, q, h1, h2, h3, h4⟩ => ⟨m, q, h1, h2, by omega, h4⟩
structure Good (T many : Int) (ms : List Mt) : Prop where
  ok : ∀ m ∈ ms, m.Ok many
  e : ∀ m ∈ ms, m.e ≤ T
theorem Good.tm {T many : Int} {ms : List Mt} (g : Good T many ms) : Good T many (ms.map (Mt.tm T)) := by
  refine ⟨fun m h => ?_, fun m h => ?_⟩
  · obtain ⟨m', h', rfl⟩ := List.mem_map.mp h
    have o := g.ok m' h'
    have e := g.e m' h'
    exact ⟨o.t0, o.t1, o.o0, o.o1, fun z => o.ne z.symm, by rw [tm_b]; omega, o.l1⟩
  · obtain ⟨m', h', rfl⟩ := List.mem_map.mp h
    rw [tm_e]
    have := (g.ok m' h').b0
    omega
def pr (a : Int × Int) : PyData := .tuple [.int a.1, .int a.2]
end Net
namespace L2.Ev
open PySem PySem.Spec PyProof.Rows
section
variable {α : Type}
end
end L2.Ev
set_option maxHeartbeats 4000000
namespace L2.Ev
open PySem PySem.Spec PyProof.Rows
section
variable {X : Cx} {pins : List (Addr × Obj)} {σ : St} {H : Hp} {s : Shared} {h' : Heap}
end
section
variable {X : Cx} {k : Nat} {f : Addr} {fd : FuncData} {ps : List Str} {sp : Sp} {E : XK} {pins : List (Addr × Obj)} {σ : St} {H : Hp} {s : Shared} {Q : VK}
theorem FpOk.same {X : Cx} {pins : List (Addr × Obj)} {H H' : Hp} {b : Addr} (h : FpOk X pins H b) (n : H' b = none) : FpOk X pins H' b := ⟨n, h.2⟩
end
end L2.Ev
set_option maxHeartbeats 4000000
namespace L2.Ev
open PySem PySem.Spec PyProof.Rows
theorem mt_extend2 {X : Cx} : MtM X "list.extend" (fun x vs H Q => ∃ l b xs zs, x = .ref l ∧ vs = [.ref b] ∧ H l = some (.lst xs) ∧ Rd H b (.lst zs) ∧ xs.length + zs.length ≤ sizeLine ∧ Q .non (upd H l (.lst (xs ++ zs)))) := by
  intro pins s σ H x vs v us Q I rx rv h
  obtain ⟨l, b, xs, zs, rfl, rfl, hH, hB, hz, q⟩ := h
  cases rx
  obtain ⟨u, rfl, ru⟩ := rv.one
  cases ru
  obtain ⟨z, its, n, r, hl, e⟩ := I.lstM hH
  obtain ⟨z2, its2, n2, r2, e2⟩ := hB.ok I.hok
  have hl2 := r2.length
  have hsz : its.toArray.size + its2.toArray.size ≤ sizeLine := by rw [List.size_toArray, List.size_toArray]; omega
  have hlong : ¬ (!its.toArray.isEmpty && Builtin.List.listTooLong (its.toArray.size + its2.toArray.size)) = true := by
    rw [notLongL hsz, Bool.and_false]
    exact Bool.false_ne_true
  refine call_meets F.slot_list_extend ⟨_, e, rfl⟩ F.entry_list_extend (F.args_list_extend_2 _ _)
    (AutoSeq1.list_extend_list_list_0 l its.toArray n b its2.toArray n2 hlong (by rw [List.size_toArray]; omega) (by omega)) ⟨e, e2, ?_⟩
  refine ⟨.non, _, I.lset (its' := its ++ its2) hH e (by simp) (r.append r2) ?_, rfl, q⟩
  rw [List.length_append]
  omega
def wExt (fo fe : SE) : SE := fun ρ μ Q => fo ρ μ fun o μ1 => (match o with | .r n => (match μ1[n]? with | some (.lst _) => True | _ => False) | _ => False) ∧ fe ρ μ1 fun y μ2 => match o, lsOf μ2 y with
  | .r n, some ys => match μ2[n]? with
    | some (.lst xs) => xs.length + ys.length ≤ sizeLine ∧ Q (.p .none) (μ2.set n (.lst (xs ++ ys)))
    | _ => False
  | _, _ => False
section
variable {X : Cx}
theorem ge_ext {o e : Expr} {fo fe : SE} {apos cpos : Pos} (ho : GE X o fo) (he : GE X e fe) (hbase : attributeBase o "extend" X.env (eval o X.env) = eval o X.env := by rfl)
    (hfew : ((backTo cpos (starEach [e] X.env)).all (fun x => !x.1) && (backToKw cpos (keywordEach [] X.env)).all (fun x => x.1.isSome)
      && decide ([e].length + ([] : List Keyword).length + (if ([] : List Keyword).isEmpty then 0 else 1) < 30)) = true := by rfl)
    (hline : (apos.endLine == cpos.line) = true := by rfl) (hs : starEach [e] X.env = (false, eval e X.env) :: starEach [] X.env := by rfl) (hplain : (backTo cpos (starEach [] X.env)).any (·.1) = false := by rfl) :
    GE X (.Call (.Attribute o "extend" apos) [e] [] cpos) (wExt fo fe) := ⟨PE_imp (pe_bm PySem.F.plainAttrs_list PySem.F.slot_list_extend PySem.F.type_list_extend mt_extend2 ho.go (pa_cons he.go pa_nil hs) hbase hfew hline hs hplain) fun σ H Q ⟨as, ρ, μ, Q0, S, E, h, A⟩ =>
  ⟨as, ρ, μ, _, S, E, h, fun w μ1 as1 v H1 q1 s1 S1 r1 => by
    obtain ⟨z, q1⟩ := q1
    split at z
    · rename_i n
      split at z
      · rename_i xs0 hc0
        obtain ⟨a, rfl, ha⟩ := r1
        obtain ⟨vs0, h0, _⟩ := S1.cell n a _ ha hc0
        refine ⟨.inl ⟨rfl, _, SqL.of h0⟩, as1, ρ, μ1, _, S1, E.mono s1, q1, fun y μ2 as2 v2 H2 q2 s2 S2 r2 => ?_⟩
        split at q2
        · rename_i n' ys heq ey
          cases heq
          split at q2
          · rename_i xs hc
            have ha2 : as2.as[n]? = some a := by
              obtain ⟨t, e⟩ := s2.pre
              rw [e, List.getElem?_append_left (List.getElem?_eq_some_iff.mp ha).1]; exact ha
            obtain ⟨vs, h1, h2⟩ := S2.cell n a _ ha2 hc
            obtain ⟨b, zs, rfl, sb, dz⟩ := lsOf_sq S2 r2 ey
            have hm := List.mem_of_getElem? ha2
            refine ⟨a, b, vs, zs, rfl, rfl, h1, sb, by rw [h2.length, dz.length]; exact q2.1, A _ _ as2 _ _ q2.2 (s1.trans (s2.trans (Stp.write hm _))) (S2.write ha2 _ _ ⟨_, upd_same, (h2.append dz).mono (Stp.write hm _)⟩) Dz.non⟩
          · exact q2.elim
        · exact q2.elim
      · exact z.elim
    · exact z.elim⟩⟩
end
end L2.Ev
set_option maxHeartbeats 4000000
namespace L2.Ev
open PySem PySem.Spec PyProof.Rows
end L2.Ev
set_option maxHeartbeats 4000000
namespace L2.Ev
open PySem PySem.Spec PyProof.Rows
namespace Lt
section
variable {prog : Program} {w : World} {A : Around} {E : Value → Shared → Prop} {s : Shared} {a l : Addr} {its : Array Value}
end
end Lt
end L2.Ev
set_option maxHeartbeats 4000000
namespace L2.Ev
open PySem PySem.Spec PyProof.Rows
section
variable {P : Program} {w : World} {K : PySem.W.Frag}
def tyU (h : Heap) (T : String) : Value → Prop
  | .none => T = "NoneType"
  | .bool _ => T = "bool"
  | .int _ _ => T = "int"
  | .str _ _ => T = "str"
  | .ref a => (T = "list" ∨ T = "tuple" ∨ T = "dict") ∧ ∃ o, h.get? a = some o ∧ o.cls = .type T
  | _ => False
theorem tyU.keep {h h' : Heap} {T : String} {u : Value} (k : ∀ b o, h.get? b = some o → h'.get? b = some o) (t : tyU h T u) : tyU h' T u := by
  unfold tyU at t ⊢
  split at t <;> first | exact t | (obtain ⟨a, o, e, c⟩ := t; exact ⟨a, o, k _ _ e, c⟩)
end
end L2.Ev
set_option maxHeartbeats 4000000
namespace L2.Ev
open PySem PySem.Spec PyProof.Rows
def tyV (K : PySem.W.Frag) (H : Hp) (T : String) : V → Prop
  | .non => T = "NoneType"
  | .bl _ => T = "bool"
  | .int _ => T = "int"
  | .str _ => T = "str"
  | .ref a => (T = "list" ∧ ∃ xs, SqL K H a xs) ∨ (T = "tuple" ∧ ∃ xs, SqT K H a xs) ∨ (T = "dict" ∧ ∃ us, Rd H a (.dK us))
  | _ => False
theorem tyV.u {X : Cx} {pins : List (Addr × Obj)} {σ : St} {H : Hp} {s : Shared} (I : Inv X pins σ H s) {T : String} {x : V} {u : Value} (r : RelV x u) (t : tyV X.K H T x) : tyU s.heap T u := by
  cases x with
  | non => cases r; exact t
  | bl b => cases r; exact t
  | int i => obtain ⟨_, rfl⟩ := r; exact t
  | str i => obtain ⟨_, rfl⟩ := r; exact t
  | ref a =>
    cases r
    rcases t with ⟨rfl, xs, h⟩ | ⟨rfl, xs, h⟩ | ⟨rfl, us, h⟩
    · obtain ⟨its, _, ⟨o, n, e, c, _⟩, _⟩ := I.list h
      exact ⟨.inl rfl, o, e, c⟩
    · obtain ⟨its, _, ⟨o, e, c, _⟩, _⟩ := I.tuple h
      exact ⟨.inr (.inl rfl), o, e, c⟩
    · obtain ⟨_, _, vs, _, o, es, ep, e, c, _⟩ := dk_rd I.hok h
      exact ⟨.inr (.inr rfl), o, e, c.1⟩
  | _ => exact t.elim
section
variable {X : Cx}
end
end L2.Ev
namespace Net
open PySem L2 L2.Ev TL
def nm (n : Int) : Str := Str.ofString (toString n)
theorem tl_nm {n : Int} (h : 0 ≤ n) : tl (nm n) = numL n.toNat := by
  obtain ⟨m, rfl⟩ := Int.eq_ofNat_of_zero_le h
  exact tl_num m
theorem nm_len {n : Int} {k : Nat} (hk : 0 < k) (h : 0 ≤ n) (h2 : n < 10 ^ k) : (nm n).length ≤ k := by
  rw [len_tl, tl_nm h]
  refine numL_len hk ?_
  have : ((n.toNat : Nat) : Int) < ((10 ^ k : Nat) : Int) := by rw [Int.toNat_of_nonneg h]; simpa using h2
  exact_mod_cast this
theorem nm_ne {n : Int} (h : 0 ≤ n) : tl (nm n) ≠ [] := by rw [tl_nm h]; exact numL_ne _
def hline (n : Int) : Str := "places " ++ nm n
structure Mt.Fit (m : Mt) : Prop where
  o : m.one < 10 ^ 100
  t : m.oth < 10 ^ 100
  b : m.b < 10 ^ 100
  l : m.l < 10 ^ 100
theorem joinL_len (S : List Nat) : ∀ ps : List (List Nat), (joinL S ps).length ≤ (ps.map List.length).sum + ps.length * S.length
  | [] => by simp [joinL]
  | [p] => by simp [joinL]
  | p :: q :: r => by
    have := joinL_len S (q :: r)
    simp only [joinL, List.length_append, List.map_cons, List.sum_cons, List.length_cons, Nat.add_mul, Nat.one_mul] at this ⊢
    omega
theorem sum_len_le {B : Nat} : ∀ {ps : List Str}, (∀ p ∈ ps, p.length ≤ B) → (ps.map (·.length)).sum ≤ ps.length * B
  | [], _ => by simp
  | p :: ps, h => by
    have h1 := h p (by simp)
    have h2 := sum_len_le (ps := ps) fun q hq => h q (by simp [hq])
    simp only [List.map_cons, List.sum_cons, List.length_cons, Nat.add_mul, Nat.one_mul]
    omega
theorem join_len {y : Str} {ps : List Str} {B : Nat} (h : ∀ p ∈ ps, p.length ≤ B) : (Txt.join y ps).length ≤ ps.length * B + ps.length * y.length := by
  rw [len_tl, join_eq, tl_join]
  refine Nat.le_trans (joinL_len _ _) ?_
  have h1 := sum_len_le h
  have h2 : (ps.map tl).map List.length = ps.map (·.length) := by
    rw [List.map_map]
    refine List.map_congr_left fun p _ => ?_
    show (tl p).length = p.length
    rw [len_tl]
  rw [h2, List.length_map, ← len_tl]
  omega
end Net
namespace Net
open PySem L2 L2.Ev
theorem oSl_tup {μ : Mu} {Q : WK} (xs : List PyData) (lo hi : Option Int) : oSl (.p (.tuple xs)) lo hi μ Q = Q (.p (.tuple (cut xs lo hi))) μ := rfl
theorem cut_take {α : Type} (xs : List α) (k : Nat) : cut xs none (some (k : Int)) = xs.take k := by
  unfold cut
  rw [HT.sIx_none, HT.sIx_nat]
  simp [List.take_eq_take_iff]
theorem rng_mem {lo : Int} {n : Nat} {x : PyData} (h : x ∈ rng lo n) : ∃ i : Nat, i < n ∧ x = .int (lo + (i : Int)) := by
  simp only [rng, List.mem_map, List.mem_range] at h
  obtain ⟨i, hi, rfl⟩ := h
  exact ⟨i, hi, rfl⟩
theorem rng_cons {lo : Int} {x : PyData} {xs : List PyData} (h : x :: xs = rng lo (x :: xs).length) : x = .int lo ∧ xs = rng (lo + 1) xs.length := by
  rw [List.length_cons] at h
  unfold rng at h
  rw [List.range_succ_eq_map, List.map_cons, List.map_map] at h
  injection h with e1 e2
  refine ⟨by rw [e1]; simp, e2.trans ?_⟩
  unfold rng
  refine List.map_congr_left fun i _ => ?_
  simp only [Function.comp]
  congr 1
  omega
section
variable {μ : Mu} {a b c : Cell}
end
structure LongOk (f : Int) (ms : List Mt) : Prop where
  all : ∀ (k : Nat) (m : Mt), ms[k]? = some m → m.Ok 2 ∧ m.b = f + k ∧ m.l = 1 ∧ m.led ((k : Int) % 2) = some (1 - (k : Int) % 2)
theorem LongOk.way {f : Int} {ms : List Mt} (h : LongOk f ms) : ∀ (k j : Nat) (t : Int), j + k = ms.length → t ≤ f + j → Wy ms ((j : Int) % 2) t (List.range' j k)
  | 0, j, t, _, _ => by simp [Wy]
  | k + 1, j, t, e, ht => by
    have hj : j < ms.length := by omega
    have e1 : ms[j]? = some ms[j] := List.getElem?_eq_getElem hj
    obtain ⟨_, hb, hl, hd⟩ := h.all j _ e1
    rw [List.range'_succ]
    refine ⟨ms[j], _, e1, hd, by omega, ?_⟩
    have := LongOk.way h k (j + 1) (ms[j].e) (by omega) (by unfold Mt.e; omega)
    rw [show (1 : Int) - (j : Int) % 2 = ((j + 1 : Nat) : Int) % 2 from by omega]
    exact this
end Net
set_option maxHeartbeats 4000000
namespace L2.Ev
open PySem PySem.Spec PyProof.Rows
end L2.Ev
set_option maxHeartbeats 4000000
namespace L2.Ev
open PySem PySem.Spec PyProof.Rows
theorem keys_read0 {P : Program} {w : World} {h : Heap} : ∀ {es : List DictEntry} {vs : List (Key × Value)}, Pairs (mixKind P w) es vs → ReadsAll h (es.map (·.key)) (vs.map fun v => keyD v.1) []
  | _, _, .nil => .nil
  | _, _, .cons (e := e) (kv := kv) hk _ t => by
    have q := keys_read0 (h := h) t
    rcases keyIs_shape hk with ⟨i, t, e1, e2⟩ | ⟨x, t, e1, e2⟩
    · refine ReadsAll.cons (as := []) (bs := []) ?_ q
      show Reads h e.key (keyD kv.1) []
      rw [e1, e2]; exact Reads.int _ _
    · refine ReadsAll.cons (as := []) (bs := []) ?_ q
      show Reads h e.key (keyD kv.1) []
      rw [e1, e2]; exact Reads.str _ _
end L2.Ev
set_option maxHeartbeats 4000000
namespace L2.Ev
open PySem PySem.Spec PyProof.Rows
end L2.Ev
set_option maxHeartbeats 4000000
namespace L2.Ev
open PySem PySem.Spec PyProof.Rows
def isS (d : PyData) (y : Str) : Bool := match d with
  | .str z => y == z
  | _ => false
end L2.Ev
set_option maxHeartbeats 4000000
namespace L2.Ev
open PySem PySem.Spec PyProof.Rows
end L2.Ev
set_option maxHeartbeats 4000000
namespace L2.Ev
open PySem PySem.Spec PyProof.Rows
theorem Rels.append {K : PySem.W.Frag} {as : Cs} {H : Hp} {ws us : List W} {vs zs : List V} (h : Rels K as H ws vs) (k : Rels K as H us zs) : Rels K as H (ws ++ us) (vs ++ zs) := by
  induction h with
  | nil => exact k
  | cons r _ ih => exact .cons r ih
theorem Rels.set {K : PySem.W.Frag} {as : Cs} {H : Hp} {ws : List W} {vs : List V} (h : Rels K as H ws vs) {w : W} {v : V} (r : Rel K as H w v) : ∀ j : Nat, Rels K as H (ws.set j w) (vs.set j v) := by
  induction h with
  | nil => intro j; exact .nil
  | cons r0 h0 ih =>
    intro j
    cases j with
    | zero => exact .cons r h0
    | succ j => exact .cons r0 (ih j)
theorem Rels.ix {K : PySem.W.Frag} {as : Cs} {H : Hp} {ws : List W} {vs : List V} (h : Rels K as H ws vs) {i : Int} {w : W} (e : atI ws i = some w) : ∃ v, atI vs i = some v ∧ Rel K as H w v := by
  unfold atI at e ⊢
  rw [← h.length]
  cases q : ixN ws.length i with
  | none => rw [q] at e; cases e
  | some j => rw [q] at e; exact h.get e
end L2.Ev
set_option maxHeartbeats 4000000
namespace L2.Ev
open PySem PySem.Spec PyProof.Rows
end L2.Ev
set_option maxHeartbeats 4000000
namespace L2.Ev
open PySem PySem.Spec PyProof.Rows
namespace En
section
variable {prog : Program} {w : World} {A : Around} {E : Value → Shared → Prop} {s : Shared}
theorem wpAny_alive {M : Model} {A : Around} {E : Value → Shared → Prop} {s : Shared} {a : Addr} {Q : Option Obj → Shared → Prop} (h : Q (s.heap.get? a) s) : wpAny M A (loadIfAlive a) Q E s := by
  intro Γ p hΓ
  show Sem.wp M Γ (Sem.loadIfAlive a Sem.pure) _ _ _ _
  rw [Sem.wp_loadIfAlive]
  exact h
def enO (T : Addr) (b1 : Value) (it : Addr) (i : Int) (old : Value) : Obj := { cls := .type "enumerate", data := .fields #[rawInt (T : Int), b1, .ref it, rawInt i, .none, old] }
theorem next_again {e it t T : Addr} {i : Nat} {its : Array Value} {x b1 old : Value} {oT : Obj} {Q : Option Value → Shared → Prop} (hne : e ≠ it) (hTe : T ≠ e) (hTi : T ≠ it)
    (he : s.heap.get? e = some (enO T b1 it i old)) (hb : b1 = .bool true ∨ b1 = .bool false) (hit : s.heap.IsTupleIter it t i) (ht : s.heap.IsTuple t its) (hT : s.heap.get? T = some oT) (hx : its[i]? = some x)
    (hQ : ∀ (h' : Heap) (tk : Nat), h'.get? e = some (enO T (.bool true) it (i + 1 : Nat) old) → h'.IsTupleIter it t (i + 1) → h'.get? s.heap.objs.size = some { cls := .type "tuple", data := .seq #[.int i tk, x] } → h'.objs.size = s.heap.objs.size + 1 → (∀ b o, b ≠ e → b ≠ it → s.heap.get? b = some o → h'.get? b = some o) → Q (some (.ref s.heap.objs.size)) { s with heap := h', toks := tk + 1 }) :
    wpAny (model prog w) A (pyNext (.ref e)) Q E s := by
  have hTI : s.TypeIs (.ref e) "enumerate" := ⟨_, he, rfl⟩
  unfold pyNext
  refine wpAny_bind (wpAny_attempt (wpAny_callSpecial?_slot (name := Str.ofString "__next__") hTI PySem.F.slot_enumerate_next (wpAny_call_entry PySem.F.slot_enumerate_next hTI PySem.F.entry_enumerate_next ?_ (PySem.F.args_enumerate_next_1 _))))
  refine wpAny_bind (m := field (.ref e) 2) (wpAny_field he rfl (x := .ref it) rfl ?_)
  refine wpAny_bind (Zt.next_item hit ht hx fun h1 hit1 sb1 => ?_)
  have he1 : h1.get? e = some (enO T b1 it i old) := (sb1.2 e hne).trans he
  have hT1 : h1.get? T = some oT := (sb1.2 T hTi).trans hT
  refine wpAny_bind (m := field (.ref e) 3) (wpAny_field he1 rfl (x := rawInt (i : Int)) rfl ?_)
  show wpAny _ _ (field (.ref e) 4 >>= _) _ _ _
  refine wpAny_bind (m := field (.ref e) 4) (wpAny_field he1 rfl (x := .none) rfl ?_)
  rw [if_pos (show ((Value.none == Value.none) = true) from rfl)]
  refine wpAny_bind (wpAny_mkInt ?_)
  refine wpAny_bind (wpAny_setField he1 rfl (show 3 < 6 by decide) ?_)
  have g2 := Heap.get?_update_self (Obj.mapFields fun y => y.setIfInBounds 3 (rawInt ((i : Int) + 1))) he1 rfl
  have o2 : ∀ b, b ≠ e → (h1.update e (Obj.mapFields fun y => y.setIfInBounds 3 (rawInt ((i : Int) + 1)))).get? b = h1.get? b := fun b hb => Heap.get?_update_other _ _ (Ne.symm hb)
  refine wpAny_bind (wpAny_setField g2 rfl (show 4 < 6 by decide) ?_)
  have g3 := Heap.get?_update_self (Obj.mapFields fun y => y.setIfInBounds 4 Value.none) g2 rfl
  have o3 : ∀ b, b ≠ e → ((h1.update e (Obj.mapFields fun y => y.setIfInBounds 3 (rawInt ((i : Int) + 1)))).update e (Obj.mapFields fun y => y.setIfInBounds 4 Value.none)).get? b = h1.get? b := fun b hb => (Heap.get?_update_other _ _ (Ne.symm hb)).trans (o2 b hb)
  have z3 : ((h1.update e (Obj.mapFields fun y => y.setIfInBounds 3 (rawInt ((i : Int) + 1)))).update e (Obj.mapFields fun y => y.setIfInBounds 4 Value.none)).objs.size = h1.objs.size := by simp [Heap.update]
  have g3' : ((h1.update e (Obj.mapFields fun y => y.setIfInBounds 3 (rawInt ((i : Int) + 1)))).update e (Obj.mapFields fun y => y.setIfInBounds 4 Value.none)).get? e = some (enO T b1 it ((i + 1 : Nat) : Int) old) := g3
  generalize (h1.update e (Obj.mapFields fun y => y.setIfInBounds 3 (rawInt ((i : Int) + 1)))).update e (Obj.mapFields fun y => y.setIfInBounds 4 Value.none) = h3 at g3' o3 z3
  have z1 : h1.objs.size = s.heap.objs.size := sb1.1
  have le : e < h3.objs.size := Heap.lt_size g3'
  refine wpAny_bind (m := newTuple _) (wpAny_newObj_type ?_ (by size_fits))
  have g4 : (h3.push { cls := .type "tuple", data := .seq [Value.int i s.toks, x].toArray }).get? e = some (enO T b1 it ((i + 1 : Nat) : Int) old) := Heap.get?_push_of_some _ g3'
  have t4 : (h3.push { cls := .type "tuple", data := .seq [Value.int i s.toks, x].toArray }).get? T = some oT := Heap.get?_push_of_some _ ((o3 T hTe).trans hT1)
  have n4 : (h3.push { cls := .type "tuple", data := .seq [Value.int i s.toks, x].toArray }).get? h3.objs.size = some { cls := .type "tuple", data := .seq [Value.int i s.toks, x].toArray } := Heap.get?_push_size _ rfl
  have s4 : (h3.push { cls := .type "tuple", data := .seq [Value.int i s.toks, x].toArray }).objs.size = h3.objs.size + 1 := Heap.size_push ..
  have k4 : ∀ b o, b ≠ e → b ≠ it → s.heap.get? b = some o → (h3.push { cls := .type "tuple", data := .seq [Value.int i s.toks, x].toArray }).get? b = some o := fun b o hb hb2 ho => Heap.get?_push_of_some _ ((o3 b hb).trans ((sb1.2 b hb2).trans ho))
  have i4 : (h3.push { cls := .type "tuple", data := .seq [Value.int i s.toks, x].toArray }).IsTupleIter it t (i + 1) := Zt.itAt hit1 fun o q => Heap.get?_push_of_some _ ((o3 it (Ne.symm hne)).trans q)
  have hsz : h3.objs.size = s.heap.objs.size := z3.trans z1
  rw [hsz] at n4 s4
  show wpAny _ _ (Builtin.SmallTypes.ownedTupleIsFree (.ref e) >>= _) _ _ _
  rw [show (Value.ref h3.objs.size) = Value.ref s.heap.objs.size from by rw [hsz]]
  generalize h3.push { cls := .type "tuple", data := .seq [Value.int i s.toks, x].toArray } = h4 at g4 t4 n4 s4 k4 i4
  refine wpAny_bind ?_
  unfold Builtin.SmallTypes.ownedTupleIsFree
  refine wpAny_bind (m := field (.ref e) 0) (wpAny_field g4 rfl (x := rawInt (T : Int)) rfl ?_)
  show wpAny _ _ (loadIfAlive ((T : Int)).toNat >>= _) _ _ _
  refine wpAny_bind (wpAny_alive ?_)
  rw [show ((T : Int)).toNat = T from Int.toNat_natCast T]
  rw [show Shared.heap { s with heap := h4, toks := s.toks + 1 } = h4 from rfl, t4]
  rw [if_neg (by simp)]
  refine wpAny_bind (m := field (.ref e) 1) (wpAny_field g4 rfl (x := b1) rfl ?_)
  rcases hb with rfl | rfl
  · rw [if_neg (by decide)]
    refine wpAny_pure ?_
    rw [if_neg (by simp)]
    refine wpAny_pure ⟨_, rfl, wpAny_pure ?_⟩
    exact hQ h4 s.toks g4 i4 n4 s4 k4
  · rw [if_pos (by decide)]
    refine wpAny_bind (wpAny_setField g4 rfl (show 1 < 6 by decide) ?_)
    refine wpAny_pure ?_
    rw [if_neg (by simp)]
    refine wpAny_pure ⟨_, rfl, wpAny_pure ?_⟩
    have g5 := Heap.get?_update_self (Obj.mapFields fun y => y.setIfInBounds 1 (Value.bool true)) g4 rfl
    have ls : s.heap.objs.size ≠ e := Nat.ne_of_gt (Heap.lt_size he)
    refine hQ _ s.toks g5 (Zt.itAt i4 fun o q => (Heap.get?_update_other _ _ hne).trans q) ((Heap.get?_update_other _ _ (Ne.symm ls)).trans n4) (by simp [Heap.update]; exact s4) fun b o hb hb2 ho => (Heap.get?_update_other _ _ (Ne.symm hb)).trans (k4 b o hb hb2 ho)
theorem next_done {e it t : Addr} {i : Nat} {its : Array Value} {f0 f1 f3 f4 f5 : Value} {Q : Option Value → Shared → Prop} (hh : A.handled = none)
    (he : s.heap.get? e = some { cls := .type "enumerate", data := .fields #[f0, f1, .ref it, f3, f4, f5] }) (hit : s.heap.IsTupleIter it t i) (ht : s.heap.IsTuple t its) (hx : its[i]? = none)
    (hQ : ∀ h' : Heap, (∀ b o, b ≠ it → s.heap.get? b = some o → h'.get? b = some o) → Q none { s with heap := h' }) : wpAny (model prog w) A (pyNext (.ref e)) Q E s := by
  have hTI : s.TypeIs (.ref e) "enumerate" := ⟨_, he, rfl⟩
  unfold pyNext
  refine wpAny_bind (wpAny_attempt (wpAny_callSpecial?_slot (name := Str.ofString "__next__") hTI PySem.F.slot_enumerate_next (wpAny_call_entry PySem.F.slot_enumerate_next hTI PySem.F.entry_enumerate_next ?_ (PySem.F.args_enumerate_next_1 _))))
  refine wpAny_bind (m := field (.ref e) 2) (wpAny_field he rfl (x := .ref it) rfl ?_)
  refine wpAny_bind (Zt.next_end hh hit ht hx fun h' x he' hx' => ?_)
  obtain ⟨o, ho, hc'⟩ := hx'
  exact wpAny_bind (wpAny_isInstance (T := "StopIteration") (b := true) ⟨o, ho, hc'⟩ isSubtype_stop (wpAny_pure (hQ h' fun b o hb q => he' b o hb q)))
def Prs (its : Array Value) (e it S : Addr) (h : Heap) (acc : Array Value) (n : Nat) : Prop := acc.size = n ∧ ∀ (j : Nat) (v : Value), acc[j]? = some v → ∃ (b : Addr) (tk : Nat) (x : Value), v = .ref b ∧ b ≠ e ∧ b ≠ it ∧ b ≠ S ∧ its[j]? = some x ∧ h.get? b = some { cls := .type "tuple", data := .seq #[.int j tk, x] }
theorem Prs.keep {its : Array Value} {e it S : Addr} {h h' : Heap} {acc : Array Value} {n : Nat} (p : Prs its e it S h acc n) (k : ∀ b o, b ≠ e → b ≠ it → b ≠ S → h.get? b = some o → h'.get? b = some o) : Prs its e it S h' acc n :=
  ⟨p.1, fun j v hv => let ⟨b, tk, x, e1, e2, e3, e4, e5, e6⟩ := p.2 j v hv; ⟨b, tk, x, e1, e2, e3, e4, e5, k b _ e2 e3 e4 e6⟩⟩
theorem Prs.push {its : Array Value} {e it S : Addr} {h : Heap} {acc : Array Value} {n : Nat} (p : Prs its e it S h acc n) {b : Addr} {tk : Nat} {x : Value} (e2 : b ≠ e) (e3 : b ≠ it) (e4 : b ≠ S) (e5 : its[n]? = some x) (e6 : h.get? b = some { cls := .type "tuple", data := .seq #[.int n tk, x] }) : Prs its e it S h (acc.push (.ref b)) (n + 1) := by
  refine ⟨by simp [p.1], fun j v hv => ?_⟩
  rw [Array.getElem?_push] at hv
  split at hv
  · rename_i hj
    cases hv
    have hj : j = n := hj.trans p.1
    subst hj
    exact ⟨b, tk, x, rfl, e2, e3, e4, e5, e6⟩
  · exact p.2 j v hv
theorem loop {e it t S T : Addr} {its : Array Value} {oT : Obj} {res : Value} {R : Result → Shared → Prop} (hz : its.size ≤ sizeLine) (hh : A.handled = none) (hne : e ≠ it) (hte : t ≠ e) (hti : t ≠ it) (htS : t ≠ S) (heS : e ≠ S) (hiS : it ≠ S) (hTe : T ≠ e) (hTi : T ≠ it) (hTS : T ≠ S) :
    ∀ (k i : Nat) (s : Shared) (acc : Array Value) (c : Nat) (b1 old : Value), its.size - i = k → i ≤ its.size → s.heap.get? e = some (enO T b1 it i old) → (b1 = .bool true ∨ b1 = .bool false) → s.heap.IsTupleIter it t i → s.heap.IsTuple t its → s.heap.get? T = some oT →
      s.heap.get? S = some { cls := .type "list", data := .seq acc c } → Prs its e it S s.heap acc i →
      (∀ (h' : Heap) (tk : Nat) (acc' : Array Value) (c' : Nat), (∀ b o, b ≠ e → b ≠ it → b ≠ S → s.heap.get? b = some o → h'.get? b = some o) → h'.get? S = some { cls := .type "list", data := .seq acc' c' } → Prs its e it S h' acc' its.size → R (.ok (.ret res)) { s with heap := h', toks := tk }) →
      codeAny (model prog w) A (.builtin "list.extend.loop" ⟨[.ref S, .ref e, res], []⟩) R s
  | 0, i, s, acc, c, b1, old, hk, hi, he, hb, hit, ht, hT, hS, hp, hR => by
    refine codeAny_builtin PySem.F.entry_extend_loop ?_
    rw [Around.under_plainId PySem.F.plain_extend_loop _]
    show wpAny _ A.in1 (pyNext (.ref e) >>= _) _ _ _
    have hi' : i = its.size := by omega
    subst hi'
    refine wpAny_bind (next_done hh he hit ht (by simp) fun h' hk' => ?_)
    refine wpAny_pure ?_
    exact hR h' s.toks acc c (fun b o hb hb2 hb3 ho => hk' b o hb2 ho) (hk' S _ (Ne.symm hiS) hS) (hp.keep fun b o hb hb2 hb3 ho => hk' b o hb2 ho)
  | k + 1, i, s, acc, c, b1, old, hk, hi, he, hb, hit, ht, hT, hS, hp, hR => by
    refine codeAny_builtin PySem.F.entry_extend_loop ?_
    rw [Around.under_plainId PySem.F.plain_extend_loop _]
    show wpAny _ A.in1 (pyNext (.ref e) >>= _) _ _ _
    have hlt : i < its.size := by omega
    have lS : S < s.heap.objs.size := Heap.lt_size hS
    have le : e < s.heap.objs.size := Heap.lt_size he
    have li : it < s.heap.objs.size := by obtain ⟨o, ho, _⟩ := id hit; exact Heap.lt_size ho
    refine wpAny_bind (next_again (x := its[i]) hne hTe hTi he hb hit ht hT (by simp [hlt]) fun h' tk he' hit' hn' hsz' hk' => ?_)
    show wpAny _ _ (updateSeq S _ >>= _) _ _ _
    have gS : h'.get? S = some { cls := .type "list", data := .seq acc c } := hk' S _ (Ne.symm heS) (Ne.symm hiS) hS
    refine wpAny_bind (wpAny_updateSeq gS rfl ?_ (by rw [hp.1]; omega) (by simp only [Array.size_push, hp.1]; omega))
    have g2 := Heap.get?_update_self (Obj.mapSeq (·.push (Value.ref s.heap.objs.size))) gS rfl
    have o2 : ∀ b, b ≠ S → (h'.update S (Obj.mapSeq (·.push (Value.ref s.heap.objs.size)))).get? b = h'.get? b := fun b hb => Heap.get?_update_other _ _ (Ne.symm hb)
    refine wpAny_pure ⟨plainId_quiet PySem.F.plain_extend_loop _, ?_⟩
    have hp2 : Prs its e it S (h'.update S (Obj.mapSeq (·.push (Value.ref s.heap.objs.size)))) (acc.push (.ref s.heap.objs.size)) (i + 1) := (hp.keep fun b o hb hb2 hb3 ho => (o2 b hb3).trans (hk' b o hb hb2 ho)).push (tk := tk) (Nat.ne_of_gt le) (Nat.ne_of_gt li) (Nat.ne_of_gt lS) (by simp [hlt]) ((o2 _ (Nat.ne_of_gt lS)).trans hn')
    refine loop (oT := oT) hz hh hne hte hti htS heS hiS hTe hTi hTS k (i + 1) { s with heap := _, toks := _ } (acc.push (.ref s.heap.objs.size)) _ (.bool true) old (by omega) (by omega) ((o2 e heS).trans he') (.inl rfl) (Zt.itAt hit' fun o q => (o2 it hiS).trans q) ?_ ((o2 T hTS).trans (hk' T _ hTe hTi hT)) g2 hp2 fun h2 tk2 acc2 c2 k2 g3 p3 => ?_
    · exact Zt.tupAt ht fun o q => (o2 t htS).trans (hk' t o hte hti q)
    · exact hR h2 tk2 acc2 c2 (fun b o hb hb2 hb3 ho => k2 b o hb hb2 hb3 ((o2 b hb3).trans (hk' b o hb hb2 ho))) g3 p3
end
def enK {α : Type} : Nat → List α → List (Key × α)
  | _, [] => []
  | k, v :: vs => (.inl (k : Int), v) :: enK (k + 1) vs
end En
theorem Prs.en {K : PySem.W.Frag} {as : Cs} {H : Hp} : ∀ {vs : List V} {ds : List PyData} {k : Nat}, DzAll K as H vs ds → Prs K as H (En.enK k vs) (En.enK k ds)
  | _, _, k, .nil => .nil
  | _, _, k, .cons h t => .cons h (Prs.en t)
end L2.Ev
set_option maxHeartbeats 4000000
namespace L2.Ev
open PySem PySem.Spec PyProof.Rows
end L2.Ev
set_option maxHeartbeats 4000000
namespace L2.Ev
open PySem PySem.Spec PyProof.Rows
section
variable {X : Cx}
theorem dz_intsT {K : PySem.W.Frag} {as : Cs} {H : Hp} : ∀ {vs : List V} {ns : List Int}, DzAll K as H vs (ns.map PyData.int) → vs = ns.map V.int
  | _, [], h => by cases h; rfl
  | _, n :: ns, h => by
    cases h with
    | cons h t =>
      cases h
      rw [dz_intsT t]
      rfl
end
end L2.Ev
set_option maxHeartbeats 4000000
namespace L2.Ev
open PySem PySem.Spec PyProof.Rows
section
variable {prog : Program} {w : World} {A : Around} {R : Result → Shared → Prop}
end
end L2.Ev
set_option maxHeartbeats 4000000
namespace L2.Ev
open PySem PySem.Spec PyProof.Rows
section
variable {X : Cx} {elt tg iter : Expr} {ifs : List Expr} {scope : Scope} {own : List (Str × Nat)} {pos : Pos} {it : SI} {t : Tg} {c : ST} {e : SE}
end
end L2.Ev
set_option maxHeartbeats 4000000
namespace L2.Ev
open PySem PySem.Spec PyProof.Rows
def dctL (dk : List (Key × PyData)) : List (PyData × PyData) := dk.map fun kv => (keyD kv.1, kv.2)
section
variable {X : Cx} {pos : Pos}
end
end L2.Ev
namespace L2.Ev
open PySem PySem.Spec
abbrev Asc (xs : Array Nat) : Prop := xs.toList.Pairwise (· < ·)
theorem Asc.lt {xs : Array Nat} (h : Asc xs) {i j : Nat} (hij : i < j) (hj : j < xs.size) : xs.getD i 0 < xs.getD j 0 := by
  have hi : i < xs.size := by omega
  have e := List.pairwise_iff_getElem.mp h i j (by simpa using hi) (by simpa using hj) hij
  simpa [Array.getD, hi, hj] using e
structure BelowOf (xs : Array Nat) (j r : Nat) : Prop where
  le : r ≤ xs.size
  lo : ∀ i, i < r → xs.getD i 0 < j
  hi : ∀ i, r ≤ i → i < xs.size → j ≤ xs.getD i 0
theorem below_go (xs : Array Nat) (j : Nat) (hA : Asc xs) : ∀ (fuel lo hi : Nat), hi - lo ≤ fuel → lo ≤ hi → hi ≤ xs.size →
    (∀ i, i < lo → xs.getD i 0 < j) → (∀ i, hi ≤ i → i < xs.size → j ≤ xs.getD i 0) → BelowOf xs j (SetTable.below.go xs j fuel lo hi)
  | 0, lo, hi, hf, hl, hs, h1, h2 => by
    have e : lo = hi := by omega
    subst e
    unfold SetTable.below.go
    exact ⟨hs, h1, h2⟩
  | fuel + 1, lo, hi, hf, hl, hs, h1, h2 => by
    unfold SetTable.below.go
    by_cases hlt : lo < hi
    · rw [if_pos hlt]
      dsimp only
      by_cases hm : xs.getD ((lo + hi) / 2) j < j
      · rw [if_pos hm]
        have hmid : (lo + hi) / 2 < xs.size := by omega
        have e0 : xs.getD ((lo + hi) / 2) j = xs.getD ((lo + hi) / 2) 0 := by simp [Array.getD, hmid]
        rw [e0] at hm
        refine below_go xs j hA fuel _ _ (by omega) (by omega) hs (fun i hi' => ?_) h2
        by_cases hi2 : i = (lo + hi) / 2
        · subst hi2; exact hm
        · exact Nat.lt_trans (hA.lt (by omega) hmid) hm
      · rw [if_neg hm]
        have hmid : (lo + hi) / 2 < xs.size := by omega
        have e0 : xs.getD ((lo + hi) / 2) j = xs.getD ((lo + hi) / 2) 0 := by simp [Array.getD, hmid]
        rw [e0] at hm
        refine below_go xs j hA fuel _ _ (by omega) (by omega) (by omega) h1 (fun i hi' hi2 => ?_)
        by_cases hi3 : i = (lo + hi) / 2
        · subst hi3; omega
        · have := hA.lt (show (lo + hi) / 2 < i by omega) hi2
          omega
    · rw [if_neg hlt]
      have e : lo = hi := by omega
      subst e
      exact ⟨hs, h1, h2⟩
theorem below_of {xs : Array Nat} (hA : Asc xs) (j : Nat) : BelowOf xs j (SetTable.below xs j) := by
  unfold SetTable.below
  exact below_go xs j hA xs.size 0 xs.size (by omega) (Nat.zero_le _) (Nat.le_refl _) (fun i h => by omega) (fun i h1 h2 => by omega)
theorem below_zero {xs : Array Nat} (hA : Asc xs) : SetTable.below xs 0 = 0 := by
  have b := below_of hA 0
  rcases Nat.eq_zero_or_pos (SetTable.below xs 0) with h | h
  · exact h
  · have := b.lo 0 h; omega
theorem below_next {xs : Array Nat} (hA : Asc xs) {i : Nat} (hi : i < xs.size) : SetTable.below xs (xs.getD i 0 + 1) = i + 1 := by
  have b := below_of hA (xs.getD i 0 + 1)
  have hle := b.le
  by_cases h1 : SetTable.below xs (xs.getD i 0 + 1) ≤ i
  · have := b.hi i h1 hi; omega
  · by_cases h2 : i + 1 < SetTable.below xs (xs.getD i 0 + 1)
    · have h3 := b.lo (i + 1) h2
      have h4 := hA.lt (show i < i + 1 by omega) (by omega)
      omega
    · omega
theorem asc_range (n : Nat) : Asc (Array.range n) := by
  unfold Asc; rw [Array.toList_range]; exact List.pairwise_lt_range
theorem asc_put {xs : Array Nat} (hA : Asc xs) {j : Nat} (hj : xs[SetTable.below xs j]? ≠ some j) : Asc (SetTable.insertAt xs (SetTable.below xs j) j) := by
  have b := below_of hA j
  unfold Asc
  rw [SetTable.toList_insertAt]
  rw [List.pairwise_append]
  refine ⟨hA.sublist (List.take_sublist _ _), ?_, ?_⟩
  · rw [List.pairwise_cons]
    refine ⟨fun a ha => ?_, hA.sublist (List.drop_sublist _ _)⟩
    obtain ⟨k, hk, rfl⟩ := List.mem_iff_getElem.mp ha
    rw [List.length_drop, Array.length_toList] at hk
    rw [List.getElem_drop]
    have h1 := b.hi (SetTable.below xs j + k) (by omega) (by omega)
    have e1 : xs.getD (SetTable.below xs j + k) 0 = xs.toList[SetTable.below xs j + k]'(by rw [Array.length_toList]; omega) := by simp [Array.getD, show SetTable.below xs j + k < xs.size by omega]
    rw [e1] at h1
    rcases Nat.eq_zero_or_pos k with rfl | hk0
    · refine Nat.lt_of_le_of_ne h1 fun e => hj ?_
      have hb : SetTable.below xs j < xs.size := by omega
      rw [Array.getElem?_eq_getElem hb]
      simpa using e.symm
    · have h2 := hA.lt (show SetTable.below xs j < SetTable.below xs j + k by omega) (by omega)
      have h3 := b.hi (SetTable.below xs j) (Nat.le_refl _) (by omega)
      rw [e1] at h2
      omega
  · intro a ha c hc
    have h1 : a < j := by
      obtain ⟨k, hk, rfl⟩ := List.mem_iff_getElem.mp ha
      rw [List.length_take, Array.length_toList] at hk
      rw [List.getElem_take]
      have := b.lo k (by omega)
      simpa [Array.getD, show k < xs.size by omega] using this
    rcases List.mem_cons.mp hc with rfl | hc
    · exact h1
    · obtain ⟨k, hk, rfl⟩ := List.mem_iff_getElem.mp hc
      rw [List.length_drop, Array.length_toList] at hk
      rw [List.getElem_drop]
      have h2 := b.hi (SetTable.below xs j + k) (by omega) (by omega)
      have e1 : xs.getD (SetTable.below xs j + k) 0 = xs.toList[SetTable.below xs j + k]'(by rw [Array.length_toList]; omega) := by simp [Array.getD, show SetTable.below xs j + k < xs.size by omega]
      rw [e1] at h2
      omega
theorem probe_empty {t : SetTable} {hashAt : Nat → Int} {h : Int} : ∀ (fuel : Nat) (p : SetTable.Probe) (j : Nat) (d : Option Nat),
    SetTable.probe.go t hashAt h fuel p = some (.empty j d) → t.slot j = .empty ∧ (∀ k, d = some k → p.dummy = some k ∨ t.slot k = .dummy)
  | 0, p, j, d, e => by unfold SetTable.probe.go at e; cases e
  | fuel + 1, p, j, d, e => by
    unfold SetTable.probe.go at e
    split at e
    · rename_i hs
      injection e with e
      injection e with e1 e2
      subst e1; subst e2
      exact ⟨hs, fun k hk => .inl hk⟩
    · rename_i hs
      obtain ⟨a, b⟩ := probe_empty fuel _ j d e
      refine ⟨a, fun k hk => ?_⟩
      rcases b k hk with h1 | h1
      · unfold SetTable.advance at h1
        split at h1
        · injection h1 with h1; subst h1; exact .inr hs
        · injection h1 with h1; subst h1; exact .inr hs
      · exact .inr h1
    · split at e
      · cases e
      · obtain ⟨a, b⟩ := probe_empty fuel _ j d e
        refine ⟨a, fun k hk => ?_⟩
        rcases b k hk with h1 | h1
        · unfold SetTable.advance at h1
          split at h1 <;> exact .inl h1
        · exact .inr h1
theorem slot_free {t : SetTable} {j : Nat} (h : ∀ i, t.slot j ≠ .live i) : t.place[SetTable.below t.place j]? ≠ some j := fun e => by
  refine h (SetTable.below t.place j) ?_
  unfold SetTable.slot
  dsimp only
  rw [if_pos (by rw [e]; exact beq_self_eq_true _)]
theorem free_slot {t : SetTable} {h : Int} {j : Nat} {b : Bool} (e : t.freeSlot h = some (j, b)) : t.place[SetTable.below t.place j]? ≠ some j := by
  unfold SetTable.freeSlot at e
  split at e
  · rename_i j' d hp
    injection e with e
    injection e with e1 e2
    unfold SetTable.probe at hp
    obtain ⟨a, b⟩ := probe_empty _ _ _ _ hp
    refine slot_free fun i hi => ?_
    cases d with
    | none => simp only [Option.getD_none] at e1; subst e1; rw [a] at hi; cases hi
    | some k =>
      simp only [Option.getD_some] at e1
      subst e1
      rcases b k rfl with h1 | h1
      · unfold SetTable.probeStart at h1; cases h1
      · rw [h1] at hi; cases hi
  · cases e
structure TabOk (w : World) (t : SetTable) : Prop where
  asc : Asc t.place
  led : w.params.followText "set-order" = true ∨ t.led = true
theorem TabOk.standIn {w : World} {t : SetTable} (h : TabOk w t) (n : Nat) : TabOk w (t.standIn n) := ⟨asc_range n, h.led⟩
theorem TabOk.off {w : World} {t : SetTable} (h : TabOk w t) : TabOk w { t with plain := false } := ⟨h.asc, h.led⟩
theorem layNew_ok {w : World} {t : SetTable} (h : TabOk w t) (es : Array (Int × Value)) (k : Int) (x : Value) : TabOk w (layNew t es k x).2.1 := by
  unfold layNew
  split
  · rename_i slot wd e
    have hf := free_slot e
    dsimp only
    unfold SetTable.orStandIn
    have hp : TabOk w (t.put slot).1 := ⟨asc_put h.asc hf, h.led⟩
    split
    · exact hp
    · exact hp.standIn _
  · exact h.standIn _
theorem relaid_ok {w : World} {t t' : SetTable} {hs : Array Int} {n : Nat} {o : Array Nat} (h : TabOk w t) (e : t.relaid hs n = some (t', o)) : TabOk w t' := by
  unfold SetTable.relaid SetTable.laid at e
  cases hl : SetTable.layClean (SetTable.sizeAbove n - 1) hs with
  | none => rw [hl] at e; simp at e
  | some owner =>
    rw [hl] at e
    simp only [Option.bind_eq_bind, Option.bind_some, Option.pure_def, Option.some.injEq, Prod.mk.injEq] at e
    obtain ⟨rfl, _⟩ := e
    refine ⟨?_, h.led⟩
    show List.Pairwise _ _
    rw [List.pairwise_map, List.pairwise_filterMap]
    refine List.Pairwise.imp (fun {a b} hab c hc d hd => ?_) List.pairwise_lt_range
    rw [Option.map_eq_some_iff] at hc hd
    obtain ⟨_, _, rfl⟩ := hc
    obtain ⟨_, _, rfl⟩ := hd
    exact hab
theorem relayAll_ok {w : World} {t : SetTable} (h : TabOk w t) (es : Array (Int × Value)) (n : Nat) : TabOk w (relayAll t es n).2.1 := by
  unfold relayAll
  split
  · rename_i t' order e
    dsimp only
    split
    · exact relaid_ok h e
    · exact h.standIn _
  · exact h.standIn _
end L2.Ev
namespace L2.Ev
open PySem PySem.Spec PyProof.Rows
abbrev IK (prog : Program) (w : World) := PySem.intKind prog w
def SetW (prog : Program) (w : World) (h : Heap) (a : Addr) (S : Int → Bool) (n : Nat) : Prop :=
  ∃ o es ep t, h.get? a = some o ∧ o.ExactSet ∧ o.data = .set es ep t ∧ ElemsOf (IK prog w) es.toList ∧ (∀ k, S k = true ↔ ∃ e ∈ es.toList, (IK prog w).is k e.2 = true)
    ∧ es.size < scanBound ∧ t.fits es.size = true ∧ es.size = n ∧ TabOk w t
section
variable {prog : Program} {w : World} {A : Around} {E : Value → Shared → Prop} {s : Shared}
theorem SetW.congr {h : Heap} {a : Addr} {S S' : Int → Bool} {n n' : Nat} (x : SetW prog w h a S n) (e : ∀ k, S k = S' k) (en : n = n') : SetW prog w h a S' n' := by
  obtain rfl : S = S' := funext e
  subst en; exact x
theorem SetW.kept {h h' : Heap} {a : Addr} {S : Int → Bool} {n : Nat} (x : SetW prog w h a S n) (e : ∀ o, h.get? a = some o → h'.get? a = some o) : SetW prog w h' a S n := by
  obtain ⟨o, es, ep, t, ho, r⟩ := x
  exact ⟨o, es, ep, t, e o ho, r⟩
theorem set_stored {a : Addr} {o : Obj} {es es' : Array (Int × Value)} {ep : Nat} {t t' : SetTable} {S : Int → Bool} {h : Heap} (ho : h.get? a = some o) (hx : o.ExactSet) (hd : o.data = .set es ep t)
    (he : ElemsOf (IK prog w) es'.toList) (hm : ∀ k, S k = true ↔ ∃ e ∈ es'.toList, (IK prog w).is k e.2 = true) (hb : es'.size < scanBound) (hf : t'.fits es'.size = true) (ht : TabOk w t') :
    (h.update a (Obj.putSet es' t')).get? a = some { o with data := .set es' (ep + 1) t' } ∧ SetW prog w (h.update a (Obj.putSet es' t')) a S es'.size := by
  have g := (SetOf_store (knd := IK prog w) ho hx hd he hm hb hf).1
  exact ⟨g, _, es', ep + 1, t', g, hx, rfl, he, hm, hb, hf, rfl, ht⟩
theorem setAdd_w {a : Addr} {S : Int → Bool} {n : Nat} {k : Int} {tk : Tok} {Q : Bool → Shared → Prop} (hS : SetW prog w s.heap a S n) (hroom : S k = true ∨ n + 1 < scanBound)
    (h : ∀ (b : Bool) h', Heap.SameBut a s.heap h' → SetW prog w h' a (fun k' => S k' || decide (k' = k)) (if S k then n else n + 1) → Q b { s with heap := h' }) :
    wpAny (model prog w) A (setAddHashed a (.int k tk) ((IK prog w).hash k)) Q E s := by
  have hkey : (IK prog w).is k (.int k tk) = true := intKind_is _ _ _ _
  have hsc : (Value.int k tk).scannable = true := rfl
  obtain ⟨o, es, ep, t, ho, hex, hd, hel, hmem, hb, hf, hn, hok⟩ := hS
  unfold setAddHashed setAddHashedIn
  refine wpAny_holding (wpAny_bind (wpAny_setState_of ho hd hf ?_))
  dsimp only
  rw [byScan_of hsc hb hel, if_pos rfl]
  refine wpAny_bind ?_
  unfold setAddByScan
  refine wpAny_bind (wpAny_rule ?_)
  refine wpAny_bind (wpAny_setScan_of hkey ho hd hf hel ?_)
  rcases hr : List.findIdx? (fun e => (IK prog w).is k e.2) es.toList with _ | j
  · rw [hr]; dsimp only
    have hSk : S k = false := by
      rcases hk : S k with _ | _
      · rfl
      · obtain ⟨e, he, hp⟩ := (hmem k).mp hk
        have := List.findIdx?_eq_none_iff.mp hr e he
        rw [hp] at this; cases this
    have hb2 : n + 1 < scanBound := by rcases hroom with h0 | h0; rw [hSk] at h0; cases h0; exact h0
    have gw : ∀ (b : Bool) {s₁ : Shared} {Q' : Unit → Shared → Prop}, Q' () s₁ → wpAny (model prog w) A (match b with | true => rule "set.scan.the-table-gave-way" | false => pure ()) Q' E s₁ := by
      intro b s₁ Q' q
      cases b
      · exact wpAny_pure q
      · exact wpAny_rule q
    have p1 := layNew_perm t es ((IK prog w).hash k) (.int k tk)
    have f1 := layNew_fits t es ((IK prog w).hash k) (.int k tk)
    have o1 := layNew_ok hok es ((IK prog w).hash k) (.int k tk)
    rw [Array.toList_push] at p1
    generalize layNew t es ((IK prog w).hash k) (.int k tk) = L at p1 f1 o1 ⊢
    obtain ⟨es1, t1, wd, gave⟩ := L
    dsimp only at p1 f1 o1 ⊢
    have he1 : ElemsOf (IK prog w) es1.toList := (hel.push hkey hsc).perm p1
    have hm1 : ∀ k', (S k' || decide (k' = k)) = true ↔ ∃ e ∈ es1.toList, (IK prog w).is k' e.2 = true := mem_push_iff hkey hmem p1
    have hz1 : es1.size = n + 1 := by
      have := p1.length_eq
      rw [Array.length_toList, List.length_append, Array.length_toList, hn] at this
      exact this
    have hb1 : es1.size < scanBound := by rw [hz1]; exact hb2
    have fin : ∀ (b : Bool) h', Heap.SameBut a s.heap h' → SetW prog w h' a (fun k' => S k' || decide (k' = k)) es1.size → Q b { s with heap := h' } := by
      intro b h' sb x
      refine h b h' sb ?_
      rw [hSk]
      rw [hz1] at x
      exact x
    refine wpAny_bind (gw _ ?_)
    have tail : ∀ (t2 : SetTable), t2.fits es1.size = true → TabOk w t2 → ∀ (R : Option Bool → Shared → Prop), (∀ h', Heap.SameBut a s.heap h' → SetW prog w h' a (fun k' => S k' || decide (k' = k)) es1.size → R (some true) { s with heap := h' }) →
        wpAny (model prog w) A (do
          storeSet a es1 t2
          if (!wd && t2.tooFull) = true then do
            let (es, t, gave) := relayAll t2 es1 (SetTable.grown es1.size)
            (match gave with | true => rule "set.scan.the-table-gave-way" | false => pure ())
            storeSet a es t
            pure (some true)
          else pure (some true)) R E s := by
      intro t2 f2 o2 R hR
      refine wpAny_bind (wpAny_storeSet_of ho hd ?_ (fits_of_scanBound hb1))
      obtain ⟨g1, w1⟩ := set_stored (prog := prog) (S := fun k' => S k' || decide (k' = k)) ho hex hd he1 hm1 hb1 f2 o2
      have sb1 := Heap.SameBut.update s.heap a (Obj.putSet es1 t2)
      by_cases hq : (!wd && t2.tooFull) = true
      · rw [if_pos hq]
        have p2 := relayAll_perm t2 es1 (SetTable.grown es1.size)
        have f3 := relayAll_fits t2 es1 (SetTable.grown es1.size)
        have o3 := relayAll_ok o2 es1 (SetTable.grown es1.size)
        generalize relayAll t2 es1 (SetTable.grown es1.size) = Rl at p2 f3 o3 ⊢
        obtain ⟨es2, t3, gave2⟩ := Rl
        dsimp only at p2 f3 o3 ⊢
        have hz2 : es2.size = es1.size := by rw [← Array.length_toList, p2.length_eq, Array.length_toList]
        have hb3 : es2.size < scanBound := by rw [hz2]; exact hb1
        refine wpAny_bind (gw _ ?_)
        refine wpAny_bind (wpAny_storeSet_of g1 rfl ?_ (fits_of_scanBound hb3))
        obtain ⟨_, w2⟩ := set_stored (prog := prog) (S := fun k' => S k' || decide (k' = k)) (o := { o with data := .set es1 (ep + 1) t2 }) g1 hex rfl (he1.perm p2)
          (fun k' => (hm1 k').trans ⟨fun ⟨e, he, q⟩ => ⟨e, p2.mem_iff.mpr he, q⟩, fun ⟨e, he, q⟩ => ⟨e, p2.mem_iff.mp he, q⟩⟩) hb3 f3 o3
        rw [hz2] at w2
        exact wpAny_pure (hR _ (sb1.trans (Heap.SameBut.update _ a _)) w2)
      · rw [if_neg hq]
        exact wpAny_pure (hR _ sb1 w1)
    by_cases hpl : t1.plain = true
    · rw [if_pos hpl]
      refine wpAny_bind ?_
      rw [hashByValue_scannable 8 hsc]
      refine wpAny_pure ?_
      exact tail _ f1 o1 _ fun h' sb x => wpAny_pure (fin _ h' sb x)
    · rw [if_neg hpl]
      refine wpAny_bind (wpAny_pure ?_)
      exact tail _ f1 o1 _ fun h' sb x => wpAny_pure (fin _ h' sb x)
  · rw [hr]; dsimp only
    obtain ⟨hj, hpj, _⟩ := List.findIdx?_eq_some_iff_getElem.mp hr
    have hSk : S k = true := (hmem k).mpr ⟨es.toList[j], List.getElem_mem hj, hpj⟩
    refine wpAny_pure (wpAny_pure ?_)
    have q := h false s.heap (Heap.SameBut.refl a s.heap) (by
      rw [hSk]
      refine SetW.congr (S := S) (n := n) ⟨o, es, ep, t, ho, hex, hd, hel, hmem, hb, hf, hn, hok⟩ (fun k' => ?_) (by simp)
      by_cases e : k' = k
      · subst e; simp [hSk]
      · simp [e])
    exact q
end
end L2.Ev
namespace L2.Ev
open PySem PySem.Spec PyProof.Rows
theorem firstMet_mono (val : Nat → Int) {i j : Nat} (h : i ≤ j) : (firstMet val i).length ≤ (firstMet val j).length := by
  induction j with
  | zero => have : i = 0 := by omega
            subst this; exact Nat.le_refl _
  | succ j ih =>
    by_cases e : i = j + 1
    · subst e; exact Nat.le_refl _
    · refine Nat.le_trans (ih (by omega)) ?_
      rw [firstMet_succ, step_length]
      split <;> omega
section
variable {prog : Program} {w : World} {A : Around} {R : Result → Shared → Prop} {I : Addr} {fp wr : List Addr} {G : Array GenState → Array GenState → Prop} {n : Nat} {P : Nat → Value → Prop} {St : Nat → Shared → Prop}
abbrev metBy (val : Nat → Int) (i : Nat) : Int → Bool := fun k => (firstMet val i).any (· == k)
theorem fill_w (W : WalksS prog w A.in1 I fp wr G n P St) (S : Addr) (hSf : S ∉ fp)
    (val : Nat → Int) (hval : ∀ i v, P i v → ∃ t, v = .int (val i) t) (hb : (firstMet val n).length < scanBound) :
    ∀ (k i : Nat) (s : Shared), n - i = k → i ≤ n → St i s → SetW prog w s.heap S (metBy val i) (firstMet val i).length →
      (∀ s', Moved (S :: wr) G s s' → SetW prog w s'.heap S (metBy val n) (firstMet val n).length → R (.ok (.ret .none)) s') →
      codeAny (model prog w) A (.builtin "set.update.loop" ⟨[.ref S, .ref I], []⟩) R s := by
  have hSw : S ∉ wr := fun h => hSf (W.sub _ h)
  have hsub : ∀ b ∈ wr, b ∈ S :: wr := fun b hb => List.mem_cons_of_mem _ hb
  intro k
  induction k with
  | zero =>
    intro i s hk hi hst hS hR
    obtain rfl : i = n := by omega
    refine codeAny_builtin F.entry_set_update_loop ?_
    rw [Around.under_plainId F.plain_set_update_loop _]
    show wpAny _ A.in1 (pyNext (.ref I) >>= _) _ _ s
    refine wpAny_bind (W.done s _ _ hst fun s' hm => ?_)
    show wpAny _ A.in1 (ret Value.none) _ _ s'
    exact wpAny_pure (hR s' (hm.mono hsub) (hS.kept fun o e => hm.heap S o hSw e))
  | succ k ih =>
    intro i s hk hi hst hS hR
    have hlt : i < n := by omega
    refine codeAny_builtin F.entry_set_update_loop ?_
    rw [Around.under_plainId F.plain_set_update_loop _]
    show wpAny _ A.in1 (pyNext (.ref I) >>= _) _ _ s
    refine wpAny_bind (W.item i s _ _ hlt hst fun v s' hP hst' hm => ?_)
    obtain ⟨t, rfl⟩ := hval i v hP
    have hS' : SetW prog w s'.heap S (metBy val i) (firstMet val i).length := hS.kept fun o e => hm.heap S o hSw e
    show wpAny _ A.in1 (holding [Value.int (val i) t] (setAdd S (.int (val i) t)) >>= _) _ _ s'
    refine wpAny_bind (wpAny_holding ?_)
    unfold setAdd
    refine wpAny_holding ?_
    refine wpAny_bind ((IK prog w).pyHash (k := val i) (intKind_is _ _ _ _) ?_)
    have hroom : metBy val i (val i) = true ∨ (firstMet val i).length + 1 < scanBound := by
      have hm1 := firstMet_mono val (show i + 1 ≤ n by omega)
      rw [firstMet_succ, step_length] at hm1
      by_cases h0 : metBy val i (val i) = true
      · exact .inl h0
      · have h0' : ¬ ((firstMet val i).any (· == val i)) = true := h0
        rw [if_neg h0'] at hm1
        by_cases h1 : (firstMet val i).length + 1 < scanBound
        · exact .inr h1
        · exact absurd hb (by omega)
    refine setAdd_w (s := { s' with toks := s'.toks + 1 }) hS' hroom fun b0 h' hsb hS2 => ?_
    have hSi : SetW prog w h' S (metBy val (i + 1)) (firstMet val (i + 1)).length :=
      hS2.congr (fun k' => by show _ = (firstMet val (i + 1)).any _; rw [firstMet_succ, step_any]) (by rw [firstMet_succ, step_length])
    refine wpAny_pure ⟨plainId_quiet F.plain_set_update_loop _, ih (i + 1) _ (by omega) hlt (W.frame _ s' _ _ hst' (Nat.le_succ _) fun b hb o e => ?_) hSi fun s'' hm'' hS'' => ?_⟩
    · rw [hsb.2 b (fun h : b = S => hSf (by rw [← h]; exact hb))]; exact e
    · refine hR s'' (Moved.trans W.gtrans ((hm.mono hsub).then_heap (Nat.le_succ _) fun b o hb e => ?_) hm'') hS''
      rw [hsb.2 b (fun h : b = S => hb (by rw [h]; exact List.mem_cons_self))]; exact e
end
section
variable {prog : Program} {w : World} {A : Around} {E : Value → Shared → Prop} {s : Shared}
abbrev newSetObj (led : Bool) : Obj := { cls := .type "set", dict := none, data := .set #[] 0 (.fresh 0 0 led) }
theorem code_set_new_w (a : Value) {Q₁ : Value → Shared → Prop}
    (h : ∀ led : Bool, (w.params.followText "set-order" = true ∨ led = true) → Q₁ (.ref s.heap.objs.size) { s with heap := s.heap.push (newSetObj led) }) :
    codeAny (model prog w) A (.call (.builtin "set.__new__") ⟨[.type "set", a], []⟩) (wants Q₁ E) s := by
  refine codeAny_of_tree ?_
  show wpAny _ A.in1 (do checkBuiltinCall "set.__new__" ⟨[.type "set", a], []⟩; again (.builtin "set.__new__" ⟨[.type "set", a], []⟩)) _ _ s
  refine wpAny_bind (wpAny_of_eq (PySem.F.newCall_set_1 a) (wpAny_pure ⟨plainId_quiet F.plain_set_new _, codeAny_builtin F.entry_set_new ?_⟩))
  rw [Around.under_plainId F.plain_set_new _]
  unfold Builtin.«set.__new__» Builtin.Frozenset.newClass
  have hsub := sub_set_self
  obtain ⟨hp, g, d, tk, os⟩ := s
  dsimp only
  wp_walk
  refine wpAny_askSetting (wpAny_pure ?_)
  dsimp only
  simp only [newObj]
  refine wpAny_bind (wpAny_alloc (wpAny_pure ?_))
  refine wpAny_pure (h _ ?_)
  show _ ∨ (!(w.params.followText "set-order")) = true
  cases w.params.followText "set-order" <;> simp
set_option maxHeartbeats 3200000 in
theorem set_of_list_w {l : Addr} {items : Array Value} {ns : List Int} {Q : Value → Shared → Prop}
    (hh : A.handled = none) (hl : s.heap.IsList l items) (hi : IntsAre items.toList ns) (hb : (firstMet (fun i => ns.getD i 0) items.size).length < scanBound)
    (h : ∀ (h' : Heap) (tk : Nat), s.toks ≤ tk → SetW prog w h' s.heap.objs.size (metBy (fun i => ns.getD i 0) items.size) (firstMet (fun i => ns.getD i 0) items.size).length →
      s.heap.objs.size < h'.objs.size →
      (∀ b o, b < s.heap.objs.size → s.heap.get? b = some o → h'.get? b = some o) → Q (.ref s.heap.objs.size) { s with heap := h', toks := tk }) :
    wpAny (model prog w) A (call (.type "set") [.ref l]) Q E s := by
  obtain ⟨c, tl, hmro⟩ := PySem.F.called_set.mro
  have hmade := PySem.F.called_set.made
  have hsub := PySem.F.called_set.sub
  refine wpAny_call (codeAny_of_tree ?_)
  show wpAny _ _ (callAny (.type "set") _) _ _ _
  refine wpAny_pure ⟨Code.quiet_builtin _ (by decide +kernel), codeAny_builtin PySem.F.entry_type_call ?_⟩
  rw [Around.under_plain (weight_type_call_type "set" [.ref l] []) rfl]
  have h1 := PySem.F.called_set.notType
  have h2 := PySem.F.called_set.canCreate
  have hct := PySem.F.typeCall_set_1 (.ref l)
  repeat (any_goals (first | assumption | wp_step))
  refine codeAny_mono (code_set_new_w (.ref l) (E := E) (Q₁ := fun obj s₁ => ∃ led : Bool, (w.params.followText "set-order" = true ∨ led = true) ∧ obj = .ref s.heap.objs.size ∧ s₁ = { s with heap := s.heap.push (newSetObj led) }) fun led hled => ⟨led, hled, rfl, rfl⟩) fun r s₁ hr => ?_
  cases r with
  | error e => exact hr
  | ok fl =>
    cases fl with
    | ret obj =>
      obtain ⟨led, hled, rfl, rfl⟩ := hr
      have hS : (s.heap.push (newSetObj led)).get? s.heap.objs.size = some (newSetObj led) := Heap.get?_push_size _ rfl
      have hT : Shared.TypeIs { s with heap := s.heap.push (newSetObj led) } (.ref s.heap.objs.size) "set" := ⟨_, hS, rfl⟩
      have hli := PySem.F.called_set.init.lookup
      have hbi := PySem.F.called_set.init.bind (.ref s.heap.objs.size)
      repeat (any_goals (first | assumption | wp_step))
      refine codeAny_mono (codeAny_call_builtin (R := wants (fun r s₂ => r = .none ∧ ∃ h' tk, s.toks ≤ tk ∧ s₂ = { s with heap := h', toks := tk } ∧
          SetW prog w h' s.heap.objs.size (metBy (fun i => ns.getD i 0) items.size) (firstMet (fun i => ns.getD i 0) items.size).length ∧
          s.heap.objs.size < h'.objs.size ∧
          (∀ b o, b < s.heap.objs.size → s.heap.get? b = some o → h'.get? b = some o)) E) PySem.F.called_set.init.plain F.entry_set_init (check_set_init_1 hT ?_)) fun r₂ s₂ hr₂ => ?_
      · obtain ⟨ol, hol, hcl, nl, hdl⟩ := hl
        obtain ⟨ocls, odict, odata, oslots⟩ := ol
        simp only at hcl hdl
        subst hcl; subst hdl
        have hol' : (s.heap.push (newSetObj led)).get? l = some { cls := .type "list", dict := odict, data := .seq items nl, slots := oslots } := Heap.get?_push_of_some _ hol
        have hsls := PySem.F.sub_list_set
        have hslf := PySem.F.sub_list_frozenset
        have hne : (Value.type "list" == Value.type "dict") = false := by decide
        have hl1 : (s.heap.push (newSetObj led)).IsList l items := ⟨_, hol', rfl, nl, rfl⟩
        unfold Builtin.«set.__init__» noKeywords Builtin.Frozenset.updateFrom
        generalize hPI : pyIter = PI
        wp_walk
        subst hPI
        refine wpAny_pyIter_list hl1 ?_
        refine wpAny_bind (wpAny_runValue ?_)
        have hlS : l < s.heap.objs.size := Heap.lt_size hol
        have hh3 : A.in1.in1.in1.handled = none := by simp [hh]
        have hneI : l ≠ (s.heap.push (newSetObj led)).objs.size := by
          rw [Heap.size_push]; exact Nat.ne_of_lt (Nat.lt_succ_of_lt hlS)
        have hSf : s.heap.objs.size ∉ [(s.heap.push (newSetObj led)).objs.size, l] := by
          rw [Heap.size_push]; simp only [List.mem_cons, List.mem_singleton, List.not_mem_nil, or_false, not_or]
          exact ⟨Nat.ne_of_lt (Nat.lt_succ_self _), Nat.ne_of_gt hlS⟩
        have hval : ∀ (i : Nat) (v : Value), items[i]? = some v → ∃ t, v = .int ((fun i => ns.getD i 0) i) t := fun i v hv =>
          IntsAre.int_at hi i v (by rw [Array.getElem?_toList]; exact hv)
        refine fill_w ((PySem.Walks.list hh3 _ l hneI items).toS) s.heap.objs.size
          hSf (fun i => ns.getD i 0) hval hb (items.size - 0) 0 _ (by omega) (Nat.zero_le _)
          ⟨⟨_, Heap.get?_push_size _ rfl, rfl, rfl⟩, (hl1.push _)⟩ ?hS0 ?hR
        case hS0 =>
          have hget : ((s.heap.push (newSetObj led)).push { cls := .type "list_iterator", data := .fields #[.ref l, .int 0 0] }).get? s.heap.objs.size
              = some (newSetObj led) := Heap.get?_push_of_some _ hS
          exact ⟨_, #[], 0, .fresh 0 0 led, hget, ⟨rfl, rfl, rfl⟩, rfl, fun e he => by simp at he, fun k => by simp [metBy, firstMet_zero], by decide, rfl, rfl, ⟨.nil, hled⟩⟩
        case hR =>
          intro s' hm hS'
          obtain ⟨h', g', d', tk', os'⟩ := s'
          have eg : g' = s.gens := hm.gens
          have ed : d' = s.drawn := hm.drawn
          have eo : os' = s.os := hm.os
          have et : s.toks ≤ tk' := hm.toks
          subst eg; subst ed; subst eo
          show wpAny _ _ _ _ _ _
          refine wpAny_pure ?_
          show wpAny _ _ (ret Value.none) _ _ _
          refine wpAny_pure ⟨rfl, h', tk', et, rfl, hS', ?_, fun b o hb e => ?_⟩
          · obtain ⟨o, _, _, _, ho, _⟩ := hS'
            exact Heap.lt_size ho
          · have hb1 : b ≠ s.heap.objs.size := Nat.ne_of_lt hb
            have hb2 : b ≠ (s.heap.push (newSetObj led)).objs.size := by
              rw [Heap.size_push]; exact Nat.ne_of_lt (Nat.lt_succ_of_lt hb)
            exact hm.heap b o (by simp only [List.mem_cons, List.mem_singleton, List.not_mem_nil, or_false, not_or]; exact ⟨hb1, hb2⟩) (Heap.get?_push_of_some _ (Heap.get?_push_of_some _ e))
      · cases r₂ with
        | error e => exact hr₂
        | ok fl₂ =>
          cases fl₂ with
          | ret r =>
            obtain ⟨rfl, h', tk, htk, rfl, hS', hlt, hk'⟩ := hr₂
            repeat (any_goals (first | assumption | wp_step))
            exact h _ _ htk hS' hlt hk'
          | _ => exact hr₂.elim
    | _ => exact hr.elim
end
end L2.Ev
namespace L2.Ev
open PySem PySem.Spec PyProof.Rows
theorem cons_eraseIdx_perm {α : Type} : ∀ (l : List α) (i : Nat) (x : α), l[i]? = some x → (x :: l.eraseIdx i).Perm l
  | [], i, x, h => by simp at h
  | a :: l, 0, x, h => by simp at h; subst h; simp
  | a :: l, i + 1, x, h => by
    rw [List.getElem?_cons_succ] at h
    have ih := cons_eraseIdx_perm l i x h
    rw [List.eraseIdx_cons_succ]
    exact (List.Perm.swap a x _).trans (ih.cons a)
theorem pick_go {α : Type} (next : Nat → Nat) : ∀ (fuel k : Nat) (left : List α) (out : Array α), left.length = fuel → (pickOrder.go next fuel k left out).toList.Perm (out.toList ++ left)
  | 0, k, left, out, h => by
    have : left = [] := List.length_eq_zero_iff.mp h
    subst this
    unfold pickOrder.go
    simp
  | fuel + 1, k, left, out, h => by
    unfold pickOrder.go
    have hlt : next k % left.length < left.length := Nat.mod_lt _ (by omega)
    rw [List.getElem?_eq_getElem hlt]
    dsimp only
    have h2 : (left.eraseIdx (next k % left.length)).length = fuel := by rw [List.length_eraseIdx, if_pos hlt]; omega
    refine (pick_go next fuel (k + 1) _ _ h2).trans ?_
    rw [Array.toList_push, List.append_assoc]
    refine List.Perm.append_left _ ?_
    exact cons_eraseIdx_perm left _ _ (List.getElem?_eq_getElem hlt)
theorem pick_perm {α : Type} (next : Nat → Nat) (xs : Array α) : (pickOrder next xs).toList.Perm xs.toList := by
  unfold pickOrder
  have := pick_go next xs.size 0 xs.toList #[] (by simp)
  simpa using this
section
variable {M : Model} {A : Around} {E : Value → Shared → Prop}
theorem choose_w {src : Source} {n : Nat} {s : Shared} {Q : Nat → Shared → Prop} (hn : n ≠ 0) (h : ∀ i d, i < n → Q i { s with drawn := d }) : wpAny M A (choose src n) Q E s := fun Γ p hΓ => by
  unfold choose
  rw [Sem.wp_choose]
  refine ⟨hn, ?_⟩
  exact h _ _ (Nat.mod_lt _ (Nat.pos_of_ne_zero hn))
theorem drawOrder_w {α : Type} : ∀ (n : Nat) (xs : List α) (s : Shared) (Q : List α → Shared → Prop), xs.length = n → (∀ ys d, ys.Perm xs → Q ys { s with drawn := d }) → wpAny M A (drawOrder n xs) Q E s
  | 0, xs, s, Q, h, hQ => by
    have : xs = [] := List.length_eq_zero_iff.mp h
    subst this
    unfold drawOrder
    exact wpAny_pure (hQ [] s.drawn (.refl _))
  | n + 1, [], s, Q, h, hQ => by simp at h
  | n + 1, x :: xs, s, Q, h, hQ => by
    unfold drawOrder
    refine wpAny_bind (choose_w (by simp) fun i d hi => ?_)
    rw [List.getElem?_eq_getElem hi]
    dsimp only
    have h2 : ((x :: xs).eraseIdx i).length = n := by rw [List.length_eraseIdx, if_pos hi, h]; omega
    refine wpAny_bind (drawOrder_w n _ _ _ h2 fun ys d' hp => ?_)
    refine wpAny_pure (hQ _ d' ?_)
    exact (hp.cons _).trans (cons_eraseIdx_perm (x :: xs) i _ (List.getElem?_eq_getElem hi))
end
namespace FS
open PySem.F in
theorem owner_set_iterator : Manifest.owners.lookup (String.ofList ['r', 'o', 't', 'a', 'r', 'e', 't', 'i', '_', 't', 'e', 's'].reverse) = some Manifest.sig_set_iterator := by kernel_rfl
theorem slot_next : Slot "set_iterator" "__next__" "set_iterator.__next__" :=
  .of (owner := "set_iterator") (n := "__next__") (by rw [typeLookup_type, builtinLookup_eq_fast]; kernel_rfl) (by decide +kernel) (by decide +kernel) (by decide +kernel)
    (by first | exact .inl (by decide +kernel) | exact .inr (by decide +kernel)) (by rw [isSubtype_type]; kernel_rfl)
theorem entry_next : entryFor table "set_iterator.__next__" = some Builtin.«set_iterator.__next__» := entryFor_of_tree (by kernel_rfl)
theorem args_next (a : Value) : argsOk "set_iterator.__next__" ⟨[a], []⟩ := by
  unfold argsOk; rw [signature?_of (id := "set_iterator.__next__") (n := ['_', '_', 't', 'x', 'e', 'n', '_', '_']) (o := ['r', 'o', 't', 'a', 'r', 'e', 't', 'i', '_', 't', 'e', 's']) (by kernel_rfl) owner_set_iterator]; kernel_rfl
theorem slot_iter : Slot "set_iterator" "__iter__" "set_iterator.__iter__" :=
  .of (owner := "set_iterator") (n := "__iter__") (by rw [typeLookup_type, builtinLookup_eq_fast]; kernel_rfl) (by decide +kernel) (by decide +kernel) (by decide +kernel)
    (by first | exact .inl (by decide +kernel) | exact .inr (by decide +kernel)) (by rw [isSubtype_type]; kernel_rfl)
theorem entry_set_iter : entryFor table "set.__iter__" = some Builtin.«frozenset.__iter__» := entryFor_alias (id' := "frozenset.__iter__") (by kernel_rfl) rfl (by decide +kernel) (by kernel_rfl)
theorem entry_iter : entryFor table "set_iterator.__iter__" = some Builtin.«dict_keyiterator.__iter__» := entryFor_alias (id' := "dict_keyiterator.__iter__") (by kernel_rfl) rfl (by decide +kernel) (by kernel_rfl)
theorem args_iter (a : Value) : argsOk "set_iterator.__iter__" ⟨[a], []⟩ := by
  unfold argsOk; rw [signature?_of (id := "set_iterator.__iter__") (n := ['_', '_', 'r', 'e', 't', 'i', '_', '_']) (o := ['r', 'o', 't', 'a', 'r', 'e', 't', 'i', '_', 't', 'e', 's']) (by kernel_rfl) owner_set_iterator]; kernel_rfl
end FS
end L2.Ev
namespace L2.Ev
open PySem PySem.Spec PyProof.Rows
def slotAt (t : SetTable) : Nat → Nat
  | 0 => 0
  | i + 1 => t.place.getD i 0 + 1
theorem below_slotAt {t : SetTable} (hA : Asc t.place) {i : Nat} (hi : i ≤ t.place.size) : SetTable.below t.place (slotAt t i) = i := by
  cases i with
  | zero => exact below_zero hA
  | succ i => exact below_next hA hi
def FirstAt (w : World) (es : Array (Int × Value)) (ep : Nat) (t : SetTable) (xs : List (Int × Value)) (S T : Addr) (i : Nat) (h : Heap) (first : Value) : Prop :=
  (w.params.followText "set-order" = true ∧ xs = (pickOrder (w.params.setOrder S ep) es).toList ∧ ∃ slot : Nat, first = .int slot 0)
  ∨ (w.params.followText "set-order" = false ∧ (!t.plain && decide (es.size > 1)) = false ∧ xs = es.toList ∧ first = .int (slotAt t i) 0)
  ∨ (w.params.followText "set-order" = false ∧ first = .ref T ∧ ∃ (ps : List Nat) (o : Obj) (n : Nat), h.get? T = some o ∧ o.data = .seq (ps.map fun (p : Nat) => Value.int p 0).toArray n ∧ ps.length = xs.length ∧ ∀ (j p : Nat), ps[j]? = some p → es[p]? = xs[j]?)
def IterAt (w : World) (es : Array (Int × Value)) (ep : Nat) (t : SetTable) (xs : List (Int × Value)) (I S T : Addr) (i : Nat) (h : Heap) : Prop :=
  I ≠ S ∧ I ≠ T ∧ (∃ o, h.get? S = some o ∧ o.data = .set es ep t) ∧ ∃ first, (∃ o, h.get? I = some o ∧ o.cls = .type "set_iterator" ∧ o.data = .fields #[first, .int i 0, .ref S, .int es.size 0, .int ep 0]) ∧ FirstAt w es ep t xs S T i h first
theorem FirstAt.kept {w : World} {es ep t xs S T i} {h h' : Heap} {first : Value} (x : FirstAt w es ep t xs S T i h first) (e : ∀ o, h.get? T = some o → h'.get? T = some o) : FirstAt w es ep t xs S T i h' first := by
  rcases x with x | x | ⟨a, b, ps, o, n, ho, r⟩
  · exact .inl x
  · exact .inr (.inl x)
  · exact .inr (.inr ⟨a, b, ps, o, n, e o ho, r⟩)
theorem IterAt.kept {w : World} {es ep t xs I S T i} {h h' : Heap} (x : IterAt w es ep t xs I S T i h) (e : ∀ b ∈ [I, S, T], ∀ o, h.get? b = some o → h'.get? b = some o) : IterAt w es ep t xs I S T i h' := by
  obtain ⟨n1, n2, ⟨o, ho, hd⟩, first, ⟨oi, hoi, r⟩, hf⟩ := x
  exact ⟨n1, n2, ⟨o, e S (by simp) o ho, hd⟩, first, ⟨oi, e I (by simp) oi hoi, r⟩, hf.kept fun o => e T (by simp) o⟩
theorem IterAt.typeIs {w : World} {es ep t xs I S T i} {s : Shared} (x : IterAt w es ep t xs I S T i s.heap) : s.TypeIs (.ref I) "set_iterator" :=
  let ⟨_, _, _, _, ⟨o, ho, hc, _⟩, _⟩ := x; ⟨o, ho, hc⟩
section
variable {prog : Program} {w : World} {A : Around} {E : Value → Shared → Prop} {s : Shared} {es : Array (Int × Value)} {ep : Nat} {t : SetTable} {xs : List (Int × Value)} {I S T : Addr} {i : Nat}
theorem set_next_item {Q : Option Value → Shared → Prop} (hf : t.fits es.size = true) (hok : TabOk w t) (hp : xs.Perm es.toList) (hi : i < es.size) (st : IterAt w es ep t xs I S T i s.heap)
    (hQ : ∀ (k : Int) v h', xs[i]? = some (k, v) → IterAt w es ep t xs I S T (i + 1) h' → Heap.SameBut I s.heap h' → Q (some v) { s with heap := h' }) :
    wpAny (model prog w) A (pyNext (.ref I)) Q E s := by
  obtain ⟨n1, n2, ⟨oS, hoS, hdS⟩, first, ⟨o, ho, hc, hd⟩, hF⟩ := id st
  have hps : t.place.size = es.size := by
    simp only [SetTable.fits, Bool.and_eq_true, beq_iff_eq, decide_eq_true_eq] at hf
    exact hf.1
  have hxl : xs.length = es.size := by rw [hp.length_eq, Array.length_toList]
  unfold pyNext
  refine wpAny_bind (wpAny_attempt (wpAny_callSpecial?_slot (name := Str.ofString "__next__") st.typeIs FS.slot_next
    (wpAny_call_entry FS.slot_next st.typeIs FS.entry_next ?_ (FS.args_next _))))
  show wpAny _ _ (fieldsOf (.ref I) >>= _) _ _ s
  refine wpAny_bind (wpAny_fieldsOf ho hd ?_)
  dsimp only
  refine wpAny_bind (wpAny_setEntries_of hoS hdS hf ?_)
  rw [if_neg (by simp)]
  have hoS' : ∀ f, (s.heap.update I f).get? S = some oS := fun f => (Heap.get?_update_other _ _ n1).trans hoS
  rcases hF with ⟨hb, hxs, slot, rfl⟩ | ⟨hb, hdr, hxs, rfl⟩ | ⟨hb, rfl, ps, oT, nT, hoT, hdT, hpl, hpx⟩
  · dsimp only
    have hx : ∃ k v, xs[i]? = some (k, v) := by
      rw [List.getElem?_eq_getElem (by omega : i < xs.length)]
      exact ⟨_, _, rfl⟩
    obtain ⟨k, v, hx⟩ := hx
    unfold setNext
    refine wpAny_bind (wpAny_bind (wpAny_setState_of hoS hdS hf ?_))
    dsimp only
    unfold setsByText
    refine wpAny_bind (wpAny_bind (wpAny_askSetting (wpAny_pure ?_)))
    show wpAny _ _ (if w.params.followText "set-order" = true then _ else _) _ _ s
    rw [if_pos hb]
    rw [if_neg (by simp)]
    unfold setWalk
    refine wpAny_bind (wpAny_bind (wpAny_setState_of hoS hdS hf ?_))
    dsimp only
    unfold setsByText
    refine wpAny_bind (wpAny_bind (wpAny_askSetting (wpAny_pure ?_)))
    show wpAny _ _ (if w.params.followText "set-order" = true then _ else _) _ _ s
    rw [if_pos hb]
    refine wpAny_bind (wpAny_askSetting (wpAny_pure ?_))
    have hx' : (pickOrder (w.params.setOrder S ep) es)[i]? = some (k, v) := by rw [← Array.getElem?_toList, ← hxs]; exact hx
    refine wpAny_pure ?_
    simp only [Int.toNat_natCast]
    erw [hx']
    dsimp only [Option.map]
    refine wpAny_bind (wpAny_setField ho hd (by simp) ?_)
    have ho1 := Heap.get?_update_self (Obj.mapFields (·.setIfInBounds 0 (rawInt (slot : Int)))) ho (Obj.isFreed_of_fields (Obj.data_mapFields hd _))
    refine wpAny_bind (wpAny_setField ho1 (Obj.data_mapFields hd _) (by simp) ?_)
    have ho2 := Heap.get?_update_self (Obj.mapFields (·.setIfInBounds 1 (rawInt ((i : Int) + 1)))) ho1 (Obj.isFreed_of_fields (Obj.data_mapFields (Obj.data_mapFields hd _) _))
    refine wpAny_pure ⟨_, rfl, wpAny_pure (hQ k v _ hx ?_ ((Heap.SameBut.update ..).trans (Heap.SameBut.update ..)))⟩
    refine ⟨n1, n2, ⟨oS, ?_, hdS⟩, .int slot 0, ⟨_, ho2, (Obj.cls_mapFields ..).trans ((Obj.cls_mapFields ..).trans hc), ?_⟩, .inl ⟨hb, hxs, slot, rfl⟩⟩
    · exact (Heap.get?_update_other _ _ n1).trans (hoS' _)
    · rw [Obj.data_mapFields (Obj.data_mapFields hd _)]; simp [rawInt]
  · have hx : ∃ k v, es[i]? = some (k, v) := by
      rw [Array.getElem?_eq_getElem hi]
      exact ⟨_, _, rfl⟩
    obtain ⟨k, v, hx⟩ := hx
    have hled : t.led = true := by
      rcases hok.led with h | h
      · rw [hb] at h; cases h
      · exact h
    dsimp only
    unfold setNext
    refine wpAny_bind (wpAny_bind (wpAny_setState_of hoS hdS hf ?_))
    dsimp only
    unfold setsByText
    refine wpAny_bind (wpAny_bind (wpAny_askSetting (wpAny_pure ?_)))
    show wpAny _ _ (if w.params.followText "set-order" = true then _ else _) _ _ s
    rw [if_neg (by rw [hb]; exact Bool.false_ne_true)]
    show wpAny _ _ (if (!t.plain && decide (es.size > 1)) = true then _ else _) _ _ s
    rw [if_neg (by rw [hdr]; exact Bool.false_ne_true)]
    refine wpAny_bind ?_
    show wpAny _ _ (if (!t.led && !es.isEmpty) = true then _ else _) _ _ s
    rw [if_neg (by rw [hled]; simp)]
    refine wpAny_pure ?_
    simp only [Int.toNat_natCast]
    rw [below_slotAt hok.asc (by omega), hx, Array.getElem?_eq_getElem (by omega : i < t.place.size)]
    refine wpAny_pure ?_
    dsimp only
    have ej : t.place[i]'(by omega) + 1 = slotAt t (i + 1) := by simp [slotAt, Array.getD, show i < t.place.size by omega]
    rw [ej]
    refine wpAny_bind (wpAny_setField ho hd (by simp) ?_)
    have ho1 := Heap.get?_update_self (Obj.mapFields (·.setIfInBounds 0 (rawInt (slotAt t (i + 1) : Int)))) ho (Obj.isFreed_of_fields (Obj.data_mapFields hd _))
    refine wpAny_bind (wpAny_setField ho1 (Obj.data_mapFields hd _) (by simp) ?_)
    have ho2 := Heap.get?_update_self (Obj.mapFields (·.setIfInBounds 1 (rawInt ((i : Int) + 1)))) ho1 (Obj.isFreed_of_fields (Obj.data_mapFields (Obj.data_mapFields hd _) _))
    refine wpAny_pure ⟨_, rfl, wpAny_pure (hQ k v _ (by rw [hxs, Array.getElem?_toList]; exact hx) ?_ ((Heap.SameBut.update ..).trans (Heap.SameBut.update ..)))⟩
    refine ⟨n1, n2, ⟨oS, ?_, hdS⟩, .int (slotAt t (i + 1)) 0, ⟨_, ho2, (Obj.cls_mapFields ..).trans ((Obj.cls_mapFields ..).trans hc), ?_⟩, .inr (.inl ⟨hb, hdr, hxs, rfl⟩)⟩
    · exact (Heap.get?_update_other _ _ n1).trans (hoS' _)
    · rw [Obj.data_mapFields (Obj.data_mapFields hd _)]; simp [rawInt]
  · obtain ⟨p, hpi⟩ : ∃ p, ps[i]? = some p := by
      rw [List.getElem?_eq_getElem (by omega : i < ps.length)]
      exact ⟨_, rfl⟩
    have hx : ∃ k v, xs[i]? = some (k, v) := by
      rw [List.getElem?_eq_getElem (by omega : i < xs.length)]
      exact ⟨_, _, rfl⟩
    obtain ⟨k, v, hx⟩ := hx
    have hep : es[p]? = some (k, v) := by rw [hpx i p hpi]; exact hx
    dsimp only
    refine wpAny_bind (wpAny_seqItems hoT hdT ?_)
    dsimp only
    simp only [Int.toNat_natCast]
    rw [show (ps.map fun (p : Nat) => Value.int p 0).toArray[i]? = some (.int p 0) by simp [hpi]]
    dsimp only
    unfold setNextDrawn
    refine wpAny_bind (wpAny_bind (wpAny_setState_of hoS hdS hf ?_))
    dsimp only
    rw [if_neg (by simp)]
    simp only [Int.toNat_natCast]
    rw [hep]
    refine wpAny_pure ?_
    refine wpAny_bind (wpAny_setField ho hd (by simp) ?_)
    have ho1 := Heap.get?_update_self (Obj.mapFields (·.setIfInBounds 1 (rawInt ((i : Int) + 1)))) ho (Obj.isFreed_of_fields (Obj.data_mapFields hd _))
    refine wpAny_pure ⟨_, rfl, wpAny_pure (hQ k v _ hx ?_ (Heap.SameBut.update ..))⟩
    refine ⟨n1, n2, ⟨oS, hoS' _, hdS⟩, .ref T, ⟨_, ho1, (Obj.cls_mapFields ..).trans hc, ?_⟩, .inr (.inr ⟨hb, rfl, ps, oT, nT, (Heap.get?_update_other _ _ n2).trans hoT, hdT, hpl, hpx⟩)⟩
    rw [Obj.data_mapFields hd]; simp [rawInt]
end
end L2.Ev
namespace L2.Ev
open PySem PySem.Spec PyProof.Rows
section
variable {prog : Program} {w : World} {A : Around} {E : Value → Shared → Prop} {s : Shared} {es : Array (Int × Value)} {ep : Nat} {t : SetTable} {xs : List (Int × Value)} {I S T : Addr} {i : Nat}
theorem stop_w {Q : Option Value → Shared → Prop} {Q' : PySem.Fin → Shared → Prop} (hh : A.handled = none) (hQ : ∀ h', (∀ b o, s.heap.get? b = some o → h'.get? b = some o) → Q none { s with heap := h' }) :
    wpAny (model prog w) A.in1 (newExc (.type "StopIteration") [] >>= fun e => (raiseNew e : Sem PySem.Fin)) Q' (fun e s' => wpAny (model prog w) A (do if (← isInstance e (.type "StopIteration")) = true then pure none else throw e) Q E s') s := by
  refine wpAny_bind ?_
  simp only [newExc, newTuple]
  refine wpAny_bind (wpAny_newObj_type ?_ (by size_fits))
  refine wpAny_bind (m := firstArgMember _ _) (wpAny_of_eq (a := Value.none) (by first | rfl | (simp only [firstArgMember]; rfl)) ?_)
  refine wpAny_newObj_type ?_ (by size_fits)
  simp only [raiseNew]
  refine wpAny_bind (wpAny_handled ?_)
  rw [show A.in1.handled = none from hh]
  refine wpAny_bind (wpAny_pure (wpAny_throw ?_))
  refine wpAny_bind (wpAny_isInstance (T := "StopIteration") (b := true) ⟨_, Heap.get?_push_size _ rfl, rfl⟩ isSubtype_stop ?_)
  exact wpAny_pure (hQ _ fun b o e => Heap.get?_push_of_some _ (Heap.get?_push_of_some _ e))
theorem set_next_end {Q : Option Value → Shared → Prop} (hh : A.handled = none) (hf : t.fits es.size = true) (hok : TabOk w t) (hp : xs.Perm es.toList) (st : IterAt w es ep t xs I S T es.size s.heap)
    (hQ : ∀ h', Heap.ExtBut I s.heap h' → Q none { s with heap := h' }) :
    wpAny (model prog w) A (pyNext (.ref I)) Q E s := by
  obtain ⟨n1, n2, ⟨oS, hoS, hdS⟩, first, ⟨o, ho, hc, hd⟩, hF⟩ := id st
  have hps : t.place.size = es.size := by
    simp only [SetTable.fits, Bool.and_eq_true, beq_iff_eq, decide_eq_true_eq] at hf
    exact hf.1
  have hxl : xs.length = es.size := by rw [hp.length_eq, Array.length_toList]
  unfold pyNext
  refine wpAny_bind (wpAny_attempt (wpAny_callSpecial?_slot (name := Str.ofString "__next__") st.typeIs FS.slot_next
    (wpAny_call_entry FS.slot_next st.typeIs FS.entry_next ?_ (FS.args_next _))))
  show wpAny _ _ (fieldsOf (.ref I) >>= _) _ _ s
  refine wpAny_bind (wpAny_fieldsOf ho hd ?_)
  dsimp only
  refine wpAny_bind (wpAny_setEntries_of hoS hdS hf ?_)
  rw [if_neg (by simp)]
  rcases hF with ⟨hb, hxs, slot, rfl⟩ | ⟨hb, hdr, hxs, rfl⟩ | ⟨hb, rfl, ps, oT, nT, hoT, hdT, hpl, hpx⟩
  · dsimp only
    unfold setNext
    refine wpAny_bind (wpAny_bind (wpAny_setState_of hoS hdS hf ?_))
    dsimp only
    unfold setsByText
    refine wpAny_bind (wpAny_bind (wpAny_askSetting (wpAny_pure ?_)))
    show wpAny _ _ (if w.params.followText "set-order" = true then _ else _) _ _ s
    rw [if_pos hb]
    rw [if_neg (by simp)]
    unfold setWalk
    refine wpAny_bind (wpAny_bind (wpAny_setState_of hoS hdS hf ?_))
    dsimp only
    unfold setsByText
    refine wpAny_bind (wpAny_bind (wpAny_askSetting (wpAny_pure ?_)))
    show wpAny _ _ (if w.params.followText "set-order" = true then _ else _) _ _ s
    rw [if_pos hb]
    refine wpAny_bind (wpAny_askSetting (wpAny_pure ?_))
    have hx' : (pickOrder (w.params.setOrder S ep) es)[es.size]? = none := by
      rw [← Array.getElem?_toList, ← hxs]; exact List.getElem?_eq_none (by omega)
    refine wpAny_pure ?_
    simp only [Int.toNat_natCast]
    erw [hx']
    dsimp only [Option.map]
    refine wpAny_bind (wpAny_setField ho hd (by simp) ?_)
    refine stop_w hh fun h' hk => hQ _ fun b o hb' e => hk b o ?_
    exact (Heap.get?_update_other _ _ (Ne.symm hb')).trans e
  · have hled : t.led = true := by
      rcases hok.led with h | h
      · rw [hb] at h; cases h
      · exact h
    dsimp only
    unfold setNext
    refine wpAny_bind (wpAny_bind (wpAny_setState_of hoS hdS hf ?_))
    dsimp only
    unfold setsByText
    refine wpAny_bind (wpAny_bind (wpAny_askSetting (wpAny_pure ?_)))
    show wpAny _ _ (if w.params.followText "set-order" = true then _ else _) _ _ s
    rw [if_neg (by rw [hb]; exact Bool.false_ne_true)]
    show wpAny _ _ (if (!t.plain && decide (es.size > 1)) = true then _ else _) _ _ s
    rw [if_neg (by rw [hdr]; exact Bool.false_ne_true)]
    refine wpAny_bind ?_
    show wpAny _ _ (if (!t.led && !es.isEmpty) = true then _ else _) _ _ s
    rw [if_neg (by rw [hled]; simp)]
    refine wpAny_pure ?_
    simp only [Int.toNat_natCast]
    rw [below_slotAt hok.asc (by omega), Array.getElem?_eq_none (Nat.le_refl _)]
    refine wpAny_pure ?_
    dsimp only
    refine wpAny_bind (wpAny_setField ho hd (by simp) ?_)
    refine stop_w hh fun h' hk => hQ _ fun b o hb' e => hk b o ?_
    exact (Heap.get?_update_other _ _ (Ne.symm hb')).trans e
  · dsimp only
    refine wpAny_bind (wpAny_seqItems hoT hdT ?_)
    dsimp only
    simp only [Int.toNat_natCast]
    rw [show (ps.map fun (p : Nat) => Value.int p 0).toArray[es.size]? = none by simp; omega]
    dsimp only
    refine wpAny_bind (wpAny_setField ho hd (by simp) ?_)
    have ho1 := Heap.get?_update_self (Obj.mapFields (·.setIfInBounds 0 (rawInt 0))) ho (Obj.isFreed_of_fields (Obj.data_mapFields hd _))
    refine wpAny_bind (wpAny_setField ho1 (Obj.data_mapFields hd _) (by simp) ?_)
    refine stop_w hh fun h' hk => hQ _ fun b o hb' e => hk b o ?_
    exact (Heap.get?_update_other _ _ (Ne.symm hb')).trans ((Heap.get?_update_other _ _ (Ne.symm hb')).trans e)
theorem set_walks (hh : A.handled = none) (hf : t.fits es.size = true) (hok : TabOk w t) (hp : xs.Perm es.toList) :
    PySem.Walks prog w A I [I, S, T] [I] es.size (fun i v => ∃ k, xs[i]? = some (k, v)) (fun i h => IterAt w es ep t xs I S T i h) where
  sub := fun b hb => by simp at hb; simp [hb]
  frame := fun _ _ _ st hk => st.kept fun b hb o e => hk b hb o e
  item := fun i s Q E hi st hQ => set_next_item hf hok hp hi st fun k v h' hx st' sb => hQ v h' s.toks ⟨k, hx⟩ st' fun b o hb e => by rw [sb.2 b (fun h => hb (by simp [h]))]; exact e
  done := fun s Q E st hQ => set_next_end hh hf hok hp st fun h' he => hQ h' s.toks fun b o hb e => he b o (fun h => hb (by simp [h])) e
  self := fun i s Q E st hQ => by
    refine wpAny_pyIter_slot st.typeIs FS.slot_iter (wpAny_call_entry FS.slot_iter st.typeIs FS.entry_iter ?_ (FS.args_iter _))
    show wpAny _ _ (ret (.ref I)) _ _ s
    exact wpAny_pure ⟨_, rfl, "set_iterator", _, st.typeIs, FS.slot_next.lookup, hQ⟩
end
end L2.Ev
namespace L2.Ev
open PySem PySem.Spec PyProof.Rows
section
variable {prog : Program} {w : World} {A : Around} {E : Value → Shared → Prop} {s : Shared}
theorem set_iter_w {a : Addr} {S : Int → Bool} {n : Nat} {Q : Value → Shared → Prop} (hS : SetW prog w s.heap a S n)
    (hQ : ∀ (es : Array (Int × Value)) (ep : Nat) (t : SetTable) (xs : List (Int × Value)) (I T : Addr) h' d, ElemsOf (IK prog w) es.toList → (∀ k, S k = true ↔ ∃ e ∈ es.toList, (IK prog w).is k e.2 = true) → es.size < scanBound → es.size = n →
      t.fits es.size = true → TabOk w t → xs.Perm es.toList → IterAt w es ep t xs I a T 0 h' → (∀ b o, s.heap.get? b = some o → h'.get? b = some o) → (∀ b ∈ [I, a, T], b < h'.objs.size) → s.heap.objs.size ≤ I → (T = a ∨ s.heap.objs.size ≤ T) → s.heap.objs.size ≤ h'.objs.size → Q (.ref I) { s with heap := h', drawn := d }) :
    wpAny (model prog w) A (pyIter (.ref a)) Q E s := by
  obtain ⟨o, es, ep, t, ho, hex, hd, hel, hmem, hb, hf, hn, hok⟩ := hS
  have hT : s.TypeIs (.ref a) "set" := ⟨o, ho, hex.1⟩
  have hlt : a < s.heap.objs.size := Heap.lt_size ho
  refine wpAny_pyIter_slot hT PySem.F.slot_set_iter (wpAny_call_entry PySem.F.slot_set_iter hT FS.entry_set_iter ?_ (PySem.F.args_set_iter_1 _))
  show wpAny _ _ (Builtin.Frozenset.sizeOf a >>= _) _ _ s
  unfold Builtin.Frozenset.sizeOf
  refine wpAny_bind (wpAny_bind (wpAny_setEntries_of ho hd hf (wpAny_pure ?_)))
  dsimp only
  unfold setDrawn
  refine wpAny_bind (wpAny_bind (wpAny_setState_of ho hd hf ?_))
  dsimp only
  unfold setsByText
  refine wpAny_bind (wpAny_bind (wpAny_askSetting (wpAny_pure ?_)))
  refine wpAny_pure ?_
  split
  · rename_i hdr
    have hdr' : (!(w.params.followText "set-order") && (!t.plain && decide (es.size > 1))) = true := hdr
    have hb0 : w.params.followText "set-order" = false := by
      cases h : w.params.followText "set-order" with
      | false => rfl
      | true => rw [h] at hdr'; simp at hdr'
    refine wpAny_bind (drawOrder_w es.size _ _ _ (by simp) fun ps d hps => ?_)
    refine wpAny_bind (wpAny_newTuple ?_ (by first | assumption | (simp [hps.length_eq]; exact fits_of_scanBound hb)))
    unfold setEpoch
    have ho1 : ∀ oo, (s.heap.push oo).get? a = some o := fun oo => Heap.get?_push_of_some _ ho
    refine wpAny_bind (wpAny_bind (wpAny_setState_of (s := { s with heap := _, drawn := d }) (ho1 _) hd hf (wpAny_pure ?_)))
    refine wpAny_bind (wpAny_newObj_type (wpAny_pure ⟨_, rfl, "set_iterator", _, ⟨_, Heap.get?_push_size _ rfl, rfl⟩, FS.slot_next.lookup, ?_⟩))
    have hl : ps.length = es.size := by rw [hps.length_eq]; simp
    refine hQ es ep t (ps.filterMap fun p => es[p]?) _ s.heap.objs.size _ d hel hmem hb hn hf hok ?_ ?_ (fun b o e => Heap.get?_push_of_some _ (Heap.get?_push_of_some _ e)) ?_ (by rw [Heap.size_push]; exact Nat.le_succ s.heap.objs.size) (.inr (Nat.le_refl _)) (by rw [Heap.size_push, Heap.size_push]; exact Nat.le_add_right s.heap.objs.size 2)
    · exact (hps.filterMap _).trans (by rw [filterMap_getElem?_range])
    · have hall : ∀ p ∈ ps, p < es.size := fun p hp => by simpa using hps.mem_iff.mp hp
      have hfm : ∀ (qs : List Nat), (∀ p ∈ qs, p < es.size) → (qs.filterMap fun p => es[p]?).length = qs.length ∧ ∀ (j p : Nat), qs[j]? = some p → es[p]? = (qs.filterMap fun p => es[p]?)[j]? := by
        intro qs
        induction qs with
        | nil => intro _; exact ⟨rfl, fun j p h => by simp at h⟩
        | cons q qs ih =>
          intro h
          obtain ⟨i1, i2⟩ := ih fun p hp => h p (by simp [hp])
          have hq := h q (by simp)
          have e : es[q]? = some es[q] := Array.getElem?_eq_getElem hq
          rw [List.filterMap_cons_some e]
          refine ⟨by simp [i1], fun j p hj => ?_⟩
          cases j with
          | zero => simp at hj; subst hj; simpa using e
          | succ j => rw [List.getElem?_cons_succ] at hj ⊢; exact i2 j p hj
      obtain ⟨f1, f2⟩ := hfm ps hall
      refine ⟨?_, ?_, ⟨o, Heap.get?_push_of_some _ (Heap.get?_push_of_some _ ho), hd⟩, .ref s.heap.objs.size, ⟨_, Heap.get?_push_size _ rfl, rfl, rfl⟩, .inr (.inr ⟨hb0, rfl, ps, _, _, Heap.get?_push_of_some _ (Heap.get?_push_size _ rfl), rfl, f1.symm, f2⟩)⟩
      · rw [Heap.size_push]; exact Nat.ne_of_gt (Nat.lt_succ_of_lt hlt)
      · rw [Heap.size_push]; exact Nat.ne_of_gt (Nat.lt_succ_self s.heap.objs.size)
    · intro b hb'
      rw [Heap.size_push, Heap.size_push]
      simp only [List.mem_cons, List.not_mem_nil, or_false] at hb'
      rcases hb' with rfl | rfl | rfl
      · rw [Heap.size_push]; exact Nat.lt_succ_self _
      · exact Nat.lt_succ_of_lt (Nat.lt_succ_of_lt hlt)
      · exact Nat.lt_succ_of_lt (Nat.lt_succ_self s.heap.objs.size)
  · rename_i hdr
    have hdr' : ¬ (!(w.params.followText "set-order") && (!t.plain && decide (es.size > 1))) = true := hdr
    refine wpAny_bind (wpAny_pure ?_)
    unfold setEpoch
    refine wpAny_bind (wpAny_bind (wpAny_setState_of ho hd hf (wpAny_pure ?_)))
    refine wpAny_bind (wpAny_newObj_type (wpAny_pure ⟨_, rfl, "set_iterator", _, ⟨_, Heap.get?_push_size _ rfl, rfl⟩, FS.slot_next.lookup, ?_⟩))
    have fin : ∀ xs, xs.Perm es.toList → (∀ h', FirstAt w es ep t xs a a 0 h' (.int 0 0)) → Q (.ref s.heap.objs.size) { s with heap := s.heap.push { cls := .type "set_iterator", data := .fields #[.int 0 0, .int 0 0, .ref a, .int es.size 0, .int ep 0] } } := by
      intro xs hp hF
      refine hQ es ep t xs _ a _ s.drawn hel hmem hb hn hf hok hp ⟨Nat.ne_of_gt hlt, Nat.ne_of_gt hlt, ⟨o, Heap.get?_push_of_some _ ho, hd⟩, .int 0 0, ⟨_, Heap.get?_push_size _ rfl, rfl, rfl⟩, hF _⟩ (fun b o e => Heap.get?_push_of_some _ e) ?_ (Nat.le_refl _) (.inl rfl) (by rw [Heap.size_push]; exact Nat.le_succ _)
      intro b hb'
      rw [Heap.size_push]
      simp only [List.mem_cons, List.not_mem_nil, or_false] at hb'
      rcases hb' with rfl | rfl | rfl
      · exact Nat.lt_succ_self _
      · exact Nat.lt_succ_of_lt hlt
      · exact Nat.lt_succ_of_lt hlt
    cases hb0 : w.params.followText "set-order" with
    | true => exact fin _ (pick_perm (w.params.setOrder a ep) es) fun h' => .inl ⟨hb0, rfl, 0, rfl⟩
    | false =>
      rw [hb0] at hdr'
      refine fin es.toList (.refl _) fun h' => .inr (.inl ⟨hb0, ?_, rfl, rfl⟩)
      simpa using hdr'
end
end L2.Ev
namespace L2.Ev
open PySem PySem.Spec PyProof.Rows
section
variable {prog : Program} {w : World} {A : Around} {E : Value → Shared → Prop} {s : Shared}
theorem ints_of_elems {xs : List (Int × Value)} (h : ElemsOf (IK prog w) xs) : ∃ ns, IntsAre (xs.map (·.2)) ns ∧ ns.length = xs.length ∧ ∀ k, k ∈ ns ↔ ∃ e ∈ xs, (IK prog w).is k e.2 = true := by
  induction xs with
  | nil => exact ⟨[], .nil, rfl, fun k => by simp⟩
  | cons x xs ih =>
    obtain ⟨ns, h1, h2, h3⟩ := ih h.tail
    obtain ⟨⟨k, hk, _⟩, _⟩ := h.head
    obtain ⟨x1, x2⟩ := x
    cases x2 with
    | int m tk =>
      have hm : (IK prog w).is m (.int m tk) = true := intKind_is _ _ _ _
      refine ⟨m :: ns, .cons m tk h1, by simp [h2], fun k' => ?_⟩
      constructor
      · intro hk'
        rcases List.mem_cons.mp hk' with rfl | hk'
        · exact ⟨_, List.mem_cons_self, hm⟩
        · obtain ⟨e, he, q⟩ := (h3 k').mp hk'
          exact ⟨e, List.mem_cons_of_mem _ he, q⟩
      · rintro ⟨e, he, q⟩
        rcases List.mem_cons.mp he with rfl | he
        · have := (IK prog w).inj _ _ _ q hm
          subst this; exact List.mem_cons_self
        · exact List.mem_cons_of_mem _ ((h3 k').mpr ⟨e, he, q⟩)
    | _ => simp [IK, PySem.intKind, Value.isInt] at hk
theorem items_eq {xs : List (Int × Value)} {acc : Array Value} {n : Nat} (hn : xs.length = n) (h : ItemsOf (fun i v => ∃ k, xs[i]? = some (k, v)) acc n) : acc.toList = xs.map (·.2) := by
  refine List.ext_getElem? fun i => ?_
  rw [List.getElem?_map]
  by_cases hi : i < n
  · have hi2 : i < acc.size := by rw [h.1]; exact hi
    obtain ⟨k, hk⟩ := h.2 i acc[i] (by rw [Array.getElem?_eq_getElem hi2])
    rw [hk, Array.getElem?_toList, Array.getElem?_eq_getElem hi2]
    rfl
  · rw [List.getElem?_eq_none (by rw [Array.length_toList, h.1]; omega), List.getElem?_eq_none (by omega)]
    rfl
theorem collect_set {a : Addr} {S : Int → Bool} {n : Nat} {Q : List Value → Shared → Prop} (hh : A.handled = none) (hS : SetW prog w s.heap a S n)
    (hQ : ∀ s' vs ns, IntsAre vs ns → vs.length = n → (∀ k, k ∈ ns ↔ S k = true) → (∀ b o, s.heap.get? b = some o → s'.heap.get? b = some o) → s'.gens = s.gens → s'.os = s.os → s.toks ≤ s'.toks → s.heap.objs.size < s'.heap.objs.size → Q vs s') :
    wpAny (model prog w) A (collect (.ref a)) Q E s := by
  have ha : a < s.heap.objs.size := by obtain ⟨o, _, _, _, ho, _⟩ := hS; exact Heap.lt_size ho
  unfold collect
  refine wpAny_bind (wpAny_runValue (codeAny_builtin PySem.F.entry_proto_collect ?_))
  rw [Around.under_plainId PySem.F.plain_proto_collect _]
  show wpAny _ A.in1 (newList [] >>= fun l => again (.builtin "list.__iadd__" ⟨[l, .ref a], []⟩)) _ _ s
  refine wpAny_bind (wpAny_newObj_type ?_)
  refine wpAny_pure ⟨plainId_quiet PySem.F.plain_list_iadd _, codeAny_builtin PySem.F.entry_list_iadd ?_⟩
  rw [Around.under_plainId PySem.F.plain_list_iadd _]
  have hS1 : SetW prog w (s.heap.push { cls := .type "list", data := .seq ([] : List Value).toArray }) a S n := hS.kept fun o e => Heap.get?_push_of_some _ e
  have hL1 : (s.heap.push { cls := .type "list", data := .seq ([] : List Value).toArray }).get? s.heap.objs.size = some { cls := .type "list", data := .seq ([] : List Value).toArray } := Heap.get?_push_size _ rfl
  have h1 : Builtin.List.listSameRef (.ref s.heap.objs.size) (.ref a) = false := by simp [Builtin.List.listSameRef]; exact fun e => Nat.ne_of_gt ha e
  show wpAny _ A.in1 (Builtin.List.listExtendWith (.ref s.heap.objs.size) (.ref a) (.ref s.heap.objs.size)) _ _ _
  unfold Builtin.List.listExtendWith
  have hT : Shared.TypeIs { s with heap := s.heap.push { cls := .type "list", data := .seq ([] : List Value).toArray } } (.ref a) "set" := by
    obtain ⟨o, _, _, _, ho, hx, _⟩ := hS1
    exact ⟨o, ho, hx.1⟩
  refine wpAny_bind (wpAny_typeOf hT ?_)
  rw [if_neg (by rw [h1]; decide)]
  refine wpAny_bind (set_iter_w (s := { s with heap := s.heap.push { cls := .type "list", data := .seq ([] : List Value).toArray } }) hS1 fun es ep t xs I T h' d hel hmem hb hn hf hok hp st hk hfp hI hTa hsz => ?_)
  have hI' : s.heap.objs.size < I := by
    have := hI
    show s.heap.objs.size + 1 ≤ I
    rw [← Heap.size_push s.heap { cls := .type "list", data := .seq ([] : List Value).toArray }]
    exact this
  have hTA : Shared.TypeIs { s with heap := h', drawn := d } (.ref a) "set" := by
    obtain ⟨o, ho, hc⟩ := hT
    exact ⟨o, hk a o ho, hc⟩
  refine wpAny_bind (wpAny_holding ?_)
  unfold Builtin.List.listLengthHint
  refine wpAny_bind (wpAny_specialOf hTA PySem.F.slot_set_len.lookup ?_)
  (generalize hid : ("set.__len__" : String) = id0; (fail_if_success (clear hid id0)); wp_delta; rw [show splitId id0 = some ("set", "__len__") from by subst hid; decide +kernel]; subst hid)
  refine wpAny_bind (wpAny_isInstance (b := true) hTA sub_set_self ?_)
  show wpAny _ A.in1 (typeOf (.ref a) >>= _) _ _ _
  refine wpAny_bind (wpAny_typeOf hTA ?_)
  refine wpAny_pure ?_
  show wpAny _ A.in1 (rule "list.extend.makes-room" >>= fun _ => Builtin.List.listTouch (.ref s.heap.objs.size) >>= fun _ =>
    again (.builtin "list.extend.loop" ⟨[.ref s.heap.objs.size, .ref I, .ref s.heap.objs.size], []⟩)) _ _ _
  refine wpAny_bind (wpAny_rule ?_)
  have hL2 : h'.get? s.heap.objs.size = some { cls := .type "list", data := .seq ([] : List Value).toArray } := hk _ _ hL1
  refine wpAny_bind ?_
  show wpAny _ A.in1 (updateSeq s.heap.objs.size (·.push .none) >>= fun _ => updateSeq s.heap.objs.size (·.pop)) _ _ _
  refine wpAny_bind (wpAny_updateSeq hL2 rfl ?_)
  have hL3 := Heap.get?_update_self (Obj.mapSeq (·.push Value.none)) hL2 rfl
  refine wpAny_updateSeq hL3 rfl ?_
  have hL4 := Heap.get?_update_self (Obj.mapSeq (·.pop)) hL3 rfl
  have oth : ∀ b o, b ≠ s.heap.objs.size → h'.get? b = some o → ((h'.update s.heap.objs.size (Obj.mapSeq (·.push Value.none))).update s.heap.objs.size (Obj.mapSeq (·.pop))).get? b = some o :=
    fun b o hb e => (Heap.get?_update_other _ _ (Ne.symm hb)).trans ((Heap.get?_update_other _ _ (Ne.symm hb)).trans e)
  have hnl : ∀ b ∈ [I, a, T], b ≠ s.heap.objs.size := fun b hb e => by
    have hsz1 : (s.heap.push { cls := .type "list", data := .seq ([] : List Value).toArray }).objs.size = s.heap.objs.size + 1 := Heap.size_push _ _
    simp only [List.mem_cons, List.not_mem_nil, or_false] at hb
    rcases hb with hb | hb | hb
    · exact Nat.ne_of_gt hI' (hb.symm.trans e)
    · exact Nat.ne_of_lt ha (hb.symm.trans e)
    · rcases hTa with h | h
      · exact Nat.ne_of_lt ha (h.symm.trans (hb.symm.trans e))
      · have h2 : s.heap.objs.size + 1 ≤ T := by rw [← hsz1]; exact h
        have h3 : T = s.heap.objs.size := hb.symm.trans e
        exact Nat.lt_irrefl _ (h3 ▸ h2)
  have hSf : s.heap.objs.size ∉ [I, a, T] := fun h => hnl _ h rfl
  have W := (set_walks (prog := prog) (A := A.in1) (ep := ep) (I := I) (S := a) (T := T) (by simp [hh]) hf hok hp).toS
  refine wpAny_pure ⟨plainId_quiet PySem.F.plain_extend_loop _, codeAny_extend_loopS W (fits_of_scanBound hb) _ hSf _ es.size 0 _ _ _ rfl (Nat.zero_le _)
    (st.kept fun b hb o e => oth b o (hnl b hb) e) hL4 (ItemsOf.nil _) fun s' acc' c' hm hS' hacc => ?_⟩
  show wpAny _ A (load s.heap.objs.size >>= _) _ _ s'
  refine wpAny_bind (wpAny_load hS' ?_)
  have hxl : xs.length = es.size := by rw [hp.length_eq, Array.length_toList]
  obtain ⟨ns, i1, i2, i3⟩ := ints_of_elems (hel.perm hp)
  have hit := items_eq hxl hacc
  refine wpAny_pure (hQ s' acc'.toList ns (by rw [hit]; exact i1) (by rw [hit, List.length_map, hxl, hn]) (fun k => (i3 k).trans ?_) (fun b o e => ?_) hm.gens hm.os hm.toks (Heap.lt_size hS'))
  · rw [hmem k]
    exact ⟨fun ⟨e, he, q⟩ => ⟨e, hp.mem_iff.mp he, q⟩, fun ⟨e, he, q⟩ => ⟨e, hp.mem_iff.mpr he, q⟩⟩
  · have hlt := Heap.lt_size e
    refine hm.heap b o ?_ (oth b o (Nat.ne_of_lt hlt) (hk b o (Heap.get?_push_of_some _ e)))
    simp only [List.mem_cons, List.not_mem_nil, or_false, not_or]
    exact ⟨Nat.ne_of_lt hlt, Nat.ne_of_lt (Nat.lt_trans hlt hI')⟩
end
end L2.Ev
namespace L2.Ev
open PySem PySem.Spec PyProof.Rows
section
variable {prog : Program} {w : World} {A : Around} {E : Value → Shared → Prop} {s : Shared}
theorem sorted_set {a : Addr} {S : Int → Bool} {n : Nat} {Q : Value → Shared → Prop} (hh : A.handled = none) (hS : SetW prog w s.heap a S n)
    (h : ∀ (s' : Shared) (l ep : Nat) (out : Array Value) (ns : List Int), IntsAre out.toList ns → ns.length = n → (∀ k, k ∈ ns ↔ S k = true) → ns.Pairwise (· ≤ ·) → (∀ b o, s.heap.get? b = some o → s'.heap.get? b = some o) →
      s'.gens = s.gens → s'.os = s.os → s.toks ≤ s'.toks → s.heap.objs.size ≤ l → s'.heap.get? l = some (seqObj "list" out ep) → Q (.ref l) s') :
    wpAny (model prog w) A (call (.builtin "sorted") [.ref a]) Q E s := by
  refine Calls.call_function_entry kind_sorted plain_sorted entry_sorted (args_sorted1 _) ?_
  unfold Builtin.«sorted»
  refine wpAny_bind (m := checkCount "sorted" 1 1 _) (wpAny_pure ?_)
  have hn : n < scanBound := by obtain ⟨_, _, _, _, _, _, _, _, _, hb, _, e, _⟩ := hS; rw [← e]; exact hb
  have ha : a < s.heap.objs.size := by obtain ⟨o, _, _, _, ho, _⟩ := hS; exact Heap.lt_size ho
  refine wpAny_bind (collect_set (by simp [hh]) hS fun s1 vs ns hI hl hm hk hg ho ht hsz => ?_)
  refine wpAny_bind (wpAny_newList ?_ (by first | assumption | (simp [hl]; exact fits_of_scanBound hn)))
  have hle : s.heap.objs.size ≤ s1.heap.objs.size := Nat.le_of_lt hsz
  have hoL : (s1.heap.push (seqObj "list" vs.toArray 0)).get? s1.heap.objs.size = some (seqObj "list" vs.toArray 0) := Heap.get?_push_size _ rfl
  refine wpAny_bind (wpAny_holding (wpAny_call_entry slot_list_sort ⟨_, hoL, rfl⟩ entry_list_sort (list_sort_treeAny hoL hI (by rw [hl]; exact fits_of_scanBound hn) fun out ns' h1 h2 h3 => ⟨_, rfl, ?_⟩) (args_list_sort _)))
  obtain ⟨ep, he⟩ := sortedHeap_at (out := out) hoL
  refine wpAny_pure ⟨_, rfl, h _ s1.heap.objs.size ep out ns' h1 ?_ (fun k => (h2.mem_iff).trans (hm k)) h3 (fun b o e => ?_) hg ho ht hle he⟩
  · rw [h2.length_eq, ← hl, hI.length]
  · have e1 := hk b o e
    have hlt := Heap.lt_size e1
    show (sortedHeap (s1.heap.push (seqObj "list" vs.toArray 0)) s1.heap.objs.size vs out).get? b = some o
    rw [sortedHeap_old (Nat.ne_of_lt hlt) (by rw [Heap.size_push]; exact Nat.lt_succ_of_lt hlt)]
    exact Heap.get?_push_of_some _ e1
end
end L2.Ev
set_option maxHeartbeats 4000000
namespace L2.Ev
open PySem PySem.Spec PyProof.Rows
namespace Ss
theorem firstMet_nodup (val : Nat → Int) : ∀ i, (firstMet val i).Nodup
  | 0 => by rw [firstMet_zero]; exact .nil
  | i + 1 => by
    have ih := firstMet_nodup val i
    rw [firstMet_succ]; unfold step_dedup
    split
    · exact ih
    · rename_i h
      rw [List.nodup_append]
      refine ⟨ih, List.nodup_cons.mpr ⟨by simp, .nil⟩, fun a ha b hb => ?_⟩
      rw [List.mem_singleton] at hb
      subst hb
      rintro rfl
      exact h (List.any_eq_true.mpr ⟨_, ha, beq_self_eq_true _⟩)
theorem len_le : ∀ (l D : List Int), l.Nodup → (∀ x ∈ l, x ∈ D) → l.length ≤ D.length
  | [], D, _, _ => Nat.zero_le _
  | x :: l, D, hn, h => by
    obtain ⟨h1, h2⟩ := List.nodup_cons.mp hn
    have hx := h x (by simp)
    have ih := len_le l (D.erase x) h2 fun y hy => (List.mem_erase_of_ne (fun e : y = x => h1 (by rw [← e]; exact hy))).mpr (h y (by simp [hy]))
    rw [List.length_erase_of_mem hx] at ih
    have : 0 < D.length := List.length_pos_of_mem hx
    simp only [List.length_cons]; omega
theorem range_getD (ns : List Int) : (List.range ns.length).map (fun i => ns.getD i 0) = ns := by
  refine List.ext_getElem? fun i => ?_
  rw [List.getElem?_map]
  by_cases h : i < ns.length
  · simp [h]
  · simp [h]
theorem met_iff (ns : List Int) (k : Int) : metBy (fun i => ns.getD i 0) ns.length k = true ↔ k ∈ ns := by
  show (firstMet _ _).any _ = true ↔ _
  rw [firstMet_any, range_getD]
  simp
theorem met_mem (ns : List Int) (k : Int) : k ∈ firstMet (fun i => ns.getD i 0) ns.length ↔ k ∈ ns := by
  refine Iff.trans ?_ (met_iff ns k)
  show _ ↔ (firstMet _ _).any _ = true
  simp
theorem ints_vals : ∀ {ns : List Int} {its : List Value}, Vals (ns.map V.int) its → IntsAre its ns
  | [], _, .nil => .nil
  | n :: ns, _, .cons r1 r2 => by
    obtain ⟨t, rfl⟩ := r1
    exact .cons n t (ints_vals r2)
theorem vals_ints : ∀ {ns : List Int} {its : List Value}, IntsAre its ns → Vals (ns.map V.int) its
  | _, _, .nil => .nil
  | _, _, .cons n t r => .cons ⟨t, rfl⟩ (vals_ints r)
end Ss
theorem Inv.drew {X : Cx} {pins : List (Addr × Obj)} {σ : List (Option V)} {H : Hp} {s s' : Shared} (I : Inv X pins σ H { s with heap := s'.heap, toks := s'.toks }) (hg : s'.gens = s.gens) (ho : s'.os = s.os) : Inv X pins σ H s' := by
  obtain ⟨h', g', d', t', o'⟩ := s'
  simp only at hg ho
  subst hg; subst ho
  exact ⟨I.ok, I.os, I.bare, I.base, I.loc, I.cell, I.free, I.freeC, I.pin, I.hok, I.len⟩
theorem pe_sortSet {X : Cx} {e : Expr} {te : TE} {p p2 pos pos2 : Pos} (hcalm : X.calm = true) (hg : Gl X "sorted") (hm : X.mg "sorted" = none) (hg2 : Gl X "set") (hm2 : X.mg "set" = none) (he : PE X e te) (hs : starEach [e] X.env = [(false, eval e X.env)] := by rfl)
    (hs2 : starEach [Expr.Call (.Name "set" p2) [e] [] pos2] X.env = [(false, eval (.Call (.Name "set" p2) [e] [] pos2) X.env)] := by rfl) :
    PE X (.Call (.Name "sorted" p) [.Call (.Name "set" p2) [e] [] pos2] [] pos) (fun σ H Q => tCons te tNil σ H fun xs H1 => ∃ (a : Addr) (vs : List V) (ns : List Int), xs = [V.ref a] ∧ SqL X.K H1 a vs ∧ vs = ns.map V.int ∧ (∃ D : List Int, D.length < 4096 ∧ ∀ n ∈ ns, n ∈ D) ∧
      ∀ ys : List Int, (∀ k, k ∈ ys ↔ k ∈ ns) → ys.Pairwise (· ≤ ·) → ys.length ≤ ns.length → ∀ q, H1 q = none → Q (.ref q) (upd H1 q (.lst (ys.map V.int)))) := by
  intro pins s σ H Q I h
  refine wpAny_Call_Name_kw (ld_blt I hg hm (by decide +kernel : bootBuiltins "sorted" = some (.builtin "sorted")) ?_ (by decide) (by decide))
  refine PyProof.Rows.callWith_builtin1 ?_ hs2 (by rw [show starEach ([] : List Expr) X.env = [] from rfl]; rfl)
  rw [hs2]
  show wpAny _ _ (spliced ((false, eval (.Call (.Name "set" p2) [e] [] pos2) X.env) :: [])) _ _ s
  refine Calls.spliced_cons ?_
  refine wpAny_Call_Name_kw (ld_blt I hg2 hm2 (by decide +kernel : bootBuiltins "set" = some (.type "set")) ?_ (by decide) (by decide))
  refine PyProof.Rows.callWith_type1 (thn (pa_cons he pa_nil hs pos2 pins s σ H _ I h) fun us s1 ⟨vs, H1, I1, r1, q1⟩ => ?_) hs rfl
  obtain ⟨a, ys, ns, rfl, hq, rfl, ⟨D, hD, hnD⟩, q⟩ := q1
  rw [Vals.ref1 r1]
  obtain ⟨its, rv, hl, hz⟩ := I1.list hq
  have hlen := rv.length
  rw [List.length_map] at hlen
  have hI := Ss.ints_vals rv
  have hfl : (firstMet (fun i => ns.getD i 0) ns.length).length ≤ D.length := Ss.len_le _ _ (Ss.firstMet_nodup _ _) fun x hx => hnD x ((Ss.met_mem ns x).mp hx)
  have hsz : its.toArray.size = ns.length := by rw [List.size_toArray, hlen]
  refine set_of_list_w (items := its.toArray) (ns := ns) (I1.ok.hd hcalm) hl.isList (by simpa using hI) (by rw [hsz]; unfold scanBound; omega) fun h2 tk2 htk hS hlt2 hk2 => Calls.spliced_nil ?_
  rw [hsz] at hS
  refine sorted_set (I1.ok.hd hcalm) hS fun s3 l ep out ms i1 i2 i3 i4 i5 i6 i7 i8 i9 i10 => ?_
  have kk : ∀ b o, s1.heap.get? b = some o → s3.heap.get? b = some o := fun b o e => i5 b o (hk2 b o (Heap.lt_size e) e)
  have hle : s1.heap.objs.size ≤ l := Nat.le_trans (Nat.le_of_lt hlt2) i9
  have hml : ms.length ≤ ns.length := by
    rw [i2]
    exact firstMet_length_le _ _
  refine ⟨.ref l, _, Inv.drew (s := s1) (I1.laid (a := l) (o := .lst (ms.map V.int)) (t' := s3.toks) kk hle ⟨?_, out.toList, ep, Ss.vals_ints i1, ?_⟩) i6 i7, rfl, q ms (fun k => (i3 k).trans (Ss.met_iff ns k)) i4 hml l (I1.hok.fresh hle)⟩
  · rw [List.length_map]
    have : ns.length ≤ sizeLine := by rw [← List.length_map (f := V.int)]; exact hz
    omega
  · rw [i10]
def intsD : List PyData → Option (List Int)
  | [] => some []
  | .int n :: ds => (intsD ds).map (n :: ·)
  | _ :: _ => none
theorem intsD_eq : ∀ {ds : List PyData} {ns : List Int}, intsD ds = some ns → ds = ns.map PyData.int
  | [], ns, h => by simp [intsD] at h; subst h; rfl
  | d :: ds, ns, h => by
    cases d with
    | int n =>
      simp only [intsD, Option.map_eq_some_iff] at h
      obtain ⟨ms, h1, rfl⟩ := h
      rw [intsD_eq h1]; rfl
    | _ => simp [intsD] at h
theorem intsD_map : ∀ ns : List Int, intsD (ns.map PyData.int) = some ns
  | [] => rfl
  | n :: ns => by simp only [List.map_cons, intsD, intsD_map ns]; rfl
def wSortSet (f : SE) : SE := fun ρ μ Q => f ρ μ fun x μ1 => match rlOf μ1 x with
  | some xs => (match intsD xs with
    | some ns => (∃ D : List Int, D.length < 4096 ∧ ∀ n ∈ ns, n ∈ D) ∧ ∀ ys : List Int, (∀ k, k ∈ ys ↔ k ∈ ns) → ys.Pairwise (· ≤ ·) → ys.length ≤ ns.length → Q (.p (.list (ys.map PyData.int))) μ1
    | none => False)
  | none => False
theorem ge_sortSet {X : Cx} {e : Expr} {f : SE} {p p2 pos pos2 : Pos} (hcalm : X.calm = true) (hg : Gl X "sorted") (hm : X.mg "sorted" = none) (hg2 : Gl X "set") (hm2 : X.mg "set" = none) (he : GE X e f) (hs : starEach [e] X.env = [(false, eval e X.env)] := by rfl)
    (hs2 : starEach [Expr.Call (.Name "set" p2) [e] [] pos2] X.env = [(false, eval (.Call (.Name "set" p2) [e] [] pos2) X.env)] := by rfl) :
    GE X (.Call (.Name "sorted" p) [.Call (.Name "set" p2) [e] [] pos2] [] pos) (wSortSet f) := ⟨PE_imp (pe_sortSet hcalm hg hm hg2 hm2 he.go hs hs2) fun σ H Q ⟨as, ρ, μ, Q0, S, En, h, A⟩ =>
  ⟨as, ρ, μ, _, S, En, h, fun x μ1 as1 v H1 q1 s1 S1 r1 => by
    split at q1
    · rename_i xs e
      split at q1
      · rename_i ns e2
        obtain ⟨a, vs, rfl, sq, dz⟩ := rlOf_sq S1 r1 e
        have e3 := intsD_eq e2
        subst e3
        exact ⟨a, vs, ns, rfl, sq, dz_intsT dz, q1.1, fun ys h1 h2 h3 => (A.mono s1).lst S1 (dz_ints ys) (q1.2 ys h1 h2 h3)⟩
      · exact q1.elim
    · exact q1.elim⟩⟩
end L2.Ev
namespace L2.Ev
open PySem
section
variable {prog : Program} {w : World} {A : Around} {elt iter : Expr} {x : Str} {px : Pos} {scope : Scope} {pos : Pos} {I : Addr} {n₀ : Nat} {cenv : Env} {J : Nat → Shared → Prop} {K : Nat → Value → Shared → Prop} {DE : Shared → Prop}
end
end L2.Ev
namespace L2.Ev
open PySem
section
variable {prog : Program} {w : World} {A : Around} {n₀ : Nat} {J : Nat → Shared → Prop} {K : Nat → Value → Shared → Prop} {D DE : Shared → Prop} {R : Result → Shared → Prop}
end
end L2.Ev
set_option maxHeartbeats 4000000
namespace L2.Ev
open PySem PySem.Spec PyProof.Rows
def allR (sp : SpW) : List PyData → Mu → (Bool → Mu → Prop) → Prop
  | [], μ, Q => Q true μ
  | d :: ds, μ, Q => sp [.p d] μ fun w μ' => match w with
    | .p (.bool b) => if b = true then allR sp ds μ' Q else Q false μ'
    | _ => False
namespace Al
structure Jt (X : Cx) (pins : List (Addr × Obj)) (σ : List (Option V)) (sp : SpW) (ds : List PyData) (t I C a g : Nat) (as0 : Cs) (H0 : Hp) (Q0 : Bool → Mu → Prop) (i : Nat) (s : Shared) : Prop where
  ex : ∃ as μ H, Inv X pins σ H s ∧ SimH X.K as μ H ∧ Stp as0 H0 as H ∧ Dz X.K as H (.ref t) (.tuple ds) ∧ allR sp (ds.drop i) μ Q0 ∧ H I = none ∧ H C = none ∧ H a = none
  it : s.heap.IsTupleIter I t i
  ns : ∃ m, s.heap.Ns C m
  gen : s.heap.IsGen a g
  gs : g < s.gens.size
structure Dt (X : Cx) (pins : List (Addr × Obj)) (σ : List (Option V)) (g : Nat) (as0 : Cs) (H0 : Hp) (Q0 : Bool → Mu → Prop) (b : Bool) (s : Shared) : Prop where
  ex : ∃ as μ H, Inv X pins σ H s ∧ SimH X.K as μ H ∧ Stp as0 H0 as H ∧ Q0 b μ
  gs : g < s.gens.size
section
variable {X : Cx} {pins : List (Addr × Obj)} {σ : List (Option V)} {sp : SpW} {ds : List PyData} {t I C a g : Nat} {as0 : Cs} {H0 : Hp} {Q0 : Bool → Mu → Prop} {i : Nat} {s : Shared}
theorem bare_set {gs : Array GenState} {g : Nat} {y : GenState} (h : AllBare gs) (hy : y.bare = true) : AllBare (gs.setIfInBounds g y) := fun z hz => by
  rcases Array.mem_or_eq_of_mem_setIfInBounds hz with hz | rfl
  · exact h z hz
  · exact hy
theorem inv_set {H : Hp} {y : GenState} (I : Inv X pins σ H s) (hy : y.bare = true) : Inv X pins σ H (s.setGen g y) :=
  ⟨I.ok, I.os, bare_set I.bare hy, I.base, I.loc, I.cell, I.free, I.freeC, I.pin, I.hok, I.len⟩
theorem Jt.set {y : GenState} (hy : y.bare = true) (h : Jt X pins σ sp ds t I C a g as0 H0 Q0 i s) : Jt X pins σ sp ds t I C a g as0 H0 Q0 i (s.setGen g y) := by
  obtain ⟨⟨as, μ, H, I1, r⟩, h2, h3, h4, h5⟩ := h
  exact ⟨⟨as, μ, H, inv_set I1 hy, r⟩, h2, h3, h4, by simpa [Shared.setGen] using h5⟩
theorem Dt.set {b : Bool} {y : GenState} (hy : y.bare = true) (h : Dt X pins σ g as0 H0 Q0 b s) : Dt X pins σ g as0 H0 Q0 b (s.setGen g y) := by
  obtain ⟨⟨as, μ, H, I1, r⟩, h5⟩ := h
  exact ⟨⟨as, μ, H, inv_set I1 hy, r⟩, by simpa [Shared.setGen] using h5⟩
end
end Al
end L2.Ev
set_option maxHeartbeats 4000000
namespace L2.Ev
open PySem PySem.Spec PyProof.Rows
namespace Al
section
variable {X : Cx} {pins : List (Addr × Obj)} {σ : List (Option V)} {sp : SpW} {ds : List PyData} {t I C a g : Nat} {as0 : Cs} {H0 : Hp} {Q0 : Bool → Mu → Prop}
end
end Al
end L2.Ev
set_option maxHeartbeats 4000000
namespace L2.Ev
open PySem PySem.Spec PyProof.Rows
end L2.Ev
namespace L2.Ev
open PySem
section
variable {prog : Program} {w : World} {A : Around} {elt tg iter : Expr} {scope : Scope} {pos : Pos} {I : Addr} {n₀ : Nat} {cenv : Env} {J : Nat → Shared → Prop} {K : Nat → Value → Shared → Prop} {DE : Shared → Prop}
end
end L2.Ev
set_option maxHeartbeats 4000000
namespace L2.Ev
open PySem PySem.Spec PyProof.Rows
def allGR (t : Tg) (e : SE) (ρ0 : Rho) (ok : Mu → Prop) (Q : Bool → Mu → Prop) : List PyData → Mu → Prop
  | [], μ => ok μ ∧ Q true μ
  | x :: xs, μ => ok μ ∧ match bindT t x ρ0 with
    | some ρ2 => e ρ2 μ fun y μ1 => match y with
        | .p (.bool b) => if b = true then allGR t e ρ0 ok Q xs μ1 else Q false μ1
        | _ => False
    | none => False
section
variable {X : Cx} {pins : List (Addr × Obj)} {σ : St} {H : Hp}
end
structure JG (X : Cx) (pg : List (Addr × Obj)) (σ : St) (ρ : Rho) (t : Tg) (e : SE) (ok : Mu → Prop) (xs : List PyData) (fp : List Addr) (tn : Nat → Heap → Prop) (g : Nat) (as0 : Cs) (H0 : Hp) (Q0 : Bool → Mu → Prop) (i : Nat) (s : Shared) : Prop where
  ex : ∃ as μ H, Inv X pg σ H s ∧ SimH X.K as μ H ∧ Stp as0 H0 as H ∧ EnvOk X.K as H ρ σ ∧ (∀ b ∈ fp, H b = none) ∧ allGR t e ρ ok Q0 (xs.drop i) μ
  tn : tn i s.heap
  gs : g < s.gens.size
structure DG (X : Cx) (pg : List (Addr × Obj)) (σ : St) (g : Nat) (as0 : Cs) (H0 : Hp) (Q0 : Bool → Mu → Prop) (b : Bool) (s : Shared) : Prop where
  ex : ∃ as μ H σ', Inv X pg σ' H s ∧ SimH X.K as μ H ∧ Stp as0 H0 as H ∧ Q0 b μ
  gs : g < s.gens.size
section
variable {X : Cx} {pg : List (Addr × Obj)} {σ : St} {ρ : Rho} {t : Tg} {e : SE} {ok : Mu → Prop} {xs : List PyData} {fp : List Addr} {tn : Nat → Heap → Prop} {g : Nat} {as0 as1 : Cs} {H0 H1 : Hp} {Q0 : Bool → Mu → Prop} {i : Nat} {s : Shared} {tg elt : Expr} {it : Addr} {J : It} {vs : List Nat}
theorem JG.set {y : GenState} (hy : y.bare = true) (h : JG X pg σ ρ t e ok xs fp tn g as0 H0 Q0 i s) : JG X pg σ ρ t e ok xs fp tn g as0 H0 Q0 i (s.setGen g y) := by
  obtain ⟨⟨as, μ, H, I1, r⟩, h2, h5⟩ := h
  exact ⟨⟨as, μ, H, Al.inv_set I1 hy, r⟩, h2, by simpa [Shared.setGen] using h5⟩
end
end L2.Ev
set_option maxHeartbeats 4000000
namespace L2.Ev
open PySem PySem.Spec PyProof.Rows
end L2.Ev
set_option maxHeartbeats 4000000
namespace L2.Ev
open PySem PySem.Spec PyProof.Rows
section
variable {K : PySem.W.Frag} {as : Cs} {μ : Mu} {H : Hp}
theorem Stp.writeOwn {b : Addr} {j n : Nat} (hb : as.own[j]? = some (b, n)) (o : HO) (nf : nfz (H b) := by first | exact nf_lst (by assumption) | exact nf_dK (by assumption) | exact nf_dT (by assumption)) : Stp as H as (upd H b o) :=
  ⟨rfl, ⟨[], by simp⟩, fun a u _ q k => ⟨k, by rw [upd_ne (fun e => k (by rw [e]; exact Cs.ao_own hb))]; exact q⟩, ⟨[], by simp⟩, fun a u v q => by rw [upd_ne (fun e => nf u v (by rw [← e]; exact q))]; exact q⟩
theorem SimH.own_nf (S : SimH K as μ H) {b : Addr} {j n : Nat} (hb : as.own[j]? = some (b, n)) : nfz (H b) := fun o u z => by
  rcases S.ownd (b, n) (List.mem_of_getElem? hb) with ⟨xs, e⟩ | ⟨us, e⟩
  · have e : H b = some (.lst xs) := e
    rw [e] at z; cases z
  · have e : H b = some (.dK us) := e
    rw [e] at z; cases z
theorem SimH.writeOwn (S : SimH K as μ H) {n j : Nat} {a b : Addr} (ha : as.as[n]? = some a) (hb : as.own[j]? = some (b, n)) (o : HO) (ho : OwnOk (some o)) (c : Cell) (h : Cok K as (upd H b o) n a c) : SimH K as (μ.set n c) (upd H b o) := by
  have hm := List.mem_of_getElem? ha
  have hob : b ∈ as.own.map (·.1) := List.mem_map.mpr ⟨_, List.mem_of_getElem? hb, rfl⟩
  refine ⟨S.nd, by simp [S.len], fun a' h' => ?_, S.tabUpd (fun ps z => by obtain ⟨o', e', no⟩ := S.own_some hb; rw [z] at e'; cases e'; exact no ps rfl), fun m a' c' h1 h2 => ?_, fun x hx => ?_⟩
  · rw [upd_ne (fun z => (List.nodup_append.mp S.nd).2.2 a' h' b (Cs.ao_own hb) z)]; exact S.hide a' h'
  · by_cases e : n = m
    · subst e
      rw [ha] at h1
      cases h1
      have hl : n < μ.length := by rw [← S.len]; exact (List.getElem?_eq_some_iff.mp ha).1
      rw [List.getElem?_set_self hl] at h2
      cases h2
      exact h
    · rw [List.getElem?_set_ne e] at h2
      refine (S.cell m a' c' h1 h2).mono (Stp.writeOwn hb o (S.own_nf hb)) (upd_ne fun z => S.ne_own (List.mem_of_getElem? h1) hb z.symm) fun j' b' hb' => upd_ne fun z => ?_
      subst z
      have := S.own_inj hb hb'
      subst this
      rw [hb] at hb'
      cases hb'
      exact e rfl
  · by_cases z : x.1 = b
    · rw [z, upd_same]; exact ho
    · rw [upd_ne z]; exact S.ownd x hx
theorem SubsOk.length {n : Nat} {vs : List V} {us : List Sub} (h : SubsOk K as H n vs us) : vs.length = us.length := by
  induction h with
  | nil => rfl
  | cons _ _ ih => simp [ih]
theorem SubsOk.append {n : Nat} {vs ws : List V} {us zs : List Sub} (h : SubsOk K as H n vs us) (k : SubsOk K as H n ws zs) : SubsOk K as H n (vs ++ ws) (us ++ zs) := by
  induction h with
  | nil => exact k
  | cons h _ ih => exact .cons h ih
end
def valS {κ : Type} [DecidableEq κ] (kvs : List (κ × Sub)) (k : κ) : Option Sub := (kvs.find? fun kv => decide (kv.1 = k)).map (·.2)
theorem valS_cons {κ : Type} [DecidableEq κ] (a k : κ) (s : Sub) (r : List (κ × Sub)) : valS ((a, s) :: r) k = if a = k then some s else valS r k := by
  unfold valS
  rw [List.find?_cons]
  by_cases h : a = k <;> simp [h]
section
variable {K : PySem.W.Frag} {as : Cs} {μ : Mu} {H : Hp}
theorem SubsOk.val {n : Nat} (k : Key) : ∀ {us : List (Key × V)} {kvs : List (Key × Sub)}, us.map (·.1) = kvs.map (·.1) → SubsOk K as H n (us.map (·.2)) (kvs.map (·.2)) → (valV us k = none ∧ valS kvs k = none) ∨ ∃ v s, valV us k = some v ∧ valS kvs k = some s ∧ SubOk K as H n v s
  | [], [], _, _ => .inl ⟨rfl, rfl⟩
  | [], _ :: _, e, _ => by simp at e
  | _ :: _, [], e, _ => by simp at e
  | (a, v) :: us, (b, s) :: kvs, e, h => by
    simp only [List.map_cons, List.cons.injEq] at e
    obtain ⟨e1, e2⟩ := e
    subst e1
    cases h with
    | cons h t =>
      rw [valS_cons]
      by_cases q : a = k
      · exact .inr ⟨v, s, valV_pos q, by rw [if_pos q], h⟩
      · rw [if_neg q]
        have : valV ((a, v) :: us) k = valV us k := by unfold valV; rw [List.find?_cons]; simp [q]
        rw [this]
        exact SubsOk.val k e2 t
theorem SubOk.ref {n : Nat} {v : V} {s : Sub} {j : Nat} (h : SubOk K as H n v s) (hj : s.isJ j = true) : ∃ b, v = .ref b ∧ as.own[j]? = some (b, n) := by
  cases s with
  | d x => simp [Sub.isJ] at hj
  | l i xs => obtain ⟨b, vs, e, q, _⟩ := h; have : i = j := by simpa [Sub.isJ] using hj
              subst this; exact ⟨b, e, q⟩
  | k i xs => obtain ⟨b, vs, e, q, _⟩ := h; have : i = j := by simpa [Sub.isJ] using hj
              subst this; exact ⟨b, e, q⟩
end
section
variable {X : Cx} {pins : List (Addr × Obj)} {σ : St} {H : Hp} {s : Shared} {a : Addr} {kvs : List (Key × V)} {k : Key} {u r : Value} {d : V} {A : Around} {E : Value → Shared → Prop}
end
section
variable {X : Cx} {o e f : Expr} {apos cpos : Pos} {to te tf : TE}
end
theorem jsOf_snoc (ss : List Sub) (s : Sub) : jsOf (ss ++ [s]) = jsOf ss ++ s.js := by simp [jsOf]
section
variable {X : Cx} {o e : Expr} {apos cpos lpos : Pos} {fo fe : SE}
end
end L2.Ev
namespace L2
open PySem PySem.Spec PyProof.Rows
section
variable {X : Cx} {pins : List (Addr × Obj)} {σ : St} {H : Hp} {s : Shared} {a : Addr} {kvs : List (Key × V)} {k : Key} {u r : Value} {v y : V} {A : Around} {E : Value → Shared → Prop}
end
section
variable {X : Cx}
end
end L2
namespace L2
open PySem PySem.Spec PyProof.Rows
open L2.Ev (SetW newSetObj TabOk)
section
variable {prog : Program} {w : World} {A : Around} {E : Value → Shared → Prop} {R : Result → Shared → Prop} {s : Shared}
end
section
variable {X : Cx} {pins : List (Addr × Obj)} {σ : St} {H : Hp} {s : Shared} {A : Around} {E : Value → Shared → Prop}
end
section
variable {X : Cx}
end
end L2
set_option maxHeartbeats 4000000
namespace L2.Ev
open PySem PySem.Spec PyProof.Rows
section
variable {K : PySem.W.Frag} {as : Cs} {μ : Mu} {H : Hp}
theorem js_isJ {x : Sub} {j : Nat} : x.isJ j = true ↔ j ∈ x.js := by
  cases x with
  | d _ => simp [Sub.isJ, Sub.js]
  | l i _ => simp only [Sub.isJ, Sub.js, beq_iff_eq, List.mem_singleton]; exact ⟨Eq.symm, Eq.symm⟩
  | k i _ => simp only [Sub.isJ, Sub.js, beq_iff_eq, List.mem_singleton]; exact ⟨Eq.symm, Eq.symm⟩
theorem SubOk.other (S : SimH K as μ H) {n j : Nat} {b : Addr} (hb : as.own[j]? = some (b, n)) (o : HO) {v : V} {x : Sub} (h : SubOk K as H n v x) (hx : x.isJ j = false) : SubOk K as (upd H b o) n v x := by
  have st := Stp.writeOwn (H := H) hb o (S.own_nf hb)
  have ne : ∀ i b', as.own[i]? = some (b', n) → i ≠ j → b' ≠ b := fun i b' q hi z => hi (S.own_inj (by rw [← z]; exact q) hb)
  cases x with
  | d x => exact Dz.mono st h
  | l i xs =>
    have hi : i ≠ j := by simpa [Sub.isJ] using hx
    obtain ⟨b', vs, e, q, h1, h2⟩ := h
    exact ⟨b', vs, e, q, by rw [upd_ne (ne i b' q hi)]; exact h1, h2.mono st⟩
  | k i xs =>
    have hi : i ≠ j := by simpa [Sub.isJ] using hx
    obtain ⟨b', vs, e, q, h1, h3, h2⟩ := h
    exact ⟨b', vs, e, q, by rw [upd_ne (ne i b' q hi)]; exact h1, h3, h2.mono st⟩
theorem jsOf_setSub {j : Nat} {s : Sub} (hs : s.js = [j]) (us : List Sub) : jsOf (us.map fun x => if x.isJ j = true then s else x) = jsOf us := by
  induction us with
  | nil => rfl
  | cons x us ih =>
    unfold jsOf at ih ⊢
    simp only [List.map_cons, List.flatMap_cons, ih]
    congr 1
    cases hx : x.isJ j with
    | false => simp
    | true =>
      simp only [if_true, hs]
      cases x with
      | d _ => simp [Sub.isJ] at hx
      | l i _ => simp only [Sub.isJ, beq_iff_eq] at hx; subst hx; rfl
      | k i _ => simp only [Sub.isJ, beq_iff_eq] at hx; subst hx; rfl
end
section
variable {X : Cx}
end
end L2.Ev
set_option maxHeartbeats 4000000
namespace L2.Ev
open PySem PySem.Spec PyProof.Rows
theorem Dz.key {K : PySem.W.Frag} {as : Cs} {H : Hp} (k : Key) : Dz K as H (kV k) (keyD k) := by
  cases k with
  | inl i => exact Dz.int i
  | inr x => exact Dz.str x
section
variable {X : Cx}
end
section
variable {X : Cx}
end
section
variable {X : Cx}
end
end L2.Ev
set_option maxHeartbeats 4000000
namespace L2.Ev
open PySem PySem.Spec PyProof.Rows
section
variable {X : Cx} {kx vx tg iter : Expr} {ifs : List Expr} {scope : Scope} {own : List (Str × Nat)} {pos : Pos} {it : SI} {t : Tg} {c : ST} {ek ev : SE}
end
def keysW : List W → Option (List Key)
  | [] => some []
  | w :: ws => match keyOf w, keysW ws with | some k, some ks => some (k :: ks) | _, _ => none
theorem keysW_v {K : PySem.W.Frag} {as : Cs} {H : Hp} : ∀ {ws : List W} {vs : List V} {ks : List Key}, Rels K as H ws vs → keysW ws = some ks → vs = ks.map kV
  | [], _, _, .nil, e => by cases e; rfl
  | w :: ws, _, _, .cons r t, e => by
    unfold keysW at e
    split at e
    · rename_i k ks e1 e2
      cases e
      rw [keyOf_v r e1, keysW_v t e2]; rfl
    · cases e
section
variable {κ : Type} [DecidableEq κ] {K : PySem.W.Frag} {as : Cs} {H : Hp}
def valG (kvs : List (κ × PyData)) (k : κ) : Option PyData := (kvs.find? fun kv => decide (kv.1 = k)).map (·.2)
def putG (kvs : List (κ × PyData)) (k : κ) (d : PyData) : List (κ × PyData) :=
  if (kvs.any fun kv => decide (kv.1 = k)) = true then kvs.map (fun kv => if kv.1 = k then (kv.1, d) else kv) else kvs ++ [(k, d)]
def PrG (K : PySem.W.Frag) (as : Cs) (H : Hp) (us : List (κ × V)) (kvs : List (κ × PyData)) : Prop := us.map (·.1) = kvs.map (·.1) ∧ DzAll K as H (us.map (·.2)) (kvs.map (·.2))
theorem PrG.len {us : List (κ × V)} {kvs : List (κ × PyData)} (h : PrG K as H us kvs) : us.length = kvs.length := by have := congrArg List.length h.1; simpa using this
theorem PrG.cons {k : κ} {v : V} {d : PyData} {us : List (κ × V)} {kvs : List (κ × PyData)} (h : Dz K as H v d) (p : PrG K as H us kvs) : PrG K as H ((k, v) :: us) ((k, d) :: kvs) := ⟨by simp [p.1], .cons h p.2⟩
theorem PrG.inv {u : κ × V} {us : List (κ × V)} {kv : κ × PyData} {kvs : List (κ × PyData)} (h : PrG K as H (u :: us) (kv :: kvs)) : u.1 = kv.1 ∧ Dz K as H u.2 kv.2 ∧ PrG K as H us kvs := by
  obtain ⟨h1, h2⟩ := h
  simp only [List.map_cons, List.cons.injEq] at h1
  cases h2 with
  | cons a b => exact ⟨h1.1, a, h1.2, b⟩
theorem PrG.val : ∀ {us : List (κ × V)} {kvs : List (κ × PyData)} (k : κ), PrG K as H us kvs → (valV us k = none ∧ valG kvs k = none) ∨ ∃ v d, valV us k = some v ∧ valG kvs k = some d ∧ Dz K as H v d
  | [], [], k, _ => .inl ⟨rfl, rfl⟩
  | [], _ :: _, _, h => by have := h.len; simp at this
  | _ :: _, [], _, h => by have := h.len; simp at this
  | (a, v) :: us, (b, d) :: kvs, k, h => by
    obtain ⟨e, hd, t⟩ := h.inv
    simp only at e
    subst e
    by_cases hk : a = k
    · exact .inr ⟨v, d, by simp [valV, List.find?_cons, hk], by simp [valG, List.find?_cons, hk], hd⟩
    · have := PrG.val k t
      simp only [valV, valG, List.find?_cons, hk, decide_false] at this ⊢
      exact this
theorem PrG.any {us : List (κ × V)} {kvs : List (κ × PyData)} (k : κ) (h : PrG K as H us kvs) : (us.any fun kv => decide (kv.1 = k)) = kvs.any fun kv => decide (kv.1 = k) := by
  have e : ∀ {β : Type} (xs : List (κ × β)), (xs.any fun kv => decide (kv.1 = k)) = (xs.map (·.1)).any fun x => decide (x = k) := fun xs => by rw [List.any_map]; rfl
  rw [e, e, h.1]
theorem PrG.mapIf {k : κ} {v : V} {d : PyData} (hd : Dz K as H v d) : ∀ {us : List (κ × V)} {kvs : List (κ × PyData)}, PrG K as H us kvs → PrG K as H (us.map (fun kv => if kv.1 = k then (kv.1, v) else kv)) (kvs.map (fun kv => if kv.1 = k then (kv.1, d) else kv))
  | [], [], h => h
  | [], _ :: _, h => by have := h.len; simp at this
  | _ :: _, [], h => by have := h.len; simp at this
  | (a, v0) :: us, (b, d0) :: kvs, h => by
    obtain ⟨e, h0, t⟩ := h.inv
    simp only at e
    subst e
    have ih := PrG.mapIf (k := k) hd t
    by_cases hk : a = k
    · simp only [List.map_cons, hk, if_true]; exact PrG.cons hd (by simpa [hk] using ih)
    · simp only [List.map_cons, hk, if_false]; exact PrG.cons h0 ih
theorem PrG.put {us : List (κ × V)} {kvs : List (κ × PyData)} {k : κ} {v : V} {d : PyData} (h : PrG K as H us kvs) (hd : Dz K as H v d) : PrG K as H (putK us k v) (putG kvs k d) := by
  unfold putK putG
  rw [h.any k]
  split
  · exact h.mapIf hd
  · exact ⟨by rw [List.map_append, List.map_append, h.1]; rfl, by rw [List.map_append, List.map_append]; exact h.2.append (.cons hd .nil)⟩
theorem PrG.mono {as' : Cs} {H' : Hp} {us : List (κ × V)} {kvs : List (κ × PyData)} (s : Stp as H as' H') (h : PrG K as H us kvs) : PrG K as' H' us kvs := ⟨h.1, h.2.mono s⟩
end
def dtOf (μ : Mu) : W → Option (List (List Key × PyData))
  | .r n => match μ[n]? with | some (.dt kvs) => some kvs | some (.zt kvs) => some kvs | _ => none
  | _ => none
theorem dtOf_at {K : PySem.W.Frag} {as : Cs} {μ : Mu} {H : Hp} (S : SimH K as μ H) {w : W} {v : V} {kvs : List (List Key × PyData)} (r : Rel K as H w v) (e : dtOf μ w = some kvs) : ∃ (a : Addr) (us : List (List Key × V)), v = .ref a ∧ Rd H a (.dT us) ∧ PrG K as H us kvs := by
  cases w with
  | r n =>
    obtain ⟨a, rfl, ha⟩ := r
    simp only [dtOf] at e
    split at e
    · rename_i c hc
      cases e
      obtain ⟨us, h1, h2, h3⟩ := S.cell n a _ ha hc
      exact ⟨a, us, rfl, .inl h1, h2, h3⟩
    · rename_i c hc
      cases e
      obtain ⟨us, ⟨o, h1⟩, h2, h3⟩ := S.cell n a _ ha hc
      exact ⟨a, us, rfl, .inr ⟨o, h1⟩, h2, h3⟩
    · cases e
  | _ => cases e
section
variable {X : Cx} {pos : Pos}
end
end L2.Ev
set_option maxHeartbeats 4000000
namespace L2.Ev
open PySem PySem.Spec PyProof.Rows
theorem perm_of : ∀ (L ms : List Int), L.Nodup → (∀ x ∈ L, x ∈ ms) → ms.length = L.length → ms.Perm L
  | [], ms, _, _, h => by rw [List.length_eq_zero_iff.mp h]
  | x :: L, ms, hn, hs, h => by
    obtain ⟨h1, h2⟩ := List.nodup_cons.mp hn
    have hx := hs x (by simp)
    have pe := List.perm_cons_erase hx
    refine pe.trans (.cons x (perm_of L (ms.erase x) h2 (fun y hy => (List.mem_erase_of_ne (fun e : y = x => h1 (by rw [← e]; exact hy))).mpr (hs y (by simp [hy]))) ?_))
    rw [List.length_erase_of_mem hx, h]; simp
structure SetL (S : Int → Bool) (n : Nat) (L acc Dm : List Int) : Prop where
  nd : L.Nodup
  len : n = L.length
  S : ∀ k, S k = true ↔ k ∈ L
  mem : ∀ k, k ∈ L ↔ k ∈ acc
  sub : ∀ k ∈ L, k ∈ Dm
theorem SetL.nil {Dm : List Int} : SetL (fun _ => false) 0 [] [] Dm := ⟨.nil, rfl, by simp, by simp, by simp⟩
theorem SetL.room {S : Int → Bool} {n : Nat} {L acc Dm : List Int} (h : SetL S n L acc Dm) (hD : Dm.length < 4096) {k : Int} (hk : k ∈ Dm) : S k = true ∨ n + 1 < scanBound := by
  by_cases e : S k = true
  · exact .inl e
  · right
    have hn : k ∉ L := fun z => e ((h.S k).mpr z)
    have : (k :: L).length ≤ Dm.length := Ss.len_le _ _ (List.nodup_cons.mpr ⟨hn, h.nd⟩) fun x hx => by
      rcases List.mem_cons.mp hx with rfl | hx
      · exact hk
      · exact h.sub x hx
    rw [List.length_cons] at this
    rw [h.len]; unfold scanBound; omega
theorem SetL.add {S : Int → Bool} {n : Nat} {L acc Dm : List Int} (h : SetL S n L acc Dm) {k : Int} (hk : k ∈ Dm) : SetL (fun k' => S k' || decide (k' = k)) (if S k then n else n + 1) (if S k = true then L else L ++ [k]) (acc ++ [k]) Dm := by
  by_cases e : S k = true
  · have hl := (h.S k).mp e
    refine ⟨by rw [if_pos e]; exact h.nd, by rw [if_pos e, if_pos e]; exact h.len, fun k' => ?_, fun k' => ?_, by rw [if_pos e]; exact h.sub⟩
    · rw [if_pos e, Bool.or_eq_true, decide_eq_true_eq, h.S]
      exact ⟨fun z => z.elim id fun z => z ▸ hl, .inl⟩
    · rw [if_pos e, List.mem_append, List.mem_singleton, h.mem]
      exact ⟨.inl, fun z => z.elim id fun z => z ▸ (h.mem k).mp hl⟩
  · have hn : k ∉ L := fun z => e ((h.S k).mpr z)
    refine ⟨?_, ?_, fun k' => ?_, fun k' => ?_, ?_⟩
    · rw [if_neg e, List.nodup_append]
      exact ⟨h.nd, by simp, fun a ha b hb z => by simp at hb; subst hb; subst z; exact hn ha⟩
    · rw [if_neg e, if_neg e, List.length_append, h.len]; rfl
    · rw [if_neg e, Bool.or_eq_true, decide_eq_true_eq, h.S, List.mem_append, List.mem_singleton]
    · rw [if_neg e, List.mem_append, List.mem_append, List.mem_singleton, h.mem]
    · rw [if_neg e]
      intro x hx
      rcases List.mem_append.mp hx with hx | hx
      · exact h.sub x hx
      · rw [List.mem_singleton.mp hx]; exact hk
theorem SetL.fin {S : Int → Bool} {n : Nat} {L acc Dm ms : List Int} (h : SetL S n L acc Dm) (l1 : ms.length = n) (l2 : ∀ k, k ∈ ms ↔ S k = true) (l3 : ms.Pairwise (· ≤ ·)) : ms.Pairwise (· < ·) ∧ (∀ k, k ∈ ms ↔ k ∈ acc) ∧ ms.length ≤ acc.length := by
  have pm := perm_of L ms h.nd (fun x hx => (l2 x).mpr ((h.S x).mpr hx)) (l1.trans h.len)
  have nd := pm.nodup_iff.mpr h.nd
  refine ⟨?_, fun k => (l2 k).trans ((h.S k).trans (h.mem k)), ?_⟩
  · have := l3.and nd
    exact this.imp fun {a b} ⟨h1, h2⟩ => by omega
  · rw [l1, h.len]
    exact Ss.len_le _ _ h.nd fun x hx => (h.mem x).mp hx
section
variable {X : Cx} {elt tg iter : Expr} {ifs : List Expr} {scope : Scope} {own : List (Str × Nat)} {it : SI} {t : Tg} {c : ST} {e : SE}
end
end L2.Ev
set_option maxHeartbeats 4000000
namespace L2.Ev
open PySem
structure DnI (kvs : List (Key × Sub)) (g : Int → Option (List PyData)) : Prop where
  nd : (jsOf (kvs.map (·.2))).Nodup
  all : ∀ kv ∈ kvs, ∃ p j xs, kv = (.inl p, Sub.l j xs)
  ks : (kvs.map (·.1)).Nodup
  val : ∀ p, (valS kvs (.inl p)).isSome = (g p).isSome
  mem : ∀ p j xs, (Sum.inl p, Sub.l j xs) ∈ kvs → g p = some xs
theorem DnI.nil : DnI [] (fun _ => none) := ⟨by simp [jsOf], by simp, by simp, fun _ => rfl, by simp⟩
theorem valS_mem {kvs : List (Key × Sub)} {k : Key} {s : Sub} (h : valS kvs k = some s) : (k, s) ∈ kvs := by
  unfold valS at h
  rw [Option.map_eq_some_iff] at h
  obtain ⟨kv, h1, rfl⟩ := h
  have := List.find?_some h1
  simp only [decide_eq_true_eq] at this
  rw [← this]
  exact List.mem_of_find?_eq_some h1
theorem valS_none {kvs : List (Key × Sub)} {k : Key} (h : valS kvs k = none) : k ∉ kvs.map (·.1) := fun z => by
  unfold valS at h
  rw [Option.map_eq_none_iff, List.find?_eq_none] at h
  obtain ⟨kv, hm, e⟩ := List.mem_map.mp z
  exact h kv hm (by simp [e])
theorem mem_valS {kvs : List (Key × Sub)} (nd : (kvs.map (·.1)).Nodup) {k : Key} {s : Sub} (h : (k, s) ∈ kvs) : valS kvs k = some s := by
  induction kvs with
  | nil => cases h
  | cons a kvs ih =>
    obtain ⟨b, s'⟩ := a
    rw [valS_cons]
    rw [List.map_cons, List.nodup_cons] at nd
    rcases List.mem_cons.mp h with e | h
    · cases e; rw [if_pos rfl]
    · rw [if_neg, ih nd.2 h]
      rintro rfl
      exact nd.1 (List.mem_map.mpr ⟨_, h, rfl⟩)
theorem DnI.at_some {kvs : List (Key × Sub)} {g : Int → Option (List PyData)} (h : DnI kvs g) {p : Int} {xs : List PyData} (e : g p = some xs) : ∃ j, valS kvs (.inl p) = some (.l j xs) := by
  have := h.val p
  rw [e] at this
  obtain ⟨s, hs⟩ := Option.isSome_iff_exists.mp this
  have hm := valS_mem hs
  obtain ⟨p', j, xs', e'⟩ := h.all _ hm
  cases e'
  have := h.mem _ _ _ hm
  rw [e] at this
  cases this
  exact ⟨j, hs⟩
theorem DnI.at_none {kvs : List (Key × Sub)} {g : Int → Option (List PyData)} (h : DnI kvs g) {p : Int} (e : g p = none) : valS kvs (.inl p) = none := by
  have := h.val p
  rw [e] at this
  cases q : valS kvs (.inl p) with
  | none => rfl
  | some s => rw [q] at this; cases this
def AtJ' (kvs : List (Key × Sub)) (j : Nat) (p : Int) : Prop := ∃ xs, (Sum.inl p, Sub.l j xs) ∈ kvs
theorem js_inj : ∀ {ss : List Sub}, (jsOf ss).Nodup → ∀ {j : Nat} {a b : Sub}, a ∈ ss → b ∈ ss → a.isJ j = true → b.isJ j = true → a = b
  | [], _, _, _, _, h, _, _, _ => by cases h
  | s :: ss, nd, j, a, b, ha, hb, ja, jb => by
    unfold jsOf at nd
    rw [List.flatMap_cons, List.nodup_append] at nd
    have out : ∀ x ∈ ss, x.isJ j = true → s.isJ j = true → False := fun x hx jx js => nd.2.2 j (js_isJ.mp js) j (List.mem_flatMap.mpr ⟨x, hx, js_isJ.mp jx⟩) rfl
    rcases List.mem_cons.mp ha with ea | ha
    · rcases List.mem_cons.mp hb with eb | hb
      · rw [ea, eb]
      · exact (out b hb jb (ea ▸ ja)).elim
    · rcases List.mem_cons.mp hb with eb | hb
      · exact (out a ha ja (eb ▸ jb)).elim
      · exact js_inj nd.2.1 ha hb ja jb
theorem isJ_l {j : Nat} {xs : List PyData} : (Sub.l j xs).isJ j = true := by simp [Sub.isJ]
theorem DnI.find {kvs : List (Key × Sub)} {g : Int → Option (List PyData)} (h : DnI kvs g) {p : Int} {j : Nat} {xs : List PyData} (hm : (Sum.inl p, Sub.l j xs) ∈ kvs) : (kvs.map (·.2)).find? (Sub.isJ j) = some (.l j xs) := by
  have hin : Sub.l j xs ∈ kvs.map (·.2) := List.mem_map.mpr ⟨_, hm, rfl⟩
  cases e : (kvs.map (·.2)).find? (Sub.isJ j) with
  | none => rw [List.find?_eq_none] at e; exact absurd isJ_l (e _ hin)
  | some s => rw [js_inj h.nd (List.mem_of_find?_eq_some e) hin (List.find?_some e) isJ_l]
theorem DnI.sub {kvs : List (Key × Sub)} {g : Int → Option (List PyData)} (h : DnI kvs g) {μ : Mu} {n : Nat} (hc : μ[n]? = some (.dn kvs)) {p : Int} {j : Nat} (ha : AtJ' kvs j p) : ∃ xs, g p = some xs ∧ subAt μ n j = some (.l j xs) := by
  obtain ⟨xs, hm⟩ := ha
  refine ⟨xs, h.mem _ _ _ hm, ?_⟩
  unfold subAt
  rw [hc]
  exact h.find hm
theorem DnI.key {kvs : List (Key × Sub)} {g : Int → Option (List PyData)} (h : DnI kvs g) : ∃ ps : List Int, kvs.map (·.1) = ps.map Sum.inl ∧ ps.Nodup ∧ ∀ p, p ∈ ps ↔ (g p).isSome = true := by
  have : ∀ {l : List (Key × Sub)}, (∀ kv ∈ l, ∃ p j xs, kv = (Sum.inl p, Sub.l j xs)) → ∃ ps : List Int, l.map (·.1) = ps.map Sum.inl := fun {l} => by
    induction l with
    | nil => intro _; exact ⟨[], rfl⟩
    | cons a l ih =>
      intro hl
      obtain ⟨p, j, xs, rfl⟩ := hl a (by simp)
      obtain ⟨ps, e⟩ := ih fun kv hk => hl kv (by simp [hk])
      exact ⟨p :: ps, by simp [e]⟩
  obtain ⟨ps, e⟩ := this h.all
  have nd := h.ks
  rw [e] at nd
  refine ⟨ps, e, ?_, fun p => ?_⟩
  · exact (List.pairwise_map.mp nd).imp fun hne z => hne (by rw [z])
  · constructor
    · intro hp
      have : (Sum.inl p : Key) ∈ kvs.map (·.1) := by rw [e]; exact List.mem_map.mpr ⟨p, hp, rfl⟩
      obtain ⟨kv, hm, ek⟩ := List.mem_map.mp this
      obtain ⟨p', j, xs, rfl⟩ := h.all kv hm
      cases ek
      rw [h.mem _ _ _ hm]; rfl
    · intro hp
      obtain ⟨xs, hx⟩ := Option.isSome_iff_exists.mp hp
      obtain ⟨j, hj⟩ := h.at_some hx
      have : (Sum.inl p : Key) ∈ kvs.map (·.1) := List.mem_map.mpr ⟨_, valS_mem hj, rfl⟩
      rw [e] at this
      obtain ⟨p', hp', e'⟩ := List.mem_map.mp this
      cases e'; exact hp'
def putL (g : Int → Option (List PyData)) (p : Int) (xs : List PyData) : Int → Option (List PyData) := fun q => if q = p then some xs else g q
theorem DnI.new {kvs : List (Key × Sub)} {g : Int → Option (List PyData)} (h : DnI kvs g) {p : Int} (e : g p = none) {j : Nat} (hj : j ∉ jsOf (kvs.map (·.2))) : DnI (kvs ++ [(.inl p, .l j [])]) (putL g p []) := by
  have hn := valS_none (h.at_none e)
  refine ⟨?_, fun kv hk => ?_, ?_, fun q => ?_, fun q i xs hm => ?_⟩
  · rw [List.map_append, List.map_cons, List.map_nil, jsOf_snoc, List.nodup_append]
    exact ⟨h.nd, by simp [Sub.js], fun a ha b hb z => by simp [Sub.js] at hb; subst hb; subst z; exact hj ha⟩
  · rcases List.mem_append.mp hk with hk | hk
    · exact h.all kv hk
    · rw [List.mem_singleton.mp hk]; exact ⟨p, j, [], rfl⟩
  · rw [List.map_append, List.nodup_append]
    exact ⟨h.ks, by simp, fun a ha b hb z => by simp at hb; subst hb; subst z; exact hn ha⟩
  · have : valS (kvs ++ [(Sum.inl p, Sub.l j [])]) (.inl q) = (valS kvs (.inl q)).or (if q = p then some (.l j []) else none) := by
      unfold valS
      rw [List.find?_append]
      cases kvs.find? fun kv => decide (kv.1 = Sum.inl q) with
      | some a => simp
      | none =>
        by_cases z : q = p
        · subst z; simp
        · have : (Sum.inl p : Key) ≠ Sum.inl q := fun y => z (by injection y with y; exact y.symm)
          simp [z, this]
    rw [this]
    unfold putL
    by_cases z : q = p
    · subst z; rw [h.at_none e]; simp
    · simp only [z, if_false, Option.or_none]; exact h.val q
  · unfold putL
    rcases List.mem_append.mp hm with hm1 | hm1
    · by_cases z : q = p
      · exact (hn (List.mem_map.mpr ⟨(Sum.inl q, Sub.l i xs), hm1, by rw [z]⟩)).elim
      · rw [if_neg z]; exact h.mem _ _ _ hm1
    · rw [List.mem_singleton] at hm1; cases hm1; rw [if_pos rfl]
theorem DnI.app {kvs : List (Key × Sub)} {g : Int → Option (List PyData)} (h : DnI kvs g) {p : Int} {j : Nat} {xs : List PyData} (hm : (Sum.inl p, Sub.l j xs) ∈ kvs) (ys : List PyData) :
    DnI (kvs.map fun kv => if kv.2.isJ j = true then (kv.1, .l j ys) else kv) (putL g p ys) := by
  have keys : (kvs.map fun kv => if kv.2.isJ j = true then (kv.1, Sub.l j ys) else kv).map (·.1) = kvs.map (·.1) := by
    rw [List.map_map]; apply List.map_congr_left; intro kv _; simp only [Function.comp_apply]; split <;> rfl
  have hmap : (kvs.map fun kv => if kv.2.isJ j = true then (kv.1, Sub.l j ys) else kv).map (·.2) = (kvs.map (·.2)).map fun x => if x.isJ j = true then .l j ys else x := by
    rw [List.map_map, List.map_map]
    apply List.map_congr_left; intro kv _; simp only [Function.comp_apply]; split <;> rfl
  have only : ∀ q i zs, (Sum.inl q, Sub.l i zs) ∈ kvs → i = j → q = p ∧ zs = xs := fun q i zs hq ei => by
    subst ei
    have e2 := js_inj h.nd (List.mem_map.mpr ⟨_, hq, rfl⟩) (List.mem_map.mpr ⟨_, hm, rfl⟩) (isJ_l (j := i)) (isJ_l (j := i))
    cases e2
    refine ⟨?_, rfl⟩
    -- two places that hold the same list: its number stands twice
    have : ∀ {l : List (Key × Sub)}, (jsOf (l.map (·.2))).Nodup → ∀ {a b : Key} {s : Sub}, s.js = [i] → (a, s) ∈ l → (b, s) ∈ l → a = b := fun {l} => by
      induction l with
      | nil => intro _ a b s _ ha _; cases ha
      | cons x l ih =>
        intro nd a b s es ha hb
        unfold jsOf at nd
        rw [List.map_cons, List.flatMap_cons, List.nodup_append] at nd
        have out : ∀ c, (c, s) ∈ l → x.2 = s → False := fun c hc ex => nd.2.2 i (by rw [ex, es]; simp) i (List.mem_flatMap.mpr ⟨s, List.mem_map.mpr ⟨_, hc, rfl⟩, by rw [es]; simp⟩) rfl
        rcases List.mem_cons.mp ha with e1 | ha
        · rcases List.mem_cons.mp hb with e2 | hb
          · rw [← e1] at e2; cases e2; rfl
          · exact (out b hb (by rw [← e1])).elim
        · rcases List.mem_cons.mp hb with e2 | hb
          · exact (out a ha (by rw [← e2])).elim
          · exact ih nd.2.1 es ha hb
    have := this h.nd (s := .l i xs) rfl hq hm
    injection this
  refine ⟨by rw [hmap, jsOf_setSub rfl]; exact h.nd, fun kv hk => ?_, by rw [keys]; exact h.ks, fun q => ?_, fun q i zs hq => ?_⟩
  · obtain ⟨kv0, h0, rfl⟩ := List.mem_map.mp hk
    obtain ⟨q, i, zs, rfl⟩ := h.all kv0 h0
    dsimp only
    split
    · exact ⟨_, _, _, rfl⟩
    · exact ⟨_, _, _, rfl⟩
  · have isS : ∀ (l : List (Key × Sub)) (k : Key), (valS l k).isSome = (l.map (·.1)).any fun x => decide (x = k) := fun l k => by
      unfold valS
      induction l with
      | nil => rfl
      | cons a l ih =>
        rw [List.find?_cons, List.map_cons, List.any_cons]
        by_cases z : a.1 = k
        · simp [z]
        · simp only [z, decide_false, Bool.false_or]; exact ih
    rw [isS, keys, ← isS, h.val q]
    unfold putL
    by_cases z : q = p
    · subst z; rw [h.mem _ _ _ hm]; simp
    · simp [z]
  · unfold putL
    obtain ⟨kv0, h0, e0⟩ := List.mem_map.mp hq
    obtain ⟨q0, i0, zs0, rfl⟩ := h.all kv0 h0
    dsimp only at e0
    split at e0
    · rename_i hj
      have hj : i0 = j := by simpa [Sub.isJ] using hj
      obtain ⟨e1, _⟩ := only _ _ _ h0 hj
      cases e0
      rw [if_pos e1]
    · rename_i hj
      cases e0
      have hij : i ≠ j := fun z => hj (by subst z; exact isJ_l)
      by_cases z : q = p
      · subst z
        have := mem_valS h.ks h0
        rw [mem_valS h.ks hm] at this
        cases this
        exact absurd rfl hij
      · rw [if_neg z]; exact h.mem _ _ _ h0
end L2.Ev
set_option maxHeartbeats 4000000
namespace L2.Ev
open PySem PySem.Spec PyProof.Rows
section
variable {X : Cx} {tg : Expr}
end
end L2.Ev
set_option maxHeartbeats 1000000
namespace L2.Ev
open PySem
def KI (kvs : List (Key × PyData)) : Prop := ∃ ps : List Int, kvs.map (·.1) = ps.map Sum.inl ∧ ps.Nodup
theorem valD_some {kvs : List (Key × PyData)} {k : Key} : (valD kvs k).isSome = true ↔ k ∈ kvs.map (·.1) := by
  unfold valD
  rw [Option.isSome_map, List.find?_isSome, List.mem_map]
  exact ⟨fun ⟨x, h1, h2⟩ => ⟨x, h1, by simpa using h2⟩, fun ⟨x, h1, h2⟩ => ⟨x, h1, by simpa using h2⟩⟩
theorem inl_mem {ps : List Int} {p : Int} : (Sum.inl p : Key) ∈ ps.map Sum.inl ↔ p ∈ ps := by
  rw [List.mem_map]
  exact ⟨fun ⟨x, h1, h2⟩ => by injection h2 with h2; exact h2 ▸ h1, fun h => ⟨p, h, rfl⟩⟩
theorem KI.nil : KI [] := ⟨[], rfl, .nil⟩
theorem KI.one (p : Int) (d : PyData) : KI [(.inl p, d)] := ⟨[p], rfl, by simp⟩
theorem KI.put {kvs : List (Key × PyData)} (h : KI kvs) (p : Int) (d : PyData) : KI (putD kvs (.inl p) d) := by
  obtain ⟨ps, e, nd⟩ := h
  have any : (kvs.any fun kv => decide (kv.1 = Sum.inl p)) = true ↔ (Sum.inl p : Key) ∈ kvs.map (·.1) := by
    rw [List.any_eq_true, List.mem_map]
    exact ⟨fun ⟨x, h1, h2⟩ => ⟨x, h1, by simpa using h2⟩, fun ⟨x, h1, h2⟩ => ⟨x, h1, by simpa using h2⟩⟩
  unfold putD
  split
  · refine ⟨ps, ?_, nd⟩
    rw [← e, List.map_map]
    apply List.map_congr_left; intro kv _; simp only [Function.comp_apply]; split <;> simp_all
  · rename_i h
    have hn : p ∉ ps := fun z => h (any.mpr (by rw [e]; exact inl_mem.mpr z))
    refine ⟨ps ++ [p], by rw [List.map_append, List.map_append, e]; rfl, ?_⟩
    rw [List.nodup_append]
    exact ⟨nd, by simp, fun a ha b hb z => by simp at hb; subst hb; subst z; exact hn ha⟩
theorem KI.keys {kvs : List (Key × PyData)} (h : KI kvs) : ∃ ps : List Int, kvs.map (·.1) = ps.map Sum.inl ∧ ps.Nodup ∧ ∀ p, p ∈ ps ↔ (valD kvs (.inl p)).isSome = true := by
  obtain ⟨ps, e, nd⟩ := h
  exact ⟨ps, e, nd, fun p => by rw [valD_some, e, inl_mem]⟩
end L2.Ev
set_option maxHeartbeats 4000000
namespace L2.Ev
open PySem PySem.Spec PyProof.Rows
end L2.Ev
set_option maxHeartbeats 1000000
namespace L2.Ev
open PySem PySem.Spec PyProof.Rows
section
variable {prog : Program} {w : World} {A : Around} {E : Value → Shared → Prop} {s : Shared}
end
end L2.Ev
set_option maxHeartbeats 1000000
namespace L2.Ev
open PySem PySem.Spec PyProof.Rows
section
variable {prog : Program} {w : World} {A : Around} {E : Value → Shared → Prop} {s : Shared} {J : Addr} {fp wr : List Addr} {n : Nat} {P : Nat → Value → Prop} {St : Nat → Heap → Prop} {R : Result → Shared → Prop}
end
end L2.Ev
set_option maxHeartbeats 4000000
namespace L2.Ev
open PySem PySem.Spec PyProof.Rows
section
variable {X : Cx} {pos : Pos} {a b : Expr} {rest : List Expr} {fa fb : SE} {ta tb : TE}
end
end L2.Ev
set_option maxHeartbeats 4000000
namespace L2.Ev
open PySem PySem.Spec PyProof.Rows
namespace Zlt
open Zt (Far far_of Zat itO zh1 five itAt)
section
variable {prog : Program} {w : World} {A : Around} {E : Value → Shared → Prop} {s : Shared}
end
section
variable {prog : Program} {w : World} {A : Around} {E : Value → Shared → Prop} {s : Shared}
end
end Zlt
end L2.Ev
set_option maxHeartbeats 4000000
namespace L2.Ev
open PySem PySem.Spec PyProof.Rows
end L2.Ev
set_option maxHeartbeats 4000000
namespace L2.Ev
open PySem PySem.Spec PyProof.Rows
section
variable {X : Cx} {tg : Expr}
end
end L2.Ev
set_option maxHeartbeats 4000000
namespace L2.Ev
open PySem PySem.Spec PyProof.Rows
section
variable {X : Cx} {pins : List (Addr × Obj)} {σ : St} {H : Hp} {s : Shared}
mutual
theorem reprK_dp (I : Inv X pins σ H s) : ∀ {v : V} {d : PyData}, Dp X.K H v d → ∀ u : Value, RelV v u → d.showable = true → d.shown.length ≤ sizeLine → ∃ bs, ReadAtMost s.heap d.depth bs ∧ ReprK X.prog X.w bs s.heap d.depth u d.shown
  | _, _, .non, _, r, _, _ => by cases r; exact ⟨[], (fun _ h => nomatch h), by simp only [PyData.shown]; exact .of_is ReprIs.none _ _ _⟩
  | _, _, .bl b, _, r, _, _ => by cases r; exact ⟨[], (fun _ h => nomatch h), by simp only [PyData.shown]; exact .of_is (ReprIs.bool b) _ _ _⟩
  | _, _, .int i, _, r, hs, _ => by obtain ⟨t, rfl⟩ := r; exact ⟨[], (fun _ h => nomatch h), by simp only [PyData.shown]; exact .of_is (ReprIs.int t (by simpa [PyData.showable] using hs)) _ _ _⟩
  | _, _, .str x, _, r, _, hz => by obtain ⟨t, rfl⟩ := r; exact ⟨[], (fun _ h => nomatch h), by simp only [PyData.shown]; exact .of_is (ReprIs.str x t (by simpa only [PyData.shown] using hz)) _ _ _⟩
  | _, .list xs, .lst hl ha, _, r, hs, hz => by
      cases r
      obtain ⟨its, rv, ⟨o, n, ho, hc, _, hd⟩, _⟩ := I.list hl
      have hz' : (listText (PyData.shownAll xs)).length ≤ sizeLine := by simpa only [PyData.shown] using hz
      obtain ⟨bs, hb, hk⟩ := reprAllK_dp I ha its rv (by simpa [PyData.showable] using hs) (fun t ht => Nat.le_trans (listText_mem_le ht) hz')
      obtain ⟨as, hr⟩ := DpAll.rd I ha its rv
      have rr := Reads.list ho hc hd hr
      have hna := not_mem_of_deeper rr (by simp only [PyData.depth]; omega) hb
      refine ⟨_, ReadAtMost.cons rr (by simp only [PyData.depth]; omega) hb, ?_⟩
      simp only [PyData.depth, PyData.shown]
      cases its with
      | nil =>
        cases hr
        simp only [PyData.shownAll, listText_nil]
        exact ReprK.listEmpty ho hc hd
      | cons x l => exact ReprK.list ho hc hd hna (by simpa using hk.length_eq) (fun i y e => hk.item i y (by simpa using e))
  | _, .tuple xs, .tup hl ha, _, r, hs, hz => by
      cases r
      obtain ⟨its, rv, ⟨o, ho, hc, n, hd⟩, _⟩ := I.tuple hl
      have hz' : (tupleText (PyData.shownAll xs)).length ≤ sizeLine := by simpa only [PyData.shown] using hz
      obtain ⟨bs, hb, hk⟩ := reprAllK_dp I ha its rv (by simpa [PyData.showable] using hs) (fun t ht => Nat.le_trans (tupleText_mem_le ht) hz')
      obtain ⟨as, hr⟩ := DpAll.rd I ha its rv
      have rr := Reads.tuple ho hc hd hr
      have hna := not_mem_of_deeper rr (by simp only [PyData.depth]; omega) hb
      refine ⟨_, ReadAtMost.cons rr (by simp only [PyData.depth]; omega) hb, ?_⟩
      simp only [PyData.depth, PyData.shown]
      exact ReprK.tuple ho hc hd hna hk
  | _, .dict kvs, .dct (a := a) (us := us) hl hk0 ha, _, r, hs, hz => by
      cases r
      obtain ⟨_, hsys, vs, rel, o, es, ep, ho, hx, hd, _, pr, _⟩ := (show ObjOk X.prog X.w H s.heap a (.dK us) from hl.ok I.hok)
      have hz' : (dictText (PyData.shownKv kvs)).length ≤ sizeLine := by simpa only [PyData.shown] using hz
      obtain ⟨hs1, hs2⟩ := PyData.showableKv_split kvs (by simpa [PyData.showable] using hs)
      have hq := keys_read0 (h := s.heap) pr
      rw [← rel.ks, hk0] at hq
      obtain ⟨as, hr⟩ := DpAll.rd I ha _ rel.vs
      obtain ⟨b1, hb1, k1⟩ := ReprAllK.of_readsAll (prog := X.prog) (w := X.w) hq hs1 (fun _ hm => nomatch hm) (fun t ht => let ⟨p, hp, hl⟩ := PyData.shownKv_key_le kvs t ht; Nat.le_trans hl (Nat.le_trans (dictText_mem_le hp) hz'))
      obtain ⟨b2, hb2, k2⟩ := reprAllK_dp I ha _ rel.vs hs2 (fun t ht => let ⟨p, hp, hl⟩ := PyData.shownKv_val_le kvs t ht; Nat.le_trans hl (Nat.le_trans (dictText_mem_le hp) hz'))
      rw [← vals_of_pairs pr] at hr k2
      have rr := Reads.dict ho hx.1 hd hq hr
      have hb : ReadAtMost s.heap (PyData.depthKv kvs) (b1 ++ b2) := (hb1.mono (PyData.depthAll_keys_le kvs)).append (hb2.mono (PyData.depthAll_vals_le kvs))
      have hna : a ∉ b1 ++ b2 := not_mem_of_deeper rr (by simp only [PyData.depth]; omega) hb
      refine ⟨a :: (b1 ++ b2), ReadAtMost.cons rr (by simp only [PyData.depth]; omega) hb, ?_⟩
      simp only [PyData.depth, PyData.shown, PyData.shownKv_eq]
      exact ReprK.dict ho hx.1 hd hsys hna (ReprEntriesK.of_two _ _ _
        (k1.more_le (fun b hb => List.mem_append_left _ hb) (PyData.depthAll_keys_le kvs)) (k2.more_le (fun b hb => List.mem_append_right _ hb) (PyData.depthAll_vals_le kvs)))
theorem reprAllK_dp (I : Inv X pins σ H s) : ∀ {vs : List V} {ds : List PyData}, DpAll X.K H vs ds → ∀ us : List Value, Vals vs us → PyData.showableAll ds = true → (∀ t ∈ PyData.shownAll ds, t.length ≤ sizeLine) →
    ∃ bs, ReadAtMost s.heap (PyData.depthAll ds) bs ∧ ReprAllK X.prog X.w bs s.heap (PyData.depthAll ds) us (PyData.shownAll ds)
  | _, _, .nil, _, r, _, _ => by cases r; exact ⟨[], (fun _ h => nomatch h), by simp only [PyData.shownAll]; exact .nil⟩
  | _, _, .cons h1 h2, _, r, hs, hz => by
      cases r with
      | cons r1 r2 =>
        rename_i d ds
        have hs' := hs
        simp only [PyData.showableAll, Bool.and_eq_true] at hs'
        obtain ⟨b1, hb1, k1⟩ := reprK_dp I h1 _ r1 hs'.1 (hz _ (by simp only [PyData.shownAll]; exact List.mem_cons_self ..))
        obtain ⟨b2, hb2, k2⟩ := reprAllK_dp I h2 _ r2 hs'.2 (fun t ht => hz t (by simp only [PyData.shownAll]; exact List.mem_cons_of_mem _ ht))
        refine ⟨b1 ++ b2, ?_, ?_⟩
        · intro b hm
          simp only [PyData.depthAll]
          rcases List.mem_append.mp hm with hm | hm
          · obtain ⟨d', as', r', hd'⟩ := hb1 b hm
            exact ⟨d', as', r', Nat.le_trans hd' (Nat.le_max_left _ _)⟩
          · obtain ⟨d', as', r', hd'⟩ := hb2 b hm
            exact ⟨d', as', r', Nat.le_trans hd' (Nat.le_max_right _ _)⟩
        · simp only [PyData.depthAll, PyData.shownAll]
          exact .cons ((k1.more fun b hb => List.mem_append_left _ hb).level_le (Nat.le_max_left _ _)) (k2.more_le (fun b hb => List.mem_append_right _ hb) (Nat.le_max_right _ _))
end
end
end L2.Ev
set_option maxHeartbeats 4000000
namespace L2.Ev
open PySem PySem.Spec PyProof.Rows
end L2.Ev
set_option maxHeartbeats 4000000
namespace L2.Ev
open PySem PySem.Spec PyProof.Rows
end L2.Ev
set_option maxHeartbeats 4000000
set_option autoImplicit false
namespace L2.Ev
open PySem PySem.Spec PyProof.Rows
def keyP : PyData → Option Key
  | .int i => some (.inl i)
  | .str z => some (.inr z)
  | _ => none
def keysP : List PyData → Option (List Key)
  | [] => some []
  | d :: ds => match keyP d, keysP ds with | some k, some ks => some (k :: ks) | _, _ => none
def keyT : W → Option (List Key)
  | .p (.tuple ds) => keysP ds
  | _ => none
section
variable {K : PySem.W.Frag} {as : Cs} {H : Hp}
theorem keyP_v {v : V} {d : PyData} {k : Key} (h : Dz K as H v d) (e : keyP d = some k) : v = kV k := by
  unfold keyP at e
  split at e
  · cases e; cases h; rfl
  · cases e; cases h; rfl
  · cases e
theorem keysP_v : ∀ {vs : List V} {ds : List PyData} {ks : List Key}, DzAll K as H vs ds → keysP ds = some ks → vs = ks.map kV
  | [], [], _, .nil, e => by cases e; rfl
  | v :: vs, d :: ds, _, .cons r t, e => by
    unfold keysP at e
    split at e
    · rename_i k ks e1 e2
      cases e
      rw [keyP_v r e1, keysP_v t e2]; rfl
    · cases e
theorem keyT_v {w : W} {v : V} {ks : List Key} (r : Rel K as H w v) (e : keyT w = some ks) : ∃ b, v = .ref b ∧ SqT K H b (ks.map kV) := by
  unfold keyT at e
  split at e
  · cases r with
    | tup t d => exact ⟨_, rfl, by rw [← keysP_v d e]; exact t.sq⟩
  · cases e
end
section
variable {X : Cx} {pins : List (Addr × Obj)} {σ : St} {H : Hp} {s : Shared} {a b : Addr} {kvs : List (List Key × V)} {k : List Key} {E : Value → Shared → Prop} {A : Around}
theorem key_sq (I : Inv X pins σ H s) (e : SqT X.K H b (k.map kV)) : (tupleKind (mixKind X.prog X.w)).is s.heap k b := by
  obtain ⟨its, r, p, _⟩ := I.tuple e
  obtain ⟨o, h1, h2, n, h3⟩ := p
  exact ⟨o, its.toArray, n, h1, h2, h3, by simpa using items_are r⟩
theorem d_getItemS {v : V} {Q : Value → Shared → Prop} (hu : A.units + 1 < cLine) (I : Inv X pins σ H s) (e : Rd H a (.dT kvs)) (eb : SqT X.K H b (k.map kV)) (l : valV kvs k = some v)
    (h : ∀ w' s', Inv X pins σ H s' → RelV v w' → Q w' s') : wpAny (model X.prog X.w) A (getItem (.ref a) (.ref b)) Q E s := by
  obtain ⟨z, hd, xs, rel, dd⟩ := dt_rd I.hok e
  obtain ⟨w', hw, rw'⟩ := RelO.some_of (v := v) (o := (atKey xs k).map (·.2)) (by rw [← l]; exact rel.val k)
  obtain ⟨p, hp, hp2⟩ := Option.map_eq_some_iff.mp hw
  refine wpAny_getItem_heap (tupleKind_room_in1 hu) (key_sq I eb) dd hp ?_
  rw [hp2]
  exact h w' _ (I.tok _) rw'
theorem d_inS {Q : Value → Shared → Prop} (hu : A.units + 1 < cLine) (I : Inv X pins σ H s) (e : Rd H a (.dT kvs)) (eb : SqT X.K H b (k.map kV))
    (h : ∀ s', Inv X pins σ H s' → Q (.bool (valV kvs k).isSome) s') : wpAny (model X.prog X.w) A (compareOp .In (.ref b) (.ref a)) Q E s := by
  obtain ⟨z, hd, xs, rel, dd⟩ := dt_rd I.hok e
  refine wpAny_in_heap (tupleKind_room_in1 hu) (key_sq I eb) hd dd ?_
  have q := (rel.val k).isSome_eq
  rw [Option.isSome_map] at q
  rw [← q]
  exact h _ (I.tok _)
theorem meets_lenT {P : Program} {w : World} (a : Addr) (n : Nat) (hd : (a == sysModules) = false) :
    MeetsIn P w (Builtin.«dict.__len__» ⟨[.ref a], []⟩) (fun _ R s => (∃ xs : List (List Key × Addr × Value), s.heap.DictOfH (tupleKind (mixKind P w)) a xs ∧ xs.length = n) ∧ R (.ok (.ret (.int n s.toks))) { s with toks := s.toks + 1 }) :=
  .of_wp fun A R s ⟨⟨xs, dd, hn⟩, q⟩ => by
    obtain ⟨o, es, ep, hg, hc, hdat, he, _, _⟩ := dd
    have hz : es.size = n := by rw [← hn]; exact size_of_entries he
    show wpAny _ _ (dictSize a >>= _) _ _ s
    unfold dictSize
    refine wpAny_bind (wpAny_bind (wpAny_dictEntries hg hdat (wpAny_pure ?_)))
    show wpAny _ _ (Builtin.Dict.pendingCount a >>= _) _ _ s
    refine wpAny_bind (wpAny_pendingCount_other hd ?_)
    refine wpAny_ret_mkInt ?_
    rw [Nat.add_zero, hz]; exact q
theorem d_lenT {Q : Value → Shared → Prop} (I : Inv X pins σ H s) (e : Rd H a (.dT kvs)) (h : ∀ t s', Inv X pins σ H s' → Q (.int kvs.length t) s') :
    wpAny (model X.prog X.w) A (call (.builtin "len") [.ref a]) Q E s := by
  obtain ⟨z, hd, xs, rel, dd⟩ := dt_rd I.hok e
  have hl : kvs.length = xs.length := Paired.length rel
  have fit : (kvs.length : Int) < 2 ^ 63 := by rw [sizeLine_eq] at z; omega
  refine Calls.call_function_entry kind_len plain_len entry_len (args_len1 _) ?_
  unfold Builtin.«len»
  refine wpAny_bind (m := oneArg "len" _) (wpAny_pure ?_)
  refine wpAny_bind (m := callSpecial? (.ref a) (Str.ofString "__len__")) (wpAny_callSpecial?_slot (name := Str.ofString "__len__") dd.typeIs F.slot_dict_len
    (call_meetsIn F.slot_dict_len dd.typeIs F.entry_dict_len (F.args_dict_len_1 _) (meets_lenT a kvs.length hd) ⟨⟨xs, dd, hl.symm⟩, ?_⟩))
  show wpAny _ _ _ _ _ { s with toks := s.toks + 1 }
  refine wpAny_bind (wpAny_holding (wpAny_pure ?_))
  refine wpAny_bind (wpAny_letGo ?_)
  show wpAny _ _ (if ((kvs.length : Nat) : Int) < 0 then _ else _) _ _ _
  rw [if_neg (by omega)]
  show wpAny _ _ (if ((kvs.length : Nat) : Int) ≥ 2 ^ 63 then _ else _) _ _ _
  rw [if_neg (by omega)]
  exact wpAny_bind (wpAny_mkInt (wpAny_pure ⟨_, rfl, h _ _ (I.tok _)⟩))
end
def tTGetS (K : PySem.W.Frag) (td ty : TE) : TE := fun σ H Q => td σ H fun x H1 => ty σ H1 fun y H2 => ∃ a kvs k b v, x = .ref a ∧ Rd H2 a (.dT kvs) ∧ y = .ref b ∧ SqT K H2 b (k.map kV) ∧ valV kvs k = some v ∧ Q v H2
section
variable {X : Cx} {o i value : Expr} {pos pos' tpos : Pos} {td ty tv : TE}
theorem pe_tgetS (hu : X.A.units + 1 < cLine) (ho : PE X o td) (hi : PE X i ty) (hs : NoSl i) : PE X (.Subscript o i pos) (tTGetS X.K td ty) := by
  intro pins s σ H Q I h
  refine subD_of PySem.F.slot_dict_getitem.lookup hs (thn (ho pins s σ H _ I h) fun u s1 ⟨x, H1, I1, rx, q1⟩ => thn (hi pins s1 σ H1 _ I1 q1) fun iv s2 ⟨y, H2, I2, ry, a, kvs, k, b, v, ex, e, ey, eb, l, q2⟩ => ?_)
  subst ex
  subst ey
  obtain rfl : u = Value.ref a := rx
  obtain rfl : iv = Value.ref b := ry
  exact ⟨(dt_rd I2.hok e).2.2.choose_spec.2.typeIs, d_getItemS hu I2 e eb l fun w' s3 I3 rw' => ⟨v, H2, I3, rw', q2⟩⟩
def tDispT (tk tv : TE) : TE := fun σ H Q => ∀ p, H p = none → tk σ (upd H p (.dT [])) fun x H1 => tv σ H1 fun y H2 => H2 p = some (.dT []) ∧ ∃ b k, x = .ref b ∧ H2 b = some (.tup (k.map kV)) ∧ Q (.ref p) (upd H2 p (.dT [(k, y)]))
theorem pe_dispT {k v : Expr} (hu : X.A.units < cLine) (hk : PE X k ty) (hv : PE X v tv) : PE X (.Dict [some k] [v] pos) (tDispT ty tv) := by
  intro pins s σ H Q I q
  have hn := I.hok.fresh (Nat.le_refl s.heap.objs.size)
  have I1 := I.laid (a := s.heap.objs.size) (o := .dT []) (h' := s.heap.push { cls := .type "dict", data := .dict #[] }) (t' := s.toks) (fun _ _ q => Heap.get?_push_of_some _ q) (Nat.le_refl _) (dt_empty s.heap I.big)
  refine wpAny_Dict_any rfl rfl (by simp) (by simp) ?_
  refine pairTrees_cons_walk (thn (hk pins _ σ _ _ I1 (q _ hn)) fun kv s1 ⟨x, H1, I2, rx, q1⟩ => thn (hv pins s1 σ H1 _ I2 q1) fun vv s2 ⟨y, H2, I3, ry, e, b, k0, ex, eb, q2⟩ => pairTrees_nil_walk ?_)
  subst ex
  obtain rfl : kv = Value.ref b := rx
  obtain ⟨z, hd, xs, rel, dd⟩ := dt_of I3.hok e
  cases rel
  unfold storeAll
  rw [List.forIn_cons]
  refine wpAny_bind (wpAny_bind (wpAny_dictSet_heap (hsz := by simp) hu (key_of I3.hok eb) dd fun h' dd' hs => wpAny_pure ?_))
  refine wpAny_pure ⟨.ref s.heap.objs.size, _, ?_, rfl, q2⟩
  obtain ⟨g, es, ep, hq, h2, h3, h4, _, h5⟩ := dd'
  refine d_write I3 (by rw [e]; exact True.intro) hs ⟨g, hq⟩ ⟨by rw [sizeLine_eq]; simp, hd, [(k0, b, vv)], .cons ⟨rfl, ?_, ry⟩ .nil, g, es, ep, hq, h2, h3, h4, h5⟩
  rw [upd_ne (ne_of eb e (fun z => nomatch z))]
  exact eb
end
def wTGetW (fo fi : SE) : SE := fun ρ μ Q => fo ρ μ fun o μ1 => fi ρ μ1 fun i μ2 => match dtOf μ2 o, keyT i with
  | some kvs, some k => (match valG kvs k with | some d => Q (.p d) μ2 | none => False)
  | _, _ => False
def oInT : O2 := fun x y μ Q => match dtOf μ y, keyT x with | some kvs, some k => Q (.p (.bool (valG kvs k).isSome)) μ | _, _ => False
def cLenT : SpW := fun ws μ Q => match ws with
  | [w] => match dtOf μ w with | some kvs => Q (.p (.int kvs.length)) μ | none => False
  | _ => False
def wDictT1 (gk : SA) (fv : SE) : SE := fun ρ μ Q => gk ρ (μ ++ [.dt []]) fun ks μ1 => ks.length ≤ sizeLine ∧ fv ρ μ1 fun y μ2 => match keysW ks, y with
  | some k, .p d => μ2[μ.length]? = some (.dt []) ∧ Q (.r μ.length) (μ2.set μ.length (.dt [(k, d)]))
  | _, _ => False
def sDPutC (fo fw : SE) (gk : SA) (fv : SE) : SS := fun F ρ μ => fv ρ μ fun y μ1 => fo ρ μ1 fun o μ2 => fw ρ μ2 fun t μ3 => gk ρ μ3 fun ks μ4 => match o, y, keyT t, keysW ks with
  | .r n, .p d, some k0, some k => k ≠ [] ∧ k0.length + k.length ≤ sizeLine ∧ (match μ4[n]? with | some (.dt kvs) => kvs.length < sizeLine ∧ F.nx ρ (μ4.set n (.dt (putG kvs (k0 ++ k) d))) | _ => False)
  | _, _, _, _ => False
section
variable {X : Cx} {pos : Pos}
theorem ge_tgetW {o i : Expr} {fo fi : SE} (hu : X.A.units + 64 < cLine) (ho : GE X o fo) (hi : GE X i fi) (hs : NoSl i) : GE X (.Subscript o i pos) (wTGetW fo fi) := ⟨PE_imp (pe_tgetS (by omega) ho.go hi.go hs) fun σ H Q ⟨as, ρ, μ, Q0, S, E, h, A⟩ =>
  ⟨as, ρ, μ, _, S, E, h, fun x μ1 as1 v1 H1 q1 s1 S1 r1 => ⟨as1, ρ, μ1, _, S1, E.mono s1, q1, fun y μ2 as2 v2 H2 q2 s2 S2 r2 => by
    split at q2
    · rename_i kvs k e1 ek
      obtain ⟨b, rfl, sq⟩ := keyT_v r2 ek
      obtain ⟨a, us, rfl, h1, pr⟩ := dtOf_at S2 (r1.mono s2) e1
      split at q2
      · rename_i d hv
        rcases pr.val k with ⟨z1, z2⟩ | ⟨v', d', z1, z2, dz⟩
        · rw [z2] at hv; cases hv
        · rw [z2] at hv; cases hv
          exact ⟨a, us, k, b, v', rfl, h1, rfl, sq, z1, (A.mono (s1.trans s2)).now S2 q2 dz⟩
      · exact q2.elim
    · exact q2.elim⟩⟩⟩
theorem go_inT (hu : X.A.units + 64 < cLine) : GO X (compareOp .In) oInT := ⟨fun pins s σ H x y v u Q I rx ry ⟨as, μ, w1, w2, Q0, S, r1, r2, q, A⟩ => by
  unfold oInT at q
  split at q
  · rename_i kvs k e1 ek
    obtain ⟨b, rfl, sq⟩ := keyT_v r1 ek
    obtain ⟨a, us, rfl, h1, pr⟩ := dtOf_at S r2 e1
    cases rx
    cases ry
    refine d_inS (by omega) I h1 sq fun s3 I3 => ⟨.bl (valV us k).isSome, H, I3, rfl, A.now S q ?_⟩
    rcases pr.val k with ⟨z1, z2⟩ | ⟨v', d', z1, z2, _⟩
    · rw [z1, z2]; exact Dz.bl _
    · rw [z1, z2]; exact Dz.bl _
  · exact q.elim⟩
theorem gc_lenT : GC X (.builtin "len") cLenT := ⟨fun pins s σ H xs us Q I r ⟨as, μ, ws, Q0, S, r0, h, A⟩ => by
  unfold cLenT at h
  split at h
  · cases r0 with
    | cons r1 r2 =>
      cases r2
      split at h
      · rename_i kvs e
        obtain ⟨a, us', rfl, h1, pr⟩ := dtOf_at S r1 e
        obtain ⟨u, rfl, ru⟩ := vals1 r
        cases ru
        refine d_lenT I h1 fun t s' I' => ⟨.int us'.length, H, I', ⟨t, rfl⟩, ?_⟩
        rw [pr.len]
        exact A.now S h (Dz.int _)
      · exact h.elim
  · exact h.elim⟩
theorem ge_dictT1 {es : List Expr} {v : Expr} {x1 : Nat} {tpos : Pos} {gk : SA} {fv : SE} (hu : X.A.units + 64 < cLine) (hk : GA X es gk) (hv : GE X v fv) : GE X (.Dict [some (.Tuple es x1 tpos)] [v] pos) (wDictT1 gk fv) := ⟨PE_imp (pe_dispT (by omega) (pe_tup hk.go) hv.go) fun σ H Q ⟨as, ρ, μ, Q0, S, E, h, A⟩ => fun p hp => by
  have s0 := Stp.cell as hp (.dT [])
  have S0 := S.newCell hp (.dT []) (.dt []) ⟨[], upd_same, rfl, .nil⟩
  have ap : (as.add p).as[μ.length]? = some p := by show (as.as ++ [p])[μ.length]? = _; rw [← S.len]; simp
  unfold wDictT1 at h
  refine ⟨as.add p, ρ, (μ ++ [Cell.dt []] : Mu), _, S0, E.mono s0, h, fun ks μ1 as1 vs H1 q1 s1 S1 r1 => ?_⟩
  obtain ⟨hl, q1⟩ := q1
  refine ⟨by rw [← r1.length]; exact hl, fun b hb => ?_⟩
  have sl := Stp.lay as1 hb (.tup vs)
  have Sl := S1.lay hb (.tup vs)
  refine ⟨as1, ρ, μ1, _, Sl, (E.mono s0).mono (s1.trans sl), q1, fun y μ2 as2 v2 H2 q2 s2 S2 r2 => ?_⟩
  split at q2
  · rename_i k d ek
    have ev := keysW_v r1 ek
    have ap2 : as2.as[μ.length]? = some p := by
      obtain ⟨t1, e1⟩ := s1.pre
      obtain ⟨t2, e2⟩ := s2.pre
      have hlt := (List.getElem?_eq_some_iff.mp ap).1
      have a1 : as1.as[μ.length]? = some p := by rw [e1, List.getElem?_append_left hlt]; exact ap
      rw [e2, List.getElem?_append_left (List.getElem?_eq_some_iff.mp a1).1]
      exact a1
    obtain ⟨us, h1, h2, h3⟩ := S2.cell μ.length p _ ap2 q2.1
    have us0 : us = [] := by simpa using h2
    subst us0
    have hbo : b ∉ as1.ao := fun z => S1.fresh hb (Cs.mem_iff.mpr (.inr z))
    have hk2 : H2 b = some (.tup vs) := (s2.keep b _ nt_tup upd_same hbo).2
    have hm := List.mem_of_getElem? ap2
    have st := Stp.write (as := as2) (H := H2) hm (.dT [(k, v2)])
    refine ⟨h1, b, k, rfl, by rw [hk2, ev], A _ _ _ _ _ q2.2 (((s0.trans s1).trans (sl.trans s2)).trans st) (S2.write ap2 (.dT [(k, v2)]) (.dt [(k, d)]) ⟨[(k, v2)], upd_same, rfl, .cons (Dz.mono st r2) .nil⟩) ⟨p, rfl, ap2⟩⟩
  · exact q2.elim⟩
theorem gs_dputC {o wx value : Expr} {es : List Expr} {x1 : Nat} {fo fw fv : SE} {gk : SA} {pos' tpos bpos : Pos} (hu : X.A.units + 64 < cLine) (ho : GE X o fo) (hw : GE X wx fw) (hk : GA X es gk) (hv : GE X value fv)
    (hs : swapsWith value (some (.Subscript o (.BinOp wx .Add (.Tuple es x1 tpos) bpos) pos')) pos.line X.env = pure false := by rfl) :
    GS X (.Assign [.Subscript o (.BinOp wx .Add (.Tuple es x1 tpos) bpos) pos'] value pos) (sDPutC fo fw gk fv) := ⟨PS_imp (ps_dput (by omega) ho.go (pe_op op_catT2 hw.go (pe_tup hk.go)) hv.go hs) fun D σ H ⟨as, ρ, μ, F, S, E, h, A⟩ =>
  ⟨as, ρ, μ, _, S, E, h, fun y μ1 as1 v1 H1 q1 s1 S1 r1 => ⟨as1, ρ, μ1, _, S1, E.mono s1, q1, fun x μ2 as2 v2 H2 q2 s2 S2 r2 => ⟨as2, ρ, μ2, _, S2, (E.mono s1).mono s2, q2, fun t μ3 as3 v3 H3 q3 s3 S3 r3 => ⟨as3, ρ, μ3, _, S3, ((E.mono s1).mono s2).mono s3, q3, fun ks μ4 as4 vs H4 q4 s4 S4 r4 => by
    split at q4
    · rename_i n d k0 k e0 ek
      obtain ⟨hne, hl, q4⟩ := q4
      have ev := keysW_v r4 ek
      obtain ⟨b0, rfl, sq0⟩ := keyT_v (r3.mono s4) e0
      have hvl : vs.length = k.length := by rw [ev, List.length_map]
      refine ⟨by rw [hvl]; omega, fun p hp => ?_⟩
      have sl := Stp.lay as4 hp (.tup vs)
      have Sl := S4.lay hp (.tup vs)
      split at q4
      · rename_i kvs hc
        have put : ∀ (as5 : Cs) (H5 : Hp) (c : Addr), Stp as4 H4 as5 H5 → SimH X.K as5 μ4 H5 → H5 c = some (.tup ((k0 ++ k).map kV)) → ∃ a H6, v2 = .ref a ∧ DPut H5 a (.ref c) v1 H6 ∧ D.nx σ H6 := fun as5 H5 c st5 S5 hc5 => by
          obtain ⟨a, rfl, ha⟩ := ((r2.mono s3).mono s4).mono st5
          obtain ⟨us, h1, h2, h3⟩ := S5.cell n a _ ha hc
          have hm := List.mem_of_getElem? ha
          have st := Stp.write (as := as5) (H := H5) (a := a) hm (.dT (putK us (k0 ++ k) v1))
          have pr : PrG X.K as5 H5 us kvs := ⟨h2, h3⟩
          have dz : Dz X.K as5 H5 v1 d := Dz.mono ((s2.trans s3).trans (s4.trans st5)) r1
          have pp := (pr.put (k := k0 ++ k) dz).mono st
          exact ⟨a, _, rfl, DPut.t h1 hc5 (by rw [pr.len]; exact q4.1), A.1 _ _ _ _ _ q4.2 (((s1.trans (s2.trans s3)).trans s4).trans (st5.trans st)) (S5.write ha _ (.dt (putG kvs (k0 ++ k) d)) ⟨_, upd_same, pp.1, pp.2⟩) ((E.mono s1).mono ((s2.trans s3).trans (s4.trans (st5.trans st))))⟩
        have sq1 : SqT X.K (upd H4 p (.tup vs)) b0 (k0.map kV) := by
          obtain ⟨b1, e1, sq1⟩ := keyT_v ((r3.mono s4).mono sl) e0
          cases e1
          exact sq1
        refine ⟨b0, p, k0.map kV, vs, rfl, rfl, sq1, .inl (.inl upd_same), by rw [hvl, List.length_map]; exact hl, fun z => ?_, fun z1 z2 => ?_, fun _ _ p2 hp2 => ?_⟩
        · have k00 : k0 = [] := by simpa using z
          subst k00
          exact put _ _ p sl Sl (by rw [upd_same, ev]; rfl)
        · exfalso
          rw [z2] at hvl
          exact hne (List.length_eq_zero_iff.mp hvl.symm)
        · have sl2 := Stp.lay as4 hp2 (.tup (k0.map kV ++ vs))
          exact put _ _ p2 (sl.trans sl2) (Sl.lay hp2 _) (by rw [upd_same, ev, List.map_append])
      · exact q4.elim
    · exact q4.elim⟩⟩⟩⟩⟩
end
end L2.Ev
set_option maxHeartbeats 4000000
namespace K12
open PySem L2 L2.Ev
def top (i : Nat) : Stmt := PySem.Challenge.pw_meetways_k12_all_ways_of_small_nets.main.body.getD i (.Pass ⟨0, 0, 0, 0⟩)
abbrev s_is_whole : Stmt := top 1
abbrev s_end_of : Stmt := top 4
abbrev s_led_to : Stmt := top 6
abbrev s__law_deck : Stmt := top 11
abbrev s__law_draw : Stmt := top 12
abbrev s__law_step : Stmt := top 18
abbrev s__law_small : Stmt := top 20
abbrev s__law_rows : Stmt := top 22
abbrev s_is_number_below : Stmt := top 2
abbrev s_places_on : Stmt := top 8
abbrev s_comes_at : Stmt := top 9
abbrev s__law_far : Stmt := top 13
abbrev s__law_begin : Stmt := top 14
abbrev s__law_moment : Stmt := top 17
abbrev s__law_all : Stmt := top 21
abbrev s_is_way : Stmt := top 7
abbrev s__law_meeting : Stmt := top 15
abbrev s__law_net : Stmt := top 16
abbrev s__law_right : Stmt := top 23
abbrev s_law : Stmt := top 24
abbrev N_is_whole : List Str := ["thing"]
abbrev P_is_whole : List Str := ["thing"]
theorem sc_is_whole : FnScope N_is_whole P_is_whole (defScope s_is_whole) := ⟨rfl, rfl, rfl, by decide +kernel, rfl, by decide +kernel, by decide +kernel⟩
abbrev N_end_of : List Str := ["meeting", "word", "one", "other", "begin", "long"]
abbrev P_end_of : List Str := ["meeting"]
theorem sc_end_of : FnScope N_end_of P_end_of (defScope s_end_of) := ⟨rfl, rfl, rfl, by decide +kernel, rfl, by decide +kernel, by decide +kernel⟩
abbrev N_led_to : List Str := ["meeting", "place", "word", "one", "other", "begin", "long"]
abbrev P_led_to : List Str := ["meeting", "place"]
theorem sc_led_to : FnScope N_led_to P_led_to (defScope s_led_to) := ⟨rfl, rfl, rfl, by decide +kernel, rfl, by decide +kernel, by decide +kernel⟩
abbrev N__law_deck : List Str := ["_law_script", "_law_k", "_law_cell"]
abbrev P__law_deck : List Str := ["_law_script", "_law_k"]
theorem sc__law_deck : FnScope N__law_deck P__law_deck (defScope s__law_deck) := ⟨rfl, rfl, rfl, by decide +kernel, rfl, by decide +kernel, by decide +kernel⟩
abbrev N__law_draw : List Str := ["_law_deck_here", "_law_most", "_law_digit", "_law_number"]
abbrev P__law_draw : List Str := ["_law_deck_here", "_law_most"]
theorem sc__law_draw : FnScope N__law_draw P__law_draw (defScope s__law_draw) := ⟨rfl, rfl, rfl, by decide +kernel, rfl, by decide +kernel, by decide +kernel⟩
abbrev N__law_step : List Str := ["_law_net_here", "_law_number", "_law_place", "_law_word", "_law_one", "_law_other", "_law_begin_here", "_law_long"]
abbrev P__law_step : List Str := ["_law_net_here", "_law_number", "_law_place"]
theorem sc__law_step : FnScope N__law_step P__law_step (defScope s__law_step) := ⟨rfl, rfl, rfl, by decide +kernel, rfl, by decide +kernel, by decide +kernel⟩
abbrev N__law_small : List Str := ["_law_net_here", "_law_many", "_law_found", "_law_word", "_law_one", "_law_other", "_law_begin_here", "_law_long"]
abbrev P__law_small : List Str := ["_law_net_here"]
theorem sc__law_small : FnScope N__law_small P__law_small (defScope s__law_small) := ⟨rfl, rfl, rfl, by decide +kernel, rfl, by decide +kernel, by decide +kernel⟩
abbrev N__law_rows : List Str := ["_law_many", "_law_found", "_law_last", "_law_turn", "_law_more", "_law_row", "_law_number"]
abbrev P__law_rows : List Str := ["_law_many"]
theorem sc__law_rows : FnScope N__law_rows P__law_rows (defScope s__law_rows) := ⟨rfl, rfl, rfl, by decide +kernel, rfl, by decide +kernel, by decide +kernel⟩
abbrev N_is_number_below : List Str := ["many", "thing"]
abbrev P_is_number_below : List Str := ["many", "thing"]
theorem sc_is_number_below : FnScope N_is_number_below P_is_number_below (defScope s_is_number_below) := ⟨rfl, rfl, rfl, by decide +kernel, rfl, by decide +kernel, by decide +kernel⟩
abbrev N_places_on : List Str := ["net", "place", "way", "many", "meetings", "places", "number"]
abbrev P_places_on : List Str := ["net", "place", "way"]
theorem sc_places_on : FnScope N_places_on P_places_on (defScope s_places_on) := ⟨rfl, rfl, rfl, by decide +kernel, rfl, by decide +kernel, by decide +kernel⟩
abbrev N_comes_at : List Str := ["net", "moment", "way", "many", "meetings"]
abbrev P_comes_at : List Str := ["net", "moment", "way"]
theorem sc_comes_at : FnScope N_comes_at P_comes_at (defScope s_comes_at) := ⟨rfl, rfl, rfl, by decide +kernel, rfl, by decide +kernel, by decide +kernel⟩
abbrev N__law_far : List Str := ["_law_deck_here", "_law_most", "_law_number", "_law_k"]
abbrev P__law_far : List Str := ["_law_deck_here", "_law_most"]
theorem sc__law_far : FnScope N__law_far P__law_far (defScope s__law_far) := ⟨rfl, rfl, rfl, by decide +kernel, rfl, by decide +kernel, by decide +kernel⟩
abbrev N__law_begin : List Str := ["_law_deck_here", "_law_way", "_law_rows_here", "_law_near", "_law_last"]
abbrev P__law_begin : List Str := ["_law_deck_here", "_law_way", "_law_rows_here"]
theorem sc__law_begin : FnScope N__law_begin P__law_begin (defScope s__law_begin) := ⟨rfl, rfl, rfl, by decide +kernel, rfl, by decide +kernel, by decide +kernel⟩
abbrev N__law_moment : List Str := ["_law_deck_here", "_law_net_here", "_law_way", "_law_word", "_law_one", "_law_other", "_law_begin_here", "_law_long"]
abbrev P__law_moment : List Str := ["_law_deck_here", "_law_net_here"]
theorem sc__law_moment : FnScope N__law_moment P__law_moment (defScope s__law_moment) := ⟨rfl, rfl, rfl, by decide +kernel, rfl, by decide +kernel, by decide +kernel⟩
abbrev N__law_all : List Str := ["_law_net_here", "_law_place", "_law_moment_here", "_law_found", "_law_last", "_law_turn", "_law_more", "_law_way", "_law_here", "_law_now", "_law_number", "_law_step_here"]
abbrev P__law_all : List Str := ["_law_net_here", "_law_place", "_law_moment_here"]
theorem sc__law_all : FnScope N__law_all P__law_all (defScope s__law_all) := ⟨rfl, rfl, rfl, by decide +kernel, rfl, by decide +kernel, by decide +kernel⟩
abbrev N_is_way : List Str := ["net", "place", "moment", "thing", "many", "meetings", "here", "now", "number", "meeting", "word", "one", "other", "begin", "long"]
abbrev P_is_way : List Str := ["net", "place", "moment", "thing"]
theorem sc_is_way : FnScope N_is_way P_is_way (defScope s_is_way) := ⟨rfl, rfl, rfl, by decide +kernel, rfl, by decide +kernel, by decide +kernel⟩
abbrev N__law_meeting : List Str := ["_law_deck_here", "_law_way", "_law_many", "_law_rows_here", "_law_one", "_law_other", "_law_word", "_law_begin_here", "_law_long", "_law_far_here"]
abbrev P__law_meeting : List Str := ["_law_deck_here", "_law_way", "_law_many", "_law_rows_here"]
theorem sc__law_meeting : FnScope N__law_meeting P__law_meeting (defScope s__law_meeting) := ⟨rfl, rfl, rfl, by decide +kernel, rfl, by decide +kernel, by decide +kernel⟩
abbrev N__law_net : List Str := ["_law_deck_here", "_law_least", "_law_way", "_law_great", "_law_many", "_law_count", "_law_rows_here", "_law_k"]
abbrev P__law_net : List Str := ["_law_deck_here", "_law_least"]
theorem sc__law_net : FnScope N__law_net P__law_net (defScope s__law_net) := ⟨rfl, rfl, rfl, by decide +kernel, rfl, by decide +kernel, by decide +kernel⟩
abbrev N__law_right : List Str := ["_law_net_here", "_law_place", "_law_moment_here", "_law_rows_here", "_law_due", "_law_many", "_law_row", "_law_found"]
abbrev P__law_right : List Str := ["_law_net_here", "_law_place", "_law_moment_here", "_law_rows_here"]
theorem sc__law_right : FnScope N__law_right P__law_right (defScope s__law_right) := ⟨rfl, rfl, rfl, by decide +kernel, rfl, by decide +kernel, by decide +kernel⟩
abbrev N_law : List Str := ["_law_script", "_law_k", "_law_deck_here", "_law_net_here", "_law_rows_here", "_law_moments", "_law_place", "_law_moment_here", "_law_meeting_here"]
abbrev P_law : List Str := ["_law_script"]
theorem sc_law : FnScope N_law P_law (defScope s_law) := ⟨rfl, rfl, rfl, by decide +kernel, rfl, by decide +kernel, by decide +kernel⟩
structure Ad where
  f_is_whole : Addr
  d_is_whole : FuncData
  f_end_of : Addr
  d_end_of : FuncData
  f_led_to : Addr
  d_led_to : FuncData
  f__law_deck : Addr
  d__law_deck : FuncData
  f__law_draw : Addr
  d__law_draw : FuncData
  f__law_step : Addr
  d__law_step : FuncData
  f__law_small : Addr
  d__law_small : FuncData
  f__law_rows : Addr
  d__law_rows : FuncData
  f_is_number_below : Addr
  d_is_number_below : FuncData
  f_places_on : Addr
  d_places_on : FuncData
  f_comes_at : Addr
  d_comes_at : FuncData
  f__law_far : Addr
  d__law_far : FuncData
  f__law_begin : Addr
  d__law_begin : FuncData
  f__law_moment : Addr
  d__law_moment : FuncData
  f__law_all : Addr
  d__law_all : FuncData
  f_is_way : Addr
  d_is_way : FuncData
  f__law_meeting : Addr
  d__law_meeting : FuncData
  f__law_net : Addr
  d__law_net : FuncData
  f__law_right : Addr
  d__law_right : FuncData
  f_law : Addr
  d_law : FuncData
structure Tx (K : PySem.W.Frag) (mg : Str → Option Value) (a : Ad) : Prop where
  F_is_whole : Fun K "is_whole" "is_whole" s_is_whole a.f_is_whole a.d_is_whole
  m_is_whole : mg "is_whole" = some (.ref a.f_is_whole)
  B_is_whole : Binds K a.d_is_whole P_is_whole []
  F_end_of : Fun K "end_of" "end_of" s_end_of a.f_end_of a.d_end_of
  m_end_of : mg "end_of" = some (.ref a.f_end_of)
  B_end_of : Binds K a.d_end_of P_end_of []
  F_led_to : Fun K "led_to" "led_to" s_led_to a.f_led_to a.d_led_to
  m_led_to : mg "led_to" = some (.ref a.f_led_to)
  B_led_to : Binds K a.d_led_to P_led_to []
  F__law_deck : Fun K "_law_deck" "_law_deck" s__law_deck a.f__law_deck a.d__law_deck
  m__law_deck : mg "_law_deck" = some (.ref a.f__law_deck)
  B__law_deck : Binds K a.d__law_deck P__law_deck []
  F__law_draw : Fun K "_law_draw" "_law_draw" s__law_draw a.f__law_draw a.d__law_draw
  m__law_draw : mg "_law_draw" = some (.ref a.f__law_draw)
  B__law_draw : Binds K a.d__law_draw P__law_draw []
  F__law_step : Fun K "_law_step" "_law_step" s__law_step a.f__law_step a.d__law_step
  m__law_step : mg "_law_step" = some (.ref a.f__law_step)
  B__law_step : Binds K a.d__law_step P__law_step []
  F__law_small : Fun K "_law_small" "_law_small" s__law_small a.f__law_small a.d__law_small
  m__law_small : mg "_law_small" = some (.ref a.f__law_small)
  B__law_small : Binds K a.d__law_small P__law_small []
  F__law_rows : Fun K "_law_rows" "_law_rows" s__law_rows a.f__law_rows a.d__law_rows
  m__law_rows : mg "_law_rows" = some (.ref a.f__law_rows)
  B__law_rows : Binds K a.d__law_rows P__law_rows []
  F_is_number_below : Fun K "is_number_below" "is_number_below" s_is_number_below a.f_is_number_below a.d_is_number_below
  m_is_number_below : mg "is_number_below" = some (.ref a.f_is_number_below)
  B_is_number_below : Binds K a.d_is_number_below P_is_number_below []
  F_places_on : Fun K "places_on" "places_on" s_places_on a.f_places_on a.d_places_on
  m_places_on : mg "places_on" = some (.ref a.f_places_on)
  B_places_on : Binds K a.d_places_on P_places_on []
  F_comes_at : Fun K "comes_at" "comes_at" s_comes_at a.f_comes_at a.d_comes_at
  m_comes_at : mg "comes_at" = some (.ref a.f_comes_at)
  B_comes_at : Binds K a.d_comes_at P_comes_at []
  F__law_far : Fun K "_law_far" "_law_far" s__law_far a.f__law_far a.d__law_far
  m__law_far : mg "_law_far" = some (.ref a.f__law_far)
  B__law_far : Binds K a.d__law_far P__law_far []
  F__law_begin : Fun K "_law_begin" "_law_begin" s__law_begin a.f__law_begin a.d__law_begin
  m__law_begin : mg "_law_begin" = some (.ref a.f__law_begin)
  B__law_begin : Binds K a.d__law_begin P__law_begin []
  F__law_moment : Fun K "_law_moment" "_law_moment" s__law_moment a.f__law_moment a.d__law_moment
  m__law_moment : mg "_law_moment" = some (.ref a.f__law_moment)
  B__law_moment : Binds K a.d__law_moment P__law_moment []
  F__law_all : Fun K "_law_all" "_law_all" s__law_all a.f__law_all a.d__law_all
  m__law_all : mg "_law_all" = some (.ref a.f__law_all)
  B__law_all : Binds K a.d__law_all P__law_all []
  F_is_way : Fun K "is_way" "is_way" s_is_way a.f_is_way a.d_is_way
  m_is_way : mg "is_way" = some (.ref a.f_is_way)
  B_is_way : Binds K a.d_is_way P_is_way []
  F__law_meeting : Fun K "_law_meeting" "_law_meeting" s__law_meeting a.f__law_meeting a.d__law_meeting
  m__law_meeting : mg "_law_meeting" = some (.ref a.f__law_meeting)
  B__law_meeting : Binds K a.d__law_meeting P__law_meeting []
  F__law_net : Fun K "_law_net" "_law_net" s__law_net a.f__law_net a.d__law_net
  m__law_net : mg "_law_net" = some (.ref a.f__law_net)
  B__law_net : Binds K a.d__law_net P__law_net []
  F__law_right : Fun K "_law_right" "_law_right" s__law_right a.f__law_right a.d__law_right
  m__law_right : mg "_law_right" = some (.ref a.f__law_right)
  B__law_right : Binds K a.d__law_right P__law_right []
  F_law : Fun K "law" "law" s_law a.f_law a.d_law
  m_law : mg "law" = some (.ref a.f_law)
  B_law : Binds K a.d_law P_law []
  z_bool : mg "bool" = none
  z_int : mg "int" = none
  z_isinstance : mg "isinstance" = none
  z_len : mg "len" = none
  z_max : mg "max" = none
  z_min : mg "min" = none
  z_range : mg "range" = none
  z_set : mg "set" = none
  z_sorted : mg "sorted" = none
  z_tuple : mg "tuple" = none
section
variable {P : Program} {w : World} {K : PySem.W.Frag} {mg : Str → Option Value} {base : Heap} {a : Ad}
def b_is_whole : SS :=
  sRet (wAndV (wCall cIsi (aCons (wVar 0) (aCons (wTy "int") (aNil)))) (wNotV (wCall cIsi (aCons (wVar 0) (aCons (wTy "bool") (aNil))))))
theorem ok_is_whole (T : Tx K mg a) : FnOk P w K mg base CX0 1 a.f_is_whole a.d_is_whole P_is_whole (rdSp K (spBody N_is_whole 1 (b_is_whole))) :=
  Fun.okW T.F_is_whole sc_is_whole fun cdv A outer s H E hr hcd =>
    gb_one (gs_ret (ge_and (ge_callB (gc_isi) rfl T.z_isinstance (by decide +kernel) (ga_cons (ge_var (pv 0)) (ga_cons (ge_ty rfl T.z_int (by decide +kernel)) (ga_nil)))) (ge_one (ge_not (ge_callB (gc_isi) rfl T.z_isinstance (by decide +kernel) (ga_cons (ge_var (pv 0)) (ga_cons (ge_ty rfl T.z_bool (by decide +kernel)) (ga_nil))))))))
def b_end_of : SS :=
  sSeq (sAsg (wVar 0) (nTup 5 (nCons (nName 1) (nCons (nName 2) (nCons (nName 3) (nCons (nName 4) (nCons (nName 5) (nNil)))))))) (sRet (wOp oAdd (wVar 4) (wVar 5)))
theorem ok_end_of (T : Tx K mg a) : FnOk P w K mg base CX0 1 a.f_end_of a.d_end_of P_end_of (rdSp K (spBody N_end_of 1 (b_end_of))) :=
  Fun.okW T.F_end_of sc_end_of fun cdv A outer s H E hr hcd =>
    gb_cons (gs_asg (ge_var (pv 0)) (gg_tup rfl (ggs_cons (gg_name (pg_name (i := 1) sc_end_of.nd rfl (by first | exact Or.inl rfl | exact Or.inr rfl))) (ggs_cons (gg_name (pg_name (i := 2) sc_end_of.nd rfl (by first | exact Or.inl rfl | exact Or.inr rfl))) (ggs_cons (gg_name (pg_name (i := 3) sc_end_of.nd rfl (by first | exact Or.inl rfl | exact Or.inr rfl))) (ggs_cons (gg_name (pg_name (i := 4) sc_end_of.nd rfl (by first | exact Or.inl rfl | exact Or.inr rfl))) (ggs_cons (gg_name (pg_name (i := 5) sc_end_of.nd rfl (by first | exact Or.inl rfl | exact Or.inr rfl))) (ggs_nil)))))))) (gb_one (gs_ret (ge_op go_add (ge_var (pv 4)) (ge_var (pv 5)))))
def b_led_to : SS :=
  sSeq (sAsg (wVar 0) (nTup 5 (nCons (nName 2) (nCons (nName 3) (nCons (nName 4) (nCons (nName 5) (nCons (nName 6) (nNil)))))))) (sSeq (sIf (wTest (wOp oEq (wVar 1) (wVar 3))) (sRet (wVar 4)) (sNext)) (sSeq (sIf (wAnd (wTest (wOp oEq (wVar 1) (wVar 4))) (wTest (wOp oEq (wVar 2) (wC (.str "both"))))) (sRet (wVar 3)) (sNext)) (sRet (wC .none))))
theorem ok_led_to (T : Tx K mg a) : FnOk P w K mg base CX0 1 a.f_led_to a.d_led_to P_led_to (rdSp K (spBody N_led_to 2 (b_led_to))) :=
  Fun.okW T.F_led_to sc_led_to fun cdv A outer s H E hr hcd =>
    gb_cons (gs_asg (ge_var (pv 0)) (gg_tup rfl (ggs_cons (gg_name (pg_name (i := 2) sc_led_to.nd rfl (by first | exact Or.inl rfl | exact Or.inr rfl))) (ggs_cons (gg_name (pg_name (i := 3) sc_led_to.nd rfl (by first | exact Or.inl rfl | exact Or.inr rfl))) (ggs_cons (gg_name (pg_name (i := 4) sc_led_to.nd rfl (by first | exact Or.inl rfl | exact Or.inr rfl))) (ggs_cons (gg_name (pg_name (i := 5) sc_led_to.nd rfl (by first | exact Or.inl rfl | exact Or.inr rfl))) (ggs_cons (gg_name (pg_name (i := 6) sc_led_to.nd rfl (by first | exact Or.inl rfl | exact Or.inr rfl))) (ggs_nil)))))))) (gb_cons (gs_if (gt_cmp (go_eq hr.units) (ge_var (pv 1)) (ge_var (pv 3)) (nomark _)) (gb_one (gs_ret (ge_var (pv 4)))) (gb_nil)) (gb_cons (gs_if (GW.gt (gw_and (gt_cmp (go_eq hr.units) (ge_var (pv 1)) (ge_var (pv 4)) (nomark _)) (gw_and1 (gt_cmp (go_eq hr.units) (ge_var (pv 2)) (ge_str) (nomark _))))) (gb_one (gs_ret (ge_var (pv 3)))) (gb_nil)) (gb_one (gs_ret (ge_non)))))
def b__law_deck : SS :=
  sSeq (sSet 2 (wC (.int 0))) (sSeq (sIf (wTest (wOp oLt (wVar 1) (wCall cLen (aCons (wVar 0) (aNil))))) (sSet 2 (wCall cMax (aCons (wC (.int 0)) (aCons (wOp oIx (wVar 0) (wVar 1)) (aNil))))) (sNext)) (sRet (wNew (aCons (wOp oMul (wVar 2) (wCall cInt (aCons (wOp oGe (wVar 2) (wOp oPow (wC (.int 10)) (wC (.int 18)))) (aNil)))) (aCons (wOp oAdd (wOp oMod (wVar 2) (wC (.int 2147483629))) (wOp oMul (wC (.int 7919)) (wVar 1))) (aCons (wC (.int 0)) (aNil)))))))
theorem ok__law_deck (T : Tx K mg a) : FnOk P w K mg base CX0 1 a.f__law_deck a.d__law_deck P__law_deck (rdSp K (spBody N__law_deck 2 (b__law_deck))) :=
  Fun.okW T.F__law_deck sc__law_deck fun cdv A outer s H E hr hcd =>
    gb_cons (gs_set (i := 2) sc__law_deck.nd rfl (by first | exact Or.inl rfl | exact Or.inr rfl) (ge_int)) (gb_cons (gs_if (gt_cmp go_lt (ge_var (pv 1)) (ge_callB (gc_len) rfl T.z_len (by decide +kernel) (ga_cons (ge_var (pv 0)) (ga_nil))) (nomark _)) (gb_one (gs_set (i := 2) sc__law_deck.nd rfl (by first | exact Or.inl rfl | exact Or.inr rfl) (ge_callB (gc_max rfl) rfl T.z_max (by decide +kernel) (ga_cons (ge_int) (ga_cons (ge_ix gi_ix (ge_var (pv 0)) (ge_var (pv 1)) (fun _ _ => rfl)) (ga_nil)))))) (gb_nil)) (gb_one (gs_ret (ge_new (ga_cons (ge_op go_mul (ge_var (pv 2)) (ge_callTy gc_int rfl T.z_int (by decide +kernel) (ga_cons (ge_cmp go_ge (ge_var (pv 2)) (ge_op go_pow (ge_int) (ge_int)) (nomark _)) (ga_nil)))) (ga_cons (ge_op go_add (ge_op go_mod (ge_var (pv 2)) (ge_int)) (ge_op go_mul (ge_int) (ge_var (pv 1)))) (ga_cons (ge_int) (ga_nil))))))))
def b__law_draw : SS :=
  sSeq (sIf (wTest (wOp oGt (wOp oIx (wVar 0) (wC (.int 0))) (wC (.int 0)))) (sSeq (sSet 2 (wOp oMod (wOp oIx (wVar 0) (wC (.int 0))) (wVar 1))) (sSeq (sAsg (wOp oDiv (wOp oIx (wVar 0) (wC (.int 0))) (wVar 1)) (nSub (wVar 0) (wC (.int 0)))) (sRet (wVar 2)))) (sNext)) (sSeq (sAsg (wOp oAdd (wOp oIx (wVar 0) (wC (.int 2))) (wC (.int 1))) (nSub (wVar 0) (wC (.int 2)))) (sSeq (sSet 3 (wOp oMod (wOp oMul (wOp oAdd (wOp oAdd (wOp oIx (wVar 0) (wC (.int 1))) (wOp oMul (wC (.int 65537)) (wOp oIx (wVar 0) (wC (.int 2))))) (wC (.int 101))) (wC (.int 48271))) (wC (.int 2147483647)))) (sSeq (sSet 3 (wOp oMod (wOp oAdd (wOp oAdd (wOp oMul (wVar 3) (wVar 3)) (wOp oMul (wC (.int 69621)) (wOp oIx (wVar 0) (wC (.int 2))))) (wC (.int 11))) (wC (.int 2147483629)))) (sRet (wOp oMod (wOp oDiv (wOp oMod (wOp oAdd (wOp oMul (wVar 3) (wVar 3)) (wC (.int 32749))) (wC (.int 2147483587))) (wC (.int 64))) (wVar 1))))))
theorem ok__law_draw (T : Tx K mg a) : FnOk P w K mg base CX0 1 a.f__law_draw a.d__law_draw P__law_draw (rdSp K (spBody N__law_draw 2 (b__law_draw))) :=
  Fun.okW T.F__law_draw sc__law_draw fun cdv A outer s H E hr hcd =>
    gb_cons (gs_if (gt_cmp go_gt (ge_ix gi_ix (ge_var (pv 0)) (ge_int) (fun _ _ => rfl)) (ge_int) (nomark _)) (gb_cons (gs_set (i := 2) sc__law_draw.nd rfl (by first | exact Or.inl rfl | exact Or.inr rfl) (ge_op go_mod (ge_ix gi_ix (ge_var (pv 0)) (ge_int) (fun _ _ => rfl)) (ge_var (pv 1)))) (gb_cons (gs_asg (ge_op go_div (ge_ix gi_ix (ge_var (pv 0)) (ge_int) (fun _ _ => rfl)) (ge_var (pv 1))) (gg_sub (ge_var (pv 0)) (ge_int))) (gb_one (gs_ret (ge_var (pv 2)))))) (gb_nil)) (gb_cons (gs_asg (ge_op go_add (ge_ix gi_ix (ge_var (pv 0)) (ge_int) (fun _ _ => rfl)) (ge_int)) (gg_sub (ge_var (pv 0)) (ge_int))) (gb_cons (gs_set (i := 3) sc__law_draw.nd rfl (by first | exact Or.inl rfl | exact Or.inr rfl) (ge_op go_mod (ge_op go_mul (ge_op go_add (ge_op go_add (ge_ix gi_ix (ge_var (pv 0)) (ge_int) (fun _ _ => rfl)) (ge_op go_mul (ge_int) (ge_ix gi_ix (ge_var (pv 0)) (ge_int) (fun _ _ => rfl)))) (ge_int)) (ge_int)) (ge_int))) (gb_cons (gs_set (i := 3) sc__law_draw.nd rfl (by first | exact Or.inl rfl | exact Or.inr rfl) (ge_op go_mod (ge_op go_add (ge_op go_add (ge_op go_mul (ge_var (pv 3)) (ge_var (pv 3))) (ge_op go_mul (ge_int) (ge_ix gi_ix (ge_var (pv 0)) (ge_int) (fun _ _ => rfl)))) (ge_int)) (ge_int))) (gb_one (gs_ret (ge_op go_mod (ge_op go_div (ge_op go_mod (ge_op go_add (ge_op go_mul (ge_var (pv 3)) (ge_var (pv 3))) (ge_int)) (ge_int)) (ge_int)) (ge_var (pv 1))))))))
def b__law_step : SS :=
  sSeq (sAsg (wOp oIx (wOp oIx (wVar 0) (wC (.int 1))) (wVar 1)) (nTup 5 (nCons (nName 3) (nCons (nName 4) (nCons (nName 5) (nCons (nName 6) (nCons (nName 7) (nNil)))))))) (sSeq (sIf (wTest (wOp oEq (wVar 2) (wVar 4))) (sRet (wTup (aCons (wVar 5) (aCons (wVar 6) (aCons (wOp oAdd (wVar 6) (wVar 7)) (aNil)))))) (sNext)) (sSeq (sIf (wAnd (wTest (wOp oEq (wVar 3) (wC (.str "both")))) (wTest (wOp oEq (wVar 2) (wVar 5)))) (sRet (wTup (aCons (wVar 4) (aCons (wVar 6) (aCons (wOp oAdd (wVar 6) (wVar 7)) (aNil)))))) (sNext)) (sRet (wC .none))))
theorem ok__law_step (T : Tx K mg a) : FnOk P w K mg base CX0 1 a.f__law_step a.d__law_step P__law_step (rdSp K (spBody N__law_step 3 (b__law_step))) :=
  Fun.okW T.F__law_step sc__law_step fun cdv A outer s H E hr hcd =>
    gb_cons (gs_asg (ge_ix gi_ix (ge_ix gi_ix (ge_var (pv 0)) (ge_int) (fun _ _ => rfl)) (ge_var (pv 1)) (fun _ _ => rfl)) (gg_tup rfl (ggs_cons (gg_name (pg_name (i := 3) sc__law_step.nd rfl (by first | exact Or.inl rfl | exact Or.inr rfl))) (ggs_cons (gg_name (pg_name (i := 4) sc__law_step.nd rfl (by first | exact Or.inl rfl | exact Or.inr rfl))) (ggs_cons (gg_name (pg_name (i := 5) sc__law_step.nd rfl (by first | exact Or.inl rfl | exact Or.inr rfl))) (ggs_cons (gg_name (pg_name (i := 6) sc__law_step.nd rfl (by first | exact Or.inl rfl | exact Or.inr rfl))) (ggs_cons (gg_name (pg_name (i := 7) sc__law_step.nd rfl (by first | exact Or.inl rfl | exact Or.inr rfl))) (ggs_nil)))))))) (gb_cons (gs_if (gt_cmp (go_eq hr.units) (ge_var (pv 2)) (ge_var (pv 4)) (nomark _)) (gb_one (gs_ret (ge_tup (ga_cons (ge_var (pv 5)) (ga_cons (ge_var (pv 6)) (ga_cons (ge_op go_add (ge_var (pv 6)) (ge_var (pv 7))) (ga_nil))))))) (gb_nil)) (gb_cons (gs_if (GW.gt (gw_and (gt_cmp (go_eq hr.units) (ge_var (pv 3)) (ge_str) (nomark _)) (gw_and1 (gt_cmp (go_eq hr.units) (ge_var (pv 2)) (ge_var (pv 5)) (nomark _))))) (gb_one (gs_ret (ge_tup (ga_cons (ge_var (pv 4)) (ga_cons (ge_var (pv 6)) (ga_cons (ge_op go_add (ge_var (pv 6)) (ge_var (pv 7))) (ga_nil))))))) (gb_nil)) (gb_one (gs_ret (ge_non)))))
def b__law_small : SS :=
  sSeq (sSet 1 (wCall cMin (aCons (wOp oIx (wVar 0) (wC (.int 0))) (aCons (wC (.int 4)) (aNil))))) (sSeq (sSet 2 (wNew (aNil))) (sSeq (sFor (iSeq (wSl oSl (wOp oIx (wVar 0) (wC (.int 1))) (wNoP) (wP (wC (.int 5))))) (nTup 5 (nCons (nName 3) (nCons (nName 4) (nCons (nName 5) (nCons (nName 6) (nCons (nName 7) (nNil))))))) (sSeq (sSet 4 (wOp oMod (wVar 4) (wVar 1))) (sSeq (sSet 5 (wOp oMod (wVar 5) (wVar 1))) (sSeq (sIf (wTest (wOp oEq (wVar 4) (wVar 5))) (sSet 5 (wOp oMod (wOp oAdd (wVar 4) (wC (.int 1))) (wVar 1))) (sNext)) (sDrop (wApp (wVar 2) (wTup (aCons (wVar 3) (aCons (wVar 4) (aCons (wVar 5) (aCons (wVar 6) (aCons (wVar 7) (aNil))))))))))))) (sRet (wTup (aCons (wVar 1) (aCons (wCall cTuple (aCons (wVar 2) (aNil))) (aNil)))))))
theorem ok__law_small (T : Tx K mg a) : FnOk P w K mg base CX0 1 a.f__law_small a.d__law_small P__law_small (rdSp K (spBody N__law_small 1 (b__law_small))) :=
  Fun.okW T.F__law_small sc__law_small fun cdv A outer s H E hr hcd =>
    gb_cons (gs_set (i := 1) sc__law_small.nd rfl (by first | exact Or.inl rfl | exact Or.inr rfl) (ge_callB (gc_min rfl) rfl T.z_min (by decide +kernel) (ga_cons (ge_ix gi_ix (ge_var (pv 0)) (ge_int) (fun _ _ => rfl)) (ga_cons (ge_int) (ga_nil))))) (gb_cons (gs_set (i := 2) sc__law_small.nd rfl (by first | exact Or.inl rfl | exact Or.inr rfl) (ge_new (ga_nil))) (gb_cons (gs_for PassesOwn.never rfl (gi_seq (ge_sl gl_sl (ge_ix gi_ix (ge_var (pv 0)) (ge_int) (fun _ _ => rfl)) (gp_none) (gp_some (ge_int)))) (gg_tup rfl (ggs_cons (gg_name (pg_name (i := 3) sc__law_small.nd rfl (by first | exact Or.inl rfl | exact Or.inr rfl))) (ggs_cons (gg_name (pg_name (i := 4) sc__law_small.nd rfl (by first | exact Or.inl rfl | exact Or.inr rfl))) (ggs_cons (gg_name (pg_name (i := 5) sc__law_small.nd rfl (by first | exact Or.inl rfl | exact Or.inr rfl))) (ggs_cons (gg_name (pg_name (i := 6) sc__law_small.nd rfl (by first | exact Or.inl rfl | exact Or.inr rfl))) (ggs_cons (gg_name (pg_name (i := 7) sc__law_small.nd rfl (by first | exact Or.inl rfl | exact Or.inr rfl))) (ggs_nil))))))) (gb_cons (gs_set (i := 4) sc__law_small.nd rfl (by first | exact Or.inl rfl | exact Or.inr rfl) (ge_op go_mod (ge_var (pv 4)) (ge_var (pv 1)))) (gb_cons (gs_set (i := 5) sc__law_small.nd rfl (by first | exact Or.inl rfl | exact Or.inr rfl) (ge_op go_mod (ge_var (pv 5)) (ge_var (pv 1)))) (gb_cons (gs_if (gt_cmp (go_eq hr.units) (ge_var (pv 4)) (ge_var (pv 5)) (nomark _)) (gb_one (gs_set (i := 5) sc__law_small.nd rfl (by first | exact Or.inl rfl | exact Or.inr rfl) (ge_op go_mod (ge_op go_add (ge_var (pv 4)) (ge_int)) (ge_var (pv 1))))) (gb_nil)) (gb_one (gs_expr (ge_app (ge_var (pv 2)) (ge_tup (ga_cons (ge_var (pv 3)) (ga_cons (ge_var (pv 4)) (ga_cons (ge_var (pv 5)) (ga_cons (ge_var (pv 6)) (ga_cons (ge_var (pv 7)) (ga_nil)))))))))))))) (gb_one (gs_ret (ge_tup (ga_cons (ge_var (pv 1)) (ga_cons (ge_callTy gc_tuple rfl T.z_tuple (by decide +kernel) (ga_cons (ge_var (pv 2)) (ga_nil))) (ga_nil))))))))
def b__law_rows : SS :=
  sSeq (sSet 1 (wLst (aCons (wTup (aNil)) (aNil)))) (sSeq (sSet 2 (wLst (aCons (wTup (aNil)) (aNil)))) (sSeq (sFor (iRng (aCons (wC (.int 4)) (aNil))) (nName 3) (sSeq (sSet 4 (wNew (aNil))) (sSeq (sFor (iSeq (wVar 2)) (nName 5) (sDrop (wExt (wVar 4) (wLc (iRng (aCons (wVar 0) (aNil))) (.nm 6) (wTest (wOp oNotIn (wVar 6) (wVar 5))) (wOp oAdd (wVar 5) (wTup (aCons (wVar 6) (aNil)))) [6])))) (sSeq (sSet 1 (wOp oAdd (wVar 1) (wVar 4))) (sSet 2 (wVar 4)))))) (sRet (wOp oAdd (wVar 1) (wLc (iRng (aCons (wVar 0) (aNil))) (.nm 6) (wYes) (wTup (aCons (wVar 6) (aCons (wVar 6) (aNil)))) [6])))))
theorem ok__law_rows (T : Tx K mg a) : FnOk P w K mg base CX0 1 a.f__law_rows a.d__law_rows P__law_rows (rdSp K (spBody N__law_rows 1 (b__law_rows))) :=
  Fun.okW T.F__law_rows sc__law_rows fun cdv A outer s H E hr hcd =>
    gb_cons (gs_set (i := 1) sc__law_rows.nd rfl (by first | exact Or.inl rfl | exact Or.inr rfl) (ge_lst (ga_cons (ge_tup (ga_nil)) (ga_nil)))) (gb_cons (gs_set (i := 2) sc__law_rows.nd rfl (by first | exact Or.inl rfl | exact Or.inr rfl) (ge_lst (ga_cons (ge_tup (ga_nil)) (ga_nil)))) (gb_cons (gs_for PassesOwn.never rfl (gi_rng rfl T.z_range (ga_cons (ge_int) (ga_nil))) (gg_name (pg_name (i := 3) sc__law_rows.nd rfl (by first | exact Or.inl rfl | exact Or.inr rfl))) (gb_cons (gs_set (i := 4) sc__law_rows.nd rfl (by first | exact Or.inl rfl | exact Or.inr rfl) (ge_new (ga_nil))) (gb_cons (gs_for PassesOwn.never rfl (gi_seq (ge_var (pv 2))) (gg_name (pg_name (i := 5) sc__law_rows.nd rfl (by first | exact Or.inl rfl | exact Or.inr rfl))) (gb_one (gs_expr (ge_ext (ge_var (pv 4)) (ge_lc (own := [("_law_number", 6)]) (t := .nm 6) rfl sc__law_rows.nd (gi_rng rfl T.z_range (ga_cons (ge_var (pv 0)) (ga_nil))) (blkOk_by (own := [("_law_number", 6)]) (N := N__law_rows) (sc := defScope s__law_rows) (by decide +kernel)) (fun _ _ _ _ _ => pg_name (i := 6) sc__law_rows.nd rfl (Or.inl rfl)) (fun _ _ _ _ _ => gts_one (gt_cmp (go_notIn hr.units) (ge_var (pv 6)) (ge_var (pv 5)) (by with_unfolding_all rfl))) (fun _ _ _ _ _ => ge_op go_add (ge_var (pv 5)) (ge_tup (ga_cons (ge_var (pv 6)) (ga_nil)))) (by decide)))))) (gb_cons (gs_set (i := 1) sc__law_rows.nd rfl (by first | exact Or.inl rfl | exact Or.inr rfl) (ge_op go_add (ge_var (pv 1)) (ge_var (pv 4)))) (gb_one (gs_set (i := 2) sc__law_rows.nd rfl (by first | exact Or.inl rfl | exact Or.inr rfl) (ge_var (pv 4)))))))) (gb_one (gs_ret (ge_op go_add (ge_var (pv 1)) (ge_lc (own := [("_law_number", 6)]) (t := .nm 6) rfl sc__law_rows.nd (gi_rng rfl T.z_range (ga_cons (ge_var (pv 0)) (ga_nil))) (blkOk_by (own := [("_law_number", 6)]) (N := N__law_rows) (sc := defScope s__law_rows) (by decide +kernel)) (fun _ _ _ _ _ => pg_name (i := 6) sc__law_rows.nd rfl (Or.inl rfl)) (fun _ _ _ _ _ => gts_nil) (fun _ _ _ _ _ => ge_tup (ga_cons (ge_var (pv 6)) (ga_cons (ge_var (pv 6)) (ga_nil)))) (by decide)))))))
def b_is_number_below (sp_is_whole : SpW) : SS :=
  sRet (wAndV (wCall sp_is_whole (aCons (wVar 1) (aNil))) (wChain oLe oLt (wC (.int 0)) (wVar 1) (wVar 0)))
theorem ok_is_number_below {sp_is_whole : SpW} (T : Tx K mg a) (G_is_whole : FnOk P w K mg base CX0 1 a.f_is_whole a.d_is_whole P_is_whole (rdSp K sp_is_whole)) : FnOk P w K mg base CX0 2 a.f_is_number_below a.d_is_number_below P_is_number_below (rdSp K (spBody N_is_number_below 2 (b_is_number_below sp_is_whole))) :=
  Fun.okW T.F_is_number_below sc_is_number_below fun cdv A outer s H E hr hcd =>
    gb_one (gs_ret (ge_and (ge_call G_is_whole (hr.mono (by decide)) rfl T.m_is_whole T.F_is_whole.kp T.B_is_whole pass0 (ga_cons (ge_var (pv 1)) (ga_nil))) (ge_one (ge_chain go_le go_lt (ge_int) (ge_var (pv 1)) (ge_var (pv 0))))))
def b_places_on (sp_led_to : SpW) : SS :=
  sSeq (sAsg (wVar 0) (nTup 2 (nCons (nName 3) (nCons (nName 4) (nNil))))) (sSeq (sSet 5 (wNew (aCons (wVar 1) (aNil)))) (sSeq (sFor (iSeq (wVar 2)) (nName 6) (sDrop (wApp (wVar 5) (wCall sp_led_to (aCons (wOp oIx (wVar 4) (wVar 6)) (aCons (wOp oIx (wVar 5) (wNeg (wC (.int 1)))) (aNil))))))) (sRet (wCall cTuple (aCons (wVar 5) (aNil))))))
theorem ok_places_on {sp_led_to : SpW} (T : Tx K mg a) (G_led_to : FnOk P w K mg base CX0 1 a.f_led_to a.d_led_to P_led_to (rdSp K sp_led_to)) : FnOk P w K mg base CX0 2 a.f_places_on a.d_places_on P_places_on (rdSp K (spBody N_places_on 3 (b_places_on sp_led_to))) :=
  Fun.okW T.F_places_on sc_places_on fun cdv A outer s H E hr hcd =>
    gb_cons (gs_asg (ge_var (pv 0)) (gg_tup rfl (ggs_cons (gg_name (pg_name (i := 3) sc_places_on.nd rfl (by first | exact Or.inl rfl | exact Or.inr rfl))) (ggs_cons (gg_name (pg_name (i := 4) sc_places_on.nd rfl (by first | exact Or.inl rfl | exact Or.inr rfl))) (ggs_nil))))) (gb_cons (gs_set (i := 5) sc_places_on.nd rfl (by first | exact Or.inl rfl | exact Or.inr rfl) (ge_new (ga_cons (ge_var (pv 1)) (ga_nil)))) (gb_cons (gs_for PassesOwn.never rfl (gi_seq (ge_var (pv 2))) (gg_name (pg_name (i := 6) sc_places_on.nd rfl (by first | exact Or.inl rfl | exact Or.inr rfl))) (gb_one (gs_expr (ge_app (ge_var (pv 5)) (ge_call G_led_to (hr.mono (by decide)) rfl T.m_led_to T.F_led_to.kp T.B_led_to pass0 (ga_cons (ge_ix gi_ix (ge_var (pv 4)) (ge_var (pv 6)) (fun _ _ => rfl)) (ga_cons (ge_ix gi_ix (ge_var (pv 5)) (ge_neg (ge_int)) (fun _ _ => rfl)) (ga_nil)))))))) (gb_one (gs_ret (ge_callTy gc_tuple rfl T.z_tuple (by decide +kernel) (ga_cons (ge_var (pv 5)) (ga_nil)))))))
def b_comes_at (sp_end_of : SpW) : SS :=
  sSeq (sAsg (wVar 0) (nTup 2 (nCons (nName 3) (nCons (nName 4) (nNil))))) (sSeq (sIf (wTest (wOp oEq (wCall cLen (aCons (wVar 2) (aNil))) (wC (.int 0)))) (sRet (wVar 1)) (sNext)) (sRet (wCall sp_end_of (aCons (wOp oIx (wVar 4) (wOp oIx (wVar 2) (wNeg (wC (.int 1))))) (aNil)))))
theorem ok_comes_at {sp_end_of : SpW} (T : Tx K mg a) (G_end_of : FnOk P w K mg base CX0 1 a.f_end_of a.d_end_of P_end_of (rdSp K sp_end_of)) : FnOk P w K mg base CX0 2 a.f_comes_at a.d_comes_at P_comes_at (rdSp K (spBody N_comes_at 3 (b_comes_at sp_end_of))) :=
  Fun.okW T.F_comes_at sc_comes_at fun cdv A outer s H E hr hcd =>
    gb_cons (gs_asg (ge_var (pv 0)) (gg_tup rfl (ggs_cons (gg_name (pg_name (i := 3) sc_comes_at.nd rfl (by first | exact Or.inl rfl | exact Or.inr rfl))) (ggs_cons (gg_name (pg_name (i := 4) sc_comes_at.nd rfl (by first | exact Or.inl rfl | exact Or.inr rfl))) (ggs_nil))))) (gb_cons (gs_if (gt_cmp (go_eq hr.units) (ge_callB (gc_len) rfl T.z_len (by decide +kernel) (ga_cons (ge_var (pv 2)) (ga_nil))) (ge_int) (nomark _)) (gb_one (gs_ret (ge_var (pv 1)))) (gb_nil)) (gb_one (gs_ret (ge_call G_end_of (hr.mono (by decide)) rfl T.m_end_of T.F_end_of.kp T.B_end_of pass0 (ga_cons (ge_ix gi_ix (ge_var (pv 4)) (ge_ix gi_ix (ge_var (pv 2)) (ge_neg (ge_int)) (fun _ _ => rfl)) (fun _ _ => rfl)) (ga_nil))))))
def b__law_far (sp__law_draw : SpW) : SS :=
  sSeq (sSet 2 (wC (.int 0))) (sSeq (sFor (iRng (aCons (wC (.int 3)) (aNil))) (nName 3) (sSet 2 (wOp oAdd (wOp oMul (wVar 2) (wOp oPow (wC (.int 10)) (wC (.int 6)))) (wCall sp__law_draw (aCons (wVar 0) (aCons (wOp oPow (wC (.int 10)) (wC (.int 6))) (aNil))))))) (sRet (wOp oMod (wVar 2) (wOp oAdd (wVar 1) (wC (.int 1))))))
theorem ok__law_far {sp__law_draw : SpW} (T : Tx K mg a) (G__law_draw : FnOk P w K mg base CX0 1 a.f__law_draw a.d__law_draw P__law_draw (rdSp K sp__law_draw)) : FnOk P w K mg base CX0 2 a.f__law_far a.d__law_far P__law_far (rdSp K (spBody N__law_far 2 (b__law_far sp__law_draw))) :=
  Fun.okW T.F__law_far sc__law_far fun cdv A outer s H E hr hcd =>
    gb_cons (gs_set (i := 2) sc__law_far.nd rfl (by first | exact Or.inl rfl | exact Or.inr rfl) (ge_int)) (gb_cons (gs_for PassesOwn.never rfl (gi_rng rfl T.z_range (ga_cons (ge_int) (ga_nil))) (gg_name (pg_name (i := 3) sc__law_far.nd rfl (by first | exact Or.inl rfl | exact Or.inr rfl))) (gb_one (gs_set (i := 2) sc__law_far.nd rfl (by first | exact Or.inl rfl | exact Or.inr rfl) (ge_op go_add (ge_op go_mul (ge_var (pv 2)) (ge_op go_pow (ge_int) (ge_int))) (ge_call G__law_draw (hr.mono (by decide)) rfl T.m__law_draw T.F__law_draw.kp T.B__law_draw pass0 (ga_cons (ge_var (pv 0)) (ga_cons (ge_op go_pow (ge_int) (ge_int)) (ga_nil)))))))) (gb_one (gs_ret (ge_op go_mod (ge_var (pv 2)) (ge_op go_add (ge_var (pv 1)) (ge_int))))))
def b__law_begin (sp__law_draw : SpW) : SS :=
  sSeq (sSet 3 (wCall sp__law_draw (aCons (wVar 0) (aCons (wC (.int 31)) (aNil))))) (sSeq (sIf (wTest (wOp oEq (wVar 1) (wC (.int 3)))) (sRet (wOp oMul (wC (.int 5)) (wCall sp__law_draw (aCons (wVar 0) (aCons (wC (.int 2)) (aNil)))))) (sNext)) (sSeq (sIf (wAnd (wTest (wOp oNe (wVar 2) (wLst (aNil)))) (wOr (wTest (wOp oEq (wVar 1) (wC (.int 2)))) (wAnd (wTest (wOp oEq (wVar 1) (wC (.int 1)))) (wTest (wOp oGt (wOp oMod (wVar 3) (wC (.int 3))) (wC (.int 0))))))) (sSeq (sSet 4 (wOp oIx (wVar 2) (wOp oIx (wLst (aCons (wOp oSub (wCall cLen (aCons (wVar 2) (aNil))) (wC (.int 1))) (aCons (wCall sp__law_draw (aCons (wVar 0) (aCons (wCall cLen (aCons (wVar 2) (aNil))) (aNil)))) (aNil)))) (wCall cInt (aCons (wOp oEq (wVar 1) (wC (.int 1))) (aNil)))))) (sRet (wCall cMax (aCons (wC (.int 0)) (aCons (wOp oAdd (wOp oSub (wOp oAdd (wOp oIx (wVar 4) (wC (.int 3))) (wOp oIx (wVar 4) (wC (.int 4)))) (wCall cInt (aCons (wOp oEq (wVar 1) (wC (.int 1))) (aNil)))) (wCall sp__law_draw (aCons (wVar 0) (aCons (wC (.int 3)) (aNil))))) (aNil)))))) (sNext)) (sRet (wVar 3))))
theorem ok__law_begin {sp__law_draw : SpW} (T : Tx K mg a) (G__law_draw : FnOk P w K mg base CX0 1 a.f__law_draw a.d__law_draw P__law_draw (rdSp K sp__law_draw)) : FnOk P w K mg base CX0 2 a.f__law_begin a.d__law_begin P__law_begin (rdSp K (spBody N__law_begin 3 (b__law_begin sp__law_draw))) :=
  Fun.okW T.F__law_begin sc__law_begin fun cdv A outer s H E hr hcd =>
    gb_cons (gs_set (i := 3) sc__law_begin.nd rfl (by first | exact Or.inl rfl | exact Or.inr rfl) (ge_call G__law_draw (hr.mono (by decide)) rfl T.m__law_draw T.F__law_draw.kp T.B__law_draw pass0 (ga_cons (ge_var (pv 0)) (ga_cons (ge_int) (ga_nil))))) (gb_cons (gs_if (gt_cmp (go_eq hr.units) (ge_var (pv 1)) (ge_int) (nomark _)) (gb_one (gs_ret (ge_op go_mul (ge_int) (ge_call G__law_draw (hr.mono (by decide)) rfl T.m__law_draw T.F__law_draw.kp T.B__law_draw pass0 (ga_cons (ge_var (pv 0)) (ga_cons (ge_int) (ga_nil))))))) (gb_nil)) (gb_cons (gs_if (GW.gt (gw_and (gt_cmp (go_ne hr.units) (ge_var (pv 2)) (ge_lst (ga_nil)) (nomark _)) (gw_and1 (GW.gt (gw_or (gt_cmp (go_eq hr.units) (ge_var (pv 1)) (ge_int) (nomark _)) (gw_or1 (GW.gt (gw_and (gt_cmp (go_eq hr.units) (ge_var (pv 1)) (ge_int) (nomark _)) (gw_and1 (gt_cmp go_gt (ge_op go_mod (ge_var (pv 3)) (ge_int)) (ge_int) (nomark _))))))))))) (gb_cons (gs_set (i := 4) sc__law_begin.nd rfl (by first | exact Or.inl rfl | exact Or.inr rfl) (ge_ix gi_ix (ge_var (pv 2)) (ge_ix gi_ix (ge_lst (ga_cons (ge_op go_sub (ge_callB (gc_len) rfl T.z_len (by decide +kernel) (ga_cons (ge_var (pv 2)) (ga_nil))) (ge_int)) (ga_cons (ge_call G__law_draw (hr.mono (by decide)) rfl T.m__law_draw T.F__law_draw.kp T.B__law_draw pass0 (ga_cons (ge_var (pv 0)) (ga_cons (ge_callB (gc_len) rfl T.z_len (by decide +kernel) (ga_cons (ge_var (pv 2)) (ga_nil))) (ga_nil)))) (ga_nil)))) (ge_callTy gc_int rfl T.z_int (by decide +kernel) (ga_cons (ge_cmp (go_eq hr.units) (ge_var (pv 1)) (ge_int) (nomark _)) (ga_nil))) (fun _ _ => rfl)) (fun _ _ => rfl))) (gb_one (gs_ret (ge_callB (gc_max rfl) rfl T.z_max (by decide +kernel) (ga_cons (ge_int) (ga_cons (ge_op go_add (ge_op go_sub (ge_op go_add (ge_ix gi_ix (ge_var (pv 4)) (ge_int) (fun _ _ => rfl)) (ge_ix gi_ix (ge_var (pv 4)) (ge_int) (fun _ _ => rfl))) (ge_callTy gc_int rfl T.z_int (by decide +kernel) (ga_cons (ge_cmp (go_eq hr.units) (ge_var (pv 1)) (ge_int) (nomark _)) (ga_nil)))) (ge_call G__law_draw (hr.mono (by decide)) rfl T.m__law_draw T.F__law_draw.kp T.B__law_draw pass0 (ga_cons (ge_var (pv 0)) (ga_cons (ge_int) (ga_nil))))) (ga_nil))))))) (gb_nil)) (gb_one (gs_ret (ge_var (pv 3))))))
def b__law_moment (sp__law_draw : SpW) : SS :=
  sSeq (sSet 2 (wCall sp__law_draw (aCons (wVar 0) (aCons (wC (.int 6)) (aNil))))) (sSeq (sIf (wOr (wTest (wOp oEq (wOp oIx (wVar 1) (wC (.int 1))) (wTup (aNil)))) (wTest (wOp oEq (wVar 2) (wC (.int 0))))) (sRet (wOp oIx (wLst (aCons (wC (.int 0)) (aCons (wCall sp__law_draw (aCons (wVar 0) (aCons (wC (.int 40)) (aNil)))) (aCons (wOp oPow (wC (.int 10)) (wC (.int 13))) (aNil))))) (wCall sp__law_draw (aCons (wVar 0) (aCons (wC (.int 3)) (aNil)))))) (sNext)) (sSeq (sAsg (wOp oIx (wOp oIx (wVar 1) (wC (.int 1))) (wCall sp__law_draw (aCons (wVar 0) (aCons (wCall cLen (aCons (wOp oIx (wVar 1) (wC (.int 1))) (aNil))) (aNil))))) (nTup 5 (nCons (nName 3) (nCons (nName 4) (nCons (nName 5) (nCons (nName 6) (nCons (nName 7) (nNil)))))))) (sRet (wCall cMax (aCons (wC (.int 0)) (aCons (wOp oIx (wLst (aCons (wVar 6) (aCons (wOp oAdd (wVar 6) (wC (.int 1))) (aCons (wOp oSub (wVar 6) (wC (.int 1))) (aCons (wOp oAdd (wVar 6) (wVar 7)) (aCons (wOp oSub (wOp oAdd (wVar 6) (wVar 7)) (wC (.int 1))) (aNil))))))) (wOp oSub (wVar 2) (wC (.int 1)))) (aNil)))))))
theorem ok__law_moment {sp__law_draw : SpW} (T : Tx K mg a) (G__law_draw : FnOk P w K mg base CX0 1 a.f__law_draw a.d__law_draw P__law_draw (rdSp K sp__law_draw)) : FnOk P w K mg base CX0 2 a.f__law_moment a.d__law_moment P__law_moment (rdSp K (spBody N__law_moment 2 (b__law_moment sp__law_draw))) :=
  Fun.okW T.F__law_moment sc__law_moment fun cdv A outer s H E hr hcd =>
    gb_cons (gs_set (i := 2) sc__law_moment.nd rfl (by first | exact Or.inl rfl | exact Or.inr rfl) (ge_call G__law_draw (hr.mono (by decide)) rfl T.m__law_draw T.F__law_draw.kp T.B__law_draw pass0 (ga_cons (ge_var (pv 0)) (ga_cons (ge_int) (ga_nil))))) (gb_cons (gs_if (GW.gt (gw_or (gt_cmp (go_eq hr.units) (ge_ix gi_ix (ge_var (pv 1)) (ge_int) (fun _ _ => rfl)) (ge_tup (ga_nil)) (nomark _)) (gw_or1 (gt_cmp (go_eq hr.units) (ge_var (pv 2)) (ge_int) (nomark _))))) (gb_one (gs_ret (ge_ix gi_ix (ge_lst (ga_cons (ge_int) (ga_cons (ge_call G__law_draw (hr.mono (by decide)) rfl T.m__law_draw T.F__law_draw.kp T.B__law_draw pass0 (ga_cons (ge_var (pv 0)) (ga_cons (ge_int) (ga_nil)))) (ga_cons (ge_op go_pow (ge_int) (ge_int)) (ga_nil))))) (ge_call G__law_draw (hr.mono (by decide)) rfl T.m__law_draw T.F__law_draw.kp T.B__law_draw pass0 (ga_cons (ge_var (pv 0)) (ga_cons (ge_int) (ga_nil)))) (fun _ _ => rfl)))) (gb_nil)) (gb_cons (gs_asg (ge_ix gi_ix (ge_ix gi_ix (ge_var (pv 1)) (ge_int) (fun _ _ => rfl)) (ge_call G__law_draw (hr.mono (by decide)) rfl T.m__law_draw T.F__law_draw.kp T.B__law_draw pass0 (ga_cons (ge_var (pv 0)) (ga_cons (ge_callB (gc_len) rfl T.z_len (by decide +kernel) (ga_cons (ge_ix gi_ix (ge_var (pv 1)) (ge_int) (fun _ _ => rfl)) (ga_nil))) (ga_nil)))) (fun _ _ => rfl)) (gg_tup rfl (ggs_cons (gg_name (pg_name (i := 3) sc__law_moment.nd rfl (by first | exact Or.inl rfl | exact Or.inr rfl))) (ggs_cons (gg_name (pg_name (i := 4) sc__law_moment.nd rfl (by first | exact Or.inl rfl | exact Or.inr rfl))) (ggs_cons (gg_name (pg_name (i := 5) sc__law_moment.nd rfl (by first | exact Or.inl rfl | exact Or.inr rfl))) (ggs_cons (gg_name (pg_name (i := 6) sc__law_moment.nd rfl (by first | exact Or.inl rfl | exact Or.inr rfl))) (ggs_cons (gg_name (pg_name (i := 7) sc__law_moment.nd rfl (by first | exact Or.inl rfl | exact Or.inr rfl))) (ggs_nil)))))))) (gb_one (gs_ret (ge_callB (gc_max rfl) rfl T.z_max (by decide +kernel) (ga_cons (ge_int) (ga_cons (ge_ix gi_ix (ge_lst (ga_cons (ge_var (pv 6)) (ga_cons (ge_op go_add (ge_var (pv 6)) (ge_int)) (ga_cons (ge_op go_sub (ge_var (pv 6)) (ge_int)) (ga_cons (ge_op go_add (ge_var (pv 6)) (ge_var (pv 7))) (ga_cons (ge_op go_sub (ge_op go_add (ge_var (pv 6)) (ge_var (pv 7))) (ge_int)) (ga_nil))))))) (ge_op go_sub (ge_var (pv 2)) (ge_int)) (fun _ _ => rfl)) (ga_nil))))))))
def b__law_all (sp__law_step : SpW) : SS :=
  sSeq (sSet 3 (wDictT1 (aNil) (wTup (aCons (wVar 1) (aCons (wVar 2) (aNil)))))) (sSeq (sSet 4 (wLst (aCons (wTup (aNil)) (aNil)))) (sSeq (sFor (iRng (aCons (wC (.int 4)) (aNil))) (nName 5) (sSeq (sSet 6 (wNew (aNil))) (sSeq (sFor (iSeq (wVar 4)) (nName 7) (sSeq (sAsg (wTGetW (wVar 3) (wVar 7)) (nTup 2 (nCons (nName 8) (nCons (nName 9) (nNil))))) (sFor (iRng (aCons (wCall cLen (aCons (wOp oIx (wVar 0) (wC (.int 1))) (aNil))) (aNil))) (nName 10) (sSeq (sSet 11 (wCall sp__law_step (aCons (wVar 0) (aCons (wVar 10) (aCons (wVar 8) (aNil)))))) (sIf (wAnd (wTest (wOp oIsNot (wVar 11) (wC .none))) (wTest (wOp oGe (wOp oIx (wVar 11) (wC (.int 1))) (wVar 9)))) (sSeq (sDrop (wApp (wVar 6) (wOp oAdd (wVar 7) (wTup (aCons (wVar 10) (aNil)))))) (sDPutC (wVar 3) (wVar 7) (aCons (wVar 10) (aNil)) (wTup (aCons (wOp oIx (wVar 11) (wC (.int 0))) (aCons (wOp oIx (wVar 11) (wC (.int 2))) (aNil)))))) (sNext)))))) (sSet 4 (wVar 6))))) (sRet (wVar 3))))
theorem ok__law_all {sp__law_step : SpW} (T : Tx K mg a) (G__law_step : FnOk P w K mg base CX0 1 a.f__law_step a.d__law_step P__law_step (rdSp K sp__law_step)) : FnOk P w K mg base CX0 2 a.f__law_all a.d__law_all P__law_all (rdSp K (spBody N__law_all 3 (b__law_all sp__law_step))) :=
  Fun.okW T.F__law_all sc__law_all fun cdv A outer s H E hr hcd =>
    gb_cons (gs_set (i := 3) sc__law_all.nd rfl (by first | exact Or.inl rfl | exact Or.inr rfl) (ge_dictT1 hr.units (ga_nil) (ge_tup (ga_cons (ge_var (pv 1)) (ga_cons (ge_var (pv 2)) (ga_nil)))))) (gb_cons (gs_set (i := 4) sc__law_all.nd rfl (by first | exact Or.inl rfl | exact Or.inr rfl) (ge_lst (ga_cons (ge_tup (ga_nil)) (ga_nil)))) (gb_cons (gs_for PassesOwn.never rfl (gi_rng rfl T.z_range (ga_cons (ge_int) (ga_nil))) (gg_name (pg_name (i := 5) sc__law_all.nd rfl (by first | exact Or.inl rfl | exact Or.inr rfl))) (gb_cons (gs_set (i := 6) sc__law_all.nd rfl (by first | exact Or.inl rfl | exact Or.inr rfl) (ge_new (ga_nil))) (gb_cons (gs_for PassesOwn.never rfl (gi_seq (ge_var (pv 4))) (gg_name (pg_name (i := 7) sc__law_all.nd rfl (by first | exact Or.inl rfl | exact Or.inr rfl))) (gb_cons (gs_asg (ge_tgetW hr.units (ge_var (pv 3)) (ge_var (pv 7)) (fun _ _ => rfl)) (gg_tup rfl (ggs_cons (gg_name (pg_name (i := 8) sc__law_all.nd rfl (by first | exact Or.inl rfl | exact Or.inr rfl))) (ggs_cons (gg_name (pg_name (i := 9) sc__law_all.nd rfl (by first | exact Or.inl rfl | exact Or.inr rfl))) (ggs_nil))))) (gb_one (gs_for PassesOwn.never rfl (gi_rng rfl T.z_range (ga_cons (ge_callB (gc_len) rfl T.z_len (by decide +kernel) (ga_cons (ge_ix gi_ix (ge_var (pv 0)) (ge_int) (fun _ _ => rfl)) (ga_nil))) (ga_nil))) (gg_name (pg_name (i := 10) sc__law_all.nd rfl (by first | exact Or.inl rfl | exact Or.inr rfl))) (gb_cons (gs_set (i := 11) sc__law_all.nd rfl (by first | exact Or.inl rfl | exact Or.inr rfl) (ge_call G__law_step (hr.mono (by decide)) rfl T.m__law_step T.F__law_step.kp T.B__law_step pass0 (ga_cons (ge_var (pv 0)) (ga_cons (ge_var (pv 10)) (ga_cons (ge_var (pv 8)) (ga_nil)))))) (gb_one (gs_if (GW.gt (gw_and (gt_cmp go_isNot (ge_var (pv 11)) (ge_non) (nomark _)) (gw_and1 (gt_cmp go_ge (ge_ix gi_ix (ge_var (pv 11)) (ge_int) (fun _ _ => rfl)) (ge_var (pv 9)) (nomark _))))) (gb_cons (gs_expr (ge_app (ge_var (pv 6)) (ge_op go_add (ge_var (pv 7)) (ge_tup (ga_cons (ge_var (pv 10)) (ga_nil)))))) (gb_one (gs_dputC hr.units (ge_var (pv 3)) (ge_var (pv 7)) (ga_cons (ge_var (pv 10)) (ga_nil)) (ge_tup (ga_cons (ge_ix gi_ix (ge_var (pv 11)) (ge_int) (fun _ _ => rfl)) (ga_cons (ge_ix gi_ix (ge_var (pv 11)) (ge_int) (fun _ _ => rfl)) (ga_nil))))))) (gb_nil)))))))) (gb_one (gs_set (i := 4) sc__law_all.nd rfl (by first | exact Or.inl rfl | exact Or.inr rfl) (ge_var (pv 6))))))) (gb_one (gs_ret (ge_var (pv 3))))))
def b_is_way (sp_led_to : SpW) (sp_end_of : SpW) (sp_is_number_below : SpW) : SS :=
  sSeq (sIf (wNot (wTest (wCall cIsi (aCons (wVar 3) (aCons (wTy "tuple") (aNil)))))) (sRet (wC (.bool false))) (sNext)) (sSeq (sAsg (wVar 0) (nTup 2 (nCons (nName 4) (nCons (nName 5) (nNil))))) (sSeq (sSet 6 (wVar 1)) (sSeq (sSet 7 (wVar 2)) (sSeq (sFor (iSeq (wVar 3)) (nName 8) (sSeq (sIf (wNot (wTest (wCall sp_is_number_below (aCons (wCall cLen (aCons (wVar 5) (aNil))) (aCons (wVar 8) (aNil)))))) (sRet (wC (.bool false))) (sNext)) (sSeq (sSet 9 (wOp oIx (wVar 5) (wVar 8))) (sSeq (sAsg (wVar 9) (nTup 5 (nCons (nName 10) (nCons (nName 11) (nCons (nName 12) (nCons (nName 13) (nCons (nName 14) (nNil)))))))) (sSeq (sSet 6 (wCall sp_led_to (aCons (wVar 9) (aCons (wVar 6) (aNil))))) (sSeq (sIf (wOr (wTest (wOp oIs (wVar 6) (wC .none))) (wTest (wOp oLt (wVar 13) (wVar 7)))) (sRet (wC (.bool false))) (sNext)) (sSet 7 (wCall sp_end_of (aCons (wVar 9) (aNil)))))))))) (sRet (wC (.bool true)))))))
theorem ok_is_way {sp_led_to : SpW} {sp_end_of : SpW} {sp_is_number_below : SpW} (T : Tx K mg a) (G_led_to : FnOk P w K mg base CX0 1 a.f_led_to a.d_led_to P_led_to (rdSp K sp_led_to)) (G_end_of : FnOk P w K mg base CX0 1 a.f_end_of a.d_end_of P_end_of (rdSp K sp_end_of)) (G_is_number_below : FnOk P w K mg base CX0 2 a.f_is_number_below a.d_is_number_below P_is_number_below (rdSp K sp_is_number_below)) : FnOk P w K mg base CX0 3 a.f_is_way a.d_is_way P_is_way (rdSp K (spBody N_is_way 4 (b_is_way sp_led_to sp_end_of sp_is_number_below))) :=
  Fun.okW T.F_is_way sc_is_way fun cdv A outer s H E hr hcd =>
    gb_cons (gs_if (gt_not (gt_val (ge_callB (gc_isi) rfl T.z_isinstance (by decide +kernel) (ga_cons (ge_var (pv 3)) (ga_cons (ge_ty rfl T.z_tuple (by decide +kernel)) (ga_nil)))))) (gb_one (gs_ret (ge_bl))) (gb_nil)) (gb_cons (gs_asg (ge_var (pv 0)) (gg_tup rfl (ggs_cons (gg_name (pg_name (i := 4) sc_is_way.nd rfl (by first | exact Or.inl rfl | exact Or.inr rfl))) (ggs_cons (gg_name (pg_name (i := 5) sc_is_way.nd rfl (by first | exact Or.inl rfl | exact Or.inr rfl))) (ggs_nil))))) (gb_cons (gs_set (i := 6) sc_is_way.nd rfl (by first | exact Or.inl rfl | exact Or.inr rfl) (ge_var (pv 1))) (gb_cons (gs_set (i := 7) sc_is_way.nd rfl (by first | exact Or.inl rfl | exact Or.inr rfl) (ge_var (pv 2))) (gb_cons (gs_for PassesOwn.never rfl (gi_seq (ge_var (pv 3))) (gg_name (pg_name (i := 8) sc_is_way.nd rfl (by first | exact Or.inl rfl | exact Or.inr rfl))) (gb_cons (gs_if (gt_not (gt_val (ge_call G_is_number_below (hr.mono (by decide)) rfl T.m_is_number_below T.F_is_number_below.kp T.B_is_number_below pass0 (ga_cons (ge_callB (gc_len) rfl T.z_len (by decide +kernel) (ga_cons (ge_var (pv 5)) (ga_nil))) (ga_cons (ge_var (pv 8)) (ga_nil)))))) (gb_one (gs_ret (ge_bl))) (gb_nil)) (gb_cons (gs_set (i := 9) sc_is_way.nd rfl (by first | exact Or.inl rfl | exact Or.inr rfl) (ge_ix gi_ix (ge_var (pv 5)) (ge_var (pv 8)) (fun _ _ => rfl))) (gb_cons (gs_asg (ge_var (pv 9)) (gg_tup rfl (ggs_cons (gg_name (pg_name (i := 10) sc_is_way.nd rfl (by first | exact Or.inl rfl | exact Or.inr rfl))) (ggs_cons (gg_name (pg_name (i := 11) sc_is_way.nd rfl (by first | exact Or.inl rfl | exact Or.inr rfl))) (ggs_cons (gg_name (pg_name (i := 12) sc_is_way.nd rfl (by first | exact Or.inl rfl | exact Or.inr rfl))) (ggs_cons (gg_name (pg_name (i := 13) sc_is_way.nd rfl (by first | exact Or.inl rfl | exact Or.inr rfl))) (ggs_cons (gg_name (pg_name (i := 14) sc_is_way.nd rfl (by first | exact Or.inl rfl | exact Or.inr rfl))) (ggs_nil)))))))) (gb_cons (gs_set (i := 6) sc_is_way.nd rfl (by first | exact Or.inl rfl | exact Or.inr rfl) (ge_call G_led_to (hr.mono (by decide)) rfl T.m_led_to T.F_led_to.kp T.B_led_to pass0 (ga_cons (ge_var (pv 9)) (ga_cons (ge_var (pv 6)) (ga_nil))))) (gb_cons (gs_if (GW.gt (gw_or (gt_cmp go_is (ge_var (pv 6)) (ge_non) (nomark _)) (gw_or1 (gt_cmp go_lt (ge_var (pv 13)) (ge_var (pv 7)) (nomark _))))) (gb_one (gs_ret (ge_bl))) (gb_nil)) (gb_one (gs_set (i := 7) sc_is_way.nd rfl (by first | exact Or.inl rfl | exact Or.inr rfl) (ge_call G_end_of (hr.mono (by decide)) rfl T.m_end_of T.F_end_of.kp T.B_end_of pass0 (ga_cons (ge_var (pv 9)) (ga_nil))))))))))) (gb_one (gs_ret (ge_bl)))))))
def b__law_meeting (sp__law_draw : SpW) (sp__law_begin : SpW) (sp__law_far : SpW) : SS :=
  sSeq (sIf (wAnd (wTest (wOp oEq (wVar 1) (wC (.int 5)))) (wAnd (wTest (wOp oNe (wVar 3) (wLst (aNil)))) (wTest (wOp oEq (wCall sp__law_draw (aCons (wVar 0) (aCons (wC (.int 3)) (aNil)))) (wC (.int 0)))))) (sRet (wOp oIx (wVar 3) (wCall sp__law_draw (aCons (wVar 0) (aCons (wCall cLen (aCons (wVar 3) (aNil))) (aNil)))))) (sNext)) (sSeq (sSet 4 (wCall sp__law_draw (aCons (wVar 0) (aCons (wVar 2) (aNil))))) (sSeq (sIf (wAnd (wTest (wOp oEq (wVar 1) (wC (.int 2)))) (wTest (wOp oNe (wVar 3) (wLst (aNil))))) (sSet 4 (wOp oIx (wOp oIx (wVar 3) (wNeg (wC (.int 1)))) (wC (.int 2)))) (sNext)) (sSeq (sSet 5 (wOp oMod (wOp oAdd (wOp oAdd (wVar 4) (wC (.int 1))) (wCall sp__law_draw (aCons (wVar 0) (aCons (wOp oSub (wVar 2) (wC (.int 1))) (aNil))))) (wVar 2))) (sSeq (sSet 6 (wOp oIx (wLst (aCons (wC (.str "to")) (aCons (wC (.str "both")) (aNil)))) (wCall sp__law_draw (aCons (wVar 0) (aCons (wC (.int 2)) (aNil)))))) (sSeq (sSet 7 (wCall sp__law_begin (aCons (wVar 0) (aCons (wVar 1) (aCons (wVar 3) (aNil)))))) (sSeq (sSet 8 (wOp oAdd (wC (.int 1)) (wCall sp__law_draw (aCons (wVar 0) (aCons (wOp oIx (wLst (aCons (wC (.int 8)) (aCons (wC (.int 2)) (aNil)))) (wCall cInt (aCons (wOp oEq (wVar 1) (wC (.int 3))) (aNil)))) (aNil)))))) (sSeq (sIf (wTest (wOp oEq (wVar 1) (wC (.int 4)))) (sSeq (sSet 9 (wCall sp__law_draw (aCons (wVar 0) (aCons (wC (.int 3)) (aNil))))) (sSeq (sSet 7 (wOp oIx (wLst (aCons (wCall sp__law_far (aCons (wVar 0) (aCons (wOp oSub (wOp oPow (wC (.int 10)) (wC (.int 13))) (wC (.int 60))) (aNil)))) (aCons (wVar 7) (aCons (wCall sp__law_far (aCons (wVar 0) (aCons (wOp oMul (wC (.int 5)) (wOp oPow (wC (.int 10)) (wC (.int 12)))) (aNil)))) (aNil))))) (wVar 9))) (sSet 8 (wOp oIx (wLst (aCons (wVar 8) (aCons (wOp oAdd (wC (.int 1)) (wCall sp__law_far (aCons (wVar 0) (aCons (wOp oSub (wOp oPow (wC (.int 10)) (wC (.int 13))) (wC (.int 100))) (aNil))))) (aCons (wOp oAdd (wC (.int 1)) (wCall sp__law_far (aCons (wVar 0) (aCons (wOp oSub (wOp oMul (wC (.int 5)) (wOp oPow (wC (.int 10)) (wC (.int 12)))) (wC (.int 100))) (aNil))))) (aNil))))) (wVar 9))))) (sNext)) (sRet (wTup (aCons (wVar 6) (aCons (wVar 4) (aCons (wVar 5) (aCons (wVar 7) (aCons (wVar 8) (aNil)))))))))))))))
theorem ok__law_meeting {sp__law_draw : SpW} {sp__law_begin : SpW} {sp__law_far : SpW} (T : Tx K mg a) (G__law_draw : FnOk P w K mg base CX0 1 a.f__law_draw a.d__law_draw P__law_draw (rdSp K sp__law_draw)) (G__law_begin : FnOk P w K mg base CX0 2 a.f__law_begin a.d__law_begin P__law_begin (rdSp K sp__law_begin)) (G__law_far : FnOk P w K mg base CX0 2 a.f__law_far a.d__law_far P__law_far (rdSp K sp__law_far)) : FnOk P w K mg base CX0 3 a.f__law_meeting a.d__law_meeting P__law_meeting (rdSp K (spBody N__law_meeting 4 (b__law_meeting sp__law_draw sp__law_begin sp__law_far))) :=
  Fun.okW T.F__law_meeting sc__law_meeting fun cdv A outer s H E hr hcd =>
    gb_cons (gs_if (GW.gt (gw_and (gt_cmp (go_eq hr.units) (ge_var (pv 1)) (ge_int) (nomark _)) (gw_and (gt_cmp (go_ne hr.units) (ge_var (pv 3)) (ge_lst (ga_nil)) (nomark _)) (gw_and1 (gt_cmp (go_eq hr.units) (ge_call G__law_draw (hr.mono (by decide)) rfl T.m__law_draw T.F__law_draw.kp T.B__law_draw pass0 (ga_cons (ge_var (pv 0)) (ga_cons (ge_int) (ga_nil)))) (ge_int) (nomark _)))))) (gb_one (gs_ret (ge_ix gi_ix (ge_var (pv 3)) (ge_call G__law_draw (hr.mono (by decide)) rfl T.m__law_draw T.F__law_draw.kp T.B__law_draw pass0 (ga_cons (ge_var (pv 0)) (ga_cons (ge_callB (gc_len) rfl T.z_len (by decide +kernel) (ga_cons (ge_var (pv 3)) (ga_nil))) (ga_nil)))) (fun _ _ => rfl)))) (gb_nil)) (gb_cons (gs_set (i := 4) sc__law_meeting.nd rfl (by first | exact Or.inl rfl | exact Or.inr rfl) (ge_call G__law_draw (hr.mono (by decide)) rfl T.m__law_draw T.F__law_draw.kp T.B__law_draw pass0 (ga_cons (ge_var (pv 0)) (ga_cons (ge_var (pv 2)) (ga_nil))))) (gb_cons (gs_if (GW.gt (gw_and (gt_cmp (go_eq hr.units) (ge_var (pv 1)) (ge_int) (nomark _)) (gw_and1 (gt_cmp (go_ne hr.units) (ge_var (pv 3)) (ge_lst (ga_nil)) (nomark _))))) (gb_one (gs_set (i := 4) sc__law_meeting.nd rfl (by first | exact Or.inl rfl | exact Or.inr rfl) (ge_ix gi_ix (ge_ix gi_ix (ge_var (pv 3)) (ge_neg (ge_int)) (fun _ _ => rfl)) (ge_int) (fun _ _ => rfl)))) (gb_nil)) (gb_cons (gs_set (i := 5) sc__law_meeting.nd rfl (by first | exact Or.inl rfl | exact Or.inr rfl) (ge_op go_mod (ge_op go_add (ge_op go_add (ge_var (pv 4)) (ge_int)) (ge_call G__law_draw (hr.mono (by decide)) rfl T.m__law_draw T.F__law_draw.kp T.B__law_draw pass0 (ga_cons (ge_var (pv 0)) (ga_cons (ge_op go_sub (ge_var (pv 2)) (ge_int)) (ga_nil))))) (ge_var (pv 2)))) (gb_cons (gs_set (i := 6) sc__law_meeting.nd rfl (by first | exact Or.inl rfl | exact Or.inr rfl) (ge_ix gi_ix (ge_lst (ga_cons (ge_str) (ga_cons (ge_str) (ga_nil)))) (ge_call G__law_draw (hr.mono (by decide)) rfl T.m__law_draw T.F__law_draw.kp T.B__law_draw pass0 (ga_cons (ge_var (pv 0)) (ga_cons (ge_int) (ga_nil)))) (fun _ _ => rfl))) (gb_cons (gs_set (i := 7) sc__law_meeting.nd rfl (by first | exact Or.inl rfl | exact Or.inr rfl) (ge_call G__law_begin (hr.mono (by decide)) rfl T.m__law_begin T.F__law_begin.kp T.B__law_begin pass0 (ga_cons (ge_var (pv 0)) (ga_cons (ge_var (pv 1)) (ga_cons (ge_var (pv 3)) (ga_nil)))))) (gb_cons (gs_set (i := 8) sc__law_meeting.nd rfl (by first | exact Or.inl rfl | exact Or.inr rfl) (ge_op go_add (ge_int) (ge_call G__law_draw (hr.mono (by decide)) rfl T.m__law_draw T.F__law_draw.kp T.B__law_draw pass0 (ga_cons (ge_var (pv 0)) (ga_cons (ge_ix gi_ix (ge_lst (ga_cons (ge_int) (ga_cons (ge_int) (ga_nil)))) (ge_callTy gc_int rfl T.z_int (by decide +kernel) (ga_cons (ge_cmp (go_eq hr.units) (ge_var (pv 1)) (ge_int) (nomark _)) (ga_nil))) (fun _ _ => rfl)) (ga_nil)))))) (gb_cons (gs_if (gt_cmp (go_eq hr.units) (ge_var (pv 1)) (ge_int) (nomark _)) (gb_cons (gs_set (i := 9) sc__law_meeting.nd rfl (by first | exact Or.inl rfl | exact Or.inr rfl) (ge_call G__law_draw (hr.mono (by decide)) rfl T.m__law_draw T.F__law_draw.kp T.B__law_draw pass0 (ga_cons (ge_var (pv 0)) (ga_cons (ge_int) (ga_nil))))) (gb_cons (gs_set (i := 7) sc__law_meeting.nd rfl (by first | exact Or.inl rfl | exact Or.inr rfl) (ge_ix gi_ix (ge_lst (ga_cons (ge_call G__law_far (hr.mono (by decide)) rfl T.m__law_far T.F__law_far.kp T.B__law_far pass0 (ga_cons (ge_var (pv 0)) (ga_cons (ge_op go_sub (ge_op go_pow (ge_int) (ge_int)) (ge_int)) (ga_nil)))) (ga_cons (ge_var (pv 7)) (ga_cons (ge_call G__law_far (hr.mono (by decide)) rfl T.m__law_far T.F__law_far.kp T.B__law_far pass0 (ga_cons (ge_var (pv 0)) (ga_cons (ge_op go_mul (ge_int) (ge_op go_pow (ge_int) (ge_int))) (ga_nil)))) (ga_nil))))) (ge_var (pv 9)) (fun _ _ => rfl))) (gb_one (gs_set (i := 8) sc__law_meeting.nd rfl (by first | exact Or.inl rfl | exact Or.inr rfl) (ge_ix gi_ix (ge_lst (ga_cons (ge_var (pv 8)) (ga_cons (ge_op go_add (ge_int) (ge_call G__law_far (hr.mono (by decide)) rfl T.m__law_far T.F__law_far.kp T.B__law_far pass0 (ga_cons (ge_var (pv 0)) (ga_cons (ge_op go_sub (ge_op go_pow (ge_int) (ge_int)) (ge_int)) (ga_nil))))) (ga_cons (ge_op go_add (ge_int) (ge_call G__law_far (hr.mono (by decide)) rfl T.m__law_far T.F__law_far.kp T.B__law_far pass0 (ga_cons (ge_var (pv 0)) (ga_cons (ge_op go_sub (ge_op go_mul (ge_int) (ge_op go_pow (ge_int) (ge_int))) (ge_int)) (ga_nil))))) (ga_nil))))) (ge_var (pv 9)) (fun _ _ => rfl)))))) (gb_nil)) (gb_one (gs_ret (ge_tup (ga_cons (ge_var (pv 6)) (ga_cons (ge_var (pv 4)) (ga_cons (ge_var (pv 5)) (ga_cons (ge_var (pv 7)) (ga_cons (ge_var (pv 8)) (ga_nil))))))))))))))))
def b__law_net (sp__law_draw : SpW) (sp__law_meeting : SpW) : SS :=
  sSeq (sSet 2 (wOp oIx (wLst (aCons (wC (.int 0)) (aCons (wC (.int 1)) (aCons (wC (.int 2)) (aCons (wC (.int 3)) (aCons (wC (.int 4)) (aCons (wC (.int 5)) (aCons (wC (.int 1)) (aCons (wC (.int 2)) (aNil)))))))))) (wCall sp__law_draw (aCons (wVar 0) (aCons (wC (.int 8)) (aNil)))))) (sSeq (sSet 3 (wCall cInt (aCons (wOp oEq (wCall sp__law_draw (aCons (wVar 0) (aCons (wC (.int 8)) (aNil)))) (wC (.int 5))) (aNil)))) (sSeq (sSet 4 (wOp oIx (wLst (aCons (wOp oAdd (wVar 1) (wCall sp__law_draw (aCons (wVar 0) (aCons (wOp oSub (wC (.int 7)) (wVar 1)) (aNil))))) (aCons (wC (.int 10)) (aNil)))) (wVar 3))) (sSeq (sSet 5 (wOp oIx (wLst (aCons (wCall sp__law_draw (aCons (wVar 0) (aCons (wC (.int 13)) (aNil)))) (aCons (wOp oSub (wC (.int 40)) (wCall sp__law_draw (aCons (wVar 0) (aCons (wC (.int 9)) (aNil))))) (aNil)))) (wVar 3))) (sSeq (sSet 6 (wNew (aNil))) (sSeq (sFor (iRng (aCons (wOp oMul (wVar 5) (wCall cInt (aCons (wOp oGt (wVar 4) (wC (.int 1))) (aNil)))) (aNil))) (nName 7) (sDrop (wApp (wVar 6) (wCall sp__law_meeting (aCons (wVar 0) (aCons (wVar 2) (aCons (wVar 4) (aCons (wVar 6) (aNil))))))))) (sRet (wTup (aCons (wVar 4) (aCons (wCall cTuple (aCons (wVar 6) (aNil))) (aNil))))))))))
theorem ok__law_net {sp__law_draw : SpW} {sp__law_meeting : SpW} (T : Tx K mg a) (G__law_draw : FnOk P w K mg base CX0 1 a.f__law_draw a.d__law_draw P__law_draw (rdSp K sp__law_draw)) (G__law_meeting : FnOk P w K mg base CX0 3 a.f__law_meeting a.d__law_meeting P__law_meeting (rdSp K sp__law_meeting)) : FnOk P w K mg base CX0 4 a.f__law_net a.d__law_net P__law_net (rdSp K (spBody N__law_net 2 (b__law_net sp__law_draw sp__law_meeting))) :=
  Fun.okW T.F__law_net sc__law_net fun cdv A outer s H E hr hcd =>
    gb_cons (gs_set (i := 2) sc__law_net.nd rfl (by first | exact Or.inl rfl | exact Or.inr rfl) (ge_ix gi_ix (ge_lst (ga_cons (ge_int) (ga_cons (ge_int) (ga_cons (ge_int) (ga_cons (ge_int) (ga_cons (ge_int) (ga_cons (ge_int) (ga_cons (ge_int) (ga_cons (ge_int) (ga_nil)))))))))) (ge_call G__law_draw (hr.mono (by decide)) rfl T.m__law_draw T.F__law_draw.kp T.B__law_draw pass0 (ga_cons (ge_var (pv 0)) (ga_cons (ge_int) (ga_nil)))) (fun _ _ => rfl))) (gb_cons (gs_set (i := 3) sc__law_net.nd rfl (by first | exact Or.inl rfl | exact Or.inr rfl) (ge_callTy gc_int rfl T.z_int (by decide +kernel) (ga_cons (ge_cmp (go_eq hr.units) (ge_call G__law_draw (hr.mono (by decide)) rfl T.m__law_draw T.F__law_draw.kp T.B__law_draw pass0 (ga_cons (ge_var (pv 0)) (ga_cons (ge_int) (ga_nil)))) (ge_int) (nomark _)) (ga_nil)))) (gb_cons (gs_set (i := 4) sc__law_net.nd rfl (by first | exact Or.inl rfl | exact Or.inr rfl) (ge_ix gi_ix (ge_lst (ga_cons (ge_op go_add (ge_var (pv 1)) (ge_call G__law_draw (hr.mono (by decide)) rfl T.m__law_draw T.F__law_draw.kp T.B__law_draw pass0 (ga_cons (ge_var (pv 0)) (ga_cons (ge_op go_sub (ge_int) (ge_var (pv 1))) (ga_nil))))) (ga_cons (ge_int) (ga_nil)))) (ge_var (pv 3)) (fun _ _ => rfl))) (gb_cons (gs_set (i := 5) sc__law_net.nd rfl (by first | exact Or.inl rfl | exact Or.inr rfl) (ge_ix gi_ix (ge_lst (ga_cons (ge_call G__law_draw (hr.mono (by decide)) rfl T.m__law_draw T.F__law_draw.kp T.B__law_draw pass0 (ga_cons (ge_var (pv 0)) (ga_cons (ge_int) (ga_nil)))) (ga_cons (ge_op go_sub (ge_int) (ge_call G__law_draw (hr.mono (by decide)) rfl T.m__law_draw T.F__law_draw.kp T.B__law_draw pass0 (ga_cons (ge_var (pv 0)) (ga_cons (ge_int) (ga_nil))))) (ga_nil)))) (ge_var (pv 3)) (fun _ _ => rfl))) (gb_cons (gs_set (i := 6) sc__law_net.nd rfl (by first | exact Or.inl rfl | exact Or.inr rfl) (ge_new (ga_nil))) (gb_cons (gs_for PassesOwn.never rfl (gi_rng rfl T.z_range (ga_cons (ge_op go_mul (ge_var (pv 5)) (ge_callTy gc_int rfl T.z_int (by decide +kernel) (ga_cons (ge_cmp go_gt (ge_var (pv 4)) (ge_int) (nomark _)) (ga_nil)))) (ga_nil))) (gg_name (pg_name (i := 7) sc__law_net.nd rfl (by first | exact Or.inl rfl | exact Or.inr rfl))) (gb_one (gs_expr (ge_app (ge_var (pv 6)) (ge_call G__law_meeting (hr.mono (by decide)) rfl T.m__law_meeting T.F__law_meeting.kp T.B__law_meeting pass0 (ga_cons (ge_var (pv 0)) (ga_cons (ge_var (pv 2)) (ga_cons (ge_var (pv 4)) (ga_cons (ge_var (pv 6)) (ga_nil)))))))))) (gb_one (gs_ret (ge_tup (ga_cons (ge_var (pv 4)) (ga_cons (ge_callTy gc_tuple rfl T.z_tuple (by decide +kernel) (ga_cons (ge_var (pv 6)) (ga_nil))) (ga_nil)))))))))))
def b__law_right (sp__law_all : SpW) (sp_is_way : SpW) (sp_comes_at : SpW) (sp_places_on : SpW) : SS :=
  sSeq (sSet 4 (wCall sp__law_all (aCons (wVar 0) (aCons (wVar 1) (aCons (wVar 2) (aNil)))))) (sSeq (sSet 5 (wC (.int 0))) (sSeq (sFor (iSeq (wVar 3)) (nName 6) (sSeq (sSet 7 (wCall sp_is_way (aCons (wVar 0) (aCons (wVar 1) (aCons (wVar 2) (aCons (wVar 6) (aNil))))))) (sSeq (sIf (wOr (wNot (wTest (wCall cIsi (aCons (wVar 7) (aCons (wTy "bool") (aNil)))))) (wTest (wOp oNe (wVar 7) (wOp oInT (wVar 6) (wVar 4))))) (sRet (wC (.bool false))) (sNext)) (sIf (wTest (wVar 7)) (sSeq (sSet 5 (wOp oAdd (wVar 5) (wC (.int 1)))) (sIf (wTest (wOp oNe (wTup (aCons (wOp oIx (wCall sp_places_on (aCons (wVar 0) (aCons (wVar 1) (aCons (wVar 6) (aNil))))) (wNeg (wC (.int 1)))) (aCons (wCall sp_comes_at (aCons (wVar 0) (aCons (wVar 2) (aCons (wVar 6) (aNil))))) (aNil)))) (wTGetW (wVar 4) (wVar 6)))) (sRet (wC (.bool false))) (sNext))) (sNext))))) (sRet (wOp oEq (wVar 5) (wCall cLenT (aCons (wVar 4) (aNil)))))))
theorem ok__law_right {sp__law_all : SpW} {sp_is_way : SpW} {sp_comes_at : SpW} {sp_places_on : SpW} (T : Tx K mg a) (G__law_all : FnOk P w K mg base CX0 2 a.f__law_all a.d__law_all P__law_all (rdSp K sp__law_all)) (G_is_way : FnOk P w K mg base CX0 3 a.f_is_way a.d_is_way P_is_way (rdSp K sp_is_way)) (G_comes_at : FnOk P w K mg base CX0 2 a.f_comes_at a.d_comes_at P_comes_at (rdSp K sp_comes_at)) (G_places_on : FnOk P w K mg base CX0 2 a.f_places_on a.d_places_on P_places_on (rdSp K sp_places_on)) : FnOk P w K mg base CX0 4 a.f__law_right a.d__law_right P__law_right (rdSp K (spBody N__law_right 4 (b__law_right sp__law_all sp_is_way sp_comes_at sp_places_on))) :=
  Fun.okW T.F__law_right sc__law_right fun cdv A outer s H E hr hcd =>
    gb_cons (gs_set (i := 4) sc__law_right.nd rfl (by first | exact Or.inl rfl | exact Or.inr rfl) (ge_call G__law_all (hr.mono (by decide)) rfl T.m__law_all T.F__law_all.kp T.B__law_all pass0 (ga_cons (ge_var (pv 0)) (ga_cons (ge_var (pv 1)) (ga_cons (ge_var (pv 2)) (ga_nil)))))) (gb_cons (gs_set (i := 5) sc__law_right.nd rfl (by first | exact Or.inl rfl | exact Or.inr rfl) (ge_int)) (gb_cons (gs_for PassesOwn.never rfl (gi_seq (ge_var (pv 3))) (gg_name (pg_name (i := 6) sc__law_right.nd rfl (by first | exact Or.inl rfl | exact Or.inr rfl))) (gb_cons (gs_set (i := 7) sc__law_right.nd rfl (by first | exact Or.inl rfl | exact Or.inr rfl) (ge_call G_is_way (hr.mono (by decide)) rfl T.m_is_way T.F_is_way.kp T.B_is_way pass0 (ga_cons (ge_var (pv 0)) (ga_cons (ge_var (pv 1)) (ga_cons (ge_var (pv 2)) (ga_cons (ge_var (pv 6)) (ga_nil))))))) (gb_cons (gs_if (GW.gt (gw_or (gt_not (gt_val (ge_callB (gc_isi) rfl T.z_isinstance (by decide +kernel) (ga_cons (ge_var (pv 7)) (ga_cons (ge_ty rfl T.z_bool (by decide +kernel)) (ga_nil)))))) (gw_or1 (gt_cmp (go_ne hr.units) (ge_var (pv 7)) (ge_cmp (go_inT hr.units) (ge_var (pv 6)) (ge_var (pv 4)) (by with_unfolding_all rfl)) (nomark _))))) (gb_one (gs_ret (ge_bl))) (gb_nil)) (gb_one (gs_if (gt_val (ge_var (pv 7))) (gb_cons (gs_set (i := 5) sc__law_right.nd rfl (by first | exact Or.inl rfl | exact Or.inr rfl) (ge_op go_add (ge_var (pv 5)) (ge_int))) (gb_one (gs_if (gt_cmp (go_ne hr.units) (ge_tup (ga_cons (ge_ix gi_ix (ge_call G_places_on (hr.mono (by decide)) rfl T.m_places_on T.F_places_on.kp T.B_places_on pass0 (ga_cons (ge_var (pv 0)) (ga_cons (ge_var (pv 1)) (ga_cons (ge_var (pv 6)) (ga_nil))))) (ge_neg (ge_int)) (fun _ _ => rfl)) (ga_cons (ge_call G_comes_at (hr.mono (by decide)) rfl T.m_comes_at T.F_comes_at.kp T.B_comes_at pass0 (ga_cons (ge_var (pv 0)) (ga_cons (ge_var (pv 2)) (ga_cons (ge_var (pv 6)) (ga_nil))))) (ga_nil)))) (ge_tgetW hr.units (ge_var (pv 4)) (ge_var (pv 6)) (fun _ _ => rfl)) (nomark _)) (gb_one (gs_ret (ge_bl))) (gb_nil)))) (gb_nil)))))) (gb_one (gs_ret (ge_cmp (go_eq hr.units) (ge_var (pv 5)) (ge_callB (gc_lenT) rfl T.z_len (by decide +kernel) (ga_cons (ge_var (pv 4)) (ga_nil))) (nomark _))))))
def b_law (sp__law_deck : SpW) (sp__law_small : SpW) (sp__law_rows : SpW) (sp__law_net : SpW) (sp__law_right : SpW) (sp__law_moment : SpW) : SS :=
  sSeq (sFor (iRng (aCons (wCall cMax (aCons (wC (.int 1)) (aCons (wCall cMin (aCons (wCall cLen (aCons (wVar 0) (aNil))) (aCons (wC (.int 2)) (aNil)))) (aNil)))) (aNil))) (nName 1) (sSeq (sSet 2 (wCall sp__law_deck (aCons (wVar 0) (aCons (wVar 1) (aNil))))) (sSeq (sSet 3 (wCall sp__law_small (aCons (wCall sp__law_net (aCons (wVar 2) (aCons (wC (.int 2)) (aNil)))) (aNil)))) (sSeq (sSet 4 (wCall sp__law_rows (aCons (wCall cLen (aCons (wOp oIx (wVar 3) (wC (.int 1))) (aNil))) (aNil)))) (sSeq (sSet 5 (wSortSet (wOp oAdd (wLst (aCons (wC (.int 0)) (aCons (wCall sp__law_moment (aCons (wVar 2) (aCons (wVar 3) (aNil)))) (aNil)))) (wLc (iSeq (wSl oSl (wOp oIx (wVar 3) (wC (.int 1))) (wNoP) (wP (wC (.int 1))))) (.nm 8) (wYes) (wOp oIx (wVar 8) (wC (.int 3))) [8])))) (sFor (iRng (aCons (wOp oIx (wVar 3) (wC (.int 0))) (aNil))) (nName 6) (sFor (iSeq (wVar 5)) (nName 7) (sIf (wNot (wTest (wCall sp__law_right (aCons (wVar 3) (aCons (wVar 6) (aCons (wVar 7) (aCons (wVar 4) (aNil)))))))) (sRet (wC (.bool false))) (sNext))))))))) (sRet (wC (.bool true)))
theorem ok_law {sp__law_deck : SpW} {sp__law_small : SpW} {sp__law_rows : SpW} {sp__law_net : SpW} {sp__law_right : SpW} {sp__law_moment : SpW} (T : Tx K mg a) (G__law_deck : FnOk P w K mg base CX0 1 a.f__law_deck a.d__law_deck P__law_deck (rdSp K sp__law_deck)) (G__law_small : FnOk P w K mg base CX0 1 a.f__law_small a.d__law_small P__law_small (rdSp K sp__law_small)) (G__law_rows : FnOk P w K mg base CX0 1 a.f__law_rows a.d__law_rows P__law_rows (rdSp K sp__law_rows)) (G__law_net : FnOk P w K mg base CX0 4 a.f__law_net a.d__law_net P__law_net (rdSp K sp__law_net)) (G__law_right : FnOk P w K mg base CX0 4 a.f__law_right a.d__law_right P__law_right (rdSp K sp__law_right)) (G__law_moment : FnOk P w K mg base CX0 2 a.f__law_moment a.d__law_moment P__law_moment (rdSp K sp__law_moment)) : FnOk P w K mg base CX0 5 a.f_law a.d_law P_law (rdSp K (spBody N_law 1 (b_law sp__law_deck sp__law_small sp__law_rows sp__law_net sp__law_right sp__law_moment))) :=
  Fun.okW T.F_law sc_law fun cdv A outer s H E hr hcd =>
    gb_cons (gs_for PassesOwn.never rfl (gi_rng rfl T.z_range (ga_cons (ge_callB (gc_max rfl) rfl T.z_max (by decide +kernel) (ga_cons (ge_int) (ga_cons (ge_callB (gc_min rfl) rfl T.z_min (by decide +kernel) (ga_cons (ge_callB (gc_len) rfl T.z_len (by decide +kernel) (ga_cons (ge_var (pv 0)) (ga_nil))) (ga_cons (ge_int) (ga_nil)))) (ga_nil)))) (ga_nil))) (gg_name (pg_name (i := 1) sc_law.nd rfl (by first | exact Or.inl rfl | exact Or.inr rfl))) (gb_cons (gs_set (i := 2) sc_law.nd rfl (by first | exact Or.inl rfl | exact Or.inr rfl) (ge_call G__law_deck (hr.mono (by decide)) rfl T.m__law_deck T.F__law_deck.kp T.B__law_deck pass0 (ga_cons (ge_var (pv 0)) (ga_cons (ge_var (pv 1)) (ga_nil))))) (gb_cons (gs_set (i := 3) sc_law.nd rfl (by first | exact Or.inl rfl | exact Or.inr rfl) (ge_call G__law_small (hr.mono (by decide)) rfl T.m__law_small T.F__law_small.kp T.B__law_small pass0 (ga_cons (ge_call G__law_net (hr.mono (by decide)) rfl T.m__law_net T.F__law_net.kp T.B__law_net pass0 (ga_cons (ge_var (pv 2)) (ga_cons (ge_int) (ga_nil)))) (ga_nil)))) (gb_cons (gs_set (i := 4) sc_law.nd rfl (by first | exact Or.inl rfl | exact Or.inr rfl) (ge_call G__law_rows (hr.mono (by decide)) rfl T.m__law_rows T.F__law_rows.kp T.B__law_rows pass0 (ga_cons (ge_callB (gc_len) rfl T.z_len (by decide +kernel) (ga_cons (ge_ix gi_ix (ge_var (pv 3)) (ge_int) (fun _ _ => rfl)) (ga_nil))) (ga_nil)))) (gb_cons (gs_set (i := 5) sc_law.nd rfl (by first | exact Or.inl rfl | exact Or.inr rfl) (ge_sortSet rfl rfl T.z_sorted rfl T.z_set (ge_op go_add (ge_lst (ga_cons (ge_int) (ga_cons (ge_call G__law_moment (hr.mono (by decide)) rfl T.m__law_moment T.F__law_moment.kp T.B__law_moment pass0 (ga_cons (ge_var (pv 2)) (ga_cons (ge_var (pv 3)) (ga_nil)))) (ga_nil)))) (ge_lc (own := [("_law_meeting_here", 8)]) (t := .nm 8) rfl sc_law.nd (gi_seq (ge_sl gl_sl (ge_ix gi_ix (ge_var (pv 3)) (ge_int) (fun _ _ => rfl)) (gp_none) (gp_some (ge_int)))) (blkOk_by (own := [("_law_meeting_here", 8)]) (N := N_law) (sc := defScope s_law) (by decide +kernel)) (fun _ _ _ _ _ => pg_name (i := 8) sc_law.nd rfl (Or.inl rfl)) (fun _ _ _ _ _ => gts_nil) (fun _ _ _ _ _ => ge_ix gi_ix (ge_var (pv 8)) (ge_int) (fun _ _ => rfl)) (by decide))))) (gb_one (gs_for PassesOwn.never rfl (gi_rng rfl T.z_range (ga_cons (ge_ix gi_ix (ge_var (pv 3)) (ge_int) (fun _ _ => rfl)) (ga_nil))) (gg_name (pg_name (i := 6) sc_law.nd rfl (by first | exact Or.inl rfl | exact Or.inr rfl))) (gb_one (gs_for PassesOwn.never rfl (gi_seq (ge_var (pv 5))) (gg_name (pg_name (i := 7) sc_law.nd rfl (by first | exact Or.inl rfl | exact Or.inr rfl))) (gb_one (gs_if (gt_not (gt_val (ge_call G__law_right (hr.mono (by decide)) rfl T.m__law_right T.F__law_right.kp T.B__law_right pass0 (ga_cons (ge_var (pv 3)) (ga_cons (ge_var (pv 6)) (ga_cons (ge_var (pv 7)) (ga_cons (ge_var (pv 4)) (ga_nil)))))))) (gb_one (gs_ret (ge_bl))) (gb_nil)))))))))))) (gb_one (gs_ret (ge_bl)))
end
theorem tx_mk {K : PySem.W.Frag} {h : Heap} {mg : Str → Option Value} {f0 : Addr} {od0 an0 : Option Addr} {sl0 : Array (Option Value)} {oc0 kV0 dc0 pm0 cd0 ct0 : Value} {f1 : Addr} {od1 an1 : Option Addr} {sl1 : Array (Option Value)} {oc1 kV1 dc1 pm1 cd1 ct1 : Value} {f2 : Addr} {od2 an2 : Option Addr} {sl2 : Array (Option Value)} {oc2 kV2 dc2 pm2 cd2 ct2 : Value} {f3 : Addr} {od3 an3 : Option Addr} {sl3 : Array (Option Value)} {oc3 kV3 dc3 pm3 cd3 ct3 : Value} {f4 : Addr} {od4 an4 : Option Addr} {sl4 : Array (Option Value)} {oc4 kV4 dc4 pm4 cd4 ct4 : Value} {f5 : Addr} {od5 an5 : Option Addr} {sl5 : Array (Option Value)} {oc5 kV5 dc5 pm5 cd5 ct5 : Value} {f6 : Addr} {od6 an6 : Option Addr} {sl6 : Array (Option Value)} {oc6 kV6 dc6 pm6 cd6 ct6 : Value} {f7 : Addr} {od7 an7 : Option Addr} {sl7 : Array (Option Value)} {oc7 kV7 dc7 pm7 cd7 ct7 : Value} {f8 : Addr} {od8 an8 : Option Addr} {sl8 : Array (Option Value)} {oc8 kV8 dc8 pm8 cd8 ct8 : Value} {f9 : Addr} {od9 an9 : Option Addr} {sl9 : Array (Option Value)} {oc9 kV9 dc9 pm9 cd9 ct9 : Value} {f10 : Addr} {od10 an10 : Option Addr} {sl10 : Array (Option Value)} {oc10 kV10 dc10 pm10 cd10 ct10 : Value} {f11 : Addr} {od11 an11 : Option Addr} {sl11 : Array (Option Value)} {oc11 kV11 dc11 pm11 cd11 ct11 : Value} {f12 : Addr} {od12 an12 : Option Addr} {sl12 : Array (Option Value)} {oc12 kV12 dc12 pm12 cd12 ct12 : Value} {f13 : Addr} {od13 an13 : Option Addr} {sl13 : Array (Option Value)} {oc13 kV13 dc13 pm13 cd13 ct13 : Value} {f14 : Addr} {od14 an14 : Option Addr} {sl14 : Array (Option Value)} {oc14 kV14 dc14 pm14 cd14 ct14 : Value} {f15 : Addr} {od15 an15 : Option Addr} {sl15 : Array (Option Value)} {oc15 kV15 dc15 pm15 cd15 ct15 : Value} {f16 : Addr} {od16 an16 : Option Addr} {sl16 : Array (Option Value)} {oc16 kV16 dc16 pm16 cd16 ct16 : Value} {f17 : Addr} {od17 an17 : Option Addr} {sl17 : Array (Option Value)} {oc17 kV17 dc17 pm17 cd17 ct17 : Value} {f18 : Addr} {od18 an18 : Option Addr} {sl18 : Array (Option Value)} {oc18 kV18 dc18 pm18 cd18 ct18 : Value} {f19 : Addr} {od19 an19 : Option Addr} {sl19 : Array (Option Value)} {oc19 kV19 dc19 pm19 cd19 ct19 : Value} (X : K.In h) (G : h.Ns mainGlobals mg)
    (a0 : PySem.W.nsIn K mainGlobals "is_whole" = some (some (.ref f0)))
    (l0 : K.lookup f0 = some ⟨oc0, od0, .func (PySem.W.fnOf "is_whole" "is_whole" (defArgs s_is_whole) (defBody s_is_whole) (defScope s_is_whole) .none kV0 dc0 pm0 an0 cd0 ct0), sl0⟩)
    (c0 : PySem.W.codeIn K cd0 "is_whole" = true) (k0 : PySem.W.keepIn K (.ref f0) = true)
    (a1 : PySem.W.nsIn K mainGlobals "end_of" = some (some (.ref f1)))
    (l1 : K.lookup f1 = some ⟨oc1, od1, .func (PySem.W.fnOf "end_of" "end_of" (defArgs s_end_of) (defBody s_end_of) (defScope s_end_of) .none kV1 dc1 pm1 an1 cd1 ct1), sl1⟩)
    (c1 : PySem.W.codeIn K cd1 "end_of" = true) (k1 : PySem.W.keepIn K (.ref f1) = true)
    (a2 : PySem.W.nsIn K mainGlobals "led_to" = some (some (.ref f2)))
    (l2 : K.lookup f2 = some ⟨oc2, od2, .func (PySem.W.fnOf "led_to" "led_to" (defArgs s_led_to) (defBody s_led_to) (defScope s_led_to) .none kV2 dc2 pm2 an2 cd2 ct2), sl2⟩)
    (c2 : PySem.W.codeIn K cd2 "led_to" = true) (k2 : PySem.W.keepIn K (.ref f2) = true)
    (a3 : PySem.W.nsIn K mainGlobals "_law_deck" = some (some (.ref f3)))
    (l3 : K.lookup f3 = some ⟨oc3, od3, .func (PySem.W.fnOf "_law_deck" "_law_deck" (defArgs s__law_deck) (defBody s__law_deck) (defScope s__law_deck) .none kV3 dc3 pm3 an3 cd3 ct3), sl3⟩)
    (c3 : PySem.W.codeIn K cd3 "_law_deck" = true) (k3 : PySem.W.keepIn K (.ref f3) = true)
    (a4 : PySem.W.nsIn K mainGlobals "_law_draw" = some (some (.ref f4)))
    (l4 : K.lookup f4 = some ⟨oc4, od4, .func (PySem.W.fnOf "_law_draw" "_law_draw" (defArgs s__law_draw) (defBody s__law_draw) (defScope s__law_draw) .none kV4 dc4 pm4 an4 cd4 ct4), sl4⟩)
    (c4 : PySem.W.codeIn K cd4 "_law_draw" = true) (k4 : PySem.W.keepIn K (.ref f4) = true)
    (a5 : PySem.W.nsIn K mainGlobals "_law_step" = some (some (.ref f5)))
    (l5 : K.lookup f5 = some ⟨oc5, od5, .func (PySem.W.fnOf "_law_step" "_law_step" (defArgs s__law_step) (defBody s__law_step) (defScope s__law_step) .none kV5 dc5 pm5 an5 cd5 ct5), sl5⟩)
    (c5 : PySem.W.codeIn K cd5 "_law_step" = true) (k5 : PySem.W.keepIn K (.ref f5) = true)
    (a6 : PySem.W.nsIn K mainGlobals "_law_small" = some (some (.ref f6)))
    (l6 : K.lookup f6 = some ⟨oc6, od6, .func (PySem.W.fnOf "_law_small" "_law_small" (defArgs s__law_small) (defBody s__law_small) (defScope s__law_small) .none kV6 dc6 pm6 an6 cd6 ct6), sl6⟩)
    (c6 : PySem.W.codeIn K cd6 "_law_small" = true) (k6 : PySem.W.keepIn K (.ref f6) = true)
    (a7 : PySem.W.nsIn K mainGlobals "_law_rows" = some (some (.ref f7)))
    (l7 : K.lookup f7 = some ⟨oc7, od7, .func (PySem.W.fnOf "_law_rows" "_law_rows" (defArgs s__law_rows) (defBody s__law_rows) (defScope s__law_rows) .none kV7 dc7 pm7 an7 cd7 ct7), sl7⟩)
    (c7 : PySem.W.codeIn K cd7 "_law_rows" = true) (k7 : PySem.W.keepIn K (.ref f7) = true)
    (a8 : PySem.W.nsIn K mainGlobals "is_number_below" = some (some (.ref f8)))
    (l8 : K.lookup f8 = some ⟨oc8, od8, .func (PySem.W.fnOf "is_number_below" "is_number_below" (defArgs s_is_number_below) (defBody s_is_number_below) (defScope s_is_number_below) .none kV8 dc8 pm8 an8 cd8 ct8), sl8⟩)
    (c8 : PySem.W.codeIn K cd8 "is_number_below" = true) (k8 : PySem.W.keepIn K (.ref f8) = true)
    (a9 : PySem.W.nsIn K mainGlobals "places_on" = some (some (.ref f9)))
    (l9 : K.lookup f9 = some ⟨oc9, od9, .func (PySem.W.fnOf "places_on" "places_on" (defArgs s_places_on) (defBody s_places_on) (defScope s_places_on) .none kV9 dc9 pm9 an9 cd9 ct9), sl9⟩)
    (c9 : PySem.W.codeIn K cd9 "places_on" = true) (k9 : PySem.W.keepIn K (.ref f9) = true)
    (a10 : PySem.W.nsIn K mainGlobals "comes_at" = some (some (.ref f10)))
    (l10 : K.lookup f10 = some ⟨oc10, od10, .func (PySem.W.fnOf "comes_at" "comes_at" (defArgs s_comes_at) (defBody s_comes_at) (defScope s_comes_at) .none kV10 dc10 pm10 an10 cd10 ct10), sl10⟩)
    (c10 : PySem.W.codeIn K cd10 "comes_at" = true) (k10 : PySem.W.keepIn K (.ref f10) = true)
    (a11 : PySem.W.nsIn K mainGlobals "_law_far" = some (some (.ref f11)))
    (l11 : K.lookup f11 = some ⟨oc11, od11, .func (PySem.W.fnOf "_law_far" "_law_far" (defArgs s__law_far) (defBody s__law_far) (defScope s__law_far) .none kV11 dc11 pm11 an11 cd11 ct11), sl11⟩)
    (c11 : PySem.W.codeIn K cd11 "_law_far" = true) (k11 : PySem.W.keepIn K (.ref f11) = true)
    (a12 : PySem.W.nsIn K mainGlobals "_law_begin" = some (some (.ref f12)))
    (l12 : K.lookup f12 = some ⟨oc12, od12, .func (PySem.W.fnOf "_law_begin" "_law_begin" (defArgs s__law_begin) (defBody s__law_begin) (defScope s__law_begin) .none kV12 dc12 pm12 an12 cd12 ct12), sl12⟩)
    (c12 : PySem.W.codeIn K cd12 "_law_begin" = true) (k12 : PySem.W.keepIn K (.ref f12) = true)
    (a13 : PySem.W.nsIn K mainGlobals "_law_moment" = some (some (.ref f13)))
    (l13 : K.lookup f13 = some ⟨oc13, od13, .func (PySem.W.fnOf "_law_moment" "_law_moment" (defArgs s__law_moment) (defBody s__law_moment) (defScope s__law_moment) .none kV13 dc13 pm13 an13 cd13 ct13), sl13⟩)
    (c13 : PySem.W.codeIn K cd13 "_law_moment" = true) (k13 : PySem.W.keepIn K (.ref f13) = true)
    (a14 : PySem.W.nsIn K mainGlobals "_law_all" = some (some (.ref f14)))
    (l14 : K.lookup f14 = some ⟨oc14, od14, .func (PySem.W.fnOf "_law_all" "_law_all" (defArgs s__law_all) (defBody s__law_all) (defScope s__law_all) .none kV14 dc14 pm14 an14 cd14 ct14), sl14⟩)
    (c14 : PySem.W.codeIn K cd14 "_law_all" = true) (k14 : PySem.W.keepIn K (.ref f14) = true)
    (a15 : PySem.W.nsIn K mainGlobals "is_way" = some (some (.ref f15)))
    (l15 : K.lookup f15 = some ⟨oc15, od15, .func (PySem.W.fnOf "is_way" "is_way" (defArgs s_is_way) (defBody s_is_way) (defScope s_is_way) .none kV15 dc15 pm15 an15 cd15 ct15), sl15⟩)
    (c15 : PySem.W.codeIn K cd15 "is_way" = true) (k15 : PySem.W.keepIn K (.ref f15) = true)
    (a16 : PySem.W.nsIn K mainGlobals "_law_meeting" = some (some (.ref f16)))
    (l16 : K.lookup f16 = some ⟨oc16, od16, .func (PySem.W.fnOf "_law_meeting" "_law_meeting" (defArgs s__law_meeting) (defBody s__law_meeting) (defScope s__law_meeting) .none kV16 dc16 pm16 an16 cd16 ct16), sl16⟩)
    (c16 : PySem.W.codeIn K cd16 "_law_meeting" = true) (k16 : PySem.W.keepIn K (.ref f16) = true)
    (a17 : PySem.W.nsIn K mainGlobals "_law_net" = some (some (.ref f17)))
    (l17 : K.lookup f17 = some ⟨oc17, od17, .func (PySem.W.fnOf "_law_net" "_law_net" (defArgs s__law_net) (defBody s__law_net) (defScope s__law_net) .none kV17 dc17 pm17 an17 cd17 ct17), sl17⟩)
    (c17 : PySem.W.codeIn K cd17 "_law_net" = true) (k17 : PySem.W.keepIn K (.ref f17) = true)
    (a18 : PySem.W.nsIn K mainGlobals "_law_right" = some (some (.ref f18)))
    (l18 : K.lookup f18 = some ⟨oc18, od18, .func (PySem.W.fnOf "_law_right" "_law_right" (defArgs s__law_right) (defBody s__law_right) (defScope s__law_right) .none kV18 dc18 pm18 an18 cd18 ct18), sl18⟩)
    (c18 : PySem.W.codeIn K cd18 "_law_right" = true) (k18 : PySem.W.keepIn K (.ref f18) = true)
    (a19 : PySem.W.nsIn K mainGlobals "law" = some (some (.ref f19)))
    (l19 : K.lookup f19 = some ⟨oc19, od19, .func (PySem.W.fnOf "law" "law" (defArgs s_law) (defBody s_law) (defScope s_law) .none kV19 dc19 pm19 an19 cd19 ct19), sl19⟩)
    (c19 : PySem.W.codeIn K cd19 "law" = true) (k19 : PySem.W.keepIn K (.ref f19) = true)
    (z_bool : PySem.W.nsIn K mainGlobals "bool" = some none)
    (z_int : PySem.W.nsIn K mainGlobals "int" = some none)
    (z_isinstance : PySem.W.nsIn K mainGlobals "isinstance" = some none)
    (z_len : PySem.W.nsIn K mainGlobals "len" = some none)
    (z_max : PySem.W.nsIn K mainGlobals "max" = some none)
    (z_min : PySem.W.nsIn K mainGlobals "min" = some none)
    (z_range : PySem.W.nsIn K mainGlobals "range" = some none)
    (z_set : PySem.W.nsIn K mainGlobals "set" = some none)
    (z_sorted : PySem.W.nsIn K mainGlobals "sorted" = some none)
    (z_tuple : PySem.W.nsIn K mainGlobals "tuple" = some none) :
    ∃ a : Ad, Tx K mg a := by
  have F0 := fun_mk (st := s_is_whole) l0 c0 k0
  have B0 := F0.binds (ps := P_is_whole) fun _ _ _ _ _ _ us hl => match us, hl with | [_], _ => rfl
  have F1 := fun_mk (st := s_end_of) l1 c1 k1
  have B1 := F1.binds (ps := P_end_of) fun _ _ _ _ _ _ us hl => match us, hl with | [_], _ => rfl
  have F2 := fun_mk (st := s_led_to) l2 c2 k2
  have B2 := F2.binds (ps := P_led_to) fun _ _ _ _ _ _ us hl => match us, hl with | [_, _], _ => rfl
  have F3 := fun_mk (st := s__law_deck) l3 c3 k3
  have B3 := F3.binds (ps := P__law_deck) fun _ _ _ _ _ _ us hl => match us, hl with | [_, _], _ => rfl
  have F4 := fun_mk (st := s__law_draw) l4 c4 k4
  have B4 := F4.binds (ps := P__law_draw) fun _ _ _ _ _ _ us hl => match us, hl with | [_, _], _ => rfl
  have F5 := fun_mk (st := s__law_step) l5 c5 k5
  have B5 := F5.binds (ps := P__law_step) fun _ _ _ _ _ _ us hl => match us, hl with | [_, _, _], _ => rfl
  have F6 := fun_mk (st := s__law_small) l6 c6 k6
  have B6 := F6.binds (ps := P__law_small) fun _ _ _ _ _ _ us hl => match us, hl with | [_], _ => rfl
  have F7 := fun_mk (st := s__law_rows) l7 c7 k7
  have B7 := F7.binds (ps := P__law_rows) fun _ _ _ _ _ _ us hl => match us, hl with | [_], _ => rfl
  have F8 := fun_mk (st := s_is_number_below) l8 c8 k8
  have B8 := F8.binds (ps := P_is_number_below) fun _ _ _ _ _ _ us hl => match us, hl with | [_, _], _ => rfl
  have F9 := fun_mk (st := s_places_on) l9 c9 k9
  have B9 := F9.binds (ps := P_places_on) fun _ _ _ _ _ _ us hl => match us, hl with | [_, _, _], _ => rfl
  have F10 := fun_mk (st := s_comes_at) l10 c10 k10
  have B10 := F10.binds (ps := P_comes_at) fun _ _ _ _ _ _ us hl => match us, hl with | [_, _, _], _ => rfl
  have F11 := fun_mk (st := s__law_far) l11 c11 k11
  have B11 := F11.binds (ps := P__law_far) fun _ _ _ _ _ _ us hl => match us, hl with | [_, _], _ => rfl
  have F12 := fun_mk (st := s__law_begin) l12 c12 k12
  have B12 := F12.binds (ps := P__law_begin) fun _ _ _ _ _ _ us hl => match us, hl with | [_, _, _], _ => rfl
  have F13 := fun_mk (st := s__law_moment) l13 c13 k13
  have B13 := F13.binds (ps := P__law_moment) fun _ _ _ _ _ _ us hl => match us, hl with | [_, _], _ => rfl
  have F14 := fun_mk (st := s__law_all) l14 c14 k14
  have B14 := F14.binds (ps := P__law_all) fun _ _ _ _ _ _ us hl => match us, hl with | [_, _, _], _ => rfl
  have F15 := fun_mk (st := s_is_way) l15 c15 k15
  have B15 := F15.binds (ps := P_is_way) fun _ _ _ _ _ _ us hl => match us, hl with | [_, _, _, _], _ => rfl
  have F16 := fun_mk (st := s__law_meeting) l16 c16 k16
  have B16 := F16.binds (ps := P__law_meeting) fun _ _ _ _ _ _ us hl => match us, hl with | [_, _, _, _], _ => rfl
  have F17 := fun_mk (st := s__law_net) l17 c17 k17
  have B17 := F17.binds (ps := P__law_net) fun _ _ _ _ _ _ us hl => match us, hl with | [_, _], _ => rfl
  have F18 := fun_mk (st := s__law_right) l18 c18 k18
  have B18 := F18.binds (ps := P__law_right) fun _ _ _ _ _ _ us hl => match us, hl with | [_, _, _, _], _ => rfl
  have F19 := fun_mk (st := s_law) l19 c19 k19
  have B19 := F19.binds (ps := P_law) fun _ _ _ _ _ _ us hl => match us, hl with | [_], _ => rfl
  exact ⟨⟨f0, _, f1, _, f2, _, f3, _, f4, _, f5, _, f6, _, f7, _, f8, _, f9, _, f10, _, f11, _, f12, _, f13, _, f14, _, f15, _, f16, _, f17, _, f18, _, f19, _⟩, ⟨F0, PySem.W.mg_of X G a0, B0, F1, PySem.W.mg_of X G a1, B1, F2, PySem.W.mg_of X G a2, B2, F3, PySem.W.mg_of X G a3, B3, F4, PySem.W.mg_of X G a4, B4, F5, PySem.W.mg_of X G a5, B5, F6, PySem.W.mg_of X G a6, B6, F7, PySem.W.mg_of X G a7, B7, F8, PySem.W.mg_of X G a8, B8, F9, PySem.W.mg_of X G a9, B9, F10, PySem.W.mg_of X G a10, B10, F11, PySem.W.mg_of X G a11, B11, F12, PySem.W.mg_of X G a12, B12, F13, PySem.W.mg_of X G a13, B13, F14, PySem.W.mg_of X G a14, B14, F15, PySem.W.mg_of X G a15, B15, F16, PySem.W.mg_of X G a16, B16, F17, PySem.W.mg_of X G a17, B17, F18, PySem.W.mg_of X G a18, B18, F19, PySem.W.mg_of X G a19, B19, PySem.W.mg_none_of X G z_bool, PySem.W.mg_none_of X G z_int, PySem.W.mg_none_of X G z_isinstance, PySem.W.mg_none_of X G z_len, PySem.W.mg_none_of X G z_max, PySem.W.mg_none_of X G z_min, PySem.W.mg_none_of X G z_range, PySem.W.mg_none_of X G z_set, PySem.W.mg_none_of X G z_sorted, PySem.W.mg_none_of X G z_tuple⟩⟩
end K12
set_option maxHeartbeats 1000000
namespace K12
open PySem L2 L2.Ev Net
local macro_rules | `(tactic| walk_at "wp1") => `(tactic| simp only [spBody, startW, sIf, sSet, sAsg, sRet, sRetN, sDrop, sNext, wVar, wC, wOp, wTest, wAnd, wOr, wNot, wAndV, wOrV, wNotV, wChain, wIf, wCall, aCons, aNil, wTup, wLst, wNew, pdOf, Option.map_some, wSl, wP, wNoP, nName, nSub, nTup, nCons, nNil, wTy, wNeg, cInt, cMax, cMin, List.map_cons, List.map_nil, List.length_cons, List.length_nil, List.replicate_succ, List.replicate_zero, List.cons_append, List.nil_append, List.append_nil, Nat.reduceAdd, Nat.reduceSub, List.set_cons_zero, List.set_cons_succ, List.getElem?_cons_zero, List.getElem?_cons_succ, Nat.zero_add, oAdd_int, oI_int, oI0_int, oIx_tup, oIx_lst, oIx_scr, oEq_p, oNe_p, oIs_n, oIsNot_n, oIs_bb, oIsNot_bb, atI_0, atI_1, atI_2, atI_3, atI_4, shaped_int, shaped_bool, eqv_int, eqv_bool, eqv_lst_nil, eqv_tup_nil, shaped_nilL, shaped_nilT, true_and, and_true, Nat.sub_self, Nat.add_one_sub_one, Bool.false_eq_true, if_false, if_true, Nat.reduceLeDiff, Int.reduceToNat, Int.reducePow, Int.reduceLT, Int.reduceLE, Int.reduceMul, Int.reduceSub, Int.reduceAdd, decide_true, decide_false, wTupRev])
local macro_rules | `(tactic| walk_at "wps") => `(tactic| simp only [spBody, startW, sSeq, sIf, sSet, sAsg, sRet, sRetN, sDrop, sNext, wVar, wC, wOp, wTest, wAnd, wOr, wNot, wAndV, wOrV, wNotV, wChain, wIf, wCall, aCons, aNil, wTup, wLst, wNew, pdOf, Option.map_some, wSl, wP, wNoP, nName, nSub, nTup, nCons, nNil, wTy, wNeg, cInt, cMax, cMin, List.map_cons, List.map_nil, List.length_cons, List.length_nil, List.replicate_succ, List.replicate_zero, List.cons_append, List.nil_append, List.append_nil, Nat.reduceAdd, Nat.reduceSub, List.set_cons_zero, List.set_cons_succ, List.getElem?_cons_zero, List.getElem?_cons_succ, Nat.zero_add, oAdd_int, oI_int, oI0_int, oIx_tup, oIx_lst, oIx_scr, oEq_p, oNe_p, oIs_n, oIsNot_n, oIs_bb, oIsNot_bb, atI_0, atI_1, atI_2, atI_3, atI_4, shaped_int, shaped_bool, eqv_int, eqv_bool, eqv_lst_nil, eqv_tup_nil, shaped_nilL, shaped_nilT, true_and, and_true, Nat.sub_self, Nat.add_one_sub_one, Bool.false_eq_true, if_false, if_true, Nat.reduceLeDiff, Int.reduceToNat, Int.reducePow, Int.reduceLT, Int.reduceLE, Int.reduceMul, Int.reduceSub, Int.reduceAdd, decide_true, decide_false, wTupRev])
def DeckAt (μ : Mu) (n : Nat) : Prop := ∃ a b c : Int, μ[n]? = some (.lst [.int a, .int b, .int c])
structure DK (n : Nat) (μ μ' : Mu) : Prop where
  at' : DeckAt μ' n
  len : μ'.length = μ.length
  oth : ∀ i, i ≠ n → μ'[i]? = μ[i]?
theorem DK.refl {n : Nat} {μ : Mu} (h : DeckAt μ n) : DK n μ μ := ⟨h, rfl, fun _ _ => rfl⟩
theorem DK.trans {n : Nat} {μ μ' μ'' : Mu} (h : DK n μ μ') (k : DK n μ' μ'') : DK n μ μ'' := ⟨k.at', k.len.trans h.len, fun i hi => (k.oth i hi).trans (h.oth i hi)⟩
theorem cmul_l {i j : Int} (h : -18446744073709551616 < i ∧ i < 18446744073709551616) : CMul i j := .inl h
theorem cmul_r {i j : Int} (h : -18446744073709551616 < j ∧ j < 18446744073709551616) : CMul i j := .inr h
theorem cmul_mod {x m y : Int} (h : 0 < m) (h2 : m ≤ 18446744073709551616) : CMul (x % m) y := .inl ⟨by have := Int.emod_nonneg x (show m ≠ 0 by omega); show -18446744073709551616 < _; omega, by have := Int.emod_lt_of_pos x h; show _ < 18446744073709551616; omega⟩
def sp_draw : SpW := fun ws μ Q => ∃ n most, ws = [.r n, .p (.int most)] ∧ 0 < most ∧ most < 1073741824 ∧ DeckAt μ n ∧ ∀ d μ', 0 ≤ d → d < most → DK n μ μ' → Q (.p (.int d)) μ'
theorem vc_draw (ws : List W) (μ : Mu) (Q : WK) (h : sp_draw ws μ Q) : spBody N__law_draw 2 b__law_draw ws μ Q := by
  obtain ⟨n, most, rfl, h1, h2, ⟨a, b, c, hd⟩, k⟩ := h
  unfold b__law_draw
  have hn : n < μ.length := (List.getElem?_eq_some_iff.mp hd).1
  walk_at "wps"
  simp only [oIx_ref hd, atI_0, atI_1, atI_2, oI0_int]
  by_cases h0 : 0 < a
  · simp only [h0, decide_true, if_true, oIx_ref hd, atI_0, oI_int, h1, true_and, oSet_ref hd, List.length_cons, List.length_nil, Nat.zero_add, Nat.reduceAdd, ixN_0, List.set_cons_zero]
    refine ⟨⟨h1, h2⟩, ret_p (by simp) (k _ _ (Int.emod_nonneg _ (by omega)) (Int.emod_lt_of_pos _ h1) ⟨⟨_, _, _, List.getElem?_set_self hn⟩, by simp, fun i hi => List.getElem?_set_ne (Ne.symm hi)⟩)⟩
  · simp only [h0, decide_false, Bool.false_eq_true, if_false, sNext]
    simp only [oIx_ref hd, atI_2, oAdd_int, oSet_ref hd, List.length_cons, List.length_nil, Nat.zero_add, Nat.reduceAdd, ixN_2, List.set_cons_zero, List.set_cons_succ]
    have hd2 : (μ.set n (.lst [.int a, .int b, .int (c + 1)]))[n]? = some (.lst [.int a, .int b, .int (c + 1)]) := List.getElem?_set_self hn
    simp only [oIx_ref hd2, atI_1, atI_2, oI_int, oAdd_int]
    exact ⟨cmul_l (by decide), cmul_r (by decide), by decide, cmul_mod (by decide) (by decide), cmul_l (by decide), by decide, cmul_mod (by decide) (by decide), by decide, ⟨by decide, by decide⟩, h1,
      ret_p (by simp) (k _ _ (Int.emod_nonneg _ (by omega)) (Int.emod_lt_of_pos _ h1) ⟨⟨_, _, _, hd2⟩, by simp, fun i hi => List.getElem?_set_ne (Ne.symm hi)⟩)⟩
def sp_deck : SpW := fun ws μ Q => ∃ (ns : List Int) (k : Int), ws = [.s (ns.map PyData.int), .p (.int k)] ∧ 0 ≤ k ∧ ∀ a b c : Int, Q (.r μ.length) (μ ++ [.lst [.int a, .int b, .int c]])
theorem vc_deck (ws : List W) (μ : Mu) (Q : WK) (h : sp_deck ws μ Q) : spBody N__law_deck 2 b__law_deck ws μ Q := by
  obtain ⟨ns, k, rfl, h0, q⟩ := h
  unfold b__law_deck
  walk_at "wps"
  have len : cLen [W.s (ns.map PyData.int)] μ = fun Q => Q (.p (.int ns.length)) μ := by funext Q; show Q (.p (.int (ns.map PyData.int).length)) μ = _; rw [List.length_map]
  simp only [len]
  by_cases hk : k < (ns.length : Int)
  · obtain ⟨x, ex⟩ : ∃ x : Int, atI (ns.map PyData.int) k = some (.int x) := by
      rw [atI_nn _ h0, List.getElem?_map]
      have : k.toNat < ns.length := by omega
      exact ⟨ns[k.toNat], by rw [List.getElem?_eq_getElem this]; rfl⟩
    simp only [oI0_int, hk, decide_true, if_true, ex]
    exact ⟨⟨by decide, by decide, by decide⟩, cmul_r (by split <;> decide), cmul_l (by decide), szk (by decide), ret_new (by simp) (by show μ.length < _; simp) (q _ _ _)⟩
  · simp only [oI0_int, hk, decide_false, Bool.false_eq_true, if_false]
    exact ⟨⟨by decide, by decide, by decide⟩, cmul_r (by decide), cmul_l (by decide), szk (by decide), ret_new (by simp) (by show μ.length < _; simp) (q _ _ _)⟩
def sp_far : SpW := fun ws μ Q => ∃ n most, ws = [.r n, .p (.int most)] ∧ 0 ≤ most ∧ DeckAt μ n ∧ ∀ x μ', 0 ≤ x → x ≤ most → DK n μ μ' → Q (.p (.int x)) μ'
theorem vc_far (ws : List W) (μ : Mu) (Q : WK) (h : sp_far ws μ Q) : spBody N__law_far 2 (b__law_far sp_draw) ws μ Q := by
  obtain ⟨n, most, rfl, h1, hd, k⟩ := h
  unfold b__law_far
  walk_at "wps"
  simp only [sFor, iRng, aCons, aNil, wC]
  refine ⟨by decide, by decide, ?_⟩
  refine forR_of (fun _ ρ μ1 => ∃ (v : Int) (x : Option W), ρ = [some (.r n), some (.p (.int most)), some (.p (.int v)), x] ∧ DK n μ μ1) (fun _ _ _ _ => trivial) ?_ ?_ _ _ _ ⟨0, none, rfl, DK.refl hd⟩
  · rintro ρ μ1 ⟨v, x, rfl, dk⟩
    walk_at "wps"
    exact ⟨by omega, ret_p dk.len (k _ _ (Int.emod_nonneg _ (by omega)) (by have := Int.emod_lt_of_pos v (show 0 < most + 1 by omega); omega) dk)⟩
  · rintro x xs ρ μ1 R hR ⟨v, y, rfl, dk⟩
    walk_at "wps"
    refine ⟨⟨by decide, by decide, by decide⟩, cmul_r (by decide), ⟨by decide, by decide, by decide⟩, n, _, rfl, by decide, by decide, dk.at', fun d μ2 a1 b1 k1 => ?_⟩
    walk_at "wps"
    exact hR _ _ ⟨_, _, rfl, dk.trans k1⟩
def RowsAt (μ : Mu) (m : Nat) (ms : List Mt) : Prop := μ[m]? = some (.lst (ms.map Mt.d))
theorem DK.rows {n m : Nat} {μ μ' : Mu} {ms : List Mt} (h : DK n μ μ') (hn : m ≠ n) (r : RowsAt μ m ms) : RowsAt μ' m ms := (h.oth m hn).trans r
theorem rows_at {ms : List Mt} {i : Int} (h0 : 0 ≤ i) (h1 : i < (ms.length : Int)) : ∃ m ∈ ms, atI (ms.map Mt.d) i = some m.d := by
  rw [atI_nn _ h0, List.getElem?_map]
  have : i.toNat < ms.length := by omega
  exact ⟨ms[i.toNat], List.getElem_mem this, by rw [List.getElem?_eq_getElem this]; rfl⟩
theorem cLen_ref {μ : Mu} {m : Nat} {xs : List PyData} (h : μ[m]? = some (.lst xs)) (Q : WK) : cLen [.r m] μ Q = Q (.p (.int xs.length)) μ := by
  show (match rlOf μ (.r m) with | some xs => Q (.p (.int xs.length)) μ | none => False) = _
  simp only [rlOf, lsOf, h]
theorem empty_iff {ms : List Mt} : (ms.map Mt.d).isEmpty = ms.isEmpty := by cases ms <;> rfl
def sp_begin : SpW := fun ws μ Q => ∃ n way m ms, ∃ M : Int, ws = [.r n, .p (.int way), .r m] ∧ m ≠ n ∧ DeckAt μ n ∧ RowsAt μ m ms ∧ ms.length ≤ 40 ∧ (∀ m ∈ ms, m.e ≤ M) ∧ 28 ≤ M ∧ ∀ x μ', 0 ≤ x → x ≤ M + 2 → (way = 4 → x ≤ 30) → DK n μ μ' → Q (.p (.int x)) μ'
theorem vc_begin (ws : List W) (μ : Mu) (Q : WK) (h : sp_begin ws μ Q) : spBody N__law_begin 3 (b__law_begin sp_draw) ws μ Q := by
  obtain ⟨n, way, m, ms, M, rfl, hm, hd, hr, hl, hM, hM28, k⟩ := h
  unfold b__law_begin
  walk_at "wps"
  refine ⟨n, _, rfl, by decide, by decide, hd, fun d1 μ1 a1 b1 k1 => ?_⟩
  have r1 := k1.rows hm hr
  walk_at "wps"
  by_cases w3 : way = 3
  · subst w3
    walk_at "wps"
    refine ⟨n, _, rfl, by decide, by decide, k1.at', fun d2 μ2 a2 b2 k2 => ?_⟩
    exact ⟨cmul_l (by decide), ret_p (k1.trans k2).len (k _ _ (by omega) (by omega) (fun z => by omega) (k1.trans k2))⟩
  · simp only [w3, decide_false, Bool.false_eq_true, if_false]
    simp only [oNe_ref r1, shaped_lms, shaped_nilL, eqv_lst_nil, true_and, empty_iff]
    have fin : retW μ.length Q (.p (.int d1)) μ1 := ret_p k1.len (k _ _ a1 (by omega) (fun _ => by omega) k1)
    cases he : ms.isEmpty with
    | true => simpa using fin
    | false =>
      have hpos : 0 < ms.length := by cases ms with | nil => simp at he | cons _ _ => simp
      simp only [Bool.not_false, if_true, cLen_ref r1, List.length_map, oI0_int]
      refine ⟨szk (by decide), ?_⟩
      have go : way = 2 ∨ way = 1 → sp_draw [W.r n, W.p (PyData.int ↑ms.length)] μ1 fun x μ1 =>
          match pdOf [W.p (PyData.int (↑ms.length - 1)), x] with
          | some ds =>
            ds.length ≤ sizeLine ∧
              match atI ds (if decide (way = 1) = true then 1 else 0) with
              | some d =>
                oIx (W.r m) (W.p d) μ1 fun x μ1 =>
                  oIx x (W.p (PyData.int 3)) μ1 fun x_1 μ1 =>
                    oIx x (W.p (PyData.int 4)) μ1 fun y μ2 =>
                      oAdd x_1 y μ2 fun x μ1 =>
                        oSub x (W.p (PyData.int (if decide (way = 1) = true then 1 else 0))) μ1 fun x μ1 =>
                          sp_draw [W.r n, W.p (PyData.int 3)] μ1 fun y μ2 =>
                            oAdd x y μ2 fun x μ1 =>
                              match [W.p (PyData.int 0), x] with
                              | [W.p (PyData.int i), W.p (PyData.int j)] =>
                                retW (List.length μ) Q (W.p (PyData.int (max i j))) μ1
                              | x => False
              | none => False
          | none => False := by
        intro hway
        refine ⟨n, _, rfl, by omega, by omega, k1.at', fun d2 μ2 a2 b2 k2 => ?_⟩
        walk_at "wps"
        refine ⟨szk (by decide), ?_⟩
        have r2 := k2.rows hm r1
        obtain ⟨i, e, i0, i1⟩ : ∃ i : Int, atI [PyData.int ((ms.length : Int) - 1), PyData.int d2] (if decide (way = 1) = true then 1 else 0) = some (.int i) ∧ 0 ≤ i ∧ i < (ms.length : Int) := by
          by_cases w1 : way = 1
          · exact ⟨d2, by simp [w1, atI_1], a2, b2⟩
          · exact ⟨(ms.length : Int) - 1, by simp [w1, atI_0], by omega, by omega⟩
        obtain ⟨mt, hmt, e2⟩ := rows_at i0 i1
        simp only [e, oIx_ref r2, e2, Mt.d]
        walk_at "wps"
        refine ⟨n, _, rfl, by decide, by decide, k2.at', fun d3 μ3 a3 b3 k3 => ?_⟩
        walk_at "wps"
        have he := hM mt hmt
        unfold Mt.e at he
        exact ret_p ((k1.trans k2).trans k3).len (k _ _ (by omega) (by split <;> omega) (fun z => by omega) ((k1.trans k2).trans k3))
      by_cases w2 : way = 2
      · rw [show decide (way = 2) = true from decide_eq_true w2, if_pos rfl]; exact go (.inl w2)
      · by_cases w1 : way = 1
        · by_cases z : 0 < d1 % 3
          · rw [show decide (way = 2) = false from decide_eq_false w2, if_neg Bool.false_ne_true, if_pos (decide_eq_true w1), if_pos (decide_eq_true z)]; exact go (.inr w1)
          · simp only [w2, w1, z, decide_true, decide_false, Bool.false_eq_true, if_true, if_false]
            exact fin
        · simp only [w2, w1, decide_true, decide_false, Bool.false_eq_true, if_true, if_false]
          exact fin
def MsAll (many : Int) (ms : List Mt) : Prop := ∀ m ∈ ms, m.Ok many
def sp_meeting : SpW := fun ws μ Q => ∃ n way many m ms, ∃ M : Int, ws = [.r n, .p (.int way), .p (.int many), .r m] ∧ m ≠ n ∧ 2 ≤ many ∧ many ≤ 10 ∧ DeckAt μ n ∧ RowsAt μ m ms ∧ ms.length ≤ 40 ∧ MsAll many ms ∧ (∀ m ∈ ms, m.e ≤ M) ∧ 28 ≤ M ∧
  ∀ (x : Mt) μ', x.Ok many → (way ≠ 4 → x.e ≤ M + 10) → (way = 4 → x.e ≤ 10000000000000) → DK n μ μ' → Q (.p x.d) μ'
theorem two_at {a b : PyData} {d : Int} (h0 : 0 ≤ d) (h1 : d < 2) : atI [a, b] d = some (if d = 1 then b else a) := by
  have : d = 0 ∨ d = 1 := by omega
  rcases this with rfl | rfl
  · rw [atI_0]; rfl
  · rw [atI_1]; rfl
theorem three_at {a b c : PyData} {d : Int} (h0 : 0 ≤ d) (h1 : d < 3) : atI [a, b, c] d = some (if d = 0 then a else if d = 1 then b else c) := by
  have : d = 0 ∨ d = 1 ∨ d = 2 := by omega
  rcases this with rfl | rfl | rfl
  · rw [atI_0]; rfl
  · rw [atI_1]; rfl
  · rw [atI_2]; rfl
theorem vc_meeting (ws : List W) (μ : Mu) (Q : WK) (h : sp_meeting ws μ Q) : spBody N__law_meeting 4 (b__law_meeting sp_draw sp_begin sp_far) ws μ Q := by
  obtain ⟨n, way, many, m, ms, M, rfl, hm, hm2, hm10, hd, hr, hl, ha, hM, hM28, k⟩ := h
  unfold b__law_meeting
  refine ⟨rfl, ?_⟩
  have fin : ∀ (x : Mt) μ', x.Ok many → (way ≠ 4 → x.e ≤ M + 10) → (way = 4 → x.e ≤ 10000000000000) → DK n μ μ' → retW μ.length Q (.p x.d) μ' := fun x μ' ox e1 e2 dk => ret_p dk.len (k x μ' ox e1 e2 dk)
  show sSeq _ _ _ [some (.r n), some (.p (.int way)), some (.p (.int many)), some (.r m), none, none, none, none, none, none] μ
  refine sSeq_cut (fun ρ μ1 => ρ = [some (.r n), some (.p (.int way)), some (.p (.int many)), some (.r m), none, none, none, none, none, none] ∧ DK n μ μ1) ?_ ?_
  · rintro ρ μ1 ⟨rfl, k1⟩
    (try dsimp only); rw [sSeq_def]
    (try walk_at "wp1")
    refine ⟨n, _, rfl, by omega, by omega, k1.at', fun one μ2 a2 b2 k2 => ?_⟩
    have d2 := k1.trans k2
    clear k1 k2
    refine sSeq_cut (fun ρ μ1 => ∃ one : Int, ρ = [some (.r n), some (.p (.int way)), some (.p (.int many)), some (.r m), some (.p (.int one)), none, none, none, none, none] ∧ 0 ≤ one ∧ one < many ∧ DK n μ μ1) ?_ ?_
    · rintro ρ μ3 ⟨one, rfl, a3, b3, d3⟩
      (try dsimp only); rw [sSeq_def]
      (try walk_at "wp1")
      refine ⟨n, _, rfl, by omega, by omega, d3.at', fun x4 μ4 a4 b4 k4 => ?_⟩
      have d4 := d3.trans k4
      (try walk_at "wp1")
      refine ⟨by omega, ?_⟩
      (try dsimp only); rw [sSeq_def]
      (try walk_at "wp1")
      refine ⟨szk (by decide), n, _, rfl, by decide, by decide, d4.at', fun x5 μ5 a5 b5 k5 => ?_⟩
      have d5 := d4.trans k5
      simp only [oIx_lst, two_at a5 b5]
      (try dsimp only); rw [sSeq_def]
      (try walk_at "wp1")
      refine ⟨n, way, m, ms, M, rfl, hm, d5.at', d5.rows hm hr, hl, hM, hM28, fun x6 μ6 a6 b6 c6 k6 => ?_⟩
      have d6 := d5.trans k6
      (try dsimp only); rw [sSeq_def]
      (try walk_at "wp1")
      refine ⟨szk (by decide), ?_⟩
      obtain ⟨g, eg, g1, g2⟩ : ∃ g : Int, atI [PyData.int 8, PyData.int 2] (if decide (way = 3) = true then 1 else 0) = some (.int g) ∧ 0 < g ∧ g ≤ 8 := by
        by_cases w3 : way = 3
        · exact ⟨2, by simp [w3, atI_1], by decide, by decide⟩
        · exact ⟨8, by simp [w3, atI_0], by decide, by decide⟩
      simp only [eg]
      refine ⟨n, _, rfl, g1, by omega, d6.at', fun x7 μ7 a7 b7 k7 => ?_⟩
      have d7 := d6.trans k7
      (try walk_at "wp1")
      have word : (if x5 = 1 then PyData.str (Str.ofString "both") else PyData.str (Str.ofString "to")) = .str (wd (decide (x5 = 1))) := by
        unfold wd
        by_cases z : x5 = 1 <;> simp [z]
      have oth1 : (one + 1 + x4) % many < many := Int.emod_lt_of_pos _ (by omega)
      have oth0 : 0 ≤ (one + 1 + x4) % many := Int.emod_nonneg _ (by omega)
      have othne : one ≠ (one + 1 + x4) % many := by
        by_cases z : one + 1 + x4 < many
        · rw [Int.emod_eq_of_lt (by omega) z]; omega
        · have : (one + 1 + x4) % many = one + 1 + x4 - many := by
            rw [← Int.sub_emod_right, Int.emod_eq_of_lt (by omega) (by omega)]
          omega
      refine sSeq_cut (fun ρ μ1 => ∃ (b l : Int) (x : Option W), ρ = [some (.r n), some (.p (.int way)), some (.p (.int many)), some (.r m), some (.p (.int one)), some (.p (.int ((one + 1 + x4) % many))), some (.p (.str (wd (decide (x5 = 1))))), some (.p (.int b)), some (.p (.int l)), x] ∧ 0 ≤ b ∧ 1 ≤ l ∧ (way ≠ 4 → b + l ≤ M + 10) ∧ (way = 4 → b + l ≤ 10000000000000) ∧ DK n μ μ1) ?_ ?_
      · rintro ρ μ8 ⟨b, l, x, rfl, b0, l1, e1, e2, d8⟩
        (try walk_at "wp1")
        exact ⟨szk (by decide), fin ⟨decide (x5 = 1), one, (one + 1 + x4) % many, b, l⟩ μ8 ⟨a3, b3, oth0, oth1, othne, b0, l1⟩ e1 e2 d8⟩
      · intro K hK
        rw [word]
        (try walk_at "wp1")
        by_cases w4 : way = 4
        · rw [show decide (way = 4) = true from decide_eq_true w4, if_pos rfl]
          simp only [sSeq_def]
          (try walk_at "wp1")
          refine ⟨n, _, rfl, by decide, by decide, d7.at', fun x8 μ8 a8 b8 k8 => ?_⟩
          have d8 := d7.trans k8
          (try walk_at "wp1")
          refine ⟨⟨by decide, by decide, by decide⟩, n, _, rfl, by decide, d8.at', fun x9 μ9 a9 b9 k9 => ?_⟩
          have d9 := d8.trans k9
          refine ⟨⟨by decide, by decide, by decide⟩, cmul_l (by decide), n, _, rfl, by decide, d9.at', fun xa μa aa ba ka => ?_⟩
          have da := d9.trans ka
          (try walk_at "wp1")
          simp only [three_at a8 b8]
          refine ⟨szk (by decide), ⟨by decide, by decide, by decide⟩, n, _, rfl, by decide, da.at', fun xb μb ab bb kb => ?_⟩
          have db := da.trans kb
          (try walk_at "wp1")
          refine ⟨⟨by decide, by decide, by decide⟩, cmul_l (by decide), n, _, rfl, by decide, db.at', fun xc μc ac bc kc => ?_⟩
          have dc := db.trans kc
          (try walk_at "wp1")
          simp only [three_at a8 b8]
          refine ⟨szk (by decide), hK _ _ ?_⟩
          have e13 : (10 : Int) ^ Int.toNat 13 = 10000000000000 := by decide
          have e12 : (10 : Int) ^ Int.toNat 12 = 1000000000000 := by decide
          by_cases z0 : x8 = 0
          · exact ⟨x9, 1 + x7, some (.p (.int x8)), by simp [z0], a9, by omega, fun z => absurd w4 z, fun _ => by omega, dc⟩
          · by_cases z1 : x8 = 1
            · exact ⟨x6, 1 + xb, some (.p (.int x8)), by simp [z1], a6, by omega, fun z => absurd w4 z, fun _ => by have := c6 w4; omega, dc⟩
            · exact ⟨xa, 1 + xc, some (.p (.int x8)), by simp [z0, z1], aa, by omega, fun z => absurd w4 z, fun _ => by omega, dc⟩
        · rw [show decide (way = 4) = false from decide_eq_false w4, if_neg Bool.false_ne_true]
          exact hK _ _ ⟨x6, 1 + x7, none, rfl, a6, by omega, fun _ => by omega, fun z => absurd z w4, d7⟩
    · intro K hK
      (try walk_at "wp1")
      have ok2 : K [some (.r n), some (.p (.int way)), some (.p (.int many)), some (.r m), some (.p (.int one)), none, none, none, none, none] μ2 := hK _ _ ⟨one, rfl, a2, b2, d2⟩
      by_cases w2 : way = 2
      · rw [show decide (way = 2) = true from decide_eq_true w2, if_pos rfl]
        have r2 := d2.rows hm hr
        refine ⟨szk (by decide), ?_⟩
        simp only [oNe_ref r2, shaped_lms, shaped_nilL, eqv_lst_nil, true_and, empty_iff]
        cases he : ms.isEmpty with
        | true => exact ok2
        | false =>
          have hne : ms ≠ [] := by intro z; subst z; simp at he
          obtain ⟨init, last, rfl⟩ : ∃ init last, ms = init ++ [last] := ⟨ms.dropLast, ms.getLast hne, (List.dropLast_concat_getLast hne).symm⟩
          have ol := ha last (by simp)
          simp only [Bool.not_false, if_true, oIx_ref r2, List.map_append, List.map_cons, List.map_nil, atI_last, Mt.d]
          (try walk_at "wp1")
          exact hK _ _ ⟨_, rfl, ol.t0, ol.t1, d2⟩
      · rw [show decide (way = 2) = false from decide_eq_false w2, if_neg Bool.false_ne_true]
        exact ok2
  · intro K hK
    (try walk_at "wp1")
    by_cases w5 : way = 5
    · rw [show decide (way = 5) = true from decide_eq_true w5, if_pos rfl]
      refine ⟨szk (by decide), ?_⟩
      simp only [oNe_ref hr, shaped_lms, shaped_nilL, eqv_lst_nil, true_and, empty_iff]
      cases he : ms.isEmpty with
      | true => exact hK _ _ ⟨rfl, DK.refl hd⟩
      | false =>
        have hpos : 0 < ms.length := by cases ms with | nil => simp at he | cons _ _ => simp
        simp only [Bool.not_false, if_true]
        refine ⟨n, _, rfl, by decide, by decide, hd, fun x1 μ1 a1 b1 k1 => ?_⟩
        have r1 := k1.rows hm hr
        (try walk_at "wp1")
        by_cases z : x1 = 0
        · rw [show decide (x1 = 0) = true from decide_eq_true z, if_pos rfl]
          simp only [cLen_ref r1, List.length_map]
          refine ⟨n, _, rfl, by omega, by omega, k1.at', fun x2 μ2 a2 b2 k2 => ?_⟩
          obtain ⟨mt, hmt, e2⟩ := rows_at a2 b2
          simp only [oIx_ref (k2.rows hm r1), e2]
          exact fin mt μ2 (ha mt hmt) (fun _ => by have := hM mt hmt; omega) (fun z => by omega) (k1.trans k2)
        · rw [show decide (x1 = 0) = false from decide_eq_false z, if_neg Bool.false_ne_true]
          exact hK _ _ ⟨rfl, k1⟩
    · rw [show decide (way = 5) = false from decide_eq_false w5, if_neg Bool.false_ne_true]
      exact hK _ _ ⟨rfl, DK.refl hd⟩
end K12
set_option maxHeartbeats 1000000
namespace K12
open PySem L2 L2.Ev Net
local macro_rules | `(tactic| walk_at "wp1") => `(tactic| simp only [spBody, startW, sIf, sSet, sAsg, sRet, sRetN, sDrop, sNext, wVar, wC, wOp, wTest, wAnd, wOr, wNot, wAndV, wOrV, wNotV, wChain, wIf, wCall, aCons, aNil, wTup, wLst, wNew, pdOf, Option.map_some, wSl, wP, wNoP, nName, nSub, nTup, nCons, nNil, wTy, wNeg, cInt, cMax, cMin, List.map_cons, List.map_nil, List.length_cons, List.length_nil, List.replicate_succ, List.replicate_zero, List.cons_append, List.nil_append, List.append_nil, Nat.reduceAdd, Nat.reduceSub, List.set_cons_zero, List.set_cons_succ, List.getElem?_cons_zero, List.getElem?_cons_succ, Nat.zero_add, oAdd_int, oI_int, oI0_int, oIx_tup, oIx_lst, oIx_scr, oEq_p, oNe_p, oIs_n, oIsNot_n, oIs_bb, oIsNot_bb, atI_0, atI_1, atI_2, atI_3, atI_4, shaped_int, shaped_bool, eqv_int, eqv_bool, eqv_lst_nil, eqv_tup_nil, shaped_nilL, shaped_nilT, true_and, and_true, Nat.sub_self, Nat.add_one_sub_one, Bool.false_eq_true, if_false, if_true, Nat.reduceLeDiff, Int.reduceToNat, Int.reducePow, Int.reduceLT, Int.reduceLE, Int.reduceMul, Int.reduceSub, Int.reduceAdd, decide_true, decide_false, wTupRev])
local macro_rules | `(tactic| walk_at "wps") => `(tactic| simp only [spBody, startW, sSeq, sIf, sSet, sAsg, sRet, sRetN, sDrop, sNext, wVar, wC, wOp, wTest, wAnd, wOr, wNot, wAndV, wOrV, wNotV, wChain, wIf, wCall, aCons, aNil, wTup, wLst, wNew, pdOf, Option.map_some, wSl, wP, wNoP, nName, nSub, nTup, nCons, nNil, wTy, wNeg, cInt, cMax, cMin, List.map_cons, List.map_nil, List.length_cons, List.length_nil, List.replicate_succ, List.replicate_zero, List.cons_append, List.nil_append, List.append_nil, Nat.reduceAdd, Nat.reduceSub, List.set_cons_zero, List.set_cons_succ, List.getElem?_cons_zero, List.getElem?_cons_succ, Nat.zero_add, oAdd_int, oI_int, oI0_int, oIx_tup, oIx_lst, oIx_scr, oEq_p, oNe_p, oIs_n, oIsNot_n, oIs_bb, oIsNot_bb, atI_0, atI_1, atI_2, atI_3, atI_4, shaped_int, shaped_bool, eqv_int, eqv_bool, eqv_lst_nil, eqv_tup_nil, shaped_nilL, shaped_nilT, true_and, and_true, Nat.sub_self, Nat.add_one_sub_one, Bool.false_eq_true, if_false, if_true, Nat.reduceLeDiff, Int.reduceToNat, Int.reducePow, Int.reduceLT, Int.reduceLE, Int.reduceMul, Int.reduceSub, Int.reduceAdd, decide_true, decide_false, wTupRev])
structure DX (n : Nat) (μ μ' : Mu) : Prop where
  at' : DeckAt μ' n
  len : μ.length ≤ μ'.length
  oth : ∀ i, i < μ.length → i ≠ n → μ'[i]? = μ[i]?
theorem DeckAt.lt {n : Nat} {μ : Mu} (h : DeckAt μ n) : n < μ.length := by obtain ⟨a, b, c, e⟩ := h; exact (List.getElem?_eq_some_iff.mp e).1
theorem DX.of {n : Nat} {μ μ' : Mu} (h : DK n μ μ') : DX n μ μ' := ⟨h.at', by rw [h.len]; exact Nat.le_refl _, fun i _ hi => h.oth i hi⟩
theorem DX.dk {n : Nat} {μ μ' μ'' : Mu} (h : DX n μ μ') (k : DK n μ' μ'') : DX n μ μ'' := ⟨k.at', by rw [k.len]; exact h.len, fun i hl hi => (k.oth i hi).trans (h.oth i hl hi)⟩
theorem DX.push {n : Nat} {μ μ' : Mu} (h : DX n μ μ') (c : Cell) : DX n μ (μ' ++ [c]) := by
  obtain ⟨a, b, cc, e⟩ := h.at'
  refine ⟨⟨a, b, cc, by rw [List.getElem?_append_left (List.getElem?_eq_some_iff.mp e).1]; exact e⟩, by have := h.len; simp; omega, fun i hl hi => ?_⟩
  rw [List.getElem?_append_left (by have := h.len; omega)]
  exact h.oth i hl hi
theorem DX.set {n m : Nat} {μ μ' : Mu} (h : DX n μ μ') (hm : μ.length ≤ m) (hn : m ≠ n) (c : Cell) : DX n μ (μ'.set m c) := by
  obtain ⟨a, b, cc, e⟩ := h.at'
  refine ⟨⟨a, b, cc, by rw [List.getElem?_set_ne hn]; exact e⟩, by simp; exact h.len, fun i hl hi => ?_⟩
  rw [List.getElem?_set_ne (by omega)]
  exact h.oth i hl hi
theorem DX.cut {n : Nat} {μ μ' : Mu} (h : DX n μ μ') (hn : n < μ.length) : DK n μ (μ'.take μ.length) := by
  obtain ⟨a, b, cc, e⟩ := h.at'
  refine ⟨⟨a, b, cc, by rw [List.getElem?_take_of_lt hn]; exact e⟩, by rw [List.length_take]; have := h.len; omega, fun i hi => ?_⟩
  by_cases hl : i < μ.length
  · rw [List.getElem?_take_of_lt hl]; exact h.oth i hl hi
  · rw [List.getElem?_eq_none (by rw [List.length_take]; omega), List.getElem?_eq_none (by omega)]
theorem ret_dx {n : Nat} {μ μ' : Mu} {Q : WK} {d : PyData} (h : DX n μ μ') (hn : n < μ.length) (k : ∀ μ', DK n μ μ' → Q (.p d) μ') : retW μ.length Q (.p d) μ' := ret_cut h.len (k _ (h.cut hn))
theorem ints_at (ns : List Int) {d : Int} (h0 : 0 ≤ d) (h1 : d < (ns.length : Int)) : ∃ x ∈ ns, atI (ns.map PyData.int) d = some (.int x) := by
  rw [atI_nn _ h0, List.getElem?_map]
  have : d.toNat < ns.length := by omega
  exact ⟨ns[d.toNat], List.getElem_mem this, by rw [List.getElem?_eq_getElem this]; rfl⟩
def sp_net : SpW := fun ws μ Q => ∃ n L, ws = [.r n, .p (.int L)] ∧ (1 ≤ L ∧ L ≤ 2) ∧ DeckAt μ n ∧ ∀ many ms μ', L ≤ many → many ≤ 10 → MsAll many ms → ms.length ≤ 40 → (∀ m ∈ ms, m.e ≤ 10000000000000) → DK n μ μ' → Q (.p (netD many ms)) μ'
theorem vc_net (ws : List W) (μ : Mu) (Q : WK) (h : sp_net ws μ Q) : spBody N__law_net 2 (b__law_net sp_draw sp_meeting) ws μ Q := by
  obtain ⟨n, L, rfl, hL, hd, k⟩ := h
  have hn := hd.lt
  unfold b__law_net
  refine ⟨rfl, ?_⟩
  show sSeq _ _ _ [some (.r n), some (.p (.int L)), none, none, none, none, none, none] μ
  (try dsimp only); rw [sSeq_def]
  (try walk_at "wp1")
  refine ⟨szk (by decide), n, _, rfl, by decide, by decide, hd, fun x1 μ1 a1 b1 k1 => ?_⟩
  obtain ⟨way, _, ew⟩ := ints_at [0, 1, 2, 3, 4, 5, 1, 2] a1 b1
  simp only [List.map_cons, List.map_nil] at ew
  simp only [oIx_lst, ew]
  (try dsimp only); rw [sSeq_def]
  (try walk_at "wp1")
  refine ⟨n, _, rfl, by decide, by decide, k1.at', fun x2 μ2 a2 b2 k2 => ?_⟩
  have d2 := k1.trans k2
  (try walk_at "wp1")
  generalize hg : (if decide (x2 = 5) = true then (1 : Int) else 0) = g
  have g0 : 0 ≤ g ∧ g < 2 := by rw [← hg]; split <;> decide
  (try dsimp only); rw [sSeq_def]
  (try walk_at "wp1")
  refine ⟨n, _, rfl, by omega, by omega, d2.at', fun x3 μ3 a3 b3 k3 => ?_⟩
  have d3 := d2.trans k3
  (try walk_at "wp1")
  simp only [two_at g0.1 g0.2]
  refine ⟨szk (by decide), ?_⟩
  obtain ⟨many, em, mL, m10⟩ : ∃ many : Int, (if g = 1 then PyData.int 10 else PyData.int (L + x3)) = .int many ∧ L ≤ many ∧ many ≤ 10 := by
    by_cases z : g = 1
    · exact ⟨10, by simp [z], by omega, by decide⟩
    · exact ⟨L + x3, by simp [z], by omega, by omega⟩
  rw [em]
  (try dsimp only); rw [sSeq_def]
  (try walk_at "wp1")
  refine ⟨n, _, rfl, by decide, by decide, d3.at', fun x4 μ4 a4 b4 k4 => ?_⟩
  have d4 := d3.trans k4
  refine ⟨n, _, rfl, by decide, by decide, d4.at', fun x5 μ5 a5 b5 k5 => ?_⟩
  have d5 := d4.trans k5
  (try walk_at "wp1")
  simp only [two_at g0.1 g0.2]
  refine ⟨szk (by decide), ?_⟩
  obtain ⟨cnt, ec, c0, c40⟩ : ∃ cnt : Int, (if g = 1 then PyData.int (40 - x5) else PyData.int x4) = .int cnt ∧ 0 ≤ cnt ∧ cnt ≤ 40 := by
    by_cases z : g = 1
    · exact ⟨40 - x5, by simp [z], by omega, by omega⟩
    · exact ⟨x4, by simp [z], by omega, by omega⟩
  rw [ec]
  (try dsimp only); rw [sSeq_def]
  (try walk_at "wp1")
  refine ⟨szk (by decide), ?_⟩
  (try dsimp only); rw [sSeq_def]
  simp only [sFor, iRng]
  (try walk_at "wp1")
  generalize hE : (if decide ((1 : Int) < many) = true then (1 : Int) else 0) = E
  have hE2 : (E = 0 ∨ E = 1) ∧ (E = 1 → 2 ≤ many) := by
    rw [← hE]
    by_cases z : (1 : Int) < many
    · simp [z]; omega
    · simp [z]
  have hc40 : 0 ≤ cnt * E ∧ cnt * E ≤ 40 ∧ (0 < cnt * E → E = 1) := by
    rcases hE2.1 with z | z <;> subst z <;> simp <;> omega
  refine ⟨cmul_r (by rcases hE2.1 with z | z <;> subst z <;> decide), by show -4611686018427387904 ≤ _; omega, by show _ < 4611686018427387904; omega, ?_⟩
  have ml : μ5.length = μ.length := d5.len
  refine forR_of (fun xs ρ μ' => ∃ (ms : List Mt) (x : Option W), ρ = [some (.r n), some (.p (.int L)), some (.p (.int way)), some (.p (.int g)), some (.p (.int many)), some (.p (.int cnt)), some (.r μ5.length), x] ∧ MsAll many ms ∧ ms.length + xs.length ≤ 40 ∧ (0 < xs.length → 2 ≤ many) ∧ ((way ≠ 4 → ∀ m ∈ ms, m.e ≤ 28 + 10 * (ms.length : Int)) ∧ ∀ m ∈ ms, m.e ≤ 10000000000000) ∧ DX n μ μ' ∧ RowsAt μ' μ5.length ms)
    (fun _ _ _ _ => trivial) ?_ ?_ _ _ _ ⟨[], none, rfl, fun m h => by simp at h, by simp [rng]; omega, fun z => hE2.2 (hc40.2.2 (by simp [rng] at z; omega)), ⟨fun _ m h => by simp at h, fun m h => by simp at h⟩, (DX.of d5).push _, by unfold RowsAt; simp⟩
  · rintro ρ μ' ⟨ms, x, rfl, ha, hl, _, hE, dx, hr⟩
    have hrl : lsOf μ' (.r μ5.length) = some (ms.map Mt.d) := by simp only [lsOf]; rw [show μ'[μ5.length]? = _ from hr]
    (try walk_at "wp1")
    simp only [cTuple, rlOf, hrl]
    (try walk_at "wp1")
    exact ⟨szk (by decide), ret_dx dx hn fun μ'' dk => k many ms μ'' mL m10 ha (by simp at hl; omega) hE.2 dk⟩
  · rintro i xs ρ μ' R hR ⟨ms, x, rfl, ha, hl, hm2, hE, dx, hr⟩
    have m2 := hm2 (by simp)
    have hr' : μ'[μ5.length]? = some (.lst (ms.map Mt.d)) := hr
    have hl' : ms.length ≤ 39 := by simp at hl; omega
    have hne : μ5.length ≠ n := by omega
    (try walk_at "wp1")
    simp only [wApp, wVar, List.getElem?_cons_zero, List.getElem?_cons_succ, hr', true_and]
    (try walk_at "wp1")
    obtain ⟨M, hM, hM28, hMw⟩ : ∃ M : Int, (∀ m ∈ ms, m.e ≤ M) ∧ 28 ≤ M ∧ (way ≠ 4 → M = 28 + 10 * (ms.length : Int)) := by
      by_cases w4 : way = 4
      · exact ⟨10000000000000, hE.2, by decide, fun z => absurd w4 z⟩
      · exact ⟨28 + 10 * (ms.length : Int), hE.1 w4, by omega, fun _ => rfl⟩
    refine ⟨n, way, many, μ5.length, ms, M, rfl, hne, m2, m10, dx.at', hr, by omega, ha, hM, hM28, fun mt μ'' ok e1 e2 dk => ?_⟩
    have hr2 : μ''[μ5.length]? = some (.lst (ms.map Mt.d)) := dk.rows hne hr
    simp only [hr2]
    refine ⟨szl (by simp; omega), hR _ _ ⟨ms ++ [mt], _, rfl, fun m h => ?_, by simp at hl ⊢; omega, fun _ => m2, ⟨fun w4 m h => ?_, fun m h => ?_⟩, (dx.dk dk).set (by omega) hne _, ?_⟩⟩
    · rcases List.mem_append.mp h with h | h
      · exact ha m h
      · simp at h; subst h; exact ok
    · have h1 := hE.1 w4
      have h2 := e1 w4
      have h3 := hMw w4
      rw [List.length_append]
      rcases List.mem_append.mp h with h | h
      · have := h1 m h; simp; omega
      · simp at h; subst h; simp; omega
    · rcases List.mem_append.mp h with h | h
      · exact hE.2 m h
      · simp at h; subst h
        by_cases w4 : way = 4
        · exact e2 w4
        · have h2 := e1 w4
          have h3 := hMw w4
          omega
    · unfold RowsAt
      rw [List.getElem?_set_self (List.getElem?_eq_some_iff.mp hr2).1, List.map_append]
      rfl
end K12
set_option maxHeartbeats 1000000
namespace K12
open PySem L2 L2.Ev Net
local macro_rules | `(tactic| walk_at "wp1") => `(tactic| simp only [spBody, startW, sIf, sSet, sAsg, sRet, sRetN, sDrop, sNext, wVar, wC, wOp, wTest, wAnd, wOr, wNot, wAndV, wOrV, wNotV, wChain, wIf, wCall, aCons, aNil, wTup, wLst, wNew, pdOf, Option.map_some, wSl, wP, wNoP, nName, nSub, nTup, nCons, nNil, wTy, wNeg, cInt, cMax, cMin, List.map_cons, List.map_nil, List.length_cons, List.length_nil, List.replicate_succ, List.replicate_zero, List.cons_append, List.nil_append, List.append_nil, Nat.reduceAdd, Nat.reduceSub, List.set_cons_zero, List.set_cons_succ, List.getElem?_cons_zero, List.getElem?_cons_succ, Nat.zero_add, oAdd_int, oI_int, oI0_int, oIx_tup, oIx_lst, oIx_scr, oEq_p, oNe_p, oIs_n, oIsNot_n, oIs_bb, oIsNot_bb, atI_0, atI_1, atI_2, atI_3, atI_4, shaped_int, shaped_bool, eqv_int, eqv_bool, eqv_lst_nil, eqv_tup_nil, shaped_nilL, shaped_nilT, true_and, and_true, Nat.sub_self, Nat.add_one_sub_one, Bool.false_eq_true, if_false, if_true, Nat.reduceLeDiff, Int.reduceToNat, Int.reducePow, Int.reduceLT, Int.reduceLE, Int.reduceMul, Int.reduceSub, Int.reduceAdd, decide_true, decide_false, wTupRev])
local macro_rules | `(tactic| walk_at "wps") => `(tactic| simp only [spBody, startW, sSeq, sIf, sSet, sAsg, sRet, sRetN, sDrop, sNext, wVar, wC, wOp, wTest, wAnd, wOr, wNot, wAndV, wOrV, wNotV, wChain, wIf, wCall, aCons, aNil, wTup, wLst, wNew, pdOf, Option.map_some, wSl, wP, wNoP, nName, nSub, nTup, nCons, nNil, wTy, wNeg, cInt, cMax, cMin, List.map_cons, List.map_nil, List.length_cons, List.length_nil, List.replicate_succ, List.replicate_zero, List.cons_append, List.nil_append, List.append_nil, Nat.reduceAdd, Nat.reduceSub, List.set_cons_zero, List.set_cons_succ, List.getElem?_cons_zero, List.getElem?_cons_succ, Nat.zero_add, oAdd_int, oI_int, oI0_int, oIx_tup, oIx_lst, oIx_scr, oEq_p, oNe_p, oIs_n, oIsNot_n, oIs_bb, oIsNot_bb, atI_0, atI_1, atI_2, atI_3, atI_4, shaped_int, shaped_bool, eqv_int, eqv_bool, eqv_lst_nil, eqv_tup_nil, shaped_nilL, shaped_nilT, true_and, and_true, Nat.sub_self, Nat.add_one_sub_one, Bool.false_eq_true, if_false, if_true, Nat.reduceLeDiff, Int.reduceToNat, Int.reducePow, Int.reduceLT, Int.reduceLE, Int.reduceMul, Int.reduceSub, Int.reduceAdd, decide_true, decide_false, wTupRev])
theorem cLen_tup {μ : Mu} (xs : List PyData) (Q : WK) : cLen [.p (.tuple xs)] μ Q = Q (.p (.int xs.length)) μ := rfl
def sp_moment : SpW := fun ws μ Q => ∃ n many ms, ws = [.r n, .p (netD many ms)] ∧ MsAll many ms ∧ ms.length ≤ 40 ∧ DeckAt μ n ∧ ∀ t μ', 0 ≤ t → DK n μ μ' → Q (.p (.int t)) μ'
theorem vc_moment (ws : List W) (μ : Mu) (Q : WK) (h : sp_moment ws μ Q) : spBody N__law_moment 2 (b__law_moment sp_draw) ws μ Q := by
  obtain ⟨n, many, ms, rfl, ha, hl, hd, k⟩ := h
  unfold b__law_moment netD
  refine ⟨rfl, ?_⟩
  show sSeq _ _ _ [some (.r n), some (.p (.tuple [.int many, .tuple (ms.map Mt.d)])), none, none, none, none, none, none] μ
  (try dsimp only); rw [sSeq_def]
  (try walk_at "wp1")
  refine ⟨n, _, rfl, by decide, by decide, hd, fun way μ1 a1 b1 k1 => ?_⟩
  refine sSeq_cut (fun ρ μ' => ρ = [some (.r n), some (.p (.tuple [.int many, .tuple (ms.map Mt.d)])), some (.p (.int way)), none, none, none, none, none] ∧ μ' = μ1 ∧ 0 < way ∧ 0 < ms.length) ?_ ?_
  · rintro ρ μ' ⟨rfl, rfl, hw, hp⟩
    (try dsimp only); rw [sSeq_def]
    (try walk_at "wp1")
    simp only [cLen_tup, List.length_map]
    refine ⟨n, _, rfl, by omega, by omega, k1.at', fun x2 μ2 a2 b2 k2 => ?_⟩
    have d2 := k1.trans k2
    obtain ⟨mt, _, e2⟩ := rows_at a2 b2
    simp only [oIx_tup, e2, Mt.d]
    (try walk_at "wp1")
    refine ⟨szk (by decide), ?_⟩
    obtain ⟨x, _, ex⟩ := ints_at [mt.b, mt.b + 1, mt.b - 1, mt.b + mt.l, mt.b + mt.l - 1] (show 0 ≤ way - 1 by omega) (by simp; omega)
    simp only [List.map_cons, List.map_nil] at ex
    simp only [ex]
    exact ret_p d2.len (k _ _ (by omega) d2)
  · intro K hK
    (try walk_at "wp1")
    have early : sp_draw [W.r n, W.p (PyData.int 40)] μ1 fun x μ1 => CPow 10 13 ∧ (match pdOf [W.p (PyData.int 0), x, W.p (PyData.int 10000000000000)] with
          | some ds => ds.length ≤ sizeLine ∧ sp_draw [W.r n, W.p (PyData.int 3)] μ1 fun y μ2 => oIx (W.p (PyData.list ds)) y μ2 (retW μ.length Q)
          | none => False) := by
      refine ⟨n, _, rfl, by decide, by decide, k1.at', fun x2 μ2 a2 b2 k2 => ?_⟩
      have d2 := k1.trans k2
      refine ⟨⟨by decide, by decide, by decide⟩, ?_⟩
      (try walk_at "wp1")
      refine ⟨szk (by decide), n, _, rfl, by decide, by decide, d2.at', fun x3 μ3 a3 b3 k3 => ?_⟩
      have d3 := d2.trans k3
      obtain ⟨x, hx, ex⟩ := ints_at [0, x2, 10000000000000] a3 b3
      simp only [List.map_cons, List.map_nil] at ex
      simp only [oIx_lst, ex]
      refine ret_p d3.len (k _ _ ?_ d3)
      simp at hx
      omega
    simp only [szk (show 0 ≤ 16777216 by decide), shaped_tms, true_and]
    cases ms with
    | nil =>
      simp only [List.map_nil, List.isEmpty_nil, if_true]
      exact early
    | cons m0 mr =>
      simp only [List.map_cons, List.isEmpty_cons, Bool.false_eq_true, if_false]
      by_cases w0 : way = 0
      · rw [if_pos (decide_eq_true w0)]; exact early
      · rw [if_neg (by simpa using w0)]
        exact hK _ _ ⟨rfl, rfl, by omega, by simp⟩
def stepD (m : Mt) (p : Int) : PyData := match m.led p with | some q => .tuple [.int q, .int m.b, .int m.e] | none => .none
def sp_step : SpW := fun ws μ Q => ∃ many ms k p m, ws = [.p (netD many ms), .p (.int ((k : Nat) : Int)), .p (.int p)] ∧ ms[k]? = some m ∧ Q (.p (stepD m p)) μ
theorem vc_step (ws : List W) (μ : Mu) (Q : WK) (h : sp_step ws μ Q) : spBody N__law_step 3 b__law_step ws μ Q := by
  obtain ⟨many, ms, k, p, m, rfl, hm, q⟩ := h
  unfold b__law_step netD
  have e : atI (ms.map Mt.d) (k : Int) = some m.d := by rw [atI_ofNat, List.getElem?_map, hm]; rfl
  walk_at "wps"
  simp only [e, Mt.d]
  walk_at "wps"
  unfold stepD Mt.led Mt.e at q
  by_cases h1 : p = m.one
  · simp only [h1, decide_true, if_true] at q ⊢
    exact ⟨szk (by decide), ret_p rfl q⟩
  · simp only [h1, decide_false, Bool.false_eq_true, if_false, shaped_wd, shaped_both, wd_both, true_and] at q ⊢
    cases hw : m.w with
    | false => simp only [hw, Bool.false_eq_true, and_false, if_false] at q ⊢; exact ret_p rfl q
    | true =>
      by_cases h2 : p = m.oth
      · simp only [h2, hw, and_self, decide_true, if_true] at q ⊢
        exact ⟨szk (by decide), ret_p rfl q⟩
      · simp only [h2, hw, false_and, decide_false, Bool.false_eq_true, if_true, if_false] at q ⊢
        exact ret_p rfl q
def sp_end : SpW := fun ws μ Q => ∃ m : Mt, ws = [.p m.d] ∧ Q (.p (.int m.e)) μ
theorem vc_end (ws : List W) (μ : Mu) (Q : WK) (h : sp_end ws μ Q) : spBody N_end_of 1 b_end_of ws μ Q := by
  obtain ⟨m, rfl, q⟩ := h
  unfold b_end_of Mt.d
  walk_at "wps"
  exact ret_p rfl q
def ledD (m : Mt) (p : Int) : PyData := match m.led p with | some q => .int q | none => .none
def sp_led : SpW := fun ws μ Q => ∃ (m : Mt) (p : Int), ws = [.p m.d, .p (.int p)] ∧ Q (.p (ledD m p)) μ
theorem vc_led (ws : List W) (μ : Mu) (Q : WK) (h : sp_led ws μ Q) : spBody N_led_to 2 b_led_to ws μ Q := by
  obtain ⟨m, p, rfl, q⟩ := h
  unfold b_led_to Mt.d
  walk_at "wps"
  unfold ledD Mt.led at q
  by_cases h1 : p = m.one
  · simp only [h1, decide_true, if_true] at q ⊢
    exact ret_p rfl q
  · simp only [h1, decide_false, Bool.false_eq_true, if_false, shaped_wd, shaped_both, wd_both, true_and] at q ⊢
    by_cases h2 : p = m.oth
    · cases hw : m.w with
      | false => simp only [h2, hw, Bool.false_eq_true, and_false, decide_true, if_true, if_false] at q ⊢; exact ret_p rfl q
      | true => simp only [h2, hw, and_self, decide_true, if_true] at q ⊢; exact ret_p rfl q
    · simp only [h2, false_and, decide_false, Bool.false_eq_true, if_false] at q ⊢
      exact ret_p rfl q
def sp_whole : SpW := fun ws μ Q => ∃ i : Int, ws = [.p (.int i)] ∧ Q (.p (.bool true)) μ
theorem cIsi_p {μ : Mu} {d : PyData} {U T : String} (hT : tyW μ (.p d) = some T) (hU : U = "int" ∨ U = "bool" ∨ U = "str" ∨ U = "tuple" ∨ U = "list") (Q : WK) : cIsi [.p d, .t U] μ Q = Q (.p (.bool (isT T U))) μ := by
  simp only [cIsi, hT, hU, true_and]
theorem vc_whole (ws : List W) (μ : Mu) (Q : WK) (h : sp_whole ws μ Q) : spBody N_is_whole 1 b_is_whole ws μ Q := by
  obtain ⟨i, rfl, q⟩ := h
  unfold b_is_whole
  walk_at "wps"
  rw [cIsi_p (T := "int") rfl (by simp), show isT "int" "int" = true from by decide]
  walk_at "wps"
  rw [cIsi_p (T := "int") rfl (by simp), show isT "int" "bool" = false from by decide]
  exact ret_p rfl q
def sp_below : SpW := fun ws μ Q => ∃ (many i : Int), ws = [.p (.int many), .p (.int i)] ∧ Q (.p (.bool (decide (0 ≤ i ∧ i < many)))) μ
theorem vc_below (ws : List W) (μ : Mu) (Q : WK) (h : sp_below ws μ Q) : spBody N_is_number_below 2 (b_is_number_below sp_whole) ws μ Q := by
  obtain ⟨many, i, rfl, q⟩ := h
  unfold b_is_number_below
  walk_at "wps"
  refine ⟨i, rfl, ?_⟩
  walk_at "wps"
  by_cases h1 : 0 ≤ i
  · simp only [h1, true_and, decide_true, if_true] at q ⊢
    exact ret_p rfl q
  · simp only [h1, false_and, decide_false, Bool.false_eq_true, if_false] at q ⊢
    exact ret_p rfl q
end K12
set_option maxHeartbeats 1000000
namespace K12
open PySem L2 L2.Ev Net
local macro_rules | `(tactic| walk_at "wp1") => `(tactic| simp only [spBody, startW, sIf, sSet, sAsg, sRet, sRetN, sDrop, sNext, wVar, wC, wOp, wTest, wAnd, wOr, wNot, wAndV, wOrV, wNotV, wChain, wIf, wCall, aCons, aNil, wTup, wLst, wNew, pdOf, Option.map_some, wSl, wP, wNoP, nName, nSub, nTup, nCons, nNil, wTy, wNeg, cInt, cMax, cMin, List.map_cons, List.map_nil, List.length_cons, List.length_nil, List.replicate_succ, List.replicate_zero, List.cons_append, List.nil_append, List.append_nil, Nat.reduceAdd, Nat.reduceSub, List.set_cons_zero, List.set_cons_succ, List.getElem?_cons_zero, List.getElem?_cons_succ, Nat.zero_add, oAdd_int, oI_int, oI0_int, oIx_tup, oIx_lst, oIx_scr, oEq_p, oNe_p, oIs_n, oIsNot_n, oIs_bb, oIsNot_bb, atI_0, atI_1, atI_2, atI_3, atI_4, shaped_int, shaped_bool, eqv_int, eqv_bool, eqv_lst_nil, eqv_tup_nil, shaped_nilL, shaped_nilT, true_and, and_true, Nat.sub_self, Nat.add_one_sub_one, Bool.false_eq_true, if_false, if_true, Nat.reduceLeDiff, Int.reduceToNat, Int.reducePow, Int.reduceLT, Int.reduceLE, Int.reduceMul, Int.reduceSub, Int.reduceAdd, decide_true, decide_false, wTupRev])
local macro_rules | `(tactic| walk_at "wps") => `(tactic| simp only [spBody, startW, sSeq, sIf, sSet, sAsg, sRet, sRetN, sDrop, sNext, wVar, wC, wOp, wTest, wAnd, wOr, wNot, wAndV, wOrV, wNotV, wChain, wIf, wCall, aCons, aNil, wTup, wLst, wNew, pdOf, Option.map_some, wSl, wP, wNoP, nName, nSub, nTup, nCons, nNil, wTy, wNeg, cInt, cMax, cMin, List.map_cons, List.map_nil, List.length_cons, List.length_nil, List.replicate_succ, List.replicate_zero, List.cons_append, List.nil_append, List.append_nil, Nat.reduceAdd, Nat.reduceSub, List.set_cons_zero, List.set_cons_succ, List.getElem?_cons_zero, List.getElem?_cons_succ, Nat.zero_add, oAdd_int, oI_int, oI0_int, oIx_tup, oIx_lst, oIx_scr, oEq_p, oNe_p, oIs_n, oIsNot_n, oIs_bb, oIsNot_bb, atI_0, atI_1, atI_2, atI_3, atI_4, shaped_int, shaped_bool, eqv_int, eqv_bool, eqv_lst_nil, eqv_tup_nil, shaped_nilL, shaped_nilT, true_and, and_true, Nat.sub_self, Nat.add_one_sub_one, Bool.false_eq_true, if_false, if_true, Nat.reduceLeDiff, Int.reduceToNat, Int.reducePow, Int.reduceLT, Int.reduceLE, Int.reduceMul, Int.reduceSub, Int.reduceAdd, decide_true, decide_false, wTupRev])
def wi (way : List Nat) : List Int := way.map fun (n : Nat) => (n : Int)
def wayD (way : List Nat) : PyData := .tuple ((wi way).map PyData.int)
def PS (ms : List Mt) (p now : Int) (d : PyData) : Prop := ∃ (k : Nat) (m : Mt) (q : Int), d = .tuple [.int m.b, .int k] ∧ ms[k]? = some m ∧ m.led p = some q ∧ now ≤ m.b
end K12
set_option maxHeartbeats 1000000
namespace K12
open PySem L2 L2.Ev Net
local macro_rules | `(tactic| walk_at "wp1") => `(tactic| simp only [spBody, startW, sIf, sSet, sAsg, sRet, sRetN, sDrop, sNext, wVar, wC, wOp, wTest, wAnd, wOr, wNot, wAndV, wOrV, wNotV, wChain, wIf, wCall, aCons, aNil, wTup, wLst, wNew, pdOf, Option.map_some, wSl, wP, wNoP, nName, nSub, nTup, nCons, nNil, wTy, wNeg, cInt, cMax, cMin, List.map_cons, List.map_nil, List.length_cons, List.length_nil, List.replicate_succ, List.replicate_zero, List.cons_append, List.nil_append, List.append_nil, Nat.reduceAdd, Nat.reduceSub, List.set_cons_zero, List.set_cons_succ, List.getElem?_cons_zero, List.getElem?_cons_succ, Nat.zero_add, oAdd_int, oI_int, oI0_int, oIx_tup, oIx_lst, oIx_scr, oEq_p, oNe_p, oIs_n, oIsNot_n, oIs_bb, oIsNot_bb, atI_0, atI_1, atI_2, atI_3, atI_4, shaped_int, shaped_bool, eqv_int, eqv_bool, eqv_lst_nil, eqv_tup_nil, shaped_nilL, shaped_nilT, true_and, and_true, Nat.sub_self, Nat.add_one_sub_one, Bool.false_eq_true, if_false, if_true, Nat.reduceLeDiff, Int.reduceToNat, Int.reducePow, Int.reduceLT, Int.reduceLE, Int.reduceMul, Int.reduceSub, Int.reduceAdd, decide_true, decide_false, wTupRev])
local macro_rules | `(tactic| walk_at "wps") => `(tactic| simp only [spBody, startW, sSeq, sIf, sSet, sAsg, sRet, sRetN, sDrop, sNext, wVar, wC, wOp, wTest, wAnd, wOr, wNot, wAndV, wOrV, wNotV, wChain, wIf, wCall, aCons, aNil, wTup, wLst, wNew, pdOf, Option.map_some, wSl, wP, wNoP, nName, nSub, nTup, nCons, nNil, wTy, wNeg, cInt, cMax, cMin, List.map_cons, List.map_nil, List.length_cons, List.length_nil, List.replicate_succ, List.replicate_zero, List.cons_append, List.nil_append, List.append_nil, Nat.reduceAdd, Nat.reduceSub, List.set_cons_zero, List.set_cons_succ, List.getElem?_cons_zero, List.getElem?_cons_succ, Nat.zero_add, oAdd_int, oI_int, oI0_int, oIx_tup, oIx_lst, oIx_scr, oEq_p, oNe_p, oIs_n, oIsNot_n, oIs_bb, oIsNot_bb, atI_0, atI_1, atI_2, atI_3, atI_4, shaped_int, shaped_bool, eqv_int, eqv_bool, eqv_lst_nil, eqv_tup_nil, shaped_nilL, shaped_nilT, true_and, and_true, Nat.sub_self, Nat.add_one_sub_one, Bool.false_eq_true, if_false, if_true, Nat.reduceLeDiff, Int.reduceToNat, Int.reducePow, Int.reduceLT, Int.reduceLE, Int.reduceMul, Int.reduceSub, Int.reduceAdd, decide_true, decide_false, wTupRev])
theorem meet_at {ms : List Mt} {n : Nat} {m : Mt} (h : ms[n]? = some m) : atI (ms.map Mt.d) (n : Int) = some m.d := by rw [atI_ofNat, List.getElem?_map, h]; rfl
theorem wl (way : List Nat) : ((wi way).map PyData.int).length = way.length := by simp [wi]
def sp_isway : SpW := fun ws μ Q => ∃ many ms p t way, ws = [.p (netD many ms), .p (.int p), .p (.int t), .p (wayD way)] ∧ (∀ n ∈ way, n < ms.length) ∧ Q (.p (.bool (isW ms p t way))) μ
theorem vc_isway (ws : List W) (μ : Mu) (Q : WK) (h : sp_isway ws μ Q) : spBody N_is_way 4 (b_is_way sp_led sp_end sp_below) ws μ Q := by
  obtain ⟨many, ms, p0, t0, way, rfl, hi, q⟩ := h
  unfold b_is_way
  refine ⟨rfl, ?_⟩
  show sSeq _ _ _ [some (.p (netD many ms)), some (.p (.int p0)), some (.p (.int t0)), some (.p (wayD way)), none, none, none, none, none, none, none, none, none, none, none] μ
  (try dsimp only); rw [sSeq_def]
  (try walk_at "wp1")
  rw [cIsi_p (T := "tuple") rfl (by simp), show isT "tuple" "tuple" = true from by decide]
  (try walk_at "wp1")
  simp only [Bool.not_true, Bool.false_eq_true, if_false]
  unfold netD
  walk_at "wps"
  simp only [sFor, iSeq, wVar, List.getElem?_cons_zero, List.getElem?_cons_succ, wayD]
  refine forR_of (fun xs ρ μ' => μ' = μ ∧ ∃ (rest : List Nat) (p t : Int) (y8 y9 y10 y11 y12 y13 y14 : Option W), xs = (wi rest).map PyData.int ∧ ρ = [some (.p (netD many ms)), some (.p (.int p0)), some (.p (.int t0)), some (.p (wayD way)), some (.p (.int many)), some (.p (.tuple (ms.map Mt.d))), some (.p (.int p)), some (.p (.int t)), y8, y9, y10, y11, y12, y13, y14] ∧ (∀ n ∈ rest, n < ms.length) ∧ isW ms p0 t0 way = isW ms p t rest)
    (fun _ _ _ _ => trivial) ?_ ?_ _ _ _ ⟨rfl, way, p0, t0, none, none, none, none, none, none, none, rfl, rfl, hi, rfl⟩
  · rintro ρ μ' ⟨rfl, rest, p, t, y8, y9, y10, y11, y12, y13, y14, er, rfl, _, e⟩
    cases rest with
    | cons _ _ => simp [wi] at er
    | nil =>
      walk_at "wps"
      rw [e] at q
      exact ret_p rfl q
  · rintro x xs ρ μ' R hR ⟨rfl, rest, p, t, y8, y9, y10, y11, y12, y13, y14, er, rfl, hi, e⟩
    cases rest with
    | nil => simp [wi] at er
    | cons n rest =>
      simp only [wi, List.map_cons, List.cons.injEq] at er
      obtain ⟨rfl, rfl⟩ := er
      have hn : n < ms.length := hi n (by simp)
      have hm : ms[n]? = some ms[n] := List.getElem?_eq_getElem hn
      generalize ms[n] = m at hm
      walk_at "wps"
      simp only [cLen_tup, List.length_map]
      refine ⟨_, _, rfl, ?_⟩
      rw [show decide ((0 : Int) ≤ (n : Int) ∧ (n : Int) < (ms.length : Int)) = true from decide_eq_true (by omega)]
      walk_at "wps"
      simp only [Bool.not_true, Bool.false_eq_true, if_false, meet_at hm]
      unfold Mt.d
      walk_at "wps"
      refine ⟨m, p, rfl, ?_⟩
      simp only [isW, hm] at e
      unfold ledD
      cases hq : m.led p with
      | none =>
        simp only [hq] at e
        (try walk_at "wps")
        simp only [isNo, if_true]
        rw [e] at q
        exact ret_p rfl q
      | some p2 =>
        simp only [hq] at e
        walk_at "wps"
        simp only [isNo, Bool.false_eq_true, if_false]
        by_cases hb : m.b < t
        · simp only [hb, decide_true, if_true] at e ⊢
          rw [e] at q
          exact ret_p rfl q
        · simp only [hb, decide_false, Bool.false_eq_true, if_false] at e ⊢
          exact ⟨m, rfl, hR _ _ ⟨rfl, rest, p2, m.e, _, _, _, _, _, _, _, rfl, rfl, fun k hk => hi k (by simp [hk]), e⟩⟩
def plsD (ms : List Mt) (p : Int) (way : List Nat) : PyData := .tuple ((p :: pls ms p way).map PyData.int)
def sp_places : SpW := fun ws μ Q => ∃ many ms p t way, ws = [.p (netD many ms), .p (.int p), .p (wayD way)] ∧ Wy ms p t way ∧ way.length ≤ 10000 ∧ Q (.p (plsD ms p way)) μ
theorem vc_places (ws : List W) (μ : Mu) (Q : WK) (h : sp_places ws μ Q) : spBody N_places_on 3 (b_places_on sp_led) ws μ Q := by
  obtain ⟨many, ms, p0, t0, way, rfl, hw, hl, q⟩ := h
  unfold b_places_on netD
  walk_at "wps"
  refine ⟨szk (by decide), ?_⟩
  simp only [sFor, iSeq, wVar, List.getElem?_cons_zero, List.getElem?_cons_succ, wayD]
  refine forR_of (fun xs ρ μ' => ∃ (rest : List Nat) (ini : List Int) (p t : Int) (y6 : Option W), xs = (wi rest).map PyData.int ∧ ρ = [some (.p (netD many ms)), some (.p (.int p0)), some (.p (wayD way)), some (.p (.int many)), some (.p (.tuple (ms.map Mt.d))), some (.r μ.length), y6] ∧ Wy ms p t rest ∧ ini ++ p :: pls ms p rest = p0 :: pls ms p0 way ∧ ini.length + rest.length ≤ 10000 ∧ μ' = μ ++ [.lst ((ini ++ [p]).map PyData.int)])
    (fun _ _ _ _ => trivial) ?_ ?_ _ _ _ ⟨way, [], p0, t0, none, rfl, rfl, hw, rfl, by simpa using hl, rfl⟩
  · rintro ρ μ' ⟨rest, ini, p, t, y6, er, rfl, _, e, _, rfl⟩
    cases rest with
    | cons _ _ => simp [wi] at er
    | nil =>
      have hrl : lsOf (μ ++ [.lst ((ini ++ [p]).map PyData.int)]) (.r μ.length) = some ((ini ++ [p]).map PyData.int) := by simp [lsOf]
      walk_at "wps"
      simp only [cTuple, rlOf, hrl]
      refine ret_cut (by simp) ?_
      rw [List.take_left]
      simp only [pls] at e
      rw [e]
      exact q
  · rintro x xs ρ μ' R hR ⟨rest, ini, p, t, y6, er, rfl, hw, e, hl, rfl⟩
    cases rest with
    | nil => simp [wi] at er
    | cons n rest =>
      simp only [wi, List.map_cons, List.cons.injEq] at er
      obtain ⟨rfl, rfl⟩ := er
      obtain ⟨m, p2, hm, hq, hb, hw⟩ := hw
      have hc : (μ ++ [Cell.lst ((ini ++ [p]).map PyData.int)])[μ.length]? = some (.lst ((ini ++ [p]).map PyData.int)) := by simp
      walk_at "wps"
      simp only [wApp, wVar, List.getElem?_cons_zero, List.getElem?_cons_succ, hc, true_and]
      walk_at "wps"
      simp only [meet_at hm, oIx_ref hc]
      simp only [List.map_append, List.map_cons, List.map_nil, atI_last]
      refine ⟨m, p, rfl, ?_⟩
      simp only [ledD, hq]
      simp only [List.map_append, List.map_cons, List.map_nil] at hc
      simp only [hc]
      refine ⟨szl (by simp at hl ⊢; omega), hR _ _ ⟨rest, ini ++ [p], p2, m.e, _, rfl, rfl, hw, ?_, by simp at hl ⊢; omega, by simp⟩⟩
      simp only [pls, hm, hq] at e
      simpa using e
theorem fin_last {ms : List Mt} {t : Int} (ini : List Nat) {n : Nat} {m : Mt} (h : ms[n]? = some m) (hi : ∀ k ∈ ini, k < ms.length) : Net.fin ms t (ini ++ [n]) = m.e := by
  rw [fin_append [n] hi]; simp only [Net.fin, h]
def sp_comes : SpW := fun ws μ Q => ∃ many ms t way, ws = [.p (netD many ms), .p (.int t), .p (wayD way)] ∧ (∀ n ∈ way, n < ms.length) ∧ Q (.p (.int (Net.fin ms t way))) μ
theorem vc_comes (ws : List W) (μ : Mu) (Q : WK) (h : sp_comes ws μ Q) : spBody N_comes_at 3 (b_comes_at sp_end) ws μ Q := by
  obtain ⟨many, ms, t, way, rfl, hi, q⟩ := h
  unfold b_comes_at netD wayD
  walk_at "wps"
  simp only [cLen_tup, wl]
  by_cases hz : way = []
  · subst hz
    walk_at "wps"
    simp only [Net.fin] at q
    exact ret_p rfl q
  · have h0 : ¬ ((way.length : Int) = 0) := by have := List.length_pos_iff.mpr hz; omega
    walk_at "wps"
    rw [if_neg (by simpa using hz)]
    obtain ⟨ini, n, rfl⟩ : ∃ ini n, way = ini ++ [n] := ⟨way.dropLast, way.getLast hz, (List.dropLast_concat_getLast hz).symm⟩
    have hn : n < ms.length := hi n (by simp)
    have hm : ms[n]? = some ms[n] := List.getElem?_eq_getElem hn
    rw [fin_last ini hm (fun k hk => hi k (by simp [hk]))] at q
    have ea : atI ((wi (ini ++ [n])).map PyData.int) (-1) = some (.int n) := by
      have : (wi (ini ++ [n])).map PyData.int = (wi ini).map PyData.int ++ [.int (n : Int)] := by simp [wi]
      rw [this, atI_last]
    simp only [ea, oIx_tup, meet_at hm]
    exact ⟨_, rfl, ret_p rfl q⟩
end K12
set_option maxHeartbeats 1000000
namespace K12
open PySem L2 L2.Ev Net TL
local macro_rules | `(tactic| walk_at "wp1") => `(tactic| simp only [spBody, startW, sIf, sSet, sAsg, sRet, sRetN, sDrop, sNext, wVar, wC, wOp, wTest, wAnd, wOr, wNot, wAndV, wOrV, wNotV, wChain, wIf, wCall, aCons, aNil, wTup, wLst, wNew, pdOf, Option.map_some, wSl, wP, wNoP, nName, nSub, nTup, nCons, nNil, wTy, wNeg, cInt, cMax, cMin, List.map_cons, List.map_nil, List.length_cons, List.length_nil, List.replicate_succ, List.replicate_zero, List.cons_append, List.nil_append, List.append_nil, Nat.reduceAdd, Nat.reduceSub, List.set_cons_zero, List.set_cons_succ, List.getElem?_cons_zero, List.getElem?_cons_succ, Nat.zero_add, oAdd_int, oI_int, oI0_int, oIx_tup, oIx_lst, oIx_scr, oEq_p, oNe_p, oIs_n, oIsNot_n, oIs_bb, oIsNot_bb, atI_0, atI_1, atI_2, atI_3, atI_4, shaped_int, shaped_bool, eqv_int, eqv_bool, eqv_lst_nil, eqv_tup_nil, shaped_nilL, shaped_nilT, true_and, and_true, Nat.sub_self, Nat.add_one_sub_one, Bool.false_eq_true, if_false, if_true, Nat.reduceLeDiff, Int.reduceToNat, Int.reducePow, Int.reduceLT, Int.reduceLE, Int.reduceMul, Int.reduceSub, Int.reduceAdd, decide_true, decide_false, wTupRev])
local macro_rules | `(tactic| walk_at "wps") => `(tactic| simp only [spBody, startW, sSeq, sIf, sSet, sAsg, sRet, sRetN, sDrop, sNext, wVar, wC, wOp, wTest, wAnd, wOr, wNot, wAndV, wOrV, wNotV, wChain, wIf, wCall, aCons, aNil, wTup, wLst, wNew, pdOf, Option.map_some, wSl, wP, wNoP, nName, nSub, nTup, nCons, nNil, wTy, wNeg, cInt, cMax, cMin, List.map_cons, List.map_nil, List.length_cons, List.length_nil, List.replicate_succ, List.replicate_zero, List.cons_append, List.nil_append, List.append_nil, Nat.reduceAdd, Nat.reduceSub, List.set_cons_zero, List.set_cons_succ, List.getElem?_cons_zero, List.getElem?_cons_succ, Nat.zero_add, oAdd_int, oI_int, oI0_int, oIx_tup, oIx_lst, oIx_scr, oEq_p, oNe_p, oIs_n, oIsNot_n, oIs_bb, oIsNot_bb, atI_0, atI_1, atI_2, atI_3, atI_4, shaped_int, shaped_bool, eqv_int, eqv_bool, eqv_lst_nil, eqv_tup_nil, shaped_nilL, shaped_nilT, true_and, and_true, Nat.sub_self, Nat.add_one_sub_one, Bool.false_eq_true, if_false, if_true, Nat.reduceLeDiff, Int.reduceToNat, Int.reducePow, Int.reduceLT, Int.reduceLE, Int.reduceMul, Int.reduceSub, Int.reduceAdd, decide_true, decide_false, wTupRev])
end K12
set_option maxHeartbeats 1000000
namespace K12
open PySem L2 L2.Ev Net TL
local macro_rules | `(tactic| walk_at "wp1") => `(tactic| simp only [spBody, startW, sIf, sSet, sAsg, sRet, sRetN, sDrop, sNext, wVar, wC, wOp, wTest, wAnd, wOr, wNot, wAndV, wOrV, wNotV, wChain, wIf, wCall, aCons, aNil, wTup, wLst, wNew, pdOf, Option.map_some, wSl, wP, wNoP, nName, nSub, nTup, nCons, nNil, wTy, wNeg, cInt, cMax, cMin, List.map_cons, List.map_nil, List.length_cons, List.length_nil, List.replicate_succ, List.replicate_zero, List.cons_append, List.nil_append, List.append_nil, Nat.reduceAdd, Nat.reduceSub, List.set_cons_zero, List.set_cons_succ, List.getElem?_cons_zero, List.getElem?_cons_succ, Nat.zero_add, oAdd_int, oI_int, oI0_int, oIx_tup, oIx_lst, oIx_scr, oEq_p, oNe_p, oIs_n, oIsNot_n, oIs_bb, oIsNot_bb, atI_0, atI_1, atI_2, atI_3, atI_4, shaped_int, shaped_bool, eqv_int, eqv_bool, eqv_lst_nil, eqv_tup_nil, shaped_nilL, shaped_nilT, true_and, and_true, Nat.sub_self, Nat.add_one_sub_one, Bool.false_eq_true, if_false, if_true, Nat.reduceLeDiff, Int.reduceToNat, Int.reducePow, Int.reduceLT, Int.reduceLE, Int.reduceMul, Int.reduceSub, Int.reduceAdd, decide_true, decide_false, wTupRev])
local macro_rules | `(tactic| walk_at "wps") => `(tactic| simp only [spBody, startW, sSeq, sIf, sSet, sAsg, sRet, sRetN, sDrop, sNext, wVar, wC, wOp, wTest, wAnd, wOr, wNot, wAndV, wOrV, wNotV, wChain, wIf, wCall, aCons, aNil, wTup, wLst, wNew, pdOf, Option.map_some, wSl, wP, wNoP, nName, nSub, nTup, nCons, nNil, wTy, wNeg, cInt, cMax, cMin, List.map_cons, List.map_nil, List.length_cons, List.length_nil, List.replicate_succ, List.replicate_zero, List.cons_append, List.nil_append, List.append_nil, Nat.reduceAdd, Nat.reduceSub, List.set_cons_zero, List.set_cons_succ, List.getElem?_cons_zero, List.getElem?_cons_succ, Nat.zero_add, oAdd_int, oI_int, oI0_int, oIx_tup, oIx_lst, oIx_scr, oEq_p, oNe_p, oIs_n, oIsNot_n, oIs_bb, oIsNot_bb, atI_0, atI_1, atI_2, atI_3, atI_4, shaped_int, shaped_bool, eqv_int, eqv_bool, eqv_lst_nil, eqv_tup_nil, shaped_nilL, shaped_nilT, true_and, and_true, Nat.sub_self, Nat.add_one_sub_one, Bool.false_eq_true, if_false, if_true, Nat.reduceLeDiff, Int.reduceToNat, Int.reducePow, Int.reduceLT, Int.reduceLE, Int.reduceMul, Int.reduceSub, Int.reduceAdd, decide_true, decide_false, wTupRev])
end K12
set_option maxHeartbeats 1000000
namespace K12
open PySem L2 L2.Ev Net TL
local macro_rules | `(tactic| walk_at "wp1") => `(tactic| simp only [spBody, startW, sIf, sSet, sAsg, sRet, sRetN, sDrop, sNext, wVar, wC, wOp, wTest, wAnd, wOr, wNot, wAndV, wOrV, wNotV, wChain, wIf, wCall, aCons, aNil, wTup, wLst, wNew, pdOf, Option.map_some, wSl, wP, wNoP, nName, nSub, nTup, nCons, nNil, wTy, wNeg, cInt, cMax, cMin, List.map_cons, List.map_nil, List.length_cons, List.length_nil, List.replicate_succ, List.replicate_zero, List.cons_append, List.nil_append, List.append_nil, Nat.reduceAdd, Nat.reduceSub, List.set_cons_zero, List.set_cons_succ, List.getElem?_cons_zero, List.getElem?_cons_succ, Nat.zero_add, oAdd_int, oI_int, oI0_int, oIx_tup, oIx_lst, oIx_scr, oEq_p, oNe_p, oIs_n, oIsNot_n, oIs_bb, oIsNot_bb, atI_0, atI_1, atI_2, atI_3, atI_4, shaped_int, shaped_bool, eqv_int, eqv_bool, eqv_lst_nil, eqv_tup_nil, shaped_nilL, shaped_nilT, true_and, and_true, Nat.sub_self, Nat.add_one_sub_one, Bool.false_eq_true, if_false, if_true, Nat.reduceLeDiff, Int.reduceToNat, Int.reducePow, Int.reduceLT, Int.reduceLE, Int.reduceMul, Int.reduceSub, Int.reduceAdd, decide_true, decide_false, wTupRev])
local macro_rules | `(tactic| walk_at "wps") => `(tactic| simp only [spBody, startW, sSeq, sIf, sSet, sAsg, sRet, sRetN, sDrop, sNext, wVar, wC, wOp, wTest, wAnd, wOr, wNot, wAndV, wOrV, wNotV, wChain, wIf, wCall, aCons, aNil, wTup, wLst, wNew, pdOf, Option.map_some, wSl, wP, wNoP, nName, nSub, nTup, nCons, nNil, wTy, wNeg, cInt, cMax, cMin, List.map_cons, List.map_nil, List.length_cons, List.length_nil, List.replicate_succ, List.replicate_zero, List.cons_append, List.nil_append, List.append_nil, Nat.reduceAdd, Nat.reduceSub, List.set_cons_zero, List.set_cons_succ, List.getElem?_cons_zero, List.getElem?_cons_succ, Nat.zero_add, oAdd_int, oI_int, oI0_int, oIx_tup, oIx_lst, oIx_scr, oEq_p, oNe_p, oIs_n, oIsNot_n, oIs_bb, oIsNot_bb, atI_0, atI_1, atI_2, atI_3, atI_4, shaped_int, shaped_bool, eqv_int, eqv_bool, eqv_lst_nil, eqv_tup_nil, shaped_nilL, shaped_nilT, true_and, and_true, Nat.sub_self, Nat.add_one_sub_one, Bool.false_eq_true, if_false, if_true, Nat.reduceLeDiff, Int.reduceToNat, Int.reducePow, Int.reduceLT, Int.reduceLE, Int.reduceMul, Int.reduceSub, Int.reduceAdd, decide_true, decide_false, wTupRev])
end K12
set_option maxHeartbeats 1000000
namespace K12
open PySem L2 L2.Ev Net TL
local macro_rules | `(tactic| walk_at "wp1") => `(tactic| simp only [spBody, startW, sIf, sSet, sAsg, sRet, sRetN, sDrop, sNext, wVar, wC, wOp, wTest, wAnd, wOr, wNot, wAndV, wOrV, wNotV, wChain, wIf, wCall, aCons, aNil, wTup, wLst, wNew, pdOf, Option.map_some, wSl, wP, wNoP, nName, nSub, nTup, nCons, nNil, wTy, wNeg, cInt, cMax, cMin, List.map_cons, List.map_nil, List.length_cons, List.length_nil, List.replicate_succ, List.replicate_zero, List.cons_append, List.nil_append, List.append_nil, Nat.reduceAdd, Nat.reduceSub, List.set_cons_zero, List.set_cons_succ, List.getElem?_cons_zero, List.getElem?_cons_succ, Nat.zero_add, oAdd_int, oI_int, oI0_int, oIx_tup, oIx_lst, oIx_scr, oEq_p, oNe_p, oIs_n, oIsNot_n, oIs_bb, oIsNot_bb, atI_0, atI_1, atI_2, atI_3, atI_4, shaped_int, shaped_bool, eqv_int, eqv_bool, eqv_lst_nil, eqv_tup_nil, shaped_nilL, shaped_nilT, true_and, and_true, Nat.sub_self, Nat.add_one_sub_one, Bool.false_eq_true, if_false, if_true, Nat.reduceLeDiff, Int.reduceToNat, Int.reducePow, Int.reduceLT, Int.reduceLE, Int.reduceMul, Int.reduceSub, Int.reduceAdd, decide_true, decide_false, wTupRev])
local macro_rules | `(tactic| walk_at "wps") => `(tactic| simp only [spBody, startW, sSeq, sIf, sSet, sAsg, sRet, sRetN, sDrop, sNext, wVar, wC, wOp, wTest, wAnd, wOr, wNot, wAndV, wOrV, wNotV, wChain, wIf, wCall, aCons, aNil, wTup, wLst, wNew, pdOf, Option.map_some, wSl, wP, wNoP, nName, nSub, nTup, nCons, nNil, wTy, wNeg, cInt, cMax, cMin, List.map_cons, List.map_nil, List.length_cons, List.length_nil, List.replicate_succ, List.replicate_zero, List.cons_append, List.nil_append, List.append_nil, Nat.reduceAdd, Nat.reduceSub, List.set_cons_zero, List.set_cons_succ, List.getElem?_cons_zero, List.getElem?_cons_succ, Nat.zero_add, oAdd_int, oI_int, oI0_int, oIx_tup, oIx_lst, oIx_scr, oEq_p, oNe_p, oIs_n, oIsNot_n, oIs_bb, oIsNot_bb, atI_0, atI_1, atI_2, atI_3, atI_4, shaped_int, shaped_bool, eqv_int, eqv_bool, eqv_lst_nil, eqv_tup_nil, shaped_nilL, shaped_nilT, true_and, and_true, Nat.sub_self, Nat.add_one_sub_one, Bool.false_eq_true, if_false, if_true, Nat.reduceLeDiff, Int.reduceToNat, Int.reducePow, Int.reduceLT, Int.reduceLE, Int.reduceMul, Int.reduceSub, Int.reduceAdd, decide_true, decide_false, wTupRev])
structure IsTop (ms : List Mt) (T : Int) : Prop where
  up : ∀ m ∈ ms, m.e ≤ T
  is : (ms = [] ∧ T = 0) ∨ ∃ m ∈ ms, m.e = T
theorem IsTop.uniq {ms : List Mt} {T U : Int} (h : IsTop ms T) (k : IsTop ms U) : T = U := by
  rcases h.is with ⟨rfl, rfl⟩ | ⟨m, hm, rfl⟩
  · rcases k.is with ⟨_, rfl⟩ | ⟨m, hm, _⟩
    · rfl
    · simp at hm
  · rcases k.is with ⟨rfl, _⟩ | ⟨n, hn, rfl⟩
    · simp at hm
    · exact Int.le_antisymm (k.up m hm) (h.up n hn)
end K12
namespace Net
open PySem L2 L2.Ev
structure Sn where
  k : Nat
  fr : Int
  to : Int
  b : Int
  e : Int
def Sn.d (s : Sn) : PyData := .tuple [.int s.k, .int s.fr, .int s.to, .int s.b, .int s.e]
def mSteps (k : Nat) (m : Mt) : List Sn := ⟨k, m.one, m.oth, m.b, m.e⟩ :: (if m.w = true then [⟨k, m.oth, m.one, m.b, m.e⟩] else [])
def steps : Nat → List Mt → List Sn
  | _, [] => []
  | k, m :: ms => mSteps k m ++ steps (k + 1) ms
end Net
namespace Net
open PySem L2 L2.Ev TL
def okS (z : Str) : Prop := ∀ c ∈ tl z, c < 1114112
theorem shaped_ok {z : Str} (h : okS z) : SeqAt.shaped (.str z) = true := by
  have : z.cps.all (· < 1114112) = true := by
    rw [Array.all_eq_true_iff_forall_mem]
    intro c hc
    exact decide_eq_true (h c (Array.mem_toList_iff.mpr hc))
  simp only [SeqAt.shaped, PyData.canLay0, PyData.depth]
  rw [Bool.and_eq_true]
  exact ⟨this, by simp⟩
theorem okS_nm {n : Int} (h : 0 ≤ n) : okS (nm n) := fun c hc => by
  rw [tl_nm h] at hc
  have := numL_digits n.toNat c hc
  omega
theorem joinL_mem {S : List Nat} {c : Nat} : ∀ {ps : List (List Nat)}, c ∈ joinL S ps → c ∈ S ∨ ∃ p ∈ ps, c ∈ p
  | [], h => by simp [joinL] at h
  | [p], h => .inr ⟨p, by simp, h⟩
  | p :: q :: r, h => by
    simp only [joinL, List.mem_append] at h
    rcases h with h | h | h
    · exact .inr ⟨p, by simp, h⟩
    · exact .inl h
    · rcases joinL_mem h with h | ⟨x, hx, h⟩
      · exact .inl h
      · exact .inr ⟨x, by simp at hx ⊢; exact .inr hx, h⟩
theorem okS_join {y : Str} {ps : List Str} (hy : okS y) (h : ∀ p ∈ ps, okS p) : okS (Txt.join y ps) := fun c hc => by
  rw [join_eq, tl_join] at hc
  rcases joinL_mem hc with hc | ⟨p, hp, hc⟩
  · exact hy c hc
  · obtain ⟨z, hz, rfl⟩ := List.mem_map.mp hp
    exact h z hz c hc
end Net
namespace Net
open PySem L2 L2.Ev
inductive Rch (ss : List Sn) (p0 t0 : Int) : Int → Int → Prop
  | here : Rch ss p0 t0 p0 t0
  | step {s : Sn} {t : Int} : s ∈ ss → Rch ss p0 t0 s.fr t → t ≤ s.b → Rch ss p0 t0 s.to s.e
structure Flr (ss : List Sn) (p0 t0 : Int) (f : Int → Option Int) : Prop where
  here : ∃ x, f p0 = some x ∧ x ≤ t0
  step : ∀ s ∈ ss, ∀ x, f s.fr = some x → x ≤ s.b → ∃ y, f s.to = some y ∧ y ≤ s.e
theorem Flr.le {ss : List Sn} {p0 t0 p t : Int} {f : Int → Option Int} (h : Flr ss p0 t0 f) (r : Rch ss p0 t0 p t) : ∃ y, f p = some y ∧ y ≤ t := by
  induction r with
  | here => exact h.here
  | step hs _ hb ih =>
    obtain ⟨x, hx, hle⟩ := ih
    exact h.step _ hs x hx (Int.le_trans hle hb)
structure Ear (ss : List Sn) (p0 t0 : Int) (f : Int → Option Int) : Prop extends Flr ss p0 t0 f where
  att : ∀ p t, f p = some t → Rch ss p0 t0 p t
theorem Ear.uniq {ss : List Sn} {p0 t0 : Int} {f g : Int → Option Int} (h : Ear ss p0 t0 f) (k : Ear ss p0 t0 g) : f = g := by
  funext p
  cases hf : f p with
  | none =>
    cases hg : g p with
    | none => rfl
    | some y =>
      obtain ⟨x, hx, _⟩ := h.le (k.att p y hg)
      rw [hf] at hx; cases hx
  | some x =>
    obtain ⟨y, hy, h1⟩ := k.le (h.att p x hf)
    obtain ⟨x', hx', h2⟩ := h.le (k.att p y hy)
    rw [hf] at hx'; cases hx'
    rw [hy]
    congr 1
    omega
theorem Rch.ge {ss : List Sn} {p0 t0 p t : Int} (hl : ∀ s ∈ ss, s.b < s.e) (r : Rch ss p0 t0 p t) : t0 ≤ t := by
  induction r with
  | here => exact Int.le_refl _
  | step hs _ hb ih => have := hl _ hs; omega
theorem Rch.mono {ss ss' : List Sn} {p0 t0 p t : Int} (h : ∀ s ∈ ss, s ∈ ss') (r : Rch ss p0 t0 p t) : Rch ss' p0 t0 p t := by
  induction r with
  | here => exact .here
  | step hs _ hb ih => exact .step (h _ hs) ih hb
theorem steps_mem {ms : List Mt} : ∀ {k : Nat} {s : Sn}, s ∈ steps k ms → ∃ i m, ms[i]? = some m ∧ s ∈ mSteps (k + i) m := by
  induction ms with
  | nil => intro k s h; simp [steps] at h
  | cons m ms ih =>
    intro k s h
    simp only [steps, List.mem_append] at h
    rcases h with h | h
    · exact ⟨0, m, rfl, h⟩
    · obtain ⟨i, m', e, h'⟩ := ih h
      exact ⟨i + 1, m', e, by rw [show k + (i + 1) = k + 1 + i by omega]; exact h'⟩
theorem mem_steps {ms : List Mt} : ∀ {k i : Nat} {m : Mt} {s : Sn}, ms[i]? = some m → s ∈ mSteps (k + i) m → s ∈ steps k ms := by
  induction ms with
  | nil => intro k i m s e; simp at e
  | cons m0 ms ih =>
    intro k i m s e h
    simp only [steps, List.mem_append]
    cases i with
    | zero => simp at e; subst e; exact .inl h
    | succ i => exact .inr (ih (by simpa using e) (by rw [show k + 1 + i = k + (i + 1) by omega]; exact h))
structure SnOk (many : Int) (s : Sn) : Prop where
  f0 : 0 ≤ s.fr
  f1 : s.fr < many
  t0 : 0 ≤ s.to
  t1 : s.to < many
  lt : s.b < s.e
  b0 : 0 ≤ s.b
theorem steps_ok {many : Int} {ms : List Mt} (h : ∀ m ∈ ms, m.Ok many) {k : Nat} : ∀ s ∈ steps k ms, SnOk many s := fun s hs => by
  obtain ⟨i, m, e, hm⟩ := steps_mem hs
  have o := h m (List.mem_of_getElem? e)
  unfold mSteps at hm
  have hl := o.l1
  rcases List.mem_cons.mp hm with rfl | hm
  · exact ⟨o.o0, o.o1, o.t0, o.t1, by show m.b < m.b + m.l; omega, o.b0⟩
  · split at hm
    · simp at hm
      subst hm
      exact ⟨o.t0, o.t1, o.o0, o.o1, by show m.b < m.b + m.l; omega, o.b0⟩
    · simp at hm
def atF (l : List (Option Int)) (p : Int) : Option Int := if 0 ≤ p then (l[p.toNat]?).join else none
theorem atF_set {l : List (Option Int)} {p q : Int} {x : Option Int} (h0 : 0 ≤ p) (h1 : p < l.length) : atF (l.set p.toNat x) q = if q = p then x else atF l q := by
  unfold atF
  by_cases hq : 0 ≤ q
  · rw [if_pos hq, if_pos hq]
    by_cases e : q = p
    · subst e
      rw [if_pos rfl, List.getElem?_set_self (by omega)]
      rfl
    · rw [if_neg e, List.getElem?_set_ne (by omega)]
  · rw [if_neg hq, if_neg hq, if_neg (by omega)]
def Lows (l : List (Option Int)) (s : Sn) : Prop := (∃ x, atF l s.fr = some x ∧ x ≤ s.b) ∧ ∀ y, atF l s.to = some y → s.e < y
def lows (l : List (Option Int)) (s : Sn) : Bool := match atF l s.fr with
  | none => false
  | some x => decide (x ≤ s.b) && (match atF l s.to with | none => true | some y => decide (s.e < y))
theorem lows_iff {l : List (Option Int)} {s : Sn} : lows l s = true ↔ Lows l s := by
  unfold lows Lows
  cases h1 : atF l s.fr with
  | none => simp
  | some x =>
    cases h2 : atF l s.to with
    | none => simp
    | some y => simp
def rk (ss : List Sn) : Option Int → Nat
  | none => ss.length + 1
  | some t => (ss.filter fun s => decide (s.e < t)).length
theorem filter_lt {α : Type} {p q : α → Bool} : ∀ {l : List α} {x : α}, (∀ y, p y = true → q y = true) → x ∈ l → q x = true → p x = false → (l.filter p).length < (l.filter q).length
  | [], x, _, h, _, _ => by simp at h
  | y :: l, x, hpq, h, hq, hp => by
    have le : ∀ l : List α, (l.filter p).length ≤ (l.filter q).length := fun l => by
      induction l with
      | nil => simp
      | cons z l ih =>
        rw [List.filter_cons, List.filter_cons]
        cases e : p z with
        | true => rw [if_pos rfl, if_pos (hpq z e)]; simp; exact ih
        | false =>
          rw [if_neg (by simp)]
          split
          · simp; omega
          · exact ih
    rcases List.mem_cons.mp h with rfl | h
    · rw [List.filter_cons, List.filter_cons, if_neg (by simp [hp]), if_pos hq]
      have := le l
      simp; omega
    · have ih := filter_lt hpq h hq hp
      rw [List.filter_cons, List.filter_cons]
      cases e : p y with
      | true => rw [if_pos rfl, if_pos (hpq y e)]; simp; exact ih
      | false =>
        rw [if_neg (by simp)]
        split
        · simp; omega
        · exact ih
structure Bf (ss : List Sn) (many p0 t0 : Int) (l : List (Option Int)) : Prop where
  len : (l.length : Int) = many
  here : ∃ x, atF l p0 = some x ∧ x ≤ t0
  att : ∀ p t, atF l p = some t → Rch ss p0 t0 p t
theorem Bf.low {ss : List Sn} {many p0 t0 : Int} {l : List (Option Int)} (h : Bf ss many p0 t0 l) {s : Sn} (hs : s ∈ ss) (ok : SnOk many s) (hw : Lows l s) : Bf ss many p0 t0 (l.set s.to.toNat (some s.e)) := by
  have h0 := ok.t0; have h1 := ok.t1; have hl := h.len
  refine ⟨by simpa using hl, ?_, fun p t e => ?_⟩
  · rw [atF_set h0 (by omega)]
    split
    · rename_i e
      obtain ⟨x, hx, hle⟩ := h.here
      rw [e] at hx
      exact ⟨_, rfl, by have := hw.2 x hx; omega⟩
    · exact h.here
  · rw [atF_set h0 (by omega)] at e
    split at e
    · rename_i e1
      cases e
      subst e1
      obtain ⟨x, hx, hle⟩ := hw.1
      exact .step hs (h.att _ _ hx) hle
    · exact h.att p t e
theorem Bf.start {ss : List Sn} {many p0 t0 : Int} (h0 : 0 ≤ p0) (h1 : p0 < many) : Bf ss many p0 t0 ((List.replicate many.toNat none).set p0.toNat (some t0)) := by
  have hl : ((List.replicate many.toNat (none : Option Int)).length : Int) = many := by simp; omega
  have at0 : ∀ q, atF (List.replicate many.toNat none) q = none := fun q => by
    unfold atF
    split
    · rw [List.getElem?_replicate]; split <;> rfl
    · rfl
  refine ⟨by simpa using hl, ⟨t0, ?_, Int.le_refl _⟩, fun p t e => ?_⟩
  · rw [atF_set h0 (by omega), if_pos rfl]
  · rw [atF_set h0 (by omega)] at e
    split at e
    · rename_i e1; cases e; subst e1; exact .here
    · rw [at0] at e; cases e
structure Came (ss : List Sn) (p0 t0 : Int) (f : Int → Option Int) (g : Int → Option (Nat × Int)) : Prop where
  att : ∀ p t, f p = some t → Rch ss p0 t0 p t
  here : f p0 = some t0
  last : ∀ p k q, g p = some (k, q) → ∃ s ∈ ss, s.k = k ∧ s.fr = q ∧ s.to = p ∧ f p = some s.e ∧ ∃ x, f q = some x ∧ x ≤ s.b
  root : ∀ p t, f p = some t → g p = none → p = p0
  none : g p0 = none
def putF {α : Type} (f : Int → Option α) (p : Int) (x : α) : Int → Option α := fun q => if q = p then some x else f q
theorem Came.start (ss : List Sn) (p0 t0 : Int) : Came ss p0 t0 (putF (fun _ => Option.none) p0 t0) (fun _ => Option.none) where
  att := fun p t e => by unfold putF at e; split at e; · rename_i h; cases e; subst h; exact .here
                         · cases e
  here := by simp [putF]
  last := fun p k q e => by cases e
  root := fun p t e _ => by unfold putF at e; split at e; · assumption
                            · cases e
  none := rfl
theorem Came.step {ss : List Sn} {p0 t0 : Int} {f : Int → Option Int} {g : Int → Option (Nat × Int)} (hl : ∀ s ∈ ss, s.b < s.e) (h : Came ss p0 t0 f g) {s : Sn} (hs : s ∈ ss) {done : List Sn} (hd : ∀ d ∈ done, d.b ≤ s.b)
    (cl : ∀ d ∈ done, ∀ x, f d.fr = some x → x ≤ d.b → ∃ y, f d.to = some y ∧ y ≤ d.e) (hg : ∀ p k q, g p = some (k, q) → ∃ d ∈ done, d.k = k ∧ d.fr = q ∧ d.to = p ∧ f p = some d.e ∧ ∃ x, f q = some x ∧ x ≤ d.b)
    {x : Int} (hx : f s.fr = some x) (hb : x ≤ s.b) (ht : ∀ y, f s.to = some y → s.e < y) :
    Came ss p0 t0 (putF f s.to s.e) (putF g s.to (s.k, s.fr)) ∧ (∀ d ∈ done ++ [s], ∀ x, putF f s.to s.e d.fr = some x → x ≤ d.b → ∃ y, putF f s.to s.e d.to = some y ∧ y ≤ d.e) ∧
      ∀ p k q, putF g s.to (s.k, s.fr) p = some (k, q) → ∃ d ∈ done ++ [s], d.k = k ∧ d.fr = q ∧ d.to = p ∧ putF f s.to s.e p = some d.e ∧ ∃ x, putF f s.to s.e q = some x ∧ x ≤ d.b := by
  have hlt := hl s hs
  have hne : s.fr ≠ s.to := fun e => by rw [e] at hx; have := ht x hx; omega
  have hp0 : s.to ≠ p0 := fun e => by
    have := ht t0 (by rw [e]; exact h.here)
    have := (h.att _ _ hx).ge hl
    omega
  have low : ∀ q x, f q = some x → x ≤ s.b → q ≠ s.to := fun q x hq hle e => by subst e; have := ht x hq; omega
  have G : ∀ p k q, putF g s.to (s.k, s.fr) p = some (k, q) → ∃ d ∈ done ++ [s], d.k = k ∧ d.fr = q ∧ d.to = p ∧ putF f s.to s.e p = some d.e ∧ ∃ x, putF f s.to s.e q = some x ∧ x ≤ d.b := fun p k q e => by
    unfold putF at e
    split at e
    · rename_i e1
      subst e1
      cases e
      exact ⟨s, by simp, rfl, rfl, rfl, by simp [putF], x, by simp [putF, hne, hx], hb⟩
    · rename_i e1
      obtain ⟨d, hd', a1, a2, a3, a4, y, a5, a6⟩ := hg p k q e
      have := hd d hd'
      have hq := low q y a5 (by omega)
      exact ⟨d, by simp [hd'], a1, a2, a3, by simp [putF, e1, a4], y, by simp [putF, hq, a5], a6⟩
  refine ⟨⟨fun p t e => ?_, ?_, fun p k q e => ?_, fun p t e1 e2 => ?_, ?_⟩, fun d hd' y hy hle => ?_, G⟩
  · unfold putF at e
    split at e
    · rename_i e1; cases e; subst e1; exact .step hs (h.att _ _ hx) hb
    · exact h.att p t e
  · simp [putF, Ne.symm hp0, h.here]
  · unfold putF at e
    split at e
    · rename_i e1
      subst e1
      cases e
      exact ⟨s, hs, rfl, rfl, rfl, by simp [putF], x, by simp [putF, hne, hx], hb⟩
    · rename_i e1
      obtain ⟨d, hd', a1, a2, a3, a4, y, a5, a6⟩ := hg p k q e
      obtain ⟨d2, hd2, b1, b2, b3, b4, y2, b5, b6⟩ := h.last p k q e
      rw [a4] at b4
      have h1 := hd d hd'
      have hq := low q y a5 (by omega)
      exact ⟨d2, hd2, b1, b2, b3, by simp [putF, e1, a4]; simpa using b4, y2, by simp [putF, hq, b5], b6⟩
  · unfold putF at e1 e2
    split at e1
    · rename_i e3; rw [if_pos e3] at e2; cases e2
    · rename_i e3; rw [if_neg e3] at e2; exact h.root p t e1 e2
  · simp [putF, Ne.symm hp0, h.none]
  · rcases List.mem_append.mp hd' with hd' | hd'
    · have h1 := hd d hd'
      have hfr : d.fr ≠ s.to := fun e => by
        unfold putF at hy
        rw [if_pos e] at hy
        cases hy
        omega
      unfold putF at hy
      rw [if_neg hfr] at hy
      obtain ⟨z, hz, hz2⟩ := cl d hd' y hy hle
      by_cases e : d.to = s.to
      · exact ⟨s.e, by simp [putF, e], by rw [e] at hz; have := ht z hz; omega⟩
      · exact ⟨z, by simp [putF, e, hz], hz2⟩
    · simp at hd'
      subst hd'
      exact ⟨d.e, by simp [putF], Int.le_refl _⟩
end Net
namespace Net
open PySem L2 L2.Ev
theorem find_map {k k' : Key} {d : PyData} : ∀ kvs : List (Key × PyData), ((kvs.map fun kv => if kv.1 = k then (kv.1, d) else kv).find? fun kv => decide (kv.1 = k')).map (·.2) = if k' = k then ((kvs.find? fun kv => decide (kv.1 = k)).map fun _ => d) else (kvs.find? fun kv => decide (kv.1 = k')).map (·.2)
  | [] => by simp
  | kv :: r => by
    have ih := find_map (k := k) (k' := k') (d := d) r
    rw [List.map_cons, List.find?_cons, List.find?_cons]
    by_cases h1 : kv.1 = k
    · rw [if_pos h1]
      by_cases h2 : k' = k
      · subst h2; simp [h1]
      · rw [if_neg h2]
        have : ¬ kv.1 = k' := fun z => h2 (by rw [← z, h1])
        simp only [this, decide_false]
        rw [ih, if_neg h2]
        rw [List.find?_cons]
        simp [this]
    · rw [if_neg h1]
      by_cases h2 : k' = k
      · subst h2
        simp only [h1, decide_false]
        rw [ih, if_pos rfl]
        simp
      · rw [if_neg h2]
        by_cases h3 : kv.1 = k'
        · rw [List.find?_cons]; simp [h3]
        · rw [List.find?_cons]
          simp only [h3, decide_false]
          rw [ih, if_neg h2]
theorem valD_put (kvs : List (Key × PyData)) (k k' : Key) (d : PyData) : valD (putD kvs k d) k' = if k' = k then some d else valD kvs k' := by
  unfold valD putD
  split
  · rename_i h
    rw [find_map]
    split
    · rw [List.any_eq_true] at h
      obtain ⟨kv, hm, he⟩ := h
      cases hf : kvs.find? fun kv => decide (kv.1 = k) with
      | none => rw [List.find?_eq_none] at hf; exact absurd he (hf kv hm)
      | some _ => rfl
    · rfl
  · rename_i h
    rw [List.find?_append]
    have hn : kvs.find? (fun kv => decide (kv.1 = k)) = none := by
      rw [List.find?_eq_none]
      intro x hx he
      exact h (List.any_eq_true.mpr ⟨x, hx, he⟩)
    split
    · rename_i e
      subst e
      rw [hn]; simp
    · rename_i e
      have : ([(k, d)] : List (Key × PyData)).find? (fun kv => decide (kv.1 = k')) = none := by simp; exact fun z => e z.symm
      rw [this]
      cases kvs.find? fun kv => decide (kv.1 = k') <;> simp
def DkI (kvs : List (Key × PyData)) (f : Int → Option Int) : Prop := ∀ p : Int, valD kvs (.inl p) = (f p).map PyData.int
def laD (x : Nat × Int) : PyData := .tuple [.int x.1, .int x.2]
def DkL (kvs : List (Key × PyData)) (g : Int → Option (Nat × Int)) : Prop := ∀ p : Int, valD kvs (.inl p) = (g p).map laD
theorem DkI.put {kvs : List (Key × PyData)} {f : Int → Option Int} (h : DkI kvs f) (p t : Int) : DkI (putD kvs (.inl p) (.int t)) (putF f p t) := fun q => by
  rw [valD_put]
  unfold putF
  by_cases e : q = p
  · subst e; simp
  · rw [if_neg (fun z => e (by injection z)), if_neg e]; exact h q
theorem DkL.put {kvs : List (Key × PyData)} {g : Int → Option (Nat × Int)} (h : DkL kvs g) (p : Int) (x : Nat × Int) : DkL (putD kvs (.inl p) (laD x)) (putF g p x) := fun q => by
  rw [valD_put]
  unfold putF
  by_cases e : q = p
  · subst e; simp
  · rw [if_neg (fun z => e (by injection z)), if_neg e]; exact h q
end Net
namespace Net
open PySem L2 L2.Ev
structure Tk where
  m : Int
  h : Int
  n : Int
deriving DecidableEq
def Tk.ns (x : Tk) : List Int := [x.m, x.h, x.n]
def Tk.d (x : Tk) : PyData := .tuple [.int x.m, .int x.h, .int x.n]
def Tk.lt (x y : Tk) : Bool := HT.lexLt x.ns y.ns
theorem Tk.lt_iff {x y : Tk} : x.lt y = true ↔ x.m < y.m ∨ (x.m = y.m ∧ (x.h < y.h ∨ (x.h = y.h ∧ x.n < y.n))) := by
  unfold Tk.lt Tk.ns HT.lexLt HT.lexLt HT.lexLt HT.lexLt
  by_cases a : x.m = y.m
  · by_cases b : x.h = y.h
    · by_cases c : x.n = y.n
      · simp [a, b, c]
      · simp [a, b, c]
    · simp [a, b]
  · simp [a]
theorem Tk.irr (x : Tk) : ¬ x.lt x = true := by rw [Tk.lt_iff]; omega
theorem Tk.tr {x y z : Tk} (h : x.lt y = true) (k : y.lt z = true) : x.lt z = true := by rw [Tk.lt_iff] at *; omega
theorem Tk.tot {x y : Tk} (h : ¬ x.lt y = true) (k : ¬ y.lt x = true) : x = y := by
  rw [Tk.lt_iff] at h k
  obtain ⟨a, b, c⟩ := x
  obtain ⟨d, e, f⟩ := y
  simp only at h k
  have h1 : a = d := by omega
  have h2 : b = e := by omega
  have h3 : c = f := by omega
  rw [h1, h2, h3]
theorem Tk.le_m {x y : Tk} (h : ¬ y.lt x = true) : x.m ≤ y.m := by rw [Tk.lt_iff] at h; omega
abbrev TF := Int → Option Tk
inductive Off (ss : List Sn) (hs : List (Int × Int)) (T : TF) : Int → Tk → Prop
  | hand {i : Nat} {p m : Int} : hs[i]? = some (p, m) → Off ss hs T p ⟨m, i, -1⟩
  | step {s : Sn} {x : Tk} : s ∈ ss → T s.fr = some x → x.m ≤ s.b → Off ss hs T s.to ⟨s.e, x.h, s.k⟩
structure Tab (ss : List Sn) (hs : List (Int × Int)) (T : TF) : Prop where
  of : ∀ p x, T p = some x → Off ss hs T p x
  le : ∀ p y, Off ss hs T p y → ∃ x, T p = some x ∧ ¬ y.lt x = true
theorem Off.inv {ss : List Sn} {hs : List (Int × Int)} {T : TF} {p : Int} {y : Tk} (h : Off ss hs T p y) : (∃ i : Nat, hs[i]? = some (p, y.m) ∧ y.h = i ∧ y.n = -1) ∨ ∃ s ∈ ss, s.to = p ∧ ∃ x, T s.fr = some x ∧ x.m ≤ s.b ∧ y = ⟨s.e, x.h, s.k⟩ := by
  cases h with
  | hand h => exact .inl ⟨_, h, rfl, rfl⟩
  | step h1 h2 h3 => exact .inr ⟨_, h1, rfl, _, h2, h3, rfl⟩
theorem Off.low {ss : List Sn} {hs : List (Int × Int)} {T : TF} (hl : ∀ s ∈ ss, 0 ≤ s.b ∧ s.b < s.e) (hh : ∀ z ∈ hs, 0 ≤ z.2) {p : Int} {y : Tk} (h : Off ss hs T p y) : 0 ≤ y.m := by
  cases h with
  | hand h => exact hh _ (List.mem_of_getElem? h)
  | step h1 h2 h3 => have := hl _ h1; show 0 ≤ Sn.e _; omega
theorem Off.trf {ss : List Sn} {hs : List (Int × Int)} {T T' : TF} (hl : ∀ s ∈ ss, 0 ≤ s.b ∧ s.b < s.e) {t : Int} (e : ∀ p x, x.m < t → T p = some x → T' p = some x) {p : Int} {y : Tk} (h : Off ss hs T p y) (hy : y.m ≤ t) : Off ss hs T' p y := by
  cases h with
  | hand h => exact .hand h
  | step h1 h2 h3 => exact .step h1 (e _ _ (by have := hl _ h1; simp only at hy; omega) h2) h3
theorem Tab.half {ss : List Sn} {hs : List (Int × Int)} {T T' : TF} (hl : ∀ s ∈ ss, 0 ≤ s.b ∧ s.b < s.e) (h : Tab ss hs T) (k : Tab ss hs T') {t : Int} (e : ∀ p x, x.m < t → T p = some x → T' p = some x) (e' : ∀ p x, x.m < t → T' p = some x → T p = some x) {p : Int} {x : Tk} (hx : T p = some x) (hm : x.m ≤ t) : T' p = some x := by
  have o := (h.of p x hx).trf hl e hm
  obtain ⟨x', h1, h2⟩ := k.le p x o
  have o' := (k.of p x' h1).trf hl e' (by have := Tk.le_m h2; omega)
  obtain ⟨x'', h3, h4⟩ := h.le p x' o'
  rw [hx] at h3
  cases h3
  rw [h1, Tk.tot h4 h2]
theorem Tab.uniq {ss : List Sn} {hs : List (Int × Int)} {T T' : TF} (hl : ∀ s ∈ ss, 0 ≤ s.b ∧ s.b < s.e) (hh : ∀ z ∈ hs, 0 ≤ z.2) (h : Tab ss hs T) (k : Tab ss hs T') : T = T' := by
  have both : ∀ n : Nat, ∀ p x, x.m < (n : Int) → (T p = some x ↔ T' p = some x) := fun n => by
    induction n with
    | zero =>
      intro p x hx
      refine ⟨fun z => ?_, fun z => ?_⟩
      · have := (h.of p x z).low hl hh; simp at hx; omega
      · have := (k.of p x z).low hl hh; simp at hx; omega
    | succ n ih =>
      intro p x hx
      have e : ∀ p x, x.m < (n : Int) → T p = some x → T' p = some x := fun p x hx z => (ih p x hx).mp z
      have e' : ∀ p x, x.m < (n : Int) → T' p = some x → T p = some x := fun p x hx z => (ih p x hx).mpr z
      exact ⟨fun z => h.half hl k e e' z (by omega), fun z => k.half hl h e' e z (by omega)⟩
  funext p
  cases z : T p with
  | some x => exact ((both (x.m.toNat + 1) p x (by omega)).mp z).symm
  | none =>
    cases z' : T' p with
    | none => rfl
    | some x => rw [(both (x.m.toNat + 1) p x (by omega)).mpr z'] at z; cases z
structure Tkn (done : List Sn) (hs : List (Int × Int)) (f : TF) (g : Int → Option Int) : Prop where
  tab : Tab done hs f
  ah : ∀ p q, g p = some q → ∃ s ∈ done, s.to = p ∧ s.fr = q ∧ ∃ x, f q = some x ∧ x.m ≤ s.b ∧ f p = some ⟨s.e, x.h, s.k⟩
  no : ∀ p x, f p = some x → g p = none → ∃ i : Nat, hs[i]? = some (p, x.m) ∧ x.h = i ∧ x.n = -1
def takes (f : TF) (s : Sn) : Option Tk := match f s.fr with
  | none => none
  | some x => if x.m ≤ s.b then some ⟨s.e, x.h, s.k⟩ else none
theorem takes_some {f : TF} {s : Sn} {y : Tk} (h : takes f s = some y) : ∃ x, f s.fr = some x ∧ x.m ≤ s.b ∧ y = ⟨s.e, x.h, s.k⟩ := by
  unfold takes at h
  cases e : f s.fr with
  | none => rw [e] at h; cases h
  | some x =>
    rw [e] at h
    simp only at h
    split at h
    · cases h; exact ⟨x, rfl, by assumption, rfl⟩
    · cases h
theorem Off.more {ss : List Sn} {hs : List (Int × Int)} {f : TF} {s : Sn} {p : Int} {y : Tk} (h : Off (ss ++ [s]) hs f p y) : Off ss hs f p y ∨ (s.to = p ∧ takes f s = some y) := by
  cases h with
  | hand h => exact .inl (.hand h)
  | step h1 h2 h3 =>
    rcases List.mem_append.mp h1 with h1 | h1
    · exact .inl (.step h1 h2 h3)
    · simp at h1
      subst h1
      refine .inr ⟨rfl, ?_⟩
      unfold takes
      rw [h2]
      simp only [h3, if_true]
theorem Off.wide {ss : List Sn} {hs : List (Int × Int)} {f : TF} {s : Sn} {p : Int} {y : Tk} (h : Off ss hs f p y) : Off (ss ++ [s]) hs f p y := by
  cases h with
  | hand h => exact .hand h
  | step h1 h2 h3 => exact .step (List.mem_append.mpr (.inl h1)) h2 h3
theorem Tkn.keep {done : List Sn} {hs : List (Int × Int)} {f : TF} {g : Int → Option Int} (h : Tkn done hs f g) {s : Sn} (hn : ∀ y, takes f s = some y → ∃ x, f s.to = some x ∧ ¬ y.lt x = true) : Tkn (done ++ [s]) hs f g where
  tab := ⟨fun p x e => (h.tab.of p x e).wide, fun p y o => by
    rcases o.more with o | ⟨rfl, e⟩
    · exact h.tab.le p y o
    · exact hn y e⟩
  ah := fun p q e => by
    obtain ⟨d, hd, r⟩ := h.ah p q e
    exact ⟨d, List.mem_append.mpr (.inl hd), r⟩
  no := h.no
theorem Tkn.put {done : List Sn} {hs : List (Int × Int)} {f : TF} {g : Int → Option Int} (h : Tkn done hs f g) {s : Sn} (hl : s.b < s.e) (hd : ∀ d ∈ done, d.b ≤ s.b) {y : Tk} (hy : takes f s = some y) (hn : ∀ x, f s.to = some x → y.lt x = true) :
    Tkn (done ++ [s]) hs (putF f s.to y) (putF g s.to s.fr) := by
  obtain ⟨x0, e0, m0, ey⟩ := takes_some hy
  have fz : ∀ d ∈ done ++ [s], ∀ x, x.m ≤ d.b → (putF f s.to y d.fr = some x ↔ f d.fr = some x) := fun d hd' x hx => by
    have hdb : d.b ≤ s.b := by
      rcases List.mem_append.mp hd' with z | z
      · exact hd d z
      · simp at z; subst z; exact Int.le_refl _
    unfold putF
    by_cases e : d.fr = s.to
    · rw [if_pos e]
      refine ⟨fun z => ?_, fun z => ?_⟩
      · cases z; rw [ey] at hx; simp only at hx; omega
      · have := hn x (by rw [← e]; exact z)
        rw [Tk.lt_iff, ey] at this
        simp only at this
        omega
    · rw [if_neg e]
  have off : ∀ p w, Off (done ++ [s]) hs (putF f s.to y) p w → Off (done ++ [s]) hs f p w := fun p w o => by
    cases o with
    | hand h => exact .hand h
    | step h1 h2 h3 => exact .step h1 ((fz _ h1 _ h3).mp h2) h3
  have off' : ∀ p w, Off (done ++ [s]) hs f p w → Off (done ++ [s]) hs (putF f s.to y) p w := fun p w o => by
    cases o with
    | hand h => exact .hand h
    | step h1 h2 h3 => exact .step h1 ((fz _ h1 _ h3).mpr h2) h3
  refine ⟨⟨fun p x e => off' p x ?_, fun p w o => ?_⟩, fun p q e => ?_, fun p x e e' => ?_⟩
  · unfold putF at e
    split at e
    · rename_i z; subst z; cases e
      rw [ey]; exact .step (List.mem_append.mpr (.inr (by simp))) e0 m0
    · exact (h.tab.of p x e).wide
  · rcases (off p w o).more with o | ⟨rfl, e⟩
    · obtain ⟨x, hx, k⟩ := h.tab.le p w o
      unfold putF
      split
      · rename_i z; subst z
        exact ⟨y, rfl, fun z => k (Tk.tr z (hn x hx))⟩
      · exact ⟨x, hx, k⟩
    · rw [hy] at e; cases e
      exact ⟨y, by unfold putF; rw [if_pos rfl], Tk.irr y⟩
  · unfold putF at e
    split at e
    · rename_i z; subst z; cases e
      refine ⟨s, List.mem_append.mpr (.inr (by simp)), rfl, rfl, x0, (fz s (List.mem_append.mpr (.inr (by simp))) x0 m0).mpr e0, m0, ?_⟩
      unfold putF; rw [if_pos rfl, ey]
    · rename_i hp
      obtain ⟨d, hd', h1, h2, x, h3, h4, h5⟩ := h.ah p q e
      have hm : d ∈ done ++ [s] := List.mem_append.mpr (.inl hd')
      refine ⟨d, hm, h1, h2, x, by rw [← h2]; exact (fz d hm x h4).mpr (by rw [h2]; exact h3), h4, ?_⟩
      unfold putF
      rw [if_neg hp]; exact h5
  · unfold putF at e e'
    split at e'
    · cases e'
    · rename_i hp
      rw [if_neg hp] at e
      exact h.no p x e e'
theorem Tkn.start : Tkn [] [] (fun _ => none) fun _ => none where
  tab := ⟨fun p x e => (by cases e), fun p y o => by
    cases o with
    | hand h => simp at h
    | step h1 => simp at h1⟩
  ah := fun p q e => by cases e
  no := fun p x e => by cases e
theorem Tkn.all {ss done : List Sn} {hs : List (Int × Int)} {f : TF} {g : Int → Option Int} (h : Tkn done hs f g) (hm : ∀ s, s ∈ done ↔ s ∈ ss) : Tkn ss hs f g where
  tab := ⟨fun p x e => by
    rcases (h.tab.of p x e).inv with ⟨i, a, b, c⟩ | ⟨s, a, rfl, z, b, c, rfl⟩
    · obtain ⟨m, h', n⟩ := x
      simp only at a b c
      subst b c
      exact .hand a
    · exact .step ((hm s).mp a) b c, fun p y o => by
    refine h.tab.le p y ?_
    cases o with
    | hand h => exact .hand h
    | step h1 h2 h3 => exact .step ((hm _).mpr h1) h2 h3⟩
  ah := fun p q e => by
    obtain ⟨s, a, r⟩ := h.ah p q e
    exact ⟨s, (hm s).mp a, r⟩
  no := h.no
theorem Tab.rch {ss : List Sn} {hs : List (Int × Int)} {T : TF} (hl : ∀ s ∈ ss, 0 ≤ s.b ∧ s.b < s.e) (hh : ∀ z ∈ hs, 0 ≤ z.2) (h : Tab ss hs T) {p : Int} {x : Tk} (e : T p = some x) : ∃ (i : Nat) (q m : Int), x.h = i ∧ hs[i]? = some (q, m) ∧ Rch ss q m p x.m := by
  have H : ∀ n : Nat, ∀ p x, x.m < (n : Int) → T p = some x → ∃ (i : Nat) (q m : Int), x.h = i ∧ hs[i]? = some (q, m) ∧ Rch ss q m p x.m := fun n => by
    induction n with
    | zero => intro p x hx z; have := (h.of p x z).low hl hh; simp at hx; omega
    | succ n ih =>
      intro p x hx z
      rcases (h.of p x z).inv with ⟨i, a, b, c⟩ | ⟨s, a, rfl, w, b, c, rfl⟩
      · exact ⟨i, p, x.m, b, a, .here⟩
      · obtain ⟨i, q, m, h1, h2, h3⟩ := ih s.fr w (by have := hl s a; simp only at hx; omega) b
        exact ⟨i, q, m, h1, h2, .step a h3 c⟩
  exact H (x.m.toNat + 1) p x (by omega) e
theorem Tab.more {ss : List Sn} {hs : List (Int × Int)} {T : TF} (hh : ∀ x p, T p = some x → x.h < hs.length) (h : Tab ss hs T) {p m : Int} (e : ∃ x, T p = some x ∧ x.m ≤ m) : Tab ss (hs ++ [(p, m)]) T where
  of := fun q x z => by
    cases (h.of q x z) with
    | hand h => exact .hand (by rw [List.getElem?_append_left (List.getElem?_eq_some_iff.mp h).1]; exact h)
    | step h1 h2 h3 => exact .step h1 h2 h3
  le := fun q y o => by
    cases o with
    | hand z =>
      rename_i i m'
      by_cases c : i < hs.length
      · rw [List.getElem?_append_left c] at z; exact h.le q _ (.hand z)
      · have hi := (List.getElem?_eq_some_iff.mp z).1
        simp at hi
        have : i = hs.length := by omega
        subst this
        simp at z
        obtain ⟨rfl, rfl⟩ := z
        obtain ⟨x, h1, h2⟩ := e
        refine ⟨x, h1, fun l => ?_⟩
        have := hh x p h1
        rw [Tk.lt_iff] at l
        simp only at l
        omega
    | step h1 h2 h3 => exact h.le _ _ (.step h1 h2 h3)
theorem Tab.hd {ss : List Sn} {hs : List (Int × Int)} {T : TF} (hl : ∀ s ∈ ss, 0 ≤ s.b ∧ s.b < s.e) (hh : ∀ z ∈ hs, 0 ≤ z.2) (h : Tab ss hs T) : ∀ x p, T p = some x → 0 ≤ x.h ∧ x.h < hs.length := fun x p e => by
  obtain ⟨i, q, m, h1, h2, _⟩ := h.rch hl hh e
  have := (List.getElem?_eq_some_iff.mp h2).1
  omega
def DkT (kvs : List (Key × PyData)) (f : TF) : Prop := ∀ p : Int, valD kvs (.inl p) = (f p).map Tk.d
theorem DkT.put {kvs : List (Key × PyData)} {f : TF} (h : DkT kvs f) (p : Int) (x : Tk) : DkT (putD kvs (.inl p) x.d) (putF f p x) := fun q => by
  rw [valD_put]
  unfold putF
  by_cases e : q = p
  · subst e; simp
  · have : (Sum.inl q : Key) ≠ Sum.inl p := fun z => e (by injection z)
    rw [if_neg this, if_neg e]; exact h q
theorem DkI.get {kvs : List (Key × PyData)} {f : Int → Option Int} (h : DkI kvs f) (p : Int) : valD kvs (.inl p) = (f p).map PyData.int := h p
end Net
namespace Net
open PySem L2 L2.Ev TL
structure Shw (k B : Nat) (d : PyData) : Prop where
  s : d.showable = true
  h : d.hasDict = false
  dp : d.depth ≤ k
  ln : d.shown.length ≤ B
  ok : okS d.shown
theorem Shw.mono {k k' B B' : Nat} {d : PyData} (h : Shw k B d) (hk : k ≤ k') (hB : B ≤ B') : Shw k' B' d := ⟨h.s, h.h, Nat.le_trans h.dp hk, Nat.le_trans h.ln hB, h.ok⟩
theorem Shw.int {k B : Nat} {i : Int} (h0 : 0 ≤ i) (h1 : i < 10 ^ 100) (hB : 100 ≤ B) : Shw k B (.int i) where
  s := by
    simp only [PyData.showable]
    have : i.natAbs.log2 < 1920 := by
      have h2 : i.natAbs < 10 ^ 100 := by omega
      by_cases z : i.natAbs = 0
      · rw [z]; decide
      · exact (Nat.log2_lt z).mpr (Nat.lt_of_lt_of_le h2 (by decide +kernel))
    simpa using this
  h := rfl
  dp := by simp [PyData.depth]
  ln := Nat.le_trans (nm_len (n := i) (k := 100) (by decide) h0 h1) hB
  ok := okS_nm h0
theorem okS_of {z : Str} (h : (tl z).all (fun c => decide (c < 1114112)) = true) : okS z := fun c hc => by
  have := List.all_eq_true.mp h c hc
  simpa using this
theorem Shw.none {k B : Nat} (hB : 4 ≤ B) : Shw k B .none := ⟨rfl, rfl, by simp [PyData.depth], Nat.le_trans (by decide +kernel : (PyData.shown .none).length ≤ 4) hB, okS_of (by decide +kernel)⟩
theorem Shw.bool {k B : Nat} {b : Bool} (hB : 5 ≤ B) : Shw k B (.bool b) := ⟨rfl, rfl, by simp [PyData.depth], Nat.le_trans (by cases b <;> decide +kernel : (PyData.shown (.bool b)).length ≤ 5) hB, okS_of (by cases b <;> decide +kernel)⟩
theorem shownAll_map : ∀ xs : List PyData, PyData.shownAll xs = xs.map PyData.shown
  | [] => rfl
  | x :: xs => by rw [PyData.shownAll, shownAll_map xs, List.map_cons]
theorem showAll_all : ∀ {xs : List PyData}, (∀ x ∈ xs, x.showable = true) → PyData.showableAll xs = true
  | [], _ => rfl
  | x :: xs, h => by rw [PyData.showableAll, h x (by simp), showAll_all fun y hy => h y (by simp [hy])]; rfl
theorem dictAll_all : ∀ {xs : List PyData}, (∀ x ∈ xs, x.hasDict = false) → PyData.hasDictAll xs = false
  | [], _ => rfl
  | x :: xs, h => by rw [PyData.hasDictAll, h x (by simp), dictAll_all fun y hy => h y (by simp [hy])]; rfl
theorem depthAll_all {k : Nat} : ∀ {xs : List PyData}, (∀ x ∈ xs, x.depth ≤ k) → PyData.depthAll xs ≤ k
  | [], _ => by simp [PyData.depthAll]
  | x :: xs, h => by
    have h1 := h x (by simp)
    have h2 := depthAll_all (xs := xs) fun y hy => h y (by simp [hy])
    simp only [PyData.depthAll]
    omega
theorem la2 (a b : Str) : (a ++ b).length = a.length + b.length := by rw [len_tl, len_tl, len_tl, tl_append, List.length_append]
theorem okS_app {a b : Str} (h : okS a) (k : okS b) : okS (a ++ b) := fun c hc => by
  rw [tl_append, List.mem_append] at hc
  exact hc.elim (h c) (k c)
theorem Shw.tup {k B : Nat} {xs : List PyData} (h : ∀ x ∈ xs, Shw k B x) : Shw (k + 1) (xs.length * B + xs.length * 2 + 3) (.tuple xs) where
  s := by simp only [PyData.showable]; exact showAll_all fun x hx => (h x hx).s
  h := by simp only [PyData.hasDict]; exact dictAll_all fun x hx => (h x hx).h
  dp := by have := depthAll_all fun x hx => (h x hx).dp; simp only [PyData.depth]; omega
  ln := by
    simp only [PyData.shown, tupleText, shownAll_map]
    rw [la2, la2, ← join_eq]
    have := join_len (y := ", ") (ps := xs.map PyData.shown) (B := B) (fun p hp => by obtain ⟨x, hx, rfl⟩ := List.mem_map.mp hp; exact (h x hx).ln)
    rw [List.length_map, show (Str.ofString ", ").length = 2 from by decide +kernel] at this
    have h1 : (Str.ofString "(").length = 1 := by decide +kernel
    have h2 : (Str.ofString (if ((xs.map PyData.shown).length == 1) = true then ",)" else ")")).length ≤ 2 := by split <;> decide +kernel
    omega
  ok := by
    simp only [PyData.shown, tupleText, shownAll_map]
    refine okS_app (okS_app (okS_of (by decide +kernel)) ?_) ?_
    · rw [← join_eq]
      exact okS_join (okS_of (by decide +kernel)) fun p hp => by obtain ⟨x, hx, rfl⟩ := List.mem_map.mp hp; exact (h x hx).ok
    · split <;> exact okS_of (by decide +kernel)
theorem Shw.ne {k B : Nat} {d : PyData} (h : Shw k B d) {μ : Mu} {Q : WK} (q : Q (.p (.bool false)) μ) : oNe (.p (.str d.shown)) (.p (.str d.shown)) μ Q := by
  rw [oNe_p, eqv_str, decide_eq_true rfl]
  exact ⟨shaped_ok h.ok, shaped_ok h.ok, q⟩
theorem Rch.or {ss : List Sn} {p0 t0 p t : Int} (r : Rch ss p0 t0 p t) : (t = t0 ∧ p = p0) ∨ ∃ s ∈ ss, t = s.e ∧ p = s.to := by
  cases r with
  | here => exact .inl ⟨rfl, rfl⟩
  | step hs _ _ => exact .inr ⟨_, hs, rfl, rfl⟩
theorem steps_e {ms : List Mt} {k : Nat} {s : Sn} (h : s ∈ steps k ms) : ∃ m ∈ ms, s.e = m.e ∧ s.b = m.b := by
  obtain ⟨i, m, e, hm⟩ := steps_mem h
  refine ⟨m, List.mem_of_getElem? e, ?_⟩
  unfold mSteps at hm
  rcases List.mem_cons.mp hm with rfl | hm
  · exact ⟨rfl, rfl⟩
  · split at hm
    · simp at hm; subst hm; exact ⟨rfl, rfl⟩
    · simp at hm
theorem Ear.bound {ms : List Mt} {many p0 t0 : Int} {f : Int → Option Int} (h : Ear (steps 0 ms) p0 t0 f) (ok : ∀ m ∈ ms, m.Ok many) (ht : 0 ≤ t0) (ht2 : t0 < 10 ^ 100) (he : ∀ m ∈ ms, m.e < 10 ^ 100) : ∀ p t, f p = some t → 0 ≤ t ∧ t < 10 ^ 100 := fun p t e => by
  rcases (h.att p t e).or with ⟨rfl, _⟩ | ⟨s, hs, rfl, _⟩
  · exact ⟨ht, ht2⟩
  · obtain ⟨m, hm, e1, _⟩ := steps_e hs
    have := (ok m hm).b0; have := (ok m hm).l1
    rw [e1]
    exact ⟨by unfold Mt.e; omega, he m hm⟩
end Net
namespace Net
open PySem L2 L2.Ev TL
def chase (g : Int → Option (Nat × Int)) : Nat → Int → List Nat
  | 0, _ => []
  | n + 1, q => match g q with
    | none => []
    | some (k, r) => k :: chase g n r
theorem lst_snoc {ms : List Mt} {m : Mt} {k : Nat} (hk : ms[k]? = some m) : ∀ {p t : Int} {xs : List Nat}, Wy ms p t xs → ∀ {q : Int}, m.led (lst ms p xs) = some q → lst ms p (xs ++ [k]) = q
  | p, t, [], _, q, h => by simp only [List.nil_append, lst, hk] at h ⊢; simp only [h]
  | p, t, n :: xs, ⟨m', q', h1, h2, h3, h4⟩, q, h => by
    simp only [lst, h1, h2] at h
    simp only [List.cons_append, lst, h1, h2]
    exact lst_snoc hk h4 h
theorem fin_snoc {ms : List Mt} {m : Mt} {k : Nat} (hk : ms[k]? = some m) : ∀ {p t : Int} {xs : List Nat}, Wy ms p t xs → fin ms t (xs ++ [k]) = m.e
  | p, t, [], _ => by simp [fin, hk]
  | p, t, n :: xs, ⟨m', q', h1, h2, h3, h4⟩ => by
    simp only [List.cons_append, fin, h1]
    exact fin_snoc hk h4
theorem Wy.snoc {ms : List Mt} {m : Mt} {k : Nat} (hk : ms[k]? = some m) {p t q : Int} {xs : List Nat} (h : Wy ms p t xs) (hl : m.led (lst ms p xs) = some q) (hb : fin ms t xs ≤ m.b) : Wy ms p t (xs ++ [k]) :=
  Wy.append.mpr ⟨h, m, q, hk, hl, hb, trivial⟩
theorem step_led {many : Int} {ms : List Mt} (ok : ∀ m ∈ ms, m.Ok many) {s : Sn} (h : s ∈ steps 0 ms) : ∃ m, ms[s.k]? = some m ∧ m.led s.fr = some s.to ∧ m.b = s.b ∧ m.e = s.e := by
  obtain ⟨i, m, e, hm⟩ := steps_mem h
  have o := ok m (List.mem_of_getElem? e)
  rw [Nat.zero_add] at hm
  unfold mSteps at hm
  rcases List.mem_cons.mp hm with rfl | hm
  · exact ⟨m, e, by simp [Mt.led], rfl, rfl⟩
  · split at hm
    · rename_i hw
      simp at hm
      subst hm
      refine ⟨m, e, ?_, rfl, rfl⟩
      have := o.ne
      simp [Mt.led, hw, Ne.symm this]
    · simp at hm
theorem rk_lt {ss : List Sn} {x y : Int} (h : x < y) (he : ∃ s ∈ ss, s.e = x) : rk ss (some x) < rk ss (some y) := by
  obtain ⟨s, hs, rfl⟩ := he
  exact filter_lt (fun z hz => by simp at hz ⊢; omega) hs (by simpa using h) (by simp)
theorem Came.chase {ss : List Sn} {p0 t0 : Int} {f : Int → Option Int} {g : Int → Option (Nat × Int)} (hlt : ∀ s ∈ ss, s.b < s.e) (h : Came ss p0 t0 f g) {q : Int} {k : Nat} {r : Int} (e : g q = some (k, r)) : g r = Option.none ∨ rk ss (f r) < rk ss (f q) := by
  obtain ⟨s, hs, rfl, rfl, rfl, h1, x, h2, h3⟩ := h.last q k r e
  cases hg : g s.fr with
  | none => exact .inl rfl
  | some kr =>
    obtain ⟨k', r'⟩ := kr
    obtain ⟨s', hs', _, _, _, h4, _⟩ := h.last _ _ _ hg
    right
    rw [h1, h2]
    rw [h2] at h4
    cases h4
    exact rk_lt (by have := hlt s hs; omega) ⟨s', hs', rfl⟩
theorem Came.way {many : Int} {ms : List Mt} (ok : ∀ m ∈ ms, m.Ok many) {p0 t0 : Int} {f : Int → Option Int} {g : Int → Option (Nat × Int)} (h : Came (steps 0 ms) p0 t0 f g) :
    ∀ (n : Nat) (q : Int), (g q = Option.none ∨ rk (steps 0 ms) (f q) < n) → ∀ t, f q = some t → Wy ms p0 t0 (Net.chase g n q).reverse ∧ lst ms p0 (Net.chase g n q).reverse = q ∧ fin ms t0 (Net.chase g n q).reverse = t := by
  have hlt : ∀ s ∈ steps 0 ms, s.b < s.e := fun s hs => (steps_ok ok s hs).lt
  intro n
  induction n with
  | zero =>
    intro q hq t ht
    rcases hq with hq | hq
    · have e := h.root q t ht hq
      subst e
      rw [h.here] at ht
      cases ht
      simp [Net.chase, Wy, lst, fin]
    · omega
  | succ n ih =>
    intro q hq t ht
    cases e : g q with
    | none =>
      have e' := h.root q t ht e
      subst e'
      rw [h.here] at ht
      cases ht
      simp [Net.chase, e, Wy, lst, fin]
    | some kr =>
      obtain ⟨k, r⟩ := kr
      have hc := h.chase hlt e
      obtain ⟨s, hs, rfl, rfl, rfl, h1, x, h2, h3⟩ := h.last q k r e
      rw [ht] at h1
      cases h1
      have hr : g s.fr = Option.none ∨ rk (steps 0 ms) (f s.fr) < n := by
        rcases hc with hc | hc
        · exact .inl hc
        · rcases hq with hq | hq
          · rw [e] at hq; cases hq
          · exact .inr (by omega)
      obtain ⟨w1, w2, w3⟩ := ih s.fr hr x h2
      obtain ⟨m, hm, hl, hb, he⟩ := step_led ok hs
      simp only [Net.chase, e, List.reverse_cons]
      have hl' : m.led (lst ms p0 (Net.chase g n s.fr).reverse) = some s.to := by rw [w2]; exact hl
      exact ⟨Wy.snoc hm w1 hl' (by rw [w3, hb]; exact h3), lst_snoc hm w1 hl', by rw [fin_snoc hm w1, he]⟩
end Net
namespace Net
def wgt (ss : List Sn) (t : Int) : Nat := (ss.filter fun s => decide (t ≤ s.b)).length
def kids (ss : List Sn) (t : Int) : Nat := ((ss.filter fun s => decide (t ≤ s.b)).map fun s => 2 ^ wgt ss s.e).sum
theorem wgt_mono {ss : List Sn} {t u : Int} (h : t ≤ u) : wgt ss u ≤ wgt ss t := by
  unfold wgt
  induction ss with
  | nil => simp
  | cons x l ih =>
    rw [List.filter_cons, List.filter_cons]
    by_cases h1 : u ≤ x.b
    · rw [if_pos (by simpa using h1), if_pos (by simp; omega)]
      simp; exact ih
    · rw [if_neg (by simpa using h1)]
      split
      · simp; omega
      · exact ih
theorem kids_sorted : ∀ {ss : List Sn} (t : Int), ss.Pairwise (fun a b => a.b ≤ b.b) → (∀ s ∈ ss, s.b < s.e) → kids ss t < 2 ^ wgt ss t
  | [], t, _, _ => by simp [kids, wgt]
  | x :: l, t, hp, hlt => by
    rw [List.pairwise_cons] at hp
    have ih := kids_sorted t hp.2 fun s h => hlt s (by simp [h])
    have hx := hlt x (by simp)
    have far : ∀ u : Int, x.b < u → wgt (x :: l) u = wgt l u := fun u hu => by
      unfold wgt
      rw [List.filter_cons, if_neg (by simp; omega)]
    have same : ((l.filter fun s => decide (t ≤ s.b)).map fun s => 2 ^ wgt (x :: l) s.e) = ((l.filter fun s => decide (t ≤ s.b)).map fun s => 2 ^ wgt l s.e) := by
      apply List.map_congr_left
      intro s hs
      have hm := (List.mem_filter.mp hs).1
      have h1 := hp.1 s hm
      have h2 := hlt s (by simp [hm])
      rw [far s.e (by omega)]
    by_cases ht : t ≤ x.b
    · have e1 : kids (x :: l) t = 2 ^ wgt l x.e + kids l t := by
        unfold kids
        rw [List.filter_cons, if_pos (by simpa using ht), List.map_cons, List.sum_cons, same, far x.e (by omega)]
      have e2 : wgt (x :: l) t = wgt l t + 1 := by
        unfold wgt
        rw [List.filter_cons, if_pos (by simpa using ht)]
        simp
      have e3 : 2 ^ wgt l x.e ≤ 2 ^ wgt l t := Nat.pow_le_pow_right (by decide) (wgt_mono (by omega))
      rw [e1, e2, Nat.pow_succ]
      omega
    · have e1 : kids (x :: l) t = kids l t := by
        unfold kids
        rw [List.filter_cons, if_neg (by simpa using ht), same]
      have e2 : wgt (x :: l) t = wgt l t := by
        unfold wgt
        rw [List.filter_cons, if_neg (by simpa using ht)]
      rw [e1, e2]
      exact ih
theorem wgt_perm {a b : List Sn} (h : a.Perm b) (t : Int) : wgt a t = wgt b t := (h.filter _).length_eq
theorem kids_lt {ss : List Sn} (t : Int) (hlt : ∀ s ∈ ss, s.b < s.e) : kids ss t < 2 ^ wgt ss t := by
  have hp := List.mergeSort_perm ss fun a b => decide (a.b ≤ b.b)
  have hs : (ss.mergeSort fun a b => decide (a.b ≤ b.b)).Pairwise (fun a b => a.b ≤ b.b) := by
    have := List.pairwise_mergeSort (le := fun (a b : Sn) => decide (a.b ≤ b.b)) (fun a b c h1 h2 => by simp at h1 h2 ⊢; omega) (fun a b => by simp; omega) ss
    exact this.imp fun h => by simpa using h
  have := kids_sorted t hs fun s h => hlt s (hp.mem_iff.mp h)
  rw [wgt_perm hp t] at this
  have e : kids (ss.mergeSort fun a b => decide (a.b ≤ b.b)) t = kids ss t := by
    unfold kids
    have e1 : (fun s : Sn => 2 ^ wgt (ss.mergeSort fun a b => decide (a.b ≤ b.b)) s.e) = fun s : Sn => 2 ^ wgt ss s.e := by funext s; rw [wgt_perm hp]
    rw [e1]
    exact ((hp.filter _).map _).sum_nat
  rw [e] at this
  exact this
theorem wgt_le (ss : List Sn) (t : Int) : wgt ss t ≤ ss.length := List.length_filter_le _ _
end Net
namespace Net
abbrev En := List Nat × Int × Int
theorem led_step {ms : List Mt} {m : Mt} {k : Nat} {p q : Int} (h1 : ms[k]? = some m) (h2 : m.led p = some q) : ∃ s ∈ steps 0 ms, s.k = k ∧ s.fr = p ∧ s.to = q ∧ s.b = m.b ∧ s.e = m.e := by
  have hs : ∃ s ∈ mSteps (0 + k) m, s.k = k ∧ s.fr = p ∧ s.to = q ∧ s.b = m.b ∧ s.e = m.e := by
    unfold Mt.led at h2
    unfold mSteps
    by_cases c : p = m.one
    · rw [if_pos c] at h2
      cases h2
      exact ⟨⟨0 + k, m.one, m.oth, m.b, m.e⟩, by simp, by simp, c.symm, rfl, rfl, rfl⟩
    · rw [if_neg c] at h2
      by_cases c2 : p = m.oth ∧ m.w = true
      · rw [if_pos c2] at h2
        cases h2
        exact ⟨⟨0 + k, m.oth, m.one, m.b, m.e⟩, by simp [c2.2], by simp, c2.1.symm, rfl, rfl, rfl⟩
      · rw [if_neg c2] at h2; cases h2
  obtain ⟨s, hs, e⟩ := hs
  exact ⟨s, mem_steps h1 hs, e⟩
structure AllW (ms : List Mt) (p t : Int) (es : List En) : Prop where
  sound : ∀ e ∈ es, Wy ms p t e.1 ∧ lst ms p e.1 = e.2.1 ∧ fin ms t e.1 = e.2.2 ∧ e.1.length ≤ (steps 0 ms).length
  zero : (([] : List Nat), p, t) ∈ es
  clos : ∀ e ∈ es, ∀ s ∈ steps 0 ms, s.fr = e.2.1 → e.2.2 ≤ s.b → (e.1 ++ [s.k], s.to, s.e) ∈ es
theorem AllW.rch {ms : List Mt} {p t : Int} {es : List En} (h : AllW ms p t es) {q u : Int} (r : Rch (steps 0 ms) p t q u) : ∃ w, (w, q, u) ∈ es := by
  induction r with
  | here => exact ⟨_, h.zero⟩
  | step hs _ hb ih =>
    obtain ⟨w, hw⟩ := ih
    exact ⟨_, h.clos _ hw _ hs rfl hb⟩
theorem AllW.way {ms : List Mt} {p t : Int} {es : List En} (h : AllW ms p t es) : ∀ (n : Nat) (way : List Nat), way.length = n → Wy ms p t way → (way, lst ms p way, fin ms t way) ∈ es
  | 0, way, hn, _ => by
    have : way = [] := List.length_eq_zero_iff.mp hn
    subst this
    exact h.zero
  | n + 1, way, hn, hw => by
    have hne : way ≠ [] := by intro z; subst z; simp at hn
    have e := List.dropLast_concat_getLast hne
    rw [← e] at hw ⊢
    generalize hx : way.dropLast = xs at *
    generalize way.getLast hne = k at *
    obtain ⟨h1, m, q, hk, hl, hb, _⟩ := Wy.append.mp hw
    have ih := h.way n xs (by rw [← hx]; simp; omega) h1
    obtain ⟨s, hs, e1, e2, e3, e4, e5⟩ := led_step hk hl
    have := h.clos _ ih s hs e2 (by show fin ms t xs ≤ s.b; omega)
    rw [lst_snoc hk h1 hl, fin_snoc hk h1, ← e1, ← e3, ← e5]
    exact this
theorem Wy.rch {many : Int} {ms : List Mt} {p0 t0 : Int} : ∀ {way : List Nat} {p t : Int}, Wy ms p t way → Rch (steps 0 ms) p0 t0 p t → Rch (steps 0 ms) p0 t0 (lst ms p way) (fin ms t way)
  | [], _, _, _, r => r
  | n :: way, p, t, ⟨m, q, h1, h2, h3, h4⟩, r => by
    simp only [lst, fin, h1, h2]
    obtain ⟨s, hs, e0, e1, e2, e3, e4⟩ := led_step h1 h2
    subst e1 e2
    rw [← e4] at h4 ⊢
    exact Wy.rch (many := many) h4 (.step hs r (by omega))
theorem AllW.none {ms : List Mt} {p t : Int} {es : List En} (h : AllW ms p t es) {f : Int → Option Int} (hf : Ear (steps 0 ms) p t f) {q : Int} (hn : ∀ e ∈ es, e.2.1 ≠ q) : f q = Option.none := by
  cases e : f q with
  | none => rfl
  | some x =>
    obtain ⟨w, hw⟩ := h.rch (hf.att q x e)
    exact absurd rfl (hn _ hw)
theorem AllW.some {ms : List Mt} {p t : Int} {es : List En} (h : AllW ms p t es) {f : Int → Option Int} (hf : Ear (steps 0 ms) p t f) {e : En} (he : e ∈ es) (hm : ∀ x ∈ es, x.2.1 = e.2.1 → e.2.2 ≤ x.2.2) : f e.2.1 = Option.some e.2.2 := by
  obtain ⟨w1, w2, w3, _⟩ := h.sound e he
  have r := Wy.rch (many := 0) w1 (.here (ss := steps 0 ms) (p0 := p) (t0 := t))
  rw [w2, w3] at r
  obtain ⟨y, hy, hle⟩ := hf.toFlr.le r
  obtain ⟨w, hw⟩ := h.rch (hf.att _ y hy)
  have := hm _ hw rfl
  have : y = e.2.2 := by simp at this; omega
  rw [hy, this]
def kidsOf (ss : List Sn) (e : En) : List En := (ss.filter fun s => decide (s.fr = e.2.1) && decide (e.2.2 ≤ s.b)).map fun s => (e.1 ++ [s.k], s.to, s.e)
def msr (ss : List Sn) (es : List En) : Nat := (es.map fun e => 2 ^ wgt ss e.2.2).sum
theorem msr_append {ss : List Sn} {a b : List En} : msr ss (a ++ b) = msr ss a + msr ss b := by simp [msr]
theorem len_msr {ss : List Sn} : ∀ es : List En, es.length ≤ msr ss es
  | [] => by simp
  | e :: l => by
    have := len_msr (ss := ss) l
    have h : 0 < 2 ^ wgt ss e.2.2 := Nat.pow_pos (by decide)
    simp only [msr, List.map_cons, List.sum_cons, List.length_cons] at *
    omega
theorem filter2_sum {g : Sn → Nat} {A B : Sn → Bool} : ∀ l : List Sn, ((l.filter fun s => A s && B s).map g).sum ≤ ((l.filter B).map g).sum
  | [] => by simp
  | x :: l => by
    have ih := filter2_sum (g := g) (A := A) (B := B) l
    rw [List.filter_cons, List.filter_cons]
    cases hA : A x <;> cases hB : B x <;> simp <;> omega
theorem msr_kids {ss : List Sn} {e : En} (hlt : ∀ s ∈ ss, s.b < s.e) : msr ss (kidsOf ss e) < 2 ^ wgt ss e.2.2 := by
  refine Nat.lt_of_le_of_lt ?_ (kids_lt (ss := ss) e.2.2 hlt)
  unfold msr kidsOf kids
  rw [List.map_map]
  exact filter2_sum (g := fun s => 2 ^ wgt ss s.e) ss
theorem wgt_lt {ss : List Sn} {s : Sn} {t : Int} (hs : s ∈ ss) (hb : t ≤ s.b) (hl : s.b < s.e) : wgt ss s.e < wgt ss t := by
  unfold wgt
  exact filter_lt (x := s) (fun y hy => by simp at hy ⊢; omega) hs (by simpa using hb) (by simp; omega)
structure Srch (ms : List Mt) (p t : Int) (N : Nat) (es : List En) (i : Nat) : Prop where
  sound : ∀ e ∈ es, Wy ms p t e.1 ∧ lst ms p e.1 = e.2.1 ∧ fin ms t e.1 = e.2.2 ∧ e.1.length + wgt (steps 0 ms) e.2.2 ≤ (steps 0 ms).length
  zero : (([] : List Nat), p, t) ∈ es
  clos : ∀ j e, j < i → es[j]? = some e → ∀ s ∈ steps 0 ms, s.fr = e.2.1 → e.2.2 ≤ s.b → (e.1 ++ [s.k], s.to, s.e) ∈ es
  meas : i + msr (steps 0 ms) (es.drop i) ≤ N
  le : i ≤ es.length
theorem Srch.start (ms : List Mt) (p t : Int) : Srch ms p t (2 ^ (steps 0 ms).length) [([], p, t)] 0 where
  sound e he := by
    simp at he
    subst he
    exact ⟨trivial, rfl, rfl, by simpa using wgt_le _ _⟩
  zero := by simp
  clos j e hj := by omega
  meas := by
    simp [msr]
    exact Nat.pow_le_pow_right (by decide) (wgt_le _ _)
  le := by simp
theorem Srch.step {many : Int} {ms : List Mt} (ok : ∀ m ∈ ms, m.Ok many) {p t : Int} {N : Nat} {es : List En} {i : Nat} (h : Srch ms p t N es i) {e : En} (he : es[i]? = some e) : Srch ms p t N (es ++ kidsOf (steps 0 ms) e) (i + 1) where
  sound x hx := by
    rcases List.mem_append.mp hx with hx | hx
    · exact h.sound x hx
    · unfold kidsOf at hx
      rw [List.mem_map] at hx
      obtain ⟨s, hs, rfl⟩ := hx
      rw [List.mem_filter, Bool.and_eq_true, decide_eq_true_eq, decide_eq_true_eq] at hs
      obtain ⟨hs, h1, h2⟩ := hs
      obtain ⟨w1, w2, w3, w4⟩ := h.sound e (List.mem_of_getElem? he)
      obtain ⟨m, hk, hl, hb, hE⟩ := step_led ok hs
      rw [h1, ← w2] at hl
      have hf : fin ms t e.1 ≤ m.b := by rw [w3]; omega
      refine ⟨Wy.snoc hk w1 hl hf, lst_snoc hk w1 hl, (fin_snoc hk w1).trans hE, ?_⟩
      have := wgt_lt hs h2 (steps_ok ok s hs).lt
      simp
      omega
  zero := List.mem_append.mpr (.inl h.zero)
  clos j x hj hx s hs h1 h2 := by
    by_cases c : j = i
    · subst c
      rw [List.getElem?_append_left (List.getElem?_eq_some_iff.mp he).1, he] at hx
      cases hx
      refine List.mem_append.mpr (.inr ?_)
      unfold kidsOf
      rw [List.mem_map]
      exact ⟨s, List.mem_filter.mpr ⟨hs, by simp [h1, h2]⟩, rfl⟩
    · have hlt := (List.getElem?_eq_some_iff.mp he).1
      rw [List.getElem?_append_left (by omega)] at hx
      exact List.mem_append.mpr (.inl (h.clos j x (by omega) hx s hs h1 h2))
  meas := by
    have hm := h.meas
    have hlt := (List.getElem?_eq_some_iff.mp he)
    have hd : es.drop i = e :: es.drop (i + 1) := by
      rw [List.drop_eq_getElem_cons hlt.1, hlt.2]
    have hk := msr_kids (ss := steps 0 ms) (e := e) fun s hs => (steps_ok ok s hs).lt
    rw [List.drop_append_of_le_length (by have := hlt.1; omega), msr_append]
    rw [hd] at hm
    simp only [msr, List.map_cons, List.sum_cons] at hm hk ⊢
    omega
  le := by
    have hlt := (List.getElem?_eq_some_iff.mp he).1
    simp; omega
theorem Srch.len {ms : List Mt} {p t : Int} {N : Nat} {es : List En} {i : Nat} (h : Srch ms p t N es i) : es.length ≤ N := by
  have := len_msr (ss := steps 0 ms) (es.drop i)
  have h1 := h.meas
  have h2 := h.le
  simp at this
  omega
theorem Srch.done {ms : List Mt} {p t : Int} {N : Nat} {es : List En} (h : Srch ms p t N es es.length) : AllW ms p t es where
  sound e he := by
    obtain ⟨a, b, c, d⟩ := h.sound e he
    exact ⟨a, b, c, by omega⟩
  zero := h.zero
  clos e he s hs h1 h2 := by
    obtain ⟨j, hj, e'⟩ := List.getElem_of_mem he
    exact h.clos j e hj (by rw [List.getElem?_eq_getElem hj, e']) s hs h1 h2
end Net
namespace Net
open PySem L2 L2.Ev
def tn (s : Sn) : Sn := ⟨s.k, s.to, s.fr, -s.e, -s.b⟩
def ng (f : Int → Option Int) : Int → Option Int := fun p => (f p).map fun x => -x
def Lat (ms : List Mt) (p0 t0 : Int) (f : Int → Option Int) : Prop := Ear ((steps 0 ms).map tn) p0 (-t0) f
theorem Lat.uniq {ms : List Mt} {p0 t0 : Int} {f g : Int → Option Int} (h : Lat ms p0 t0 f) (k : Lat ms p0 t0 g) : f = g := Ear.uniq h k
theorem Lat.mono {ms : List Mt} {p0 t t2 : Int} {f g : Int → Option Int} (h : Lat ms p0 t f) (k : Lat ms p0 t2 g) (hle : t ≤ t2) {p x : Int} (e : ng f p = some x) : ∃ y, ng g p = some y ∧ x ≤ y := by
  unfold ng at e
  cases hf : f p with
  | none => rw [hf] at e; cases e
  | some z =>
    rw [hf] at e
    simp at e
    have fl : Flr ((steps 0 ms).map tn) p0 (-t) g := ⟨by obtain ⟨x, h1, h2⟩ := k.here; exact ⟨x, h1, by omega⟩, k.step⟩
    obtain ⟨y, hy, h2⟩ := fl.le (h.att p z hf)
    exact ⟨-y, by unfold ng; rw [hy]; rfl, by omega⟩
theorem Lat.bound {ms : List Mt} {many p0 t0 : Int} {f : Int → Option Int} (h : Lat ms p0 t0 f) (ok : ∀ m ∈ ms, m.Ok many) (ht : 0 ≤ t0) (ht2 : t0 < 10 ^ 100) (he : ∀ m ∈ ms, m.b < 10 ^ 100) : ∀ p t, ng f p = some t → 0 ≤ t ∧ t < 10 ^ 100 := fun p t e => by
  unfold ng at e
  cases hf : f p with
  | none => rw [hf] at e; cases e
  | some z =>
    rw [hf] at e
    simp at e
    have r := h.att p z hf
    cases r with
    | here => rw [← e, Int.neg_neg]; exact ⟨ht, ht2⟩
    | step hs _ _ =>
      obtain ⟨s0, h0, rfl⟩ := List.mem_map.mp hs
      obtain ⟨i, m, e1, hm⟩ := steps_mem h0
      have hmm := List.mem_of_getElem? e1
      have o := ok m hmm
      have hb : s0.b = m.b := by
        unfold mSteps at hm
        rcases List.mem_cons.mp hm with rfl | hm
        · rfl
        · split at hm
          · simp at hm; subst hm; rfl
          · simp at hm
      have : t = m.b := by rw [← e, ← hb]; show - -s0.b = s0.b; omega
      rw [this]
      exact ⟨o.b0, he m hmm⟩
def nl (l : List (Option Int)) : List (Option Int) := l.map (Option.map fun x => -x)
end Net
namespace Net
open PySem L2 L2.Ev
abbrev Eo := Int × Int × Option Int
def kidO (s : Sn) (e : Eo) : Eo := (s.to, s.e, some (e.2.2.getD s.b))
inductive Fw (ss : List Sn) (p a : Int) : Eo → Prop
  | start : Fw ss p a (p, a, none)
  | step {e : Eo} {s : Sn} : Fw ss p a e → s ∈ ss → s.fr = e.1 → e.2.1 ≤ s.b → Fw ss p a (kidO s e)
theorem Fw.front {ss : List Sn} {a : Int} {s : Sn} (hs : s ∈ ss) (hb : a ≤ s.b) {e : Eo} (h : Fw ss s.to s.e e) : Fw ss s.fr a (e.1, e.2.1, some s.b) := by
  induction h with
  | start => exact Fw.step (e := (s.fr, a, none)) .start hs rfl hb
  | step _ hs' h1 h2 ih => exact Fw.step ih hs' h1 h2
theorem Fw.sooner {ss : List Sn} {p a a' : Int} (ha : a' ≤ a) {e : Eo} (h : Fw ss p a e) : ∃ c, c ≤ e.2.1 ∧ Fw ss p a' (e.1, c, e.2.2) := by
  induction h with
  | start => exact ⟨a', ha, .start⟩
  | @step e s _ hs h1 h2 ih =>
    obtain ⟨c, hc, k⟩ := ih
    exact ⟨s.e, Int.le_refl _, Fw.step (e := (e.1, c, e.2.2)) k hs h1 (by show c ≤ _; omega)⟩
theorem Fw.back {ss : List Sn} {p a p0 t0 : Int} {e : Eo} (h : Fw ss p a e) : ∀ {y : Int}, Rch (ss.map tn) p0 (-t0) e.1 y → e.2.1 ≤ -y → ∀ v, e.2.2 = some v → Rch (ss.map tn) p0 (-t0) p (-v) := by
  induction h with
  | start => intro y _ _ v hv; cases hv
  | @step e s he hs h1 h2 ih =>
    intro y r hy v hv
    have hr : Rch (ss.map tn) p0 (-t0) s.fr (-s.b) := Rch.step (s := tn s) (List.mem_map.mpr ⟨s, hs, rfl⟩) r (by show y ≤ -s.e; have : s.e ≤ -y := hy; omega)
    cases hl : e.2.2 with
    | none =>
      have hv' : s.b = v := by simpa [kidO, hl] using hv
      subst hv'
      cases he with
      | start => rw [h1] at hr; exact hr
      | step _ _ _ _ => cases hl
    | some w =>
      have hv' : w = v := by simpa [kidO, hl] using hv
      subst hv'
      exact ih (by rw [← h1]; exact hr) (by omega) w hl
theorem rch_fw {ss : List Sn} {p0 t0 p x : Int} (r : Rch (ss.map tn) p0 (-t0) p x) : ∃ e, Fw ss p (-x) e ∧ e.1 = p0 ∧ e.2.1 ≤ t0 := by
  induction r with
  | here => exact ⟨_, .start, rfl, by show - -t0 ≤ t0; omega⟩
  | step hs _ hb ih =>
    obtain ⟨s, h0, rfl⟩ := List.mem_map.mp hs
    obtain ⟨e, he, e1, e2⟩ := ih
    obtain ⟨c, hc, k⟩ := Fw.sooner (a' := s.e) (by have : _ ≤ -s.e := hb; omega) he
    exact ⟨_, Fw.front (a := - -s.b) h0 (by omega) k, e1, by show c ≤ t0; omega⟩
theorem rch_fw0 {ss : List Sn} {p0 t0 p x : Int} (hb0 : ∀ s ∈ ss, 0 ≤ s.b) (hp : p ≠ p0) (r : Rch (ss.map tn) p0 (-t0) p x) : ∃ e, Fw ss p 0 e ∧ e.1 = p0 ∧ e.2.1 ≤ t0 ∧ e.2.2 = some (-x) := by
  cases r with
  | here => exact absurd rfl hp
  | step hs r hb =>
    obtain ⟨s, h0, rfl⟩ := List.mem_map.mp hs
    obtain ⟨e, he, e1, e2⟩ := rch_fw r
    obtain ⟨c, hc, k⟩ := Fw.sooner (a' := s.e) (by have : _ ≤ -s.e := hb; omega) he
    exact ⟨_, Fw.front (a := 0) h0 (hb0 s h0) k, e1, by show c ≤ t0; omega, by show some s.b = some (- -s.b); rw [Int.neg_neg]⟩
structure AllO (ss : List Sn) (p : Int) (rest : List Eo) : Prop where
  sound : ∀ e ∈ rest, Fw ss p 0 e ∧ ∃ v, e.2.2 = some v
  all : ∀ e, Fw ss p 0 e → e.2.2 ≠ none → e ∈ rest
theorem AllO.none {ss : List Sn} {p p0 t0 : Int} {rest : List Eo} (h : AllO ss p rest) (hb0 : ∀ s ∈ ss, 0 ≤ s.b) {f : Int → Option Int} (hf : Ear (ss.map tn) p0 (-t0) f) (hp : p ≠ p0) (hn : ∀ e ∈ rest, ¬ (e.1 = p0 ∧ e.2.1 ≤ t0)) : f p = Option.none := by
  cases e : f p with
  | none => rfl
  | some x =>
    obtain ⟨en, h1, h2, h3, h4⟩ := rch_fw0 hb0 hp (hf.att p x e)
    exact absurd ⟨h2, h3⟩ (hn en (h.all en h1 (by rw [h4]; simp)))
theorem AllO.some {ss : List Sn} {p p0 t0 : Int} {rest : List Eo} (h : AllO ss p rest) (hb0 : ∀ s ∈ ss, 0 ≤ s.b) {f : Int → Option Int} (hf : Ear (ss.map tn) p0 (-t0) f) (hp : p ≠ p0) {e : Eo} (he : e ∈ rest) (h1 : e.1 = p0) (h2 : e.2.1 ≤ t0) {v : Int} (hv : e.2.2 = some v)
    (hm : ∀ x ∈ rest, x.1 = p0 → x.2.1 ≤ t0 → ∀ w, x.2.2 = some w → w ≤ v) : ng f p = Option.some v := by
  have r := (h.sound e he).1.back (y := -t0) (by rw [h1]; exact .here) (by omega) v hv
  obtain ⟨z, hz, hle⟩ := hf.toFlr.le r
  obtain ⟨en, k1, k2, k3, k4⟩ := rch_fw0 hb0 hp (hf.att p z hz)
  have := hm en (h.all en k1 (by rw [k4]; simp)) k2 k3 _ k4
  unfold ng
  rw [hz]
  show Option.some (-z) = _
  congr 1
  omega
def kidsO (ss : List Sn) (e : Eo) : List Eo := (ss.filter fun s => decide (s.fr = e.1) && decide (e.2.1 ≤ s.b)).map fun s => kidO s e
def msrO (ss : List Sn) (es : List Eo) : Nat := (es.map fun e => 2 ^ wgt ss e.2.1).sum
theorem msrO_append {ss : List Sn} {a b : List Eo} : msrO ss (a ++ b) = msrO ss a + msrO ss b := by simp [msrO]
theorem len_msrO {ss : List Sn} : ∀ es : List Eo, es.length ≤ msrO ss es
  | [] => by simp
  | e :: l => by
    have := len_msrO (ss := ss) l
    have h : 0 < 2 ^ wgt ss e.2.1 := Nat.pow_pos (by decide)
    simp only [msrO, List.map_cons, List.sum_cons, List.length_cons] at *
    omega
theorem msrO_kids {ss : List Sn} {e : Eo} (hlt : ∀ s ∈ ss, s.b < s.e) : msrO ss (kidsO ss e) < 2 ^ wgt ss e.2.1 := by
  refine Nat.lt_of_le_of_lt ?_ (kids_lt (ss := ss) e.2.1 hlt)
  unfold msrO kidsO kids
  rw [List.map_map]
  exact filter2_sum (g := fun s => 2 ^ wgt ss s.e) ss
structure SrO (ss : List Sn) (p : Int) (N : Nat) (es : List Eo) (i : Nat) : Prop where
  sound : ∀ e ∈ es, Fw ss p 0 e
  zero : ∃ rest, es = (p, 0, none) :: rest ∧ ∀ e ∈ rest, ∃ v, e.2.2 = some v
  clos : ∀ j e, j < i → es[j]? = some e → ∀ s ∈ ss, s.fr = e.1 → e.2.1 ≤ s.b → kidO s e ∈ es
  meas : i + msrO ss (es.drop i) ≤ N
  le : i ≤ es.length
theorem SrO.start (ss : List Sn) (p : Int) : SrO ss p (2 ^ ss.length) [(p, 0, none)] 0 where
  sound e he := by
    simp at he
    subst he
    exact .start
  zero := ⟨[], rfl, by simp⟩
  clos j e hj := by omega
  meas := by
    simp [msrO]
    exact Nat.pow_le_pow_right (by decide) (wgt_le _ _)
  le := by simp
theorem SrO.step {ss : List Sn} (hlt : ∀ s ∈ ss, s.b < s.e) {p : Int} {N : Nat} {es : List Eo} {i : Nat} (h : SrO ss p N es i) {e : Eo} (he : es[i]? = some e) : SrO ss p N (es ++ kidsO ss e) (i + 1) where
  sound x hx := by
    rcases List.mem_append.mp hx with hx | hx
    · exact h.sound x hx
    · unfold kidsO at hx
      rw [List.mem_map] at hx
      obtain ⟨s, hs, rfl⟩ := hx
      rw [List.mem_filter, Bool.and_eq_true, decide_eq_true_eq, decide_eq_true_eq] at hs
      exact .step (h.sound e (List.mem_of_getElem? he)) hs.1 hs.2.1 hs.2.2
  zero := by
    obtain ⟨rest, rfl, h2⟩ := h.zero
    refine ⟨rest ++ kidsO ss e, rfl, fun x hx => ?_⟩
    rcases List.mem_append.mp hx with hx | hx
    · exact h2 x hx
    · obtain ⟨s, _, rfl⟩ := List.mem_map.mp hx
      exact ⟨_, rfl⟩
  clos j x hj hx s hs h1 h2 := by
    by_cases c : j = i
    · subst c
      rw [List.getElem?_append_left (List.getElem?_eq_some_iff.mp he).1, he] at hx
      cases hx
      refine List.mem_append.mpr (.inr ?_)
      unfold kidsO
      rw [List.mem_map]
      exact ⟨s, List.mem_filter.mpr ⟨hs, by simp [h1, h2]⟩, rfl⟩
    · have hlt := (List.getElem?_eq_some_iff.mp he).1
      rw [List.getElem?_append_left (by omega)] at hx
      exact List.mem_append.mpr (.inl (h.clos j x (by omega) hx s hs h1 h2))
  meas := by
    have hm := h.meas
    have hl := (List.getElem?_eq_some_iff.mp he)
    have hd : es.drop i = e :: es.drop (i + 1) := by
      rw [List.drop_eq_getElem_cons hl.1, hl.2]
    have hk := msrO_kids (ss := ss) (e := e) hlt
    rw [List.drop_append_of_le_length (by have := hl.1; omega), msrO_append]
    rw [hd] at hm
    simp only [msrO, List.map_cons, List.sum_cons] at hm hk ⊢
    omega
  le := by
    have hl := (List.getElem?_eq_some_iff.mp he).1
    simp; omega
theorem SrO.len {ss : List Sn} {p : Int} {N : Nat} {es : List Eo} {i : Nat} (h : SrO ss p N es i) : es.length ≤ N := by
  have := len_msrO (ss := ss) (es.drop i)
  have h1 := h.meas
  have h2 := h.le
  simp at this
  omega
theorem SrO.done {ss : List Sn} {p : Int} {N : Nat} {es : List Eo} (h : SrO ss p N es es.length) : ∃ rest, es = (p, 0, none) :: rest ∧ AllO ss p rest := by
  obtain ⟨rest, e, h2⟩ := h.zero
  refine ⟨rest, e, fun x hx => ⟨h.sound x (by rw [e]; simp [hx]), h2 x hx⟩, fun x hx hn => ?_⟩
  have all : ∀ x, Fw ss p 0 x → x ∈ es := fun x hx => by
    induction hx with
    | start => rw [e]; simp
    | step _ hs h1 h2 ih =>
      obtain ⟨j, hj, e'⟩ := List.getElem_of_mem ih
      exact h.clos j _ hj (by rw [List.getElem?_eq_getElem hj, e']) _ hs h1 h2
  have := all x hx
  rw [e] at this
  rcases List.mem_cons.mp this with rfl | h3
  · exact absurd rfl hn
  · exact h3
end Net
namespace Net
open PySem L2 L2.Ev
def unset (F : Int → Option Int) (many : Int) (l : List (Option Int)) : Nat := ((List.range many.toNat).filter fun i => decide (F ((i : Nat) : Int) ≠ none ∧ atF l ((i : Nat) : Int) ≠ F ((i : Nat) : Int))).length
structure Sw (F : Int → Option Int) (l0 : List (Option Int)) (done : List Sn) (l : List (Option Int)) : Prop where
  keep : ∀ p, F p ≠ none → atF l0 p = F p → atF l p = F p
  got : ∀ d ∈ done, ∀ x, atF l0 d.fr = some x → F d.fr = some x → x ≤ d.b → ∃ y, atF l d.to = some y ∧ y ≤ d.e
theorem Sw.start (F : Int → Option Int) (l : List (Option Int)) : Sw F l [] l := ⟨fun _ _ h => h, fun d h => by simp at h⟩
theorem Sw.low {ss : List Sn} {many p0 t0 : Int} {F : Int → Option Int} (hF : Ear ss p0 t0 F) {l0 l : List (Option Int)} {done : List Sn} {s : Sn} (hs : s ∈ ss) (ok : SnOk many s) (hb : Bf ss many p0 t0 l) (h : Sw F l0 done l) (hn : lows l s = true) : Sw F l0 (done ++ [s]) (l.set s.to.toNat (some s.e)) := by
  have lw := lows_iff.mp hn
  have b' := hb.low hs ok lw
  have hl := hb.len
  have t0' := ok.t0; have t1' := ok.t1
  refine ⟨fun p h1 h2 => ?_, fun d hd x h1 h2 h3 => ?_⟩
  · have e := h.keep p h1 h2
    rw [atF_set ok.t0 (by omega)]
    split
    · rename_i z; subst z
      cases q : F s.to with
      | none => exact absurd q h1
      | some y =>
        rw [q] at e
        have := lw.2 y e
        obtain ⟨x, hx, hle⟩ := lw.1
        obtain ⟨y', h3, h4⟩ := hF.le (.step hs (hb.att _ _ hx) hle)
        rw [q] at h3; cases h3
        omega
    · exact e
  · rw [atF_set ok.t0 (by omega)]
    rcases List.mem_append.mp hd with hd | hd
    · obtain ⟨y, hy, hle⟩ := h.got d hd x h1 h2 h3
      split
      · rename_i z
        rw [z] at hy
        have := lw.2 y hy
        exact ⟨_, rfl, by omega⟩
      · exact ⟨y, hy, hle⟩
    · simp at hd; subst hd
      rw [if_pos rfl]
      exact ⟨_, rfl, Int.le_refl _⟩
theorem Bf.fin {ss : List Sn} {many p0 t0 : Int} {F : Int → Option Int} (hF : Ear ss p0 t0 F) (ok : ∀ s ∈ ss, SnOk many s) {l : List (Option Int)} (hb : Bf ss many p0 t0 l) (h : unset F many l = 0) : Ear ss p0 t0 (atF l) where
  here := hb.here
  step := fun s hs x hx hle => by
    obtain ⟨x', h1, h2⟩ := hF.le (hb.att _ _ hx)
    obtain ⟨y, h3, h4⟩ := hF.step s hs x' h1 (by omega)
    have t0' := (ok s hs).t0; have t1' := (ok s hs).t1
    refine ⟨y, ?_, h4⟩
    rw [← h3]
    by_cases z : atF l s.to = F s.to
    · exact z
    · exfalso
      have : s.to.toNat ∈ (List.range many.toNat).filter (fun i => decide (F ((i : Nat) : Int) ≠ none ∧ atF l ((i : Nat) : Int) ≠ F ((i : Nat) : Int))) := by
        rw [List.mem_filter]
        refine ⟨List.mem_range.mpr (by omega), ?_⟩
        rw [show ((s.to.toNat : Nat) : Int) = s.to by omega]
        simp only [decide_eq_true_eq]
        exact ⟨by rw [h3]; simp, z⟩
      have h : ((List.range many.toNat).filter (fun i => decide (F ((i : Nat) : Int) ≠ none ∧ atF l ((i : Nat) : Int) ≠ F ((i : Nat) : Int)))).length = 0 := h
      rw [List.length_eq_zero_iff] at h
      rw [h] at this
      simp at this
  att := hb.att
end Net
namespace Net
open PySem L2 L2.Ev
structure Rnd (ss : List Sn) (hs : List (Int × Int)) (many : Int) (T T' : TF) : Prop where
  of : ∀ p x, 0 ≤ p → p < many → T' p = some x → Off ss hs T p x ∧ ∀ y, Off ss hs T p y → ¬ y.lt x = true
  no : ∀ p, 0 ≤ p → p < many → T' p = none → ∀ y, ¬ Off ss hs T p y
  out : ∀ p, ¬ (0 ≤ p ∧ p < many) → T' p = none
structure Lvl (ss : List Sn) (many : Int) (F T : TF) (n : Nat) : Prop where
  snd : ∀ p x, T p = some x → ∃ y, F p = some y ∧ y.m ≤ x.m
  got : ∀ p x, F p = some x → ((List.range many.toNat).filter fun i => decide (∃ y, F ((i : Nat) : Int) = some y ∧ y.m < x.m)).length < n → T p = some x
theorem Lvl.start (ss : List Sn) (many : Int) (F : TF) : Lvl ss many F (fun _ => none) 0 := ⟨fun p x e => (by cases e), fun p x _ h => by omega⟩
theorem Lvl.next {ss : List Sn} {hs : List (Int × Int)} {many : Int} {F T T' : TF} {n : Nat} (hl : ∀ s ∈ ss, SnOk many s) (hh : ∀ z ∈ hs, 0 ≤ z.1 ∧ z.1 < many) (t : Tab ss hs F) (h : Lvl ss many F T n) (r : Rnd ss hs many T T') : Lvl ss many F T' (n + 1) where
  snd := fun p x e => by
    have hp : 0 ≤ p ∧ p < many := Classical.byContradiction fun z => by rw [r.out p z] at e; cases e
    obtain ⟨o, _⟩ := r.of p x hp.1 hp.2 e
    cases o with
    | hand o =>
      obtain ⟨y, h1, h2⟩ := t.le p _ (.hand o)
      exact ⟨y, h1, Tk.le_m h2⟩
    | step o1 o2 o3 =>
      obtain ⟨z, h1, h2⟩ := h.snd _ _ o2
      obtain ⟨y, h3, h4⟩ := t.le _ _ (.step o1 h1 (by omega))
      exact ⟨y, h3, by have := Tk.le_m h4; exact this⟩
  got := fun p x e hc => by
    have hl' : ∀ s ∈ ss, 0 ≤ s.b ∧ s.b < s.e := fun s hs => ⟨(hl s hs).b0, (hl s hs).lt⟩
    have inr : ∀ q y, F q = some y → 0 ≤ q ∧ q < many := fun q y e => by
      rcases (t.of q y e).inv with ⟨i, a, _⟩ | ⟨s, a, rfl, _⟩
      · exact hh _ (List.mem_of_getElem? a)
      · exact ⟨(hl s a).t0, (hl s a).t1⟩
    have lv : ∀ q y, y.m < x.m → F q = some y → T q = some y := fun q y hy eq => by
      refine h.got q y eq ?_
      obtain ⟨q0, q1⟩ := inr q y eq
      have lt := filter_lt (p := fun i : Nat => decide (∃ z, F ((i : Nat) : Int) = some z ∧ z.m < y.m)) (q := fun i : Nat => decide (∃ z, F ((i : Nat) : Int) = some z ∧ z.m < x.m)) (l := List.range many.toNat) (x := q.toNat)
        (fun i hi => by simp only [decide_eq_true_eq] at hi ⊢; obtain ⟨z, a, b⟩ := hi; exact ⟨z, a, by omega⟩) (List.mem_range.mpr (by omega))
        (by simp only [decide_eq_true_eq]; exact ⟨y, by rw [show ((q.toNat : Nat) : Int) = q by omega]; exact eq, hy⟩)
        (by simp only [decide_eq_false_iff_not]; rintro ⟨z, a, b⟩; rw [show ((q.toNat : Nat) : Int) = q by omega, eq] at a; cases a; omega)
      omega
    have lv' : ∀ q y, y.m < x.m → T q = some y → F q = some y := fun q y hy eq => by
      obtain ⟨z, h1, h2⟩ := h.snd q y eq
      have := lv q z (by omega) h1
      rw [eq] at this; cases this
      exact h1
    obtain ⟨p0, p1⟩ := inr p x e
    have o := (t.of p x e).trf hl' lv (Int.le_refl _)
    cases e' : T' p with
    | none => exact absurd o (r.no p p0 p1 e' x)
    | some x' =>
      obtain ⟨o', le'⟩ := r.of p x' p0 p1 e'
      have h1 := le' x o
      have o2 := o'.trf hl' lv' (Tk.le_m h1)
      obtain ⟨x2, h2, h3⟩ := t.le p x' o2
      rw [e] at h2; cases h2
      rw [Tk.tot h3 h1]
theorem Lvl.all {ss : List Sn} {hs : List (Int × Int)} {many : Int} {F T : TF} {n : Nat} (hl : ∀ s ∈ ss, SnOk many s) (hh : ∀ z ∈ hs, 0 ≤ z.1 ∧ z.1 < many) (t : Tab ss hs F) (h : Lvl ss many F T n) (hn : many.toNat ≤ n) : T = F := by
  funext p
  cases e : F p with
  | none =>
    cases e' : T p with
    | none => rfl
    | some x => obtain ⟨y, h1, _⟩ := h.snd p x e'; rw [e] at h1; cases h1
  | some x =>
    refine h.got p x e ?_
    have inr : 0 ≤ p ∧ p < many := by
      rcases (t.of p x e).inv with ⟨i, a, _⟩ | ⟨s, a, rfl, _⟩
      · exact hh _ (List.mem_of_getElem? a)
      · exact ⟨(hl s a).t0, (hl s a).t1⟩
    have lt := filter_lt (p := fun i : Nat => decide (∃ z, F ((i : Nat) : Int) = some z ∧ z.m < x.m)) (q := fun _ : Nat => true) (l := List.range many.toNat) (x := p.toNat)
      (fun i hi => rfl) (List.mem_range.mpr (by omega)) rfl
      (by simp only [decide_eq_false_iff_not]; rintro ⟨z, a, b⟩; rw [show ((p.toNat : Nat) : Int) = p by omega, e] at a; cases a; omega)
    have e1 : ((List.range many.toNat).filter fun _ => true) = List.range many.toNat := List.filter_eq_self.mpr fun _ _ => rfl
    rw [e1, List.length_range] at lt
    omega
end Net
namespace Net
open PySem L2 L2.Ev TL
def shS (c : Int) (s : Sn) : Sn := ⟨s.k, s.fr, s.to, s.b + c, s.e + c⟩
def upk (c : Int) (x : Tk) : Tk := ⟨x.m + c, x.h, x.n⟩
theorem upk_lt {c : Int} {x y : Tk} : (upk c x).lt (upk c y) = true ↔ x.lt y = true := by
  rw [Tk.lt_iff, Tk.lt_iff]
  unfold upk
  simp only
  omega
def onF (c : Int) (T : TF) : TF := fun p => (T p).map (upk c)
def hsUp (c : Int) (hs : List (Int × Int)) : List (Int × Int) := hs.map fun z => (z.1, z.2 + c)
theorem Off.up {ss : List Sn} {hs : List (Int × Int)} {T : TF} {c p : Int} {y : Tk} (h : Off ss hs T p y) : Off (ss.map (shS c)) (hsUp c hs) (onF c T) p (upk c y) := by
  cases h with
  | hand h => exact .hand (by unfold hsUp; rw [List.getElem?_map, h]; rfl)
  | step h1 h2 h3 =>
    rename_i s x
    have := Off.step (ss := ss.map (shS c)) (hs := hsUp c hs) (T := onF c T) (s := shS c s) (x := upk c x) (List.mem_map.mpr ⟨s, h1, rfl⟩) (by show (T s.fr).map (upk c) = _; rw [h2]; rfl) (by show x.m + c ≤ s.b + c; omega)
    exact this
theorem Off.down {ss : List Sn} {hs : List (Int × Int)} {T : TF} {c p : Int} {y : Tk} (h : Off (ss.map (shS c)) (hsUp c hs) (onF c T) p y) : ∃ z, y = upk c z ∧ Off ss hs T p z := by
  rcases h.inv with ⟨i, a, b, d⟩ | ⟨s, a, rfl, x, b, d, rfl⟩
  · unfold hsUp at a
    rw [List.getElem?_map, Option.map_eq_some_iff] at a
    obtain ⟨z, h1, h2⟩ := a
    have e1 := congrArg Prod.fst h2
    have e2 := congrArg Prod.snd h2
    simp only at e1 e2
    subst e1
    refine ⟨⟨z.2, i, -1⟩, ?_, .hand h1⟩
    obtain ⟨m, h, n⟩ := y
    simp only at b d e2
    subst b d e2
    rfl
  · obtain ⟨s0, h1, rfl⟩ := List.mem_map.mp a
    have b : (T s0.fr).map (upk c) = some x := b
    rw [Option.map_eq_some_iff] at b
    obtain ⟨x0, h2, rfl⟩ := b
    exact ⟨⟨s0.e, x0.h, s0.k⟩, rfl, .step h1 h2 (by have : x0.m + c ≤ s0.b + c := d; omega)⟩
theorem Tab.up {ss : List Sn} {hs : List (Int × Int)} {T : TF} (c : Int) (h : Tab ss hs T) : Tab (ss.map (shS c)) (hsUp c hs) (onF c T) where
  of := fun p x e => by
    have e : (T p).map (upk c) = some x := e
    rw [Option.map_eq_some_iff] at e
    obtain ⟨x0, h1, rfl⟩ := e
    exact (h.of p x0 h1).up
  le := fun p y o => by
    obtain ⟨z, rfl, o'⟩ := o.down
    obtain ⟨x, h1, h2⟩ := h.le p z o'
    exact ⟨upk c x, by show (T p).map (upk c) = _; rw [h1]; rfl, fun l => h2 (upk_lt.mp l)⟩
structure TkB (x : Tk) : Prop where
  m0 : 0 ≤ x.m
  m1 : x.m < 10 ^ 100
  h0 : 0 ≤ x.h
  h1 : x.h < 10 ^ 100
  n : x.n = -1 ∨ (0 ≤ x.n ∧ x.n < 10 ^ 100)
end Net
namespace Net
open PySem L2 L2.Ev
inductive RchN (ss : List Sn) (p0 t0 : Int) : Nat → Int → Int → Prop
  | here {j : Nat} : RchN ss p0 t0 j p0 t0
  | step {s : Sn} {t : Int} {j : Nat} : s ∈ ss → RchN ss p0 t0 j s.fr t → t ≤ s.b → RchN ss p0 t0 (j + 1) s.to s.e
theorem RchN.mono {ss : List Sn} {p0 t0 p t : Int} {j j' : Nat} (h : RchN ss p0 t0 j p t) (hj : j ≤ j') : RchN ss p0 t0 j' p t := by
  induction h generalizing j' with
  | here => exact .here
  | step hs _ hb ih =>
    obtain ⟨k, rfl⟩ : ∃ k, j' = k + 1 := ⟨j' - 1, by omega⟩
    exact .step hs (ih (by omega)) hb
theorem RchN.inv {ss : List Sn} {p0 t0 p t : Int} {j : Nat} (h : RchN ss p0 t0 (j + 1) p t) : RchN ss p0 t0 j p t ∨ ∃ s ∈ ss, s.to = p ∧ s.e = t ∧ ∃ x, RchN ss p0 t0 j s.fr x ∧ x ≤ s.b := by
  cases h with
  | here => exact .inl .here
  | step hs h hb => exact .inr ⟨_, hs, rfl, rfl, _, h, hb⟩
theorem RchN.few {ms : List Mt} (hl : ∀ s ∈ steps 0 ms, s.b < s.e) {p0 t0 p t : Int} {j : Nat} (h : RchN (steps 0 ms) p0 t0 j p t) : RchN (steps 0 ms) p0 t0 ((ms.filter fun m => decide (m.e ≤ t)).length) p t := by
  induction h with
  | here => exact .here
  | step hs hr hb ih =>
    rename_i s t' j'
    obtain ⟨i, m, e, hm⟩ := steps_mem hs
    have me : m.e = s.e := by
      unfold mSteps at hm
      rcases List.mem_cons.mp hm with rfl | hm
      · rfl
      · split at hm
        · simp at hm; subst hm; rfl
        · simp at hm
    have lt := hl s hs
    have := filter_lt (p := fun m : Mt => decide (m.e ≤ t')) (q := fun m : Mt => decide (m.e ≤ s.e)) (l := ms) (x := m) (fun y hy => by simp only [decide_eq_true_eq] at hy ⊢; omega) (List.mem_of_getElem? e) (by simp [me]) (by simp; omega)
    exact RchN.mono (.step hs ih hb) (by omega)
theorem RchN.bound {ms : List Mt} (hl : ∀ s ∈ steps 0 ms, s.b < s.e) {p0 t0 p t : Int} {j : Nat} (h : RchN (steps 0 ms) p0 t0 j p t) : RchN (steps 0 ms) p0 t0 ms.length p t := (h.few hl).mono (List.length_filter_le _ _)
structure Lay (ss : List Sn) (p0 t0 : Int) (j : Nat) (f : Int → Option Int) : Prop where
  att : ∀ p t, f p = some t → RchN ss p0 t0 j p t
  le : ∀ p t, RchN ss p0 t0 j p t → ∃ y, f p = some y ∧ y ≤ t
theorem Lay.start (ss : List Sn) (p0 t0 : Int) : Lay ss p0 t0 0 (putF (fun _ => none) p0 t0) where
  att := fun p t e => by
    unfold putF at e
    split at e
    · rename_i z; subst z; cases e; exact .here
    · cases e
  le := fun p t h => by
    cases h with
    | here => exact ⟨_, by unfold putF; rw [if_pos rfl], Int.le_refl _⟩
structure OneM (ss : List Sn) (p0 t0 : Int) (j : Nat) (f : Int → Option Int) (done : List Sn) (g : Int → Option Int) : Prop where
  att : ∀ p t, g p = some t → RchN ss p0 t0 (j + 1) p t
  low : ∀ p x, f p = some x → ∃ y, g p = some y ∧ y ≤ x
  got : ∀ d ∈ done, ∀ x, f d.fr = some x → x ≤ d.b → ∃ y, g d.to = some y ∧ y ≤ d.e
theorem OneM.start {ss : List Sn} {p0 t0 : Int} {j : Nat} {f : Int → Option Int} (h : Lay ss p0 t0 j f) : OneM ss p0 t0 j f [] f := ⟨fun p t e => (h.att p t e).mono (by omega), fun p x e => ⟨x, e, Int.le_refl _⟩, fun d hd => by simp at hd⟩
theorem OneM.put {ss : List Sn} {p0 t0 : Int} {j : Nat} {f g : Int → Option Int} {done : List Sn} {s : Sn} (hf : Lay ss p0 t0 j f) (hs : s ∈ ss) (h : OneM ss p0 t0 j f done g) {x : Int} (hx : f s.fr = some x) (hb : x ≤ s.b) (hn : ∀ y, g s.to = some y → s.e < y) : OneM ss p0 t0 j f (done ++ [s]) (putF g s.to s.e) where
  att := fun p t e => by
    unfold putF at e
    split at e
    · rename_i z; subst z; cases e
      exact .step hs (hf.att _ _ hx) hb
    · exact h.att p t e
  low := fun p x' e => by
    obtain ⟨y, h1, h2⟩ := h.low p x' e
    unfold putF
    split
    · rename_i z; subst z
      have := hn y h1
      exact ⟨_, rfl, by omega⟩
    · exact ⟨y, h1, h2⟩
  got := fun d hd x' e1 e2 => by
    unfold putF
    rcases List.mem_append.mp hd with hd | hd
    · obtain ⟨y, h1, h2⟩ := h.got d hd x' e1 e2
      split
      · rename_i z
        rw [z] at h1
        have := hn y h1
        exact ⟨_, rfl, by omega⟩
      · exact ⟨y, h1, h2⟩
    · simp at hd; subst hd
      rw [if_pos rfl]
      exact ⟨_, rfl, Int.le_refl _⟩
theorem OneM.lay {ss : List Sn} {p0 t0 : Int} {j : Nat} {f g : Int → Option Int} (hf : Lay ss p0 t0 j f) (h : OneM ss p0 t0 j f ss g) : Lay ss p0 t0 (j + 1) g where
  att := h.att
  le := fun p t r => by
    rcases r.inv with r | ⟨s, hs, rfl, rfl, x, r, hb⟩
    · obtain ⟨x, h1, h2⟩ := hf.le p t r
      obtain ⟨y, h3, h4⟩ := h.low p x h1
      exact ⟨y, h3, by omega⟩
    · obtain ⟨x', h1, h2⟩ := hf.le _ _ r
      exact h.got s hs x' h1 (by omega)
theorem Lay.stop {ss : List Sn} {p0 t0 : Int} {j : Nat} {f : Int → Option Int} (h : Lay ss p0 t0 j f) (k : Lay ss p0 t0 (j + 1) f) : ∀ {i : Nat} {p t : Int}, RchN ss p0 t0 i p t → ∃ y, f p = some y ∧ y ≤ t := fun {i p t} r => by
  induction r with
  | here => exact h.le _ _ .here
  | step hs _ hb ih =>
    obtain ⟨y, h1, h2⟩ := ih
    exact k.le _ _ (.step hs (h.att _ _ h1) (by omega))
theorem Lay.more {ms : List Mt} (hl : ∀ s ∈ steps 0 ms, s.b < s.e) {p0 t0 : Int} {j : Nat} {f g : Int → Option Int} (hf : Lay (steps 0 ms) p0 t0 j f) (hg : Lay (steps 0 ms) p0 t0 (j + 1) g) (hn : ∃ p t, g p = some t ∧ ∀ y, f p = some y → t < y) : j + 1 ≤ ms.length := by
  obtain ⟨p, t, h1, h2⟩ := hn
  by_cases c : j + 1 ≤ ms.length
  · exact c
  · exfalso
    have r := ((hg.att p t h1).bound hl).mono (show ms.length ≤ j by omega)
    obtain ⟨y, h3, h4⟩ := hf.le p t r
    have := h2 y h3
    omega
def ByN (ss : List Sn) (p0 t0 q b : Int) (j : Nat) : Prop := ∃ t, t ≤ b ∧ RchN ss p0 t0 j q t
structure Few (ss : List Sn) (p0 t0 q b : Int) (o : Option Nat) : Prop where
  yes : ∀ j, o = some j → ByN ss p0 t0 q b j ∧ ∀ i, i < j → ¬ ByN ss p0 t0 q b i
  no : o = none → ∀ i, ¬ ByN ss p0 t0 q b i
theorem Few.uniq {ss : List Sn} {p0 t0 q b : Int} {o o' : Option Nat} (h : Few ss p0 t0 q b o) (k : Few ss p0 t0 q b o') : o = o' := by
  cases o with
  | none =>
    cases o' with
    | none => rfl
    | some j => exact absurd (k.yes j rfl).1 (h.no rfl j)
  | some i =>
    cases o' with
    | none => exact absurd (h.yes i rfl).1 (k.no rfl i)
    | some j =>
      obtain ⟨h1, h2⟩ := h.yes i rfl
      obtain ⟨k1, k2⟩ := k.yes j rfl
      have a : ¬ i < j := fun z => k2 i z h1
      have b : ¬ j < i := fun z => h2 j z k1
      congr 1
      omega
inductive Bk (ss : List Sn) (q b : Int) : Nat → Int → Int → Prop
  | here {j : Nat} {t : Int} : t ≤ b → Bk ss q b j q t
  | step {s : Sn} {t : Int} {j : Nat} : s ∈ ss → t ≤ s.b → Bk ss q b j s.to s.e → Bk ss q b (j + 1) s.fr t
theorem Bk.mono {ss : List Sn} {q b p t : Int} {j j' : Nat} (h : Bk ss q b j p t) (hj : j ≤ j') : Bk ss q b j' p t := by
  induction h generalizing j' with
  | here h => exact .here h
  | step hs hb _ ih =>
    obtain ⟨k, rfl⟩ : ∃ k, j' = k + 1 := ⟨j' - 1, by omega⟩
    exact .step hs hb (ih (by omega))
theorem Bk.to {ss : List Sn} {p0 t0 q b p t : Int} {j : Nat} (h : Bk ss q b j p t) : ∀ {i : Nat}, RchN ss p0 t0 i p t → ByN ss p0 t0 q b (i + j) := by
  induction h with
  | here hb => exact fun r => ⟨_, hb, r.mono (by omega)⟩
  | step hs hb _ ih =>
    intro i r
    obtain ⟨t', h1, h2⟩ := ih (RchN.step hs r hb)
    exact ⟨t', h1, h2.mono (by omega)⟩
theorem RchN.bk {ss : List Sn} {p0 t0 q b p t : Int} {i : Nat} (r : RchN ss p0 t0 i p t) : ∀ {j : Nat}, Bk ss q b j p t → Bk ss q b (i + j) p0 t0 := by
  induction r with
  | here => exact fun h => h.mono (by omega)
  | step hs _ hb ih =>
    intro j h
    exact (ih (.step hs hb h)).mono (by omega)
def atL (l : List Int) (p : Int) : Int := if 0 ≤ p then (l[p.toNat]?).getD (-1) else -1
theorem atL_set {l : List Int} {p q : Int} {x : Int} (h0 : 0 ≤ p) (h1 : p < l.length) : atL (l.set p.toNat x) q = if q = p then x else atL l q := by
  unfold atL
  by_cases hq : 0 ≤ q
  · rw [if_pos hq, if_pos hq]
    by_cases e : q = p
    · subst e
      rw [if_pos rfl, List.getElem?_set_self (by omega)]
      rfl
    · rw [if_neg e, List.getElem?_set_ne (by omega)]
  · rw [if_neg hq, if_neg hq, if_neg (by omega)]
structure Bl (ss : List Sn) (many q b : Int) (j : Nat) (l : List Int) : Prop where
  len : (l.length : Int) = many
  iff : ∀ p t, 0 ≤ p → p < many → 0 ≤ t → (Bk ss q b j p t ↔ t ≤ atL l p)
theorem Bl.start {ss : List Sn} {many q b : Int} (h0 : 0 ≤ q) (h1 : q < many) (hb : 0 ≤ b) : Bl ss many q b 0 ((List.replicate many.toNat (-1)).set q.toNat b) where
  len := by simp; omega
  iff := fun p t p0 p1 t0 => by
    rw [atL_set h0 (by simp; omega)]
    constructor
    · intro h
      cases h with
      | here h => rw [if_pos rfl]; exact h
    · intro h
      split at h
      · rename_i z; subst z; exact .here h
      · unfold atL at h
        rw [if_pos p0, List.getElem?_replicate] at h
        split at h <;> simp at h <;> omega
structure BlG (ss : List Sn) (many : Int) (l : List Int) (done : List Sn) (m : List Int) : Prop where
  len : (m.length : Int) = many
  low : ∀ p, atL l p ≤ atL m p
  got : ∀ d ∈ done, d.e ≤ atL l d.to → d.b ≤ atL m d.fr
  att : ∀ p, atL m p = atL l p ∨ ∃ s ∈ ss, s.fr = p ∧ s.b = atL m p ∧ s.e ≤ atL l s.to
theorem BlG.start {ss : List Sn} {many : Int} {l : List Int} (h : (l.length : Int) = many) : BlG ss many l [] l := ⟨h, fun p => Int.le_refl _, fun d h => by simp at h, fun p => .inl rfl⟩
theorem BlG.put {ss : List Sn} {many : Int} {l m : List Int} {done : List Sn} {s : Sn} (h : BlG ss many l done m) (hs : s ∈ ss) (ok : SnOk many s) (h1 : s.e ≤ atL l s.to) (h2 : atL m s.fr < s.b) : BlG ss many l (done ++ [s]) (m.set s.fr.toNat s.b) := by
  have hl := h.len
  have f0 := ok.f0; have f1 := ok.f1
  have e : ∀ p, atL (m.set s.fr.toNat s.b) p = if p = s.fr then s.b else atL m p := fun p => atL_set f0 (by omega)
  refine ⟨by simpa using hl, fun p => ?_, fun d hd hd' => ?_, fun p => ?_⟩
  · rw [e]
    have := h.low p
    split
    · rename_i z; subst z; omega
    · exact this
  · rw [e]
    rcases List.mem_append.mp hd with hd | hd
    · have := h.got d hd hd'
      split
      · rename_i z; rw [z] at this; omega
      · exact this
    · simp at hd; subst hd; rw [if_pos rfl]; exact Int.le_refl _
  · by_cases z : p = s.fr
    · subst z; exact .inr ⟨s, hs, rfl, by rw [e, if_pos rfl], h1⟩
    · rw [e, if_neg z]; exact h.att p
theorem BlG.bl {ss : List Sn} {many q b : Int} {j : Nat} {l m : List Int} (ok : ∀ s ∈ ss, SnOk many s) (h : Bl ss many q b j l) (g : BlG ss many l ss m) : Bl ss many q b (j + 1) m where
  len := g.len
  iff := fun p t p0 p1 t0 => by
    constructor
    · intro r
      have old : Bk ss q b j p t → t ≤ atL m p := fun r => by
        have := (h.iff p t p0 p1 t0).mp r
        have := g.low p
        omega
      cases r with
      | here r => exact old (.here r)
      | step hs hb r =>
        have o := ok _ hs
        have := (h.iff _ _ o.t0 o.t1 (by have := o.b0; have := o.lt; omega)).mp r
        have := g.got _ hs this
        omega
    · intro r
      rcases g.att p with e | ⟨s, hs, rfl, e, h1⟩
      · rw [e] at r
        exact ((h.iff p t p0 p1 t0).mpr r).mono (by omega)
      · have o := ok _ hs
        exact .step hs (by omega) ((h.iff _ _ o.t0 o.t1 (by have := o.b0; have := o.lt; omega)).mpr h1)
theorem RchN.up {ss : List Sn} {p0 t0 p t c : Int} {j : Nat} (h : RchN ss p0 t0 j p t) : RchN (ss.map (shS c)) p0 (t0 + c) j p (t + c) := by
  induction h with
  | here => exact .here
  | step hs _ hb ih => exact RchN.step (s := shS c _) (List.mem_map.mpr ⟨_, hs, rfl⟩) ih (by show _ + c ≤ _ + c; omega)
theorem RchN.dn {ss : List Sn} {p0 t0 p t c : Int} {j : Nat} (h : RchN (ss.map (shS c)) p0 (t0 + c) j p t) : RchN ss p0 t0 j p (t - c) := by
  induction h with
  | here => rw [show t0 + c - c = t0 by omega]; exact .here
  | step hs _ hb ih =>
    obtain ⟨s0, h1, rfl⟩ := List.mem_map.mp hs
    have := RchN.step h1 ih (by have : _ ≤ s0.b + c := hb; omega)
    show RchN ss p0 t0 _ s0.to (s0.e + c - c)
    rw [show s0.e + c - c = s0.e by omega]
    exact this
theorem byN_up {ss : List Sn} {p0 t0 q b c : Int} {j : Nat} : ByN (ss.map (shS c)) p0 (t0 + c) q (b + c) j ↔ ByN ss p0 t0 q b j := by
  constructor
  · rintro ⟨t, h1, h2⟩; exact ⟨t - c, by omega, h2.dn⟩
  · rintro ⟨t, h1, h2⟩; exact ⟨t + c, by omega, h2.up⟩
theorem Few.up {ss : List Sn} {p0 t0 q b : Int} {o : Option Nat} (c : Int) (h : Few ss p0 t0 q b o) : Few (ss.map (shS c)) p0 (t0 + c) q (b + c) o where
  yes := fun j e => ⟨byN_up.mpr (h.yes j e).1, fun i hi z => (h.yes j e).2 i hi (byN_up.mp z)⟩
  no := fun e i z => h.no e i (byN_up.mp z)
end Net
set_option autoImplicit false
namespace Net
open PySem L2 L2.Ev TL
structure Lr where
  c : List (Key × PyData)
  l : List (Key × PyData)
  f : Int → Option Int
def Lr.d (r : Lr) : PyData := .tuple [.dict (dctL r.c), .dict (dctL r.l)]
def LstK (ss : List Sn) (f g : Int → Option Int) (last : List (Key × PyData)) : Prop := ∀ p, (valD last (.inl p) = none → g p = f p) ∧ (∀ d, valD last (.inl p) = some d → ∃ s ∈ ss, d = .tuple [.int s.k, .int s.fr] ∧ s.to = p ∧ g p = some s.e ∧ ∃ x, f s.fr = some x ∧ x ≤ s.b)
theorem LstK.start (ss : List Sn) (f : Int → Option Int) : LstK ss f f [] := fun p => ⟨fun _ => rfl, fun d h => by simp [valD] at h⟩
theorem LstK.put {ss : List Sn} {f g : Int → Option Int} {last : List (Key × PyData)} (h : LstK ss f g last) {s : Sn} (hs : s ∈ ss) {x : Int} (hx : f s.fr = some x) (hb : x ≤ s.b) : LstK ss f (putF g s.to s.e) (putD last (.inl s.to) (.tuple [.int s.k, .int s.fr])) := fun p => by
  rw [valD_put]
  by_cases e : p = s.to
  · subst e
    rw [if_pos rfl]
    refine ⟨fun z => (by cases z), fun d z => ?_⟩
    cases z
    exact ⟨s, hs, rfl, rfl, by unfold putF; rw [if_pos rfl], x, hx, hb⟩
  · rw [if_neg (fun z => e (by injection z))]
    have : putF g s.to s.e p = g p := by unfold putF; rw [if_neg e]
    rw [this]
    exact h p
def lowB (d : Option PyData) (e : Int) : Bool := match d with
  | some (.int y) => decide (e < y)
  | _ => true
def omS (came : List (Key × PyData)) (st : List (Key × PyData) × List (Key × PyData)) (s : Sn) : List (Key × PyData) × List (Key × PyData) := match valD came (.inl s.fr) with
  | some (.int x) => if x ≤ s.b then (if lowB (valD st.1 (.inl s.to)) s.e = true then (putD st.1 (.inl s.to) (.int s.e), putD st.2 (.inl s.to) (.tuple [.int s.k, .int s.fr])) else st) else st
  | _ => st
section
variable {came so la : List (Key × PyData)} {f g : Int → Option Int} {s : Sn} (hc : DkI came f) (hg : DkI so g)
include hc in
end
structure LaOk (ss : List Sn) (p0 t0 : Int) (ls : List Lr) : Prop where
  at' : ∀ (i : Nat) (r : Lr), ls[i]? = some r → DkI r.c r.f ∧ Lay ss p0 t0 i r.f ∧ r.c.length ≤ 1 + 2000 * i
  nx : ∀ (i : Nat) (r r' : Lr), ls[i]? = some r → ls[i + 1]? = some r' → LstK ss r.f r'.f r'.l
  ch : ∀ (i : Nat) (r r' : Lr), ls[i]? = some r → ls[i + 1]? = some r' → ss.foldl (omS r.c) (r.c, []) = (r'.c, r'.l)
  st : ∀ r : Lr, ls[0]? = some r → r.c = [(.inl p0, .int t0)] ∧ r.l = []
theorem LaOk.one {ss : List Sn} {p0 t0 : Int} {r : Lr} (h1 : DkI r.c r.f) (h2 : Lay ss p0 t0 0 r.f) (h3 : r.c.length ≤ 1) (h5 : r.c = [(.inl p0, .int t0)] ∧ r.l = []) : LaOk ss p0 t0 [r] := by
  refine ⟨fun i r' h => ?_, fun i r1 r2 h k => ?_, fun i r1 r2 h k => ?_, fun r' h => ?_⟩
  · cases i with
    | zero => simp at h; subst h; exact ⟨h1, h2, by omega⟩
    | succ i => simp at h
  · simp at k
  · simp at k
  · simp at h; subst h; exact h5
theorem LaOk.snoc {ss : List Sn} {p0 t0 : Int} {ls : List Lr} {r r' : Lr} {j : Nat} (h : LaOk ss p0 t0 ls) (hl : ls.length = j + 1) (hr : ls[j]? = some r) (h1 : DkI r'.c r'.f) (h2 : Lay ss p0 t0 (j + 1) r'.f) (h3 : r'.c.length ≤ 1 + 2000 * (j + 1)) (h4 : LstK ss r.f r'.f r'.l) (h5 : ss.foldl (omS r.c) (r.c, []) = (r'.c, r'.l)) : LaOk ss p0 t0 (ls ++ [r']) := by
  have lt : ∀ {i : Nat} {x : Lr}, (ls ++ [r'])[i]? = some x → (ls[i]? = some x ∧ i ≤ j) ∨ (i = j + 1 ∧ x = r') := fun {i x} e => by
    by_cases c : i ≤ j
    · rw [List.getElem?_append_left (by omega)] at e
      exact .inl ⟨e, c⟩
    · rw [List.getElem?_append_right (by omega)] at e
      have : i - ls.length = 0 := by
        by_cases z : i - ls.length = 0
        · exact z
        · rw [List.getElem?_eq_none (by simp; omega)] at e; cases e
      rw [this] at e
      simp at e
      exact .inr ⟨by omega, e.symm⟩
  refine ⟨fun i x e => ?_, fun i x y e e' => ?_, fun i x y e e' => ?_, fun x e => ?_⟩
  · rcases lt e with ⟨e, _⟩ | ⟨rfl, rfl⟩
    · exact h.at' i x e
    · exact ⟨h1, h2, h3⟩
  · rcases lt e' with ⟨e', c⟩ | ⟨e', rfl⟩
    · rcases lt e with ⟨e, _⟩ | ⟨z, _⟩
      · exact h.nx i x y e e'
      · omega
    · have : i = j := by omega
      subst this
      rcases lt e with ⟨e, _⟩ | ⟨z, _⟩
      · rw [hr] at e; cases e; exact h4
      · omega
  · rcases lt e' with ⟨e', c⟩ | ⟨e', rfl⟩
    · rcases lt e with ⟨e, _⟩ | ⟨z, _⟩
      · exact h.ch i x y e e'
      · omega
    · have : i = j := by omega
      subst this
      rcases lt e with ⟨e, _⟩ | ⟨z, _⟩
      · rw [hr] at e; cases e; exact h5
      · omega
  · rcases lt e with ⟨e, _⟩ | ⟨z, _⟩
    · exact h.st x e
    · omega
theorem LaOk.uniq {ss : List Sn} {p0 t0 : Int} {ls ls' : List Lr} (h : LaOk ss p0 t0 ls) (k : LaOk ss p0 t0 ls') : ∀ (i : Nat) (r r' : Lr), ls[i]? = some r → ls'[i]? = some r' → r = r'
  | 0, r, r', e, e' => by
    obtain ⟨a, b⟩ := h.st r e
    obtain ⟨a', b'⟩ := k.st r' e'
    obtain ⟨d, _⟩ := h.at' 0 r e
    obtain ⟨d', _⟩ := k.at' 0 r' e'
    obtain ⟨c, l, f⟩ := r
    obtain ⟨c', l', f'⟩ := r'
    simp only at a b a' b' d d'
    subst a b a' b'
    congr 1
    funext p
    have := (d p).symm.trans (d' p)
    cases e1 : f p <;> cases e2 : f' p <;> simp [e1, e2] at this ⊢
    exact this
  | i + 1, r, r', e, e' => by
    have l1 := (List.getElem?_eq_some_iff.mp e).1
    have l2 := (List.getElem?_eq_some_iff.mp e').1
    have q1 : ls[i]? = some ls[i] := List.getElem?_eq_getElem (by omega)
    have q2 : ls'[i]? = some ls'[i] := List.getElem?_eq_getElem (by omega)
    have ih := LaOk.uniq h k i _ _ q1 q2
    have a := h.ch i _ _ q1 e
    have b := k.ch i _ _ q2 e'
    rw [← ih, a] at b
    obtain ⟨d, _⟩ := h.at' (i + 1) r e
    obtain ⟨d', _⟩ := k.at' (i + 1) r' e'
    obtain ⟨c, l, f⟩ := r
    obtain ⟨c', l', f'⟩ := r'
    simp only [Prod.mk.injEq] at b d d'
    obtain ⟨rfl, rfl⟩ := b
    congr 1
    funext p
    have := (d p).symm.trans (d' p)
    cases e1 : f p <;> cases e2 : f' p <;> simp [e1, e2] at this ⊢
    exact this
theorem LaOk.same {ss : List Sn} {p0 t0 : Int} {ls ls' : List Lr} (h : LaOk ss p0 t0 ls) (k : LaOk ss p0 t0 ls') (hl : ls.length = ls'.length) : ls = ls' :=
  List.ext_getElem hl fun i h1 h2 => h.uniq k i _ _ (List.getElem?_eq_getElem h1) (List.getElem?_eq_getElem h2)
theorem Wy.rchN {many : Int} {ms : List Mt} {p0 t0 : Int} : ∀ {way : List Nat} {i : Nat} {p t : Int}, Wy ms p t way → RchN (steps 0 ms) p0 t0 i p t → RchN (steps 0 ms) p0 t0 (i + way.length) (lst ms p way) (fin ms t way)
  | [], i, p, t, _, r => r
  | n :: ns, i, p, t, ⟨m, q, h1, h2, h3, h4⟩, r => by
    obtain ⟨s, hs, _, rfl, rfl, e1, e2⟩ := led_step h1 h2
    have r1 : RchN (steps 0 ms) p0 t0 (i + 1) s.to s.e := .step hs r (by omega)
    rw [e2] at r1
    have := Wy.rchN (many := many) h4 r1
    simp only [lst, fin, h1, h2, List.length_cons]
    rw [show i + (ns.length + 1) = i + 1 + ns.length by omega]
    exact this
structure Thr (ms : List Mt) (ls : List Lr) (q b : Int) (j i : Nat) (h : Int) (ns : List Nat) : Prop where
  x : ∃ (r : Lr) (x : Int), ls[i]? = some r ∧ r.f h = some x ∧ Wy ms h x ns.reverse ∧ lst ms h ns.reverse = q ∧ fin ms x ns.reverse ≤ b
  n : ns.length + i = j
theorem Thr.start {ms : List Mt} {p0 t0 q b : Int} {j : Nat} {ls : List Lr} (h : LaOk (steps 0 ms) p0 t0 ls) (hl : ls.length = j + 1) (hf : Few (steps 0 ms) p0 t0 q b (some j)) : Thr ms ls q b j j q [] := by
  have hr : ls[j]? = some ls[j] := List.getElem?_eq_getElem (by omega)
  obtain ⟨t, h1, h2⟩ := (hf.yes j rfl).1
  obtain ⟨y, h3, h4⟩ := (h.at' j _ hr).2.1.le _ _ h2
  exact ⟨⟨_, y, hr, h3, trivial, rfl, by show y ≤ b; omega⟩, by simp⟩
theorem Thr.step {many : Int} {ms : List Mt} (ok : ∀ m ∈ ms, m.Ok many) {p0 t0 q b : Int} {j i : Nat} {ls : List Lr} {hh : Int} {ns : List Nat} (h : LaOk (steps 0 ms) p0 t0 ls) (hf : Few (steps 0 ms) p0 t0 q b (some j)) (k : Thr ms ls q b j (i + 1) hh ns) {r : Lr} (hr : ls[i + 1]? = some r) :
    ∃ s ∈ steps 0 ms, valD r.l (.inl hh) = some (.tuple [.int s.k, .int s.fr]) ∧ s.k < ms.length ∧ Thr ms ls q b j i s.fr (ns ++ [s.k]) := by
  obtain ⟨⟨r', x, e1, e2, e3, e4, e5⟩, e6⟩ := k
  rw [hr] at e1
  cases e1
  have hlt : i + 1 < ls.length := (List.getElem?_eq_some_iff.mp hr).1
  have hr0 : ls[i]? = some ls[i] := List.getElem?_eq_getElem (by omega)
  have hk := h.nx i _ _ hr0 hr hh
  cases hv : valD r.l (.inl hh) with
  | none =>
    exfalso
    have e7 := (hk.1 hv).symm.trans e2
    have r0 := (h.at' i _ hr0).2.1.att _ _ e7
    have := Wy.rchN (many := many) e3 r0
    rw [e4] at this
    have hby : ByN (steps 0 ms) p0 t0 q b (i + ns.reverse.length) := ⟨_, e5, this⟩
    refine (hf.yes j rfl).2 _ ?_ hby
    rw [List.length_reverse]
    omega
  | some d =>
    obtain ⟨s, hs, rfl, h1, h2, x', h3, h4⟩ := hk.2 d hv
    rw [e2] at h2
    cases h2
    obtain ⟨m, g1, g2, g3, g4⟩ := step_led ok hs
    refine ⟨s, hs, rfl, (List.getElem?_eq_some_iff.mp g1).1, ⟨_, x', hr0, h3, ?_, ?_, ?_⟩, by simp; omega⟩
    · rw [List.reverse_append]
      exact ⟨m, _, g1, g2, by omega, by rw [g4, h1]; exact e3⟩
    · rw [List.reverse_append]
      simp only [List.reverse_singleton, List.singleton_append, lst, g1, g2]
      rw [h1]; exact e4
    · rw [List.reverse_append]
      simp only [List.reverse_singleton, List.singleton_append, fin, g1]
      rw [g4]; exact e5
theorem Thr.done {ms : List Mt} {p0 t0 q b : Int} {j : Nat} {ls : List Lr} {hh : Int} {ns : List Nat} (h : LaOk (steps 0 ms) p0 t0 ls) (k : Thr ms ls q b j 0 hh ns) : Wy ms p0 t0 ns.reverse ∧ lst ms p0 ns.reverse = q ∧ fin ms t0 ns.reverse ≤ b ∧ ns.reverse.length = j := by
  obtain ⟨⟨r, x, e1, e2, e3, e4, e5⟩, e6⟩ := k
  have r0 := (h.at' 0 _ e1).2.1.att _ _ e2
  cases r0 with
  | here => exact ⟨e3, e4, e5, by rw [List.length_reverse]; omega⟩
end Net
set_option autoImplicit false
namespace Net
open PySem L2 L2.Ev TL
mutual
def spots : PyData → List (List Nat)
  | .tuple xs => [] :: spotsL 0 xs
  | _ => [[]]
def spotsL : Nat → List PyData → List (List Nat)
  | _, [] => []
  | k, x :: xs => (spots x).map (fun s => k :: s) ++ spotsL (k + 1) xs
end
def partO : PyData → List Nat → Option PyData
  | d, [] => some d
  | .tuple xs, k :: s => match xs[k]? with
    | some x => partO x s
    | none => none
  | _, _ :: _ => none
theorem partO_nil (d : PyData) : partO d [] = some d := by cases d <;> simp [partO]
mutual
theorem spots_part : ∀ (d : PyData) (s : List Nat), s ∈ spots d → ∃ x, partO d s = some x
  | .tuple xs, s, h => by
    simp only [spots, List.mem_cons] at h
    rcases h with rfl | h
    · exact ⟨_, partO_nil _⟩
    · obtain ⟨i, r, x, y, rfl, h1, h2⟩ := spotsL_part 0 xs s h
      rw [Nat.zero_add]
      exact ⟨y, by simp only [partO, h1]; exact h2⟩
  | .none, s, h => by simp [spots] at h; subst h; exact ⟨_, partO_nil _⟩
  | .bool _, s, h => by simp [spots] at h; subst h; exact ⟨_, partO_nil _⟩
  | .int _, s, h => by simp [spots] at h; subst h; exact ⟨_, partO_nil _⟩
  | .str _, s, h => by simp [spots] at h; subst h; exact ⟨_, partO_nil _⟩
  | .list _, s, h => by simp [spots] at h; subst h; exact ⟨_, partO_nil _⟩
  | .dict _, s, h => by simp [spots] at h; subst h; exact ⟨_, partO_nil _⟩
theorem spotsL_part : ∀ (k : Nat) (xs : List PyData) (s : List Nat), s ∈ spotsL k xs → ∃ (i : Nat) (r : List Nat) (x y : PyData), s = (k + i) :: r ∧ xs[i]? = some x ∧ partO x r = some y
  | k, [], s, h => by simp [spotsL] at h
  | k, x :: xs, s, h => by
    simp only [spotsL, List.mem_append, List.mem_map] at h
    rcases h with ⟨r, hr, rfl⟩ | h
    · obtain ⟨y, hy⟩ := spots_part x r hr
      exact ⟨0, r, x, y, by simp, by simp, hy⟩
    · obtain ⟨i, r, x', y, e, h1, h2⟩ := spotsL_part (k + 1) xs s h
      exact ⟨i + 1, r, x', y, by rw [e]; congr 1; omega, by simpa using h1, h2⟩
end
mutual
theorem spots_len : ∀ (d : PyData) (s : List Nat), s ∈ spots d → s.length ≤ d.depth
  | .tuple xs, s, h => by
    simp only [spots, List.mem_cons] at h
    rcases h with rfl | h
    · simp
    · have := spotsL_len 0 xs s h
      simp only [PyData.depth]
      omega
  | .none, s, h => by simp [spots] at h; subst h; simp
  | .bool _, s, h => by simp [spots] at h; subst h; simp
  | .int _, s, h => by simp [spots] at h; subst h; simp
  | .str _, s, h => by simp [spots] at h; subst h; simp
  | .list _, s, h => by simp [spots] at h; subst h; simp
  | .dict _, s, h => by simp [spots] at h; subst h; simp
theorem spotsL_len : ∀ (k : Nat) (xs : List PyData) (s : List Nat), s ∈ spotsL k xs → s.length ≤ PyData.depthAll xs + 1
  | k, [], s, h => by simp [spotsL] at h
  | k, x :: xs, s, h => by
    simp only [spotsL, List.mem_append, List.mem_map] at h
    rcases h with ⟨r, hr, rfl⟩ | h
    · have := spots_len x r hr
      simp only [PyData.depthAll, List.length_cons]
      omega
    · have := spotsL_len (k + 1) xs s h
      simp only [PyData.depthAll]
      omega
end
end Net
set_option autoImplicit false
namespace Net
open PySem L2 L2.Ev TL
def plC (c : Nat) : Bool := decide (32 ≤ c) && decide (c < 127) && decide (c ≠ 39) && decide (c ≠ 92)
def plS (z : Str) : Bool := (tl z).all plC
mutual
def okT (B : Int) (L : Nat) : PyData → Bool
  | .none => true
  | .bool _ => true
  | .int i => decide (-B ≤ i) && decide (i ≤ B)
  | .str z => decide (z.length ≤ L) && plS z
  | .list xs => okTs B L xs
  | .tuple xs => okTs B L xs
  | .dict kvs => kvs.isEmpty
def okTs (B : Int) (L : Nat) : List PyData → Bool
  | [] => true
  | x :: xs => okT B L x && okTs B L xs
end
mutual
def wtT : PyData → Nat
  | .list xs => 1 + wtTs xs
  | .tuple xs => 1 + wtTs xs
  | .none => 1
  | .bool _ => 1
  | .int _ => 1
  | .str _ => 1
  | .dict _ => 1
def wtTs : List PyData → Nat
  | [] => 0
  | x :: xs => wtT x + wtTs xs
end
mutual
theorem okT_mono {B B' : Int} {L L' : Nat} (hB : B ≤ B') (hL : L ≤ L') : ∀ {d : PyData}, okT B L d = true → okT B' L' d = true
  | .none, _ => rfl
  | .bool _, _ => rfl
  | .int i, h => by simp only [okT, Bool.and_eq_true, decide_eq_true_eq] at h ⊢; omega
  | .str z, h => by simp only [okT, Bool.and_eq_true, decide_eq_true_eq] at h ⊢; exact ⟨by omega, h.2⟩
  | .list xs, h => by simp only [okT] at h ⊢; exact okTs_mono hB hL h
  | .tuple xs, h => by simp only [okT] at h ⊢; exact okTs_mono hB hL h
  | .dict _, h => h
theorem okTs_mono {B B' : Int} {L L' : Nat} (hB : B ≤ B') (hL : L ≤ L') : ∀ {xs : List PyData}, okTs B L xs = true → okTs B' L' xs = true
  | [], _ => rfl
  | x :: xs, h => by simp only [okTs, Bool.and_eq_true] at h ⊢; exact ⟨okT_mono hB hL h.1, okTs_mono hB hL h.2⟩
end
structure Th (B : Int) (L k n : Nat) (d : PyData) : Prop where
  ok : okT B L d = true
  dp : d.depth ≤ k
  wt : wtT d ≤ n
theorem Th.mono {B B' : Int} {L L' k k' n n' : Nat} {d : PyData} (h : Th B L k n d) (hB : B ≤ B') (hL : L ≤ L') (hk : k ≤ k') (hn : n ≤ n') : Th B' L' k' n' d := ⟨okT_mono hB hL h.ok, Nat.le_trans h.dp hk, Nat.le_trans h.wt hn⟩
mutual
theorem spots_wt : ∀ d : PyData, (spots d).length ≤ wtT d
  | .tuple xs => by have := spotsL_wt 0 xs; simp only [spots, wtT, List.length_cons]; omega
  | .none => by simp [spots, wtT]
  | .bool _ => by simp [spots, wtT]
  | .int _ => by simp [spots, wtT]
  | .str _ => by simp [spots, wtT]
  | .list _ => by simp [spots, wtT]
  | .dict _ => by simp [spots, wtT]
theorem spotsL_wt : ∀ (k : Nat) (xs : List PyData), (spotsL k xs).length ≤ wtTs xs
  | _, [] => by simp [spotsL, wtTs]
  | k, x :: xs => by
    have := spots_wt x
    have := spotsL_wt (k + 1) xs
    simp only [spotsL, wtTs, List.length_append, List.length_map]
    omega
end
theorem plS_app {a b : Str} (h : plS a = true) (k : plS b = true) : plS (a ++ b) = true := by
  unfold plS at *
  rw [tl_append, List.all_append, h, k]
  rfl
theorem plS_nm {n : Int} (h : 0 ≤ n) : plS (nm n) = true := by
  unfold plS
  rw [tl_nm h, List.all_eq_true]
  intro c hc
  have := numL_digits n.toNat c hc
  simp only [plC, Bool.and_eq_true, decide_eq_true_eq]
  omega
theorem ofS_app (a b : String) : Str.ofString (a ++ b) = Str.ofString a ++ Str.ofString b := by
  apply Str.ext'
  apply Array.toList_inj.mp
  have hs : ∀ s : String, (Str.ofString s).cps.toList = s.toList.map Char.toNat := fun s => by
    show (cpsOfBytes 0 0 s.toByteArray.data.toList).toArray.toList = _
    rw [cpsOfBytes_string]
  have : ((Str.ofString a ++ Str.ofString b).cps).toList = (Str.ofString a).cps.toList ++ (Str.ofString b).cps.toList := tl_append _ _
  rw [this, hs, hs, hs, String.toList_append, List.map_append]
theorem nm_neg {n : Int} (h : n < 0) : nm n = Str.ofString "-" ++ nm (0 - n) := by
  unfold nm
  rw [PyProof.Rows.toString_neg h]
  exact ofS_app _ _
theorem plS_int (n : Int) : plS (nm n) = true := by
  by_cases h : 0 ≤ n
  · exact plS_nm h
  · rw [nm_neg (by omega)]
    exact plS_app (by decide +kernel) (plS_nm (by omega))
theorem len_int {n : Int} {k : Nat} (hk : 0 < k) (h1 : -(10 ^ k : Int) < n) (h2 : n < 10 ^ k) : (nm n).length ≤ k + 1 := by
  by_cases h : 0 ≤ n
  · have := nm_len hk h h2; omega
  · rw [nm_neg (by omega), la2]
    have := nm_len (n := 0 - n) hk (by omega) (by omega)
    have : (Str.ofString "-").length = 1 := by decide +kernel
    omega
theorem plS_asc {z : Str} (h : plS z = true) : ∀ c ∈ z.cps.toList, c < 128 := fun c hc => by
  have := List.all_eq_true.mp h c hc
  simp only [plC, Bool.and_eq_true, decide_eq_true_eq] at this
  omega
theorem plC_repr : ∀ c : Nat, c < 127 → plC c = true → Builtin.Str.reprChar 39 c = [c] := by decide +kernel
theorem fold_repr : ∀ (l : List Nat) (acc : Array Nat), l.all plC = true → (l.foldl (fun out c => out ++ (Builtin.Str.reprChar 39 c).toArray) acc).toList = acc.toList ++ l
  | [], acc, _ => by simp
  | c :: r, acc, h => by
    simp only [List.all_cons, Bool.and_eq_true] at h
    have hc : c < 127 := by have := h.1; simp only [plC, Bool.and_eq_true, decide_eq_true_eq] at this; omega
    rw [List.foldl_cons, fold_repr r _ h.2, plC_repr c hc h.1]
    simp
theorem tl_repr {z : Str} (h : plS z = true) : tl (reprText z) = 39 :: (tl z ++ [39]) := by
  have h39 : 39 ∉ z.cps.toList := fun hc => by
    have := List.all_eq_true.mp h 39 hc
    exact absurd this (by decide +kernel)
  have hq : reprQuote z = 39 := by
    unfold reprQuote
    rw [if_neg]
    simp only [Bool.and_eq_true, not_and]
    intro hc
    exact absurd (Array.mem_toList_iff.mpr (by simpa using hc)) h39
  unfold reprText
  rw [hq]
  show (Array.push _ _).toList = _
  rw [Array.toList_push, ← Array.foldl_toList, fold_repr _ _ h]
  simp [tl]
theorem okS_pl {z : Str} (h : plS z = true) : okS z := fun c hc => by
  have := plS_asc h c hc
  omega
theorem okS_repr {z : Str} (h : plS z = true) : okS (reprText z) := fun c hc => by
  rw [tl_repr h] at hc
  simp only [List.mem_cons, List.mem_append, List.not_mem_nil, or_false] at hc
  rcases hc with rfl | hc | rfl
  · decide
  · exact okS_pl h c hc
  · decide
theorem len_repr {z : Str} (h : plS z = true) : (reprText z).length = z.length + 2 := by
  rw [len_tl, tl_repr h, len_tl]
  simp
theorem join_piled (ts : List Str) : (Str.join ", " ts).length ≤ piled ts := by
  by_cases h : ts = []
  · subst h; decide +kernel
  · have := join_length_add ts h; omega
theorem piled_le {C : Nat} : ∀ {xs : List PyData}, (∀ x ∈ xs, x.shown.length + 2 ≤ C * wtT x) → piled (PyData.shownAll xs) ≤ C * wtTs xs
  | [], _ => by simp [PyData.shownAll, piled_nil, wtTs]
  | x :: xs, h => by
    have h1 := h x (by simp)
    have h2 := piled_le (xs := xs) fun y hy => h y (by simp [hy])
    rw [PyData.shownAll, piled_cons, wtTs, Nat.mul_add]
    omega
theorem int_shows {i : Int} (h1 : -(10 ^ 100 : Int) < i) (h2 : i < 10 ^ 100) : (PyData.int i).showable = true := by
  have hl : i.natAbs.log2 < 1920 := by
    by_cases z : i.natAbs = 0
    · rw [z]; decide
    · exact (Nat.log2_lt z).mpr (Nat.lt_of_lt_of_le (by omega : i.natAbs < 10 ^ 100) (by decide +kernel))
  simp only [PyData.showable]
  simpa using hl
structure ShT (C : Nat) (d : PyData) : Prop where
  s : d.showable = true
  ln : d.shown.length + 2 ≤ C * wtT d
  ok : okS d.shown
mutual
theorem shT {B : Int} {L : Nat} (hB : B < 10 ^ 100) : ∀ {d : PyData}, okT B L d = true → ShT (L + 110) d
  | .none, _ => ⟨rfl, by rw [show (PyData.none).shown.length = 4 from by decide +kernel]; simp only [wtT]; omega, okS_of (by decide +kernel)⟩
  | .bool b, _ => ⟨rfl, by have : (PyData.bool b).shown.length ≤ 5 := by (cases b <;> decide +kernel)
                           simp only [wtT]; omega, by cases b <;> exact okS_of (by decide +kernel)⟩
  | .int i, h => by
    simp only [okT, Bool.and_eq_true, decide_eq_true_eq] at h
    have hl : (PyData.int i).shown.length ≤ 101 := len_int (n := i) (k := 100) (by decide) (by omega) (by omega)
    exact ⟨int_shows (by omega) (by omega), by simp only [wtT]; omega, okS_pl (plS_int i)⟩
  | .str z, h => by
    simp only [okT, Bool.and_eq_true, decide_eq_true_eq] at h
    have e : (PyData.str z).shown = reprText z := rfl
    exact ⟨rfl, by rw [e, len_repr h.2]; simp only [wtT]; omega, by rw [e]; exact okS_repr h.2⟩
  | .dict kvs, h => by
    have h : kvs.isEmpty = true := h
    rw [List.isEmpty_iff] at h
    subst h
    have hl : (PyData.dict []).shown.length = 2 := by decide +kernel
    exact ⟨rfl, by rw [hl]; simp only [wtT]; omega, okS_of (by decide +kernel)⟩
  | .tuple xs, h => by
    simp only [okT] at h
    have hs := shTs hB h
    have hp := piled_le fun x hx => (hs x hx).ln
    have hj := join_piled (PyData.shownAll xs)
    refine ⟨by simp only [PyData.showable]; exact showAll_all fun x hx => (hs x hx).s, ?_, ?_⟩
    · simp only [PyData.shown, tupleText, wtT]
      rw [la2, la2, Nat.mul_add]
      have h1 : (Str.ofString "(").length = 1 := by decide +kernel
      have h2 : (Str.ofString (if ((PyData.shownAll xs).length == 1) = true then ",)" else ")")).length ≤ 2 := by split <;> decide +kernel
      omega
    · simp only [PyData.shown, tupleText, shownAll_map]
      refine okS_app (okS_app (okS_of (by decide +kernel)) ?_) ?_
      · rw [← join_eq]
        exact okS_join (okS_of (by decide +kernel)) fun p hp => by obtain ⟨x, hx, rfl⟩ := List.mem_map.mp hp; exact (hs x hx).ok
      · split <;> exact okS_of (by decide +kernel)
  | .list xs, h => by
    simp only [okT] at h
    have hs := shTs hB h
    have hp := piled_le fun x hx => (hs x hx).ln
    have hj := join_piled (PyData.shownAll xs)
    refine ⟨by simp only [PyData.showable]; exact showAll_all fun x hx => (hs x hx).s, ?_, ?_⟩
    · simp only [PyData.shown, listText_eq_join, wtT]
      rw [la2, la2, Nat.mul_add]
      have h1 : (Str.ofString "[").length = 1 := by decide +kernel
      have h2 : (Str.ofString "]").length = 1 := by decide +kernel
      omega
    · simp only [PyData.shown, listText_eq_join, shownAll_map]
      refine okS_app (okS_app (okS_of (by decide +kernel)) ?_) (okS_of (by decide +kernel))
      rw [← join_eq]
      exact okS_join (okS_of (by decide +kernel)) fun p hp => by obtain ⟨x, hx, rfl⟩ := List.mem_map.mp hp; exact (hs x hx).ok
theorem shTs {B : Int} {L : Nat} (hB : B < 10 ^ 100) : ∀ {xs : List PyData}, okTs B L xs = true → ∀ x ∈ xs, ShT (L + 110) x
  | [], _, _, h => nomatch h
  | y :: ys, h, x, hx => by
    simp only [okTs, Bool.and_eq_true] at h
    exact (List.mem_cons.mp hx).elim (fun e => by rw [e]; exact shT hB h.1) (fun hx => shTs hB h.2 x hx)
end
end Net
set_option autoImplicit false
namespace Net
open PySem L2 L2.Ev TL
mutual
def gdT : PyData → Bool
  | .none => true
  | .int _ => true
  | .tuple xs => gdTs xs
  | .bool _ => false
  | .str _ => false
  | .list _ => false
  | .dict _ => false
def gdTs : List PyData → Bool
  | [] => true
  | x :: xs => gdT x && gdTs xs
end
def stopR (r : List Nat) : Prop := ∀ c t, r = c :: t → c = 44 ∨ c = 41
theorem cut_two {P : Nat → Prop} : ∀ {a b r s : List Nat}, (∀ c ∈ a, P c) → (∀ c ∈ b, P c) → (∀ c t, r = c :: t → ¬ P c) → (∀ c t, s = c :: t → ¬ P c) → a ++ r = b ++ s → a = b ∧ r = s
  | [], [], r, s, _, _, _, _, h => ⟨rfl, h⟩
  | [], y :: b, r, s, _, hb, hr, _, h => absurd (hb y (by simp)) (hr y (b ++ s) (by simpa using h))
  | x :: a, [], r, s, ha, _, _, hs, h => absurd (ha x (by simp)) (hs x (a ++ r) (by simpa using h.symm))
  | x :: a, y :: b, r, s, ha, hb, hr, hs, h => by
    simp only [List.cons_append, List.cons.injEq] at h
    obtain ⟨e1, e2⟩ := cut_two (fun c hc => ha c (by simp [hc])) (fun c hc => hb c (by simp [hc])) hr hs h.2
    rw [h.1, e1]
    exact ⟨rfl, e2⟩
theorem nmc (i : Int) : ∀ c ∈ tl (nm i), c = 45 ∨ (48 ≤ c ∧ c ≤ 57) := fun c hc => by
  by_cases h : 0 ≤ i
  · rw [tl_nm h] at hc
    exact .inr (numL_digits i.toNat c hc)
  · rw [nm_neg (by omega), tl_append, tl_nm (by omega)] at hc
    rcases List.mem_append.mp hc with hc | hc
    · have : tl (Str.ofString "-") = [45] := by decide +kernel
      rw [this] at hc
      simp at hc
      exact .inl hc
    · exact .inr (numL_digits _ c hc)
theorem nm_inj {i j : Int} (h : tl (nm i) = tl (nm j)) : i = j := by
  have m45 : tl (Str.ofString "-") = [45] := by decide +kernel
  by_cases hi : 0 ≤ i <;> by_cases hj : 0 ≤ j
  · rw [tl_nm hi, tl_nm hj] at h
    have := numL_inj h
    omega
  · exfalso
    rw [tl_nm hi, nm_neg (n := j) (by omega), tl_append, m45] at h
    have : (45 : Nat) ∈ numL i.toNat := by rw [h]; simp
    have := numL_digits _ _ this
    omega
  · exfalso
    rw [tl_nm hj, nm_neg (n := i) (by omega), tl_append, m45] at h
    have : (45 : Nat) ∈ numL j.toNat := by rw [← h]; simp
    have := numL_digits _ _ this
    omega
  · rw [nm_neg (n := i) (by omega), nm_neg (n := j) (by omega), tl_append, tl_append, m45] at h
    have h := List.append_cancel_left h
    rw [tl_nm (by omega), tl_nm (by omega)] at h
    have := numL_inj h
    omega
theorem nm_cut {i j : Int} {r s : List Nat} (hr : stopR r) (hs : stopR s) (h : tl (nm i) ++ r = tl (nm j) ++ s) : i = j ∧ r = s := by
  obtain ⟨e1, e2⟩ := cut_two (P := fun c => c = 45 ∨ (48 ≤ c ∧ c ≤ 57)) (nmc i) (nmc j) (fun c t e => by have := hr c t e; omega) (fun c t e => by have := hs c t e; omega) h
  exact ⟨nm_inj e1, e2⟩
theorem nm_cons (i : Int) : ∃ c t, tl (nm i) = c :: t ∧ (c = 45 ∨ (48 ≤ c ∧ c ≤ 57)) := by
  have hc := nmc i
  have hl : tl (nm i) ≠ [] := by
    by_cases h : 0 ≤ i
    · exact nm_ne h
    · rw [nm_neg (by omega), tl_append]
      have : tl (Str.ofString "-") = [45] := by decide +kernel
      rw [this]
      simp
  cases e : tl (nm i) with
  | nil => exact absurd e hl
  | cons c t => exact ⟨c, t, rfl, hc c (by rw [e]; simp)⟩
def shL (x : PyData) : List Nat := tl x.shown
def tailU : List (List Nat) → List Nat
  | [] => [41]
  | t :: r => 44 :: 32 :: (t ++ tailU r)
def restT : List (List Nat) → List Nat
  | [] => [41]
  | [t] => t ++ [44, 41]
  | t :: u :: r => t ++ tailU (u :: r)
theorem tailU_eq (a : List Nat) : ∀ ps : List (List Nat), joinL [44, 32] (a :: ps) ++ [41] = a ++ tailU ps
  | [] => rfl
  | p :: ps => by
    show (a ++ ([44, 32] ++ joinL [44, 32] (p :: ps))) ++ [41] = _
    rw [List.append_assoc, List.append_assoc, tailU_eq p ps]
    rfl
theorem tup_text (xs : List PyData) : tl (tupleText (PyData.shownAll xs)) = 40 :: restT (xs.map shL) := by
  have m1 : tl (Str.ofString "(") = [40] := by decide +kernel
  have m2 : tl (Str.ofString ", ") = [44, 32] := by decide +kernel
  have m3 : tl (Str.ofString ")") = [41] := by decide +kernel
  have m4 : tl (Str.ofString ",)") = [44, 41] := by decide +kernel
  unfold tupleText
  rw [tl_append, tl_append, m1, tl_join, m2, shownAll_map, List.length_map]
  match xs with
  | [] => show [40] ++ joinL [44, 32] [] ++ tl (Str.ofString (if ((0 : Nat) == 1) = true then ",)" else ")")) = _; rw [show (if ((0 : Nat) == 1) = true then ",)" else ")") = ")" from rfl, m3]; rfl
  | [x] => show [40] ++ joinL [44, 32] [tl x.shown] ++ tl (Str.ofString (if ((1 : Nat) == 1) = true then ",)" else ")")) = _; rw [show (if ((1 : Nat) == 1) = true then ",)" else ")") = ",)" from rfl, m4]; rfl
  | x :: y :: zs =>
    have : (if ((x :: y :: zs).length == 1) = true then ",)" else ")") = ")" := by rw [if_neg]; simp
    rw [this, m3, List.map_map]
    show [40] ++ joinL [44, 32] (tl x.shown :: (y :: zs).map (tl ∘ PyData.shown)) ++ [41] = _
    rw [List.append_assoc, tailU_eq]
    rfl
theorem head_ok {B : Int} {L : Nat} {y : PyData} (h : okT B L y = true) : ∃ c t, shL y = c :: t ∧ c ≠ 41 ∧ c ≠ 44 ∧ (c = 78 → y = .none) ∧ ((c = 45 ∨ (48 ≤ c ∧ c ≤ 57)) → ∃ j, y = .int j) ∧ (c = 40 → ∃ ys, y = .tuple ys) := by
  unfold shL
  cases y with
  | none => exact ⟨78, [111, 110, 101], by decide +kernel, by decide, by decide, fun _ => rfl, by omega, by omega⟩
  | bool b =>
    cases b
    · exact ⟨70, [97, 108, 115, 101], by decide +kernel, by decide, by decide, by omega, by omega, by omega⟩
    · exact ⟨84, [114, 117, 101], by decide +kernel, by decide, by decide, by omega, by omega, by omega⟩
  | int i =>
    obtain ⟨c, t, e, hc⟩ := nm_cons i
    exact ⟨c, t, e, by omega, by omega, by omega, fun _ => ⟨i, rfl⟩, by omega⟩
  | str z =>
    simp only [okT, Bool.and_eq_true] at h
    exact ⟨39, _, tl_repr h.2, by decide, by decide, by omega, by omega, by omega⟩
  | list xs =>
    refine ⟨91, tl (Str.join ", " (PyData.shownAll xs)) ++ tl (Str.ofString "]"), ?_, by decide, by decide, by omega, by omega, by omega⟩
    simp only [PyData.shown, listText_eq_join]
    rw [tl_append, tl_append, show tl (Str.ofString "[") = [91] from by decide +kernel]
    rfl
  | tuple xs =>
    refine ⟨40, restT (xs.map shL), ?_, by decide, by decide, by omega, by omega, fun _ => ⟨xs, rfl⟩⟩
    simp only [PyData.shown]
    exact tup_text xs
  | dict kvs =>
    have h : kvs.isEmpty = true := h
    rw [List.isEmpty_iff] at h
    subst h
    exact ⟨123, [125], by decide +kernel, by decide, by decide, by omega, by omega, by omega⟩
theorem stop_tail (ps : List (List Nat)) (r : List Nat) : stopR (tailU ps ++ r) := fun c t e => by
  cases ps with
  | nil => simp [tailU] at e; exact .inr e.1.symm
  | cons p ps => simp [tailU] at e; exact .inl e.1.symm
theorem stop_one (r : List Nat) : stopR ([44, 41] ++ r) := fun c t e => by simp at e; exact .inl e.1.symm
mutual
theorem cutP : ∀ (x : PyData), gdT x = true → ∀ {B : Int} {L : Nat} {y : PyData}, okT B L y = true → ∀ {r s : List Nat}, stopR r → stopR s → shL x ++ r = shL y ++ s → x = y ∧ r = s
  | .none, _, B, L, y, hy, r, s, hr, hs, h => by
    obtain ⟨c, t, e, _, _, h1, _, _⟩ := head_ok hy
    rw [e, show shL .none = [78, 111, 110, 101] from by decide +kernel] at h
    simp only [List.cons_append, List.cons.injEq] at h
    have e1 := h1 h.1.symm
    subst e1
    rw [show shL .none = [78, 111, 110, 101] from by decide +kernel] at e
    simp only [List.cons.injEq] at e
    obtain ⟨_, rfl⟩ := e
    exact ⟨rfl, by simpa using h.2⟩
  | .int i, _, B, L, y, hy, r, s, hr, hs, h => by
    obtain ⟨c, t, e, _, _, _, h2, _⟩ := head_ok hy
    obtain ⟨c2, t2, e2, hc2⟩ := nm_cons i
    have h' := h
    rw [e, show shL (.int i) = c2 :: t2 from e2] at h'
    simp only [List.cons_append, List.cons.injEq] at h'
    obtain ⟨j, rfl⟩ := h2 (by rw [← h'.1]; exact hc2)
    obtain ⟨e3, e4⟩ := nm_cut (i := i) (j := j) hr hs h
    rw [e3]
    exact ⟨rfl, e4⟩
  | .tuple xs, hx, B, L, y, hy, r, s, hr, hs, h => by
    obtain ⟨c, t, e, _, _, _, _, h3⟩ := head_ok hy
    have ex : shL (.tuple xs) = 40 :: restT (xs.map shL) := by unfold shL; simp only [PyData.shown]; exact tup_text xs
    have h' := h
    rw [e, ex] at h'
    simp only [List.cons_append, List.cons.injEq] at h'
    obtain ⟨ys, rfl⟩ := h3 h'.1.symm
    have ey : shL (.tuple ys) = 40 :: restT (ys.map shL) := by unfold shL; simp only [PyData.shown]; exact tup_text ys
    rw [ex, ey] at h
    simp only [List.cons_append, List.cons.injEq, true_and] at h
    have hxs : gdTs xs = true := by simpa only [gdT] using hx
    have hys : okTs B L ys = true := by simpa only [okT] using hy
    have := cutPs xs hxs hys hr hs h
    exact ⟨by rw [this.1], this.2⟩
  | .bool _, h, _, _, _, _, _, _, _, _, _ => nomatch h
  | .str _, h, _, _, _, _, _, _, _, _, _ => nomatch h
  | .list _, h, _, _, _, _, _, _, _, _, _ => nomatch h
  | .dict _, h, _, _, _, _, _, _, _, _, _ => nomatch h
theorem cutPs : ∀ (xs : List PyData), gdTs xs = true → ∀ {B : Int} {L : Nat} {ys : List PyData}, okTs B L ys = true → ∀ {r s : List Nat}, stopR r → stopR s → restT (xs.map shL) ++ r = restT (ys.map shL) ++ s → xs = ys ∧ r = s
  | [], _, B, L, [], _, r, s, _, _, h => ⟨rfl, by simpa [restT] using h⟩
  | [], _, B, L, y :: ys, hy, r, s, _, _, h => by
    simp only [okTs, Bool.and_eq_true] at hy
    obtain ⟨c, t, e, h1, _⟩ := head_ok hy.1
    exfalso
    cases ys with
    | nil => simp [restT, e] at h; omega
    | cons z zs => simp [restT, e] at h; omega
  | x :: xs, hx, B, L, [], _, r, s, _, _, h => by
    simp only [gdTs, Bool.and_eq_true] at hx
    exfalso
    have hk : ∃ c t, shL x = c :: t ∧ c ≠ 41 := by
      unfold shL
      cases x with
      | none => exact ⟨78, [111, 110, 101], by decide +kernel, by decide⟩
      | int i => obtain ⟨c, t, e, hc⟩ := nm_cons i; exact ⟨c, t, e, by omega⟩
      | tuple zs => exact ⟨40, restT (zs.map shL), by simp only [PyData.shown]; exact tup_text zs, by decide⟩
      | bool _ => exact nomatch hx.1
      | str _ => exact nomatch hx.1
      | list _ => exact nomatch hx.1
      | dict _ => exact nomatch hx.1
    obtain ⟨c, t, e, h1⟩ := hk
    cases xs with
    | nil => simp [restT, e] at h; omega
    | cons z zs => simp [restT, e] at h; omega
  | x :: xs, hx, B, L, y :: ys, hy, r, s, hr, hs, h => by
    simp only [gdTs, Bool.and_eq_true] at hx
    simp only [okTs, Bool.and_eq_true] at hy
    cases xs with
    | nil =>
      cases ys with
      | nil =>
        simp only [List.map_cons, List.map_nil, restT, List.append_assoc] at h
        obtain ⟨e1, e2⟩ := cutP x hx.1 hy.1 (stop_one r) (stop_one s) h
        rw [e1]
        exact ⟨rfl, by simpa using e2⟩
      | cons z zs =>
        exfalso
        simp only [List.map_cons, List.map_nil, restT, List.append_assoc] at h
        obtain ⟨e1, e2⟩ := cutP x hx.1 hy.1 (stop_one r) (stop_tail _ s) h
        simp [tailU] at e2
    | cons w ws =>
      cases ys with
      | nil =>
        exfalso
        simp only [List.map_cons, List.map_nil, restT, List.append_assoc] at h
        obtain ⟨e1, e2⟩ := cutP x hx.1 hy.1 (stop_tail _ r) (stop_one s) h
        simp [tailU] at e2
      | cons z zs =>
        simp only [List.map_cons, restT, List.append_assoc] at h
        obtain ⟨e1, e2⟩ := cutP x hx.1 hy.1 (stop_tail _ r) (stop_tail _ s) h
        have := cutPu (w :: ws) hx.2 hy.2 hr hs e2
        rw [e1, this.1]
        exact ⟨rfl, this.2⟩
theorem cutPu : ∀ (xs : List PyData), gdTs xs = true → ∀ {B : Int} {L : Nat} {ys : List PyData}, okTs B L ys = true → ∀ {r s : List Nat}, stopR r → stopR s → tailU (xs.map shL) ++ r = tailU (ys.map shL) ++ s → xs = ys ∧ r = s
  | [], _, B, L, [], _, r, s, _, _, h => ⟨rfl, by simpa [tailU] using h⟩
  | [], _, B, L, y :: ys, hy, r, s, _, _, h => by simp [tailU] at h
  | x :: xs, hx, B, L, [], _, r, s, _, _, h => by simp [tailU] at h
  | x :: xs, hx, B, L, y :: ys, hy, r, s, hr, hs, h => by
    simp only [gdTs, Bool.and_eq_true] at hx
    simp only [okTs, Bool.and_eq_true] at hy
    simp only [List.map_cons, tailU, List.cons_append, List.cons.injEq, true_and, List.append_assoc] at h
    obtain ⟨e1, e2⟩ := cutP x hx.1 hy.1 (stop_tail _ r) (stop_tail _ s) h
    have := cutPu xs hx.2 hy.2 hr hs e2
    rw [e1, this.1]
    exact ⟨rfl, this.2⟩
end
end Net
set_option autoImplicit false
namespace Net
open PySem L2 L2.Ev
variable {ms : List Mt} {p t : Int}
theorem isW_snoc {w : List Nat} {k : Nat} {m : Mt} (hm : ms[k]? = some m) : isW ms p t (w ++ [k]) = (isW ms p t w && ((m.led (lst ms p w)).isSome && decide (fin ms t w ≤ m.b))) := by
  apply Bool.eq_iff_iff.mpr
  rw [isW_iff, Wy.append, Bool.and_eq_true, isW_iff]
  refine and_congr Iff.rfl ?_
  simp only [Wy, hm, and_true]
  constructor
  · rintro ⟨m', q, e, h1, h2⟩
    cases e
    simp [h1, h2]
  · intro h
    simp only [Bool.and_eq_true, decide_eq_true_eq] at h
    obtain ⟨q, hq⟩ := Option.isSome_iff_exists.mp h.1
    exact ⟨m, q, rfl, hq, h.2⟩
theorem Wy.mono_fin {many : Int} (ok : ∀ m ∈ ms, m.Ok many) : ∀ {w : List Nat} {p t : Int}, Wy ms p t w → t ≤ fin ms t w ∧ ∀ n ∈ w, ∀ m, ms[n]? = some m → m.b < fin ms t w
  | [], p, t, _ => ⟨by simp [fin], fun n h => by simp at h⟩
  | n :: w, p, t, ⟨m, q, h1, h2, h3, h4⟩ => by
    obtain ⟨i1, i2⟩ := Wy.mono_fin ok h4
    have hl := (ok m (List.mem_of_getElem? h1)).l1
    simp only [fin, h1]
    unfold Mt.e at i1 i2 ⊢
    refine ⟨by omega, fun k hk m' e => ?_⟩
    rcases List.mem_cons.mp hk with rfl | hk
    · rw [h1] at e; cases e; omega
    · exact i2 k hk m' e
def nxt (ms : List Mt) (p t : Int) (w : List Nat) (k : Nat) : Bool := match ms[k]? with | some m => (m.led (lst ms p w)).isSome && decide (fin ms t w ≤ m.b) | none => false
def onR (n : Nat) (c : List Nat → Nat → Bool) (w : List Nat) : List (List Nat) := ((List.range n).filter (c w)).map fun k => w ++ [k]
def lvR (n : Nat) (c : List Nat → Nat → Bool) : Nat → List (List Nat)
  | 0 => [[]]
  | j + 1 => (lvR n c j).flatMap (onR n c)
def upR (n : Nat) (c : List Nat → Nat → Bool) : Nat → List (List Nat)
  | 0 => [[]]
  | j + 1 => upR n c j ++ lvR n c (j + 1)
def fre (w : List Nat) (k : Nat) : Bool := !(w.contains k)
theorem lvR_len {n : Nat} {c : List Nat → Nat → Bool} : ∀ {j : Nat} {w : List Nat}, w ∈ lvR n c j → w.length = j
  | 0, w, h => by simp [lvR] at h; simp [h]
  | j + 1, w, h => by
    simp only [lvR, List.mem_flatMap, onR, List.mem_map] at h
    obtain ⟨r, hr, k, _, rfl⟩ := h
    simp [lvR_len hr]
theorem lvR_lt {n : Nat} {c : List Nat → Nat → Bool} : ∀ {j : Nat} {w : List Nat}, w ∈ lvR n c j → ∀ k ∈ w, k < n
  | 0, w, h => by simp [lvR] at h; simp [h]
  | j + 1, w, h => by
    simp only [lvR, List.mem_flatMap, onR, List.mem_map, List.mem_filter, List.mem_range] at h
    obtain ⟨r, hr, k, hk, rfl⟩ := h
    intro i hi
    rcases List.mem_append.mp hi with hi | hi
    · exact lvR_lt hr i hi
    · simp at hi; omega
theorem upR_len {n : Nat} {c : List Nat → Nat → Bool} : ∀ {j : Nat} {w : List Nat}, w ∈ upR n c j → w.length ≤ j
  | 0, w, h => by simp [upR] at h; simp [h]
  | j + 1, w, h => by
    rcases List.mem_append.mp h with h | h
    · have := upR_len h; omega
    · have := lvR_len h; omega
theorem upR_lt {n : Nat} {c : List Nat → Nat → Bool} : ∀ {j : Nat} {w : List Nat}, w ∈ upR n c j → ∀ k ∈ w, k < n
  | 0, w, h => by simp [upR] at h; simp [h]
  | j + 1, w, h => by
    rcases List.mem_append.mp h with h | h
    · exact upR_lt h
    · exact lvR_lt h
theorem onR_nodup {n : Nat} {c : List Nat → Nat → Bool} (w : List Nat) : (onR n c w).Nodup := by
  unfold onR
  refine List.Pairwise.map _ (S := fun a b => a ≠ b) (R := fun a b => a ≠ b) (fun a b h e => h ?_) ((List.nodup_range).filter _)
  simpa using e
theorem lvR_nodup {n : Nat} {c : List Nat → Nat → Bool} : ∀ j, (lvR n c j).Nodup
  | 0 => by simp [lvR]
  | j + 1 => by
    unfold lvR
    refine List.pairwise_flatMap.mpr ⟨fun w _ => onR_nodup w, ?_⟩
    refine (lvR_nodup j).imp_of_mem fun {a b} ha hb hne x hx y hy e => hne ?_
    subst e
    simp only [onR, List.mem_map] at hx hy
    obtain ⟨k1, _, rfl⟩ := hx
    obtain ⟨k2, _, e⟩ := hy
    exact ((List.append_inj' e rfl).1).symm
section
variable {many : Int}
theorem lvR_isW (ok : ∀ m ∈ ms, m.Ok many) : ∀ j, lvR ms.length (nxt ms p t) j = (lvR ms.length fre j).filter (isW ms p t)
  | 0 => by simp only [lvR]; rw [List.filter_cons, if_pos (by simp [isW])]; rfl
  | j + 1 => by
    simp only [lvR]
    rw [lvR_isW ok j, List.filter_flatMap]
    have key : ∀ (rs : List (List Nat)), (∀ r ∈ rs, ∀ k ∈ r, k < ms.length) → (rs.filter (isW ms p t)).flatMap (onR ms.length (nxt ms p t)) = rs.flatMap fun r => (onR ms.length fre r).filter (isW ms p t) := by
      intro rs
      induction rs with
      | nil => intro _; rfl
      | cons r rs ih =>
        intro hlt
        have ih := ih fun r' h => hlt r' (List.mem_cons_of_mem _ h)
        have hr := hlt r List.mem_cons_self
        have at' : ∀ k ∈ List.range ms.length, isW ms p t (r ++ [k]) = (isW ms p t r && nxt ms p t r k) := fun k hk => by
          have hk' := List.mem_range.mp hk
          have e : ms[k]? = some ms[k] := List.getElem?_eq_getElem hk'
          rw [isW_snoc e]
          simp only [nxt, e]
        have one : (onR ms.length fre r).filter (isW ms p t) = if isW ms p t r = true then onR ms.length (nxt ms p t) r else [] := by
          unfold onR
          rw [List.filter_map, List.filter_filter]
          split
          · rename_i hw
            congr 1
            refine List.filter_congr fun k hk => ?_
            simp only [Function.comp, at' k hk, hw, Bool.true_and]
            by_cases hn : nxt ms p t r k = true
            · rw [hn, Bool.true_and]
              simp only [fre, Bool.not_eq_true']
              refine Bool.eq_false_iff.mpr fun z => ?_
              have hk' := List.mem_range.mp hk
              have e : ms[k]? = some ms[k] := List.getElem?_eq_getElem hk'
              have hlt2 := (Wy.mono_fin ok (isW_iff.mp hw)).2 k (List.contains_iff_mem.mp z) _ e
              simp only [nxt, e, Bool.and_eq_true, decide_eq_true_eq] at hn
              omega
            · rw [Bool.eq_false_iff.mpr hn, Bool.false_and]
          · rename_i hw
            rw [List.map_eq_nil_iff]
            refine List.filter_eq_nil_iff.mpr fun k hk => ?_
            simp [Function.comp, at' k hk, hw]
        rw [List.flatMap_cons, one, List.filter_cons]
        split
        · rw [List.flatMap_cons, ih]
        · rw [List.nil_append, ih]
    exact key _ fun r hr => lvR_lt hr
theorem upR_isW (ok : ∀ m ∈ ms, m.Ok many) : ∀ j, upR ms.length (nxt ms p t) j = (upR ms.length fre j).filter (isW ms p t)
  | 0 => by simp only [upR]; rw [List.filter_cons, if_pos (by simp [isW])]; rfl
  | j + 1 => by
    simp only [upR]
    rw [upR_isW ok j, List.filter_append, lvR_isW ok (j + 1)]
theorem pair_notW (ok : ∀ m ∈ ms, m.Ok many) (k : Nat) (hk : k < ms.length) : isW ms p t [k, k] = false := by
  have e : ms[k]? = some ms[k] := List.getElem?_eq_getElem hk
  refine Bool.eq_false_iff.mpr fun h => ?_
  rw [show [k, k] = [k] ++ [k] from rfl, isW_snoc e] at h
  simp only [Bool.and_eq_true, decide_eq_true_eq] at h
  have := (Wy.mono_fin ok (isW_iff.mp h.1)).2 k (by simp) _ e
  omega
def rowsR (n : Nat) : List (List Nat) := upR n fre 4 ++ (List.range n).map fun k => [k, k]
theorem rowsR_lt {n : Nat} {w : List Nat} (h : w ∈ rowsR n) : ∀ k ∈ w, k < n := by
  rcases List.mem_append.mp h with h | h
  · exact upR_lt h
  · obtain ⟨k, hk, rfl⟩ := List.mem_map.mp h
    have := List.mem_range.mp hk
    intro i hi
    simp at hi; omega
theorem rowsR_len {n : Nat} {w : List Nat} (h : w ∈ rowsR n) : w.length ≤ 4 := by
  rcases List.mem_append.mp h with h | h
  · exact upR_len h
  · obtain ⟨k, hk, rfl⟩ := List.mem_map.mp h; simp
theorem rowsR_isW (ok : ∀ m ∈ ms, m.Ok many) : (rowsR ms.length).filter (isW ms p t) = upR ms.length (nxt ms p t) 4 := by
  unfold rowsR
  rw [List.filter_append, ← upR_isW ok 4, List.filter_eq_nil_iff.mpr, List.append_nil]
  intro w hw
  obtain ⟨k, hk, rfl⟩ := List.mem_map.mp hw
  rw [pair_notW ok k (List.mem_range.mp hk)]; simp
theorem rowsR_mem (ok : ∀ m ∈ ms, m.Ok many) {w : List Nat} (h : w ∈ rowsR ms.length) : w ∈ upR ms.length (nxt ms p t) 4 ↔ isW ms p t w = true := by
  rw [← rowsR_isW ok, List.mem_filter]
  exact ⟨fun z => z.2, fun z => ⟨h, z⟩⟩
end
def kyR (w : List Nat) : List Key := w.map fun (n : Nat) => .inl ((n : Nat) : Int)
theorem kyR_inj : ∀ {w v : List Nat}, kyR w = kyR v → w = v
  | [], [], _ => rfl
  | [], _ :: _, e => by simp [kyR] at e
  | _ :: _, [], e => by simp [kyR] at e
  | a :: w, b :: v, e => by
    unfold kyR at e
    rw [List.map_cons, List.map_cons] at e
    injection e with e1 e2
    injection e1 with e1
    rw [kyR_inj e2, Int.ofNat.inj e1]
def atR (ms : List Mt) (p t : Int) (w : List Nat) : PyData := .tuple [.int (lst ms p w), .int (fin ms t w)]
def enR (ms : List Mt) (p t : Int) (ws : List (List Nat)) : List (List Key × PyData) := ws.map fun w => (kyR w, atR ms p t w)
theorem valG_en {ws : List (List Nat)} {w : List Nat} (h : w ∈ ws) : valG (enR ms p t ws) (kyR w) = some (atR ms p t w) := by
  unfold valG enR
  induction ws with
  | nil => simp at h
  | cons v ws ih =>
    rw [List.map_cons, List.find?_cons]
    by_cases e : kyR v = kyR w
    · rw [kyR_inj e]; simp
    · simp only [e, decide_false]
      rcases List.mem_cons.mp h with h | h
      · exact absurd (by rw [h]) e
      · exact ih h
theorem valG_en_none {ws : List (List Nat)} {w : List Nat} (h : w ∉ ws) : valG (enR ms p t ws) (kyR w) = none := by
  unfold valG enR
  rw [List.find?_eq_none.mpr]
  · rfl
  intro x hx
  obtain ⟨v, hv, rfl⟩ := List.mem_map.mp hx
  simp only [decide_eq_true_eq]
  exact fun e => h (by rw [← kyR_inj e]; exact hv)
theorem putG_en {ws : List (List Nat)} {w : List Nat} (h : w ∉ ws) : putG (enR ms p t ws) (kyR w) (atR ms p t w) = enR ms p t (ws ++ [w]) := by
  unfold putG enR
  rw [if_neg, List.map_append]
  · rfl
  · intro z
    obtain ⟨x, hx, e⟩ := List.any_eq_true.mp z
    obtain ⟨v, hv, rfl⟩ := List.mem_map.mp hx
    simp only [decide_eq_true_eq] at e
    exact h (by rw [← kyR_inj e]; exact hv)
theorem keysP_ky : ∀ w : List Nat, keysP ((w.map fun (n : Nat) => ((n : Nat) : Int)).map PyData.int) = some (kyR w)
  | [] => rfl
  | n :: w => by
    have ih := keysP_ky w
    simp only [List.map_cons, keysP, keyP] at ih ⊢
    rw [ih]
    rfl
theorem onR_length {n : Nat} {c : List Nat → Nat → Bool} (w : List Nat) : (onR n c w).length ≤ n := by
  unfold onR
  rw [List.length_map]
  exact Nat.le_trans (List.length_filter_le _ _) (by simp)
theorem fm_length {n : Nat} {c : List Nat → Nat → Bool} : ∀ rs : List (List Nat), (rs.flatMap (onR n c)).length ≤ n * rs.length
  | [] => by simp
  | r :: rs => by
    have h1 := onR_length (n := n) (c := c) r
    have h2 := fm_length (n := n) (c := c) rs
    rw [List.flatMap_cons, List.length_append, List.length_cons, Nat.mul_succ]
    omega
theorem lvR_length {n : Nat} {c : List Nat → Nat → Bool} (hn : n ≤ 5) : ∀ j, (lvR n c j).length ≤ 5 ^ j
  | 0 => by simp [lvR]
  | j + 1 => by
    have h1 := fm_length (n := n) (c := c) (lvR n c j)
    have h2 := lvR_length (c := c) hn j
    have h3 : n * (lvR n c j).length ≤ 5 * 5 ^ j := Nat.mul_le_mul hn h2
    simp only [lvR]
    rw [Nat.pow_succ]
    omega
theorem upR_length {n : Nat} {c : List Nat → Nat → Bool} (hn : n ≤ 5) : ∀ j, (upR n c j).length ≤ 5 ^ (j + 1)
  | 0 => by simp [upR]
  | j + 1 => by
    have h1 := upR_length (c := c) hn j
    have h2 := lvR_length (c := c) hn (j + 1)
    simp only [upR, List.length_append]
    rw [Nat.pow_succ 5 (j + 1)]
    omega
theorem lv_small {n j : Nat} {c : List Nat → Nat → Bool} (hn : n ≤ 5) (hj : j ≤ 3) {done : List (List Nat)} {r : List Nat} {rest : List (List Nat)} (e : done ++ r :: rest = lvR n c j) : (done.flatMap (onR n c)).length ≤ 625 := by
  have h1 := fm_length (n := n) (c := c) done
  have h2 := lvR_length (c := c) hn j
  have h3 : done.length ≤ (lvR n c j).length := by rw [← e]; simp
  have h4 : n * done.length ≤ 5 * 5 ^ j := Nat.mul_le_mul hn (Nat.le_trans h3 h2)
  have h5 : 5 ^ j ≤ 125 := Nat.le_trans (Nat.pow_le_pow_right (by omega) hj) (by decide)
  omega
theorem up_small {n j : Nat} {c : List Nat → Nat → Bool} (hn : n ≤ 5) (hj : j ≤ 4) : (upR n c j).length ≤ 3125 :=
  Nat.le_trans (upR_length hn j) (Nat.le_trans (Nat.pow_le_pow_right (by omega) (show j + 1 ≤ 5 by omega)) (by decide))
theorem lv_small2 {n j : Nat} {c : List Nat → Nat → Bool} (hn : n ≤ 5) (hj : j ≤ 4) : (lvR n c j).length ≤ 625 :=
  Nat.le_trans (lvR_length hn j) (Nat.le_trans (Nat.pow_le_pow_right (by omega) hj) (by decide))
theorem fresh_on {n j i : Nat} {c : List Nat → Nat → Bool} {done : List (List Nat)} {r : List Nat} {rest : List (List Nat)} (e : done ++ r :: rest = lvR n c j) :
    r ++ [i] ∉ upR n c j ++ (done.flatMap (onR n c) ++ ((List.range i).filter (c r)).map fun k => r ++ [k]) := by
  have hr : r ∈ lvR n c j := by rw [← e]; simp
  have hl := lvR_len hr
  have nd := lvR_nodup (n := n) (c := c) j
  rw [← e] at nd
  have hd : r ∉ done := fun z => (List.nodup_append.mp nd).2.2 r z r (by simp) rfl
  intro h
  rcases List.mem_append.mp h with h | h
  · have := upR_len h
    simp at this; omega
  · rcases List.mem_append.mp h with h | h
    · obtain ⟨r', h1, h2⟩ := List.mem_flatMap.mp h
      obtain ⟨k, _, e2⟩ := List.mem_map.mp h2
      exact hd (by rw [← (List.append_inj' e2 rfl).1]; exact h1)
    · obtain ⟨k, hk, e2⟩ := List.mem_map.mp h
      have := (List.append_inj' e2 rfl).2
      simp at this
      subst this
      simp at hk
theorem range_filter_succ (c : Nat → Bool) (i : Nat) : (List.range (i + 1)).filter c = (List.range i).filter c ++ (if c i = true then [i] else []) := by
  rw [List.range_succ, List.filter_append, List.filter_cons]
  simp
theorem lv_up {n j : Nat} {c : List Nat → Nat → Bool} {r : List Nat} (h : r ∈ lvR n c j) : r ∈ upR n c j := by
  cases j with
  | zero => exact h
  | succ j => exact List.mem_append_right _ h
theorem lv_way {ms : List Mt} {p t many : Int} (ok : ∀ m ∈ ms, m.Ok many) {j : Nat} {r : List Nat} (h : r ∈ lvR ms.length (nxt ms p t) j) : Wy ms p t r := by
  rw [lvR_isW ok] at h
  exact isW_iff.mp (List.mem_filter.mp h).2
theorem at_snoc {ms : List Mt} {p t : Int} {r : List Nat} {i : Nat} {m : Mt} {q : Int} (hm : ms[i]? = some m) (hw : Wy ms p t r) (hq : m.led (lst ms p r) = some q) : atR ms p t (r ++ [i]) = .tuple [.int q, .int m.e] := by
  unfold atR
  rw [lst_snoc hm hw hq, fin_snoc hm hw]
def LastR (B : Nat) (tl : Mu) (lw : W) (xs : List PyData) : Prop := lw = .p (.list xs) ∨ ∃ i, lw = .r (B + i) ∧ tl[i]? = some (.lst xs)
theorem LastR.new {B : Nat} {tl : Mu} {xs : List PyData} : LastR B (tl ++ [.lst xs]) (.r (B + tl.length)) xs := .inr ⟨tl.length, rfl, by simp⟩
theorem iSeq_last {B : Nat} {tl : Mu} {lw : W} {xs : List PyData} (h : LastR B tl lw xs) {ρ : Rho} {μ : Mu} {i : Nat} {Q : List PyData → (Mu → Prop) → Mu → Prop} (hv : ρ[i]? = some (some lw)) (hμ : ∃ pre ex, μ = pre ++ (tl ++ ex) ∧ pre.length = B)
    (q : ∀ ok : Mu → Prop, (∀ (pre ex : Mu), pre.length = B → ok (pre ++ (tl ++ ex))) → Q xs ok μ) : iSeq (wVar i) ρ μ Q := by
  simp only [iSeq, wVar, hv]
  rcases h with rfl | ⟨k, rfl, hk⟩
  · exact q _ fun _ _ _ => trivial
  · obtain ⟨pre, ex, rfl, hl⟩ := hμ
    have at' : ∀ (pre ex : Mu), pre.length = B → (pre ++ (tl ++ ex))[B + k]? = some (.lst xs) := fun pre ex hl => by
      have hk' := (List.getElem?_eq_some_iff.mp hk).1
      rw [List.getElem?_append_right (by omega), ← hl, Nat.add_sub_cancel_left, List.getElem?_append_left hk', hk]
    simp only [at' pre ex hl]
    exact q _ at'
end Net
set_option maxHeartbeats 1000000
set_option autoImplicit false
namespace K12
open PySem L2 L2.Ev Net
local macro_rules | `(tactic| walk_at "wp1") => `(tactic| simp only [spBody, startW, sIf, sSet, sAsg, sRet, sRetN, sDrop, sNext, wVar, wC, wOp, wTest, wAnd, wOr, wNot, wAndV, wOrV, wNotV, wChain, wIf, wCall, aCons, aNil, wTup, wLst, wNew, pdOf, Option.map_some, wSl, wP, wNoP, nName, nSub, nTup, nCons, nNil, wTy, wNeg, cInt, cMax, cMin, List.map_cons, List.map_nil, List.length_cons, List.length_nil, List.replicate_succ, List.replicate_zero, List.cons_append, List.nil_append, List.append_nil, Nat.reduceAdd, Nat.reduceSub, List.set_cons_zero, List.set_cons_succ, List.getElem?_cons_zero, List.getElem?_cons_succ, Nat.zero_add, oAdd_int, oI_int, oI0_int, oIx_tup, oIx_lst, oIx_scr, oEq_p, oNe_p, oIs_n, oIsNot_n, oIs_bb, oIsNot_bb, atI_0, atI_1, atI_2, atI_3, atI_4, shaped_int, shaped_bool, eqv_int, eqv_bool, eqv_lst_nil, eqv_tup_nil, shaped_nilL, shaped_nilT, true_and, and_true, Nat.sub_self, Nat.add_one_sub_one, Bool.false_eq_true, if_false, if_true, Nat.reduceLeDiff, Int.reduceToNat, Int.reducePow, Int.reduceLT, Int.reduceLE, Int.reduceMul, Int.reduceSub, Int.reduceAdd, decide_true, decide_false, wTupRev])
local macro_rules | `(tactic| walk_at "wps") => `(tactic| simp only [spBody, startW, sSeq, sIf, sSet, sAsg, sRet, sRetN, sDrop, sNext, wVar, wC, wOp, wTest, wAnd, wOr, wNot, wAndV, wOrV, wNotV, wChain, wIf, wCall, aCons, aNil, wTup, wLst, wNew, pdOf, Option.map_some, wSl, wP, wNoP, nName, nSub, nTup, nCons, nNil, wTy, wNeg, cInt, cMax, cMin, List.map_cons, List.map_nil, List.length_cons, List.length_nil, List.replicate_succ, List.replicate_zero, List.cons_append, List.nil_append, List.append_nil, Nat.reduceAdd, Nat.reduceSub, List.set_cons_zero, List.set_cons_succ, List.getElem?_cons_zero, List.getElem?_cons_succ, Nat.zero_add, oAdd_int, oI_int, oI0_int, oIx_tup, oIx_lst, oIx_scr, oEq_p, oNe_p, oIs_n, oIsNot_n, oIs_bb, oIsNot_bb, atI_0, atI_1, atI_2, atI_3, atI_4, shaped_int, shaped_bool, eqv_int, eqv_bool, eqv_lst_nil, eqv_tup_nil, shaped_nilL, shaped_nilT, true_and, and_true, Nat.sub_self, Nat.add_one_sub_one, Bool.false_eq_true, if_false, if_true, Nat.reduceLeDiff, Int.reduceToNat, Int.reducePow, Int.reduceLT, Int.reduceLE, Int.reduceMul, Int.reduceSub, Int.reduceAdd, decide_true, decide_false, wTupRev])
theorem any_way (r : List Nat) (k : Nat) : (((wi r).map PyData.int).any fun y => PyData.eqv y (.int (k : Int))) = r.contains k := by
  induction r with
  | nil => rfl
  | cons n r ih =>
    simp only [wi, List.map_cons, List.any_cons, List.contains_cons] at ih ⊢
    rw [ih]
    congr 1
    show decide ((n : Int) = (k : Int)) = (k == n)
    by_cases h : n = k
    · subst h; simp
    · rw [decide_eq_false (by omega), Eq.comm, beq_eq_false_iff_ne]; exact fun z => h z.symm
theorem way_snoc (r : List Nat) (k : Nat) : PyData.tuple ((wi r).map PyData.int ++ [.int (k : Int)]) = wayD (r ++ [k]) := by simp [wayD, wi]
theorem oNotIn_way {μ : Mu} {r : List Nat} {k : Nat} {Q : WK} (q : Q (.p (.bool (fre r k))) μ) : oNotIn (.p (.int (k : Int))) (.p (wayD r)) μ Q := by
  unfold oNotIn wayD
  simp only [sqOf, daOf]
  exact ⟨shaped_intsL _, rfl, by rw [any_way]; exact q⟩
theorem set_last {μ tl : Mu} {c d : Cell} : List.set (μ ++ (tl ++ [c])) (μ.length + tl.length) d = μ ++ (tl ++ [d]) := by
  rw [← List.append_assoc, ← List.append_assoc, show μ.length + tl.length = (μ ++ tl).length by simp]
  exact List.set_append_right _ _ (Nat.le_refl _) |>.trans (by simp)
theorem way_add {μ : Mu} {r : List Nat} {k : Nat} {Q : WK} (hl : r.length ≤ 1000) (q : Q (.p (wayD (r ++ [k]))) μ) : oAdd (.p (wayD r)) (.p (.tuple [.int (k : Int)])) μ Q := by
  show ((wi r).map PyData.int).length + 1 ≤ sizeLine ∧ Q (.p (.tuple ((wi r).map PyData.int ++ [.int (k : Int)]))) μ
  rw [way_snoc]
  exact ⟨by simp only [wi, List.length_map]; rw [sizeLine_eq]; omega, q⟩
def sp_rows12 : SpW := fun ws μ Q => ∃ n : Nat, ws = [.p (.int (n : Int))] ∧ n ≤ 5 ∧ Q (.p (.list ((rowsR n).map wayD))) μ
theorem vc_rows12 (ws : List W) (μ : Mu) (Q : WK) (h : sp_rows12 ws μ Q) : spBody N__law_rows 1 b__law_rows ws μ Q := by
  obtain ⟨n, rfl, hn, q⟩ := h
  unfold b__law_rows
  refine ⟨rfl, ?_⟩
  show sSeq _ _ _ [some (.p (.int (n : Int))), none, none, none, none, none, none] μ
  ((try dsimp only); rw [sSeq_def]; (try (try walk_at "wp1")))
  refine ⟨szk (by decide), szk (by decide), ?_⟩
  ((try dsimp only); rw [sSeq_def]; (try (try walk_at "wp1")))
  refine ⟨szk (by decide), szk (by decide), ?_⟩
  ((try dsimp only); rw [sSeq_def]; (try (try walk_at "wp1")))
  simp only [sFor, iRng]
  (try walk_at "wp1")
  refine forR_of (fun xs ρ μ' => ∃ (j : Nat) (y3 y4 y5 y6 : Option W) (lw : W) (tl : Mu), xs = rng j xs.length ∧ j + xs.length = 4 ∧ ρ = [some (.p (.int (n : Int))), some (.p (.list ((upR n fre j).map wayD))), some lw, y3, y4, y5, y6] ∧ μ' = μ ++ tl ∧ LastR μ.length tl lw ((lvR n fre j).map wayD))
    (fun _ _ _ _ => trivial) ?_ ?_ _ _ _ ⟨0, _, _, _, _, _, [], by simp [rng], by simp [rng], rfl, by simp, .inl rfl⟩
  · rintro ρ μ' ⟨j, y3, y4, y5, y6, lw, tl, _, hj, rfl, rfl, hL⟩
    simp only [List.length_nil, Nat.add_zero] at hj
    subst hj
    have hup := up_small (c := fre) hn (Nat.le_refl 4)
    simp only [sRet, wOp, wLc, iRng]
    (try walk_at "wp1")
    refine ⟨by omega, by omega, ?_⟩
    simp only [wipeW, List.set_cons_zero, List.set_cons_succ]
    refine compR_of (fun xs acc μ1 => μ1 = μ ++ tl ∧ ∃ k : Nat, xs = rng k xs.length ∧ k + xs.length = n ∧ acc = ((List.range k).map fun i => [i, i]).map wayD) (fun _ _ _ _ => trivial) ?_ ?_ _ _ _ ⟨rfl, 0, by simp [rng], by simp [rng], rfl⟩
    · rintro acc μ1 ⟨rfl, k, _, hk, rfl⟩
      simp only [List.length_nil, Nat.add_zero] at hk
      subst hk
      have hadd : ∀ (Q : WK) (a b : List PyData), oAdd (.p (.list a)) (.p (.list b)) (μ ++ tl) Q = (a.length + b.length ≤ sizeLine ∧ Q (.p (.list (a ++ b))) (μ ++ tl)) := fun Q a b => rfl
      rw [hadd]
      refine ⟨by rw [sizeLine_eq, List.length_map, List.length_map, List.length_map, List.length_range]; omega, ret_cut (by simp) ?_⟩
      rw [List.take_left, ← List.map_append]
      exact q
    · rintro x xs acc μ1 R3 hR3 ⟨rfl, k, ex, hk, rfl⟩
      obtain ⟨rfl, ex2⟩ := rng_cons ex
      refine ⟨_, rfl, ?_⟩
      simp only [wYes, if_true]
      (try walk_at "wp1")
      simp only [List.length_cons] at hk
      refine ⟨szk (by decide), by rw [sizeLine_eq, List.length_map, List.length_map, List.length_range]; omega, hR3 _ _ ⟨rfl, k + 1, by simpa using ex2, by omega, ?_⟩⟩
      rw [List.range_succ, List.map_append, List.map_append]
      rfl
  · rintro x xs ρ μ' R hR ⟨j, y3, y4, y5, y6, lw, tl, ex, hj, rfl, rfl, hL⟩
    obtain ⟨rfl, ex'⟩ := rng_cons ex
    simp only [List.length_cons] at hj
    (try walk_at "wp1")
    ((try dsimp only); rw [sSeq_def]; (try (try walk_at "wp1")))
    refine ⟨Nat.zero_le _, ?_⟩
    rw [sSeq_def]
    simp only [sFor]
    refine iSeq_last hL rfl ⟨μ, [.lst []], by simp, rfl⟩ fun ok hok => ?_
    refine forR_of (fun xs ρ μ' => ∃ (done rest : List (List Nat)) (y5 y6 : Option W), done ++ rest = lvR n fre j ∧ xs = rest.map wayD ∧ ρ = [some (.p (.int (n : Int))), some (.p (.list ((upR n fre j).map wayD))), some lw, some (.p (.int (j : Int))), some (.r (μ.length + tl.length)), y5, y6] ∧ μ' = μ ++ (tl ++ [.lst ((done.flatMap (onR n fre)).map wayD)]))
      (fun _ _ _ h => by obtain ⟨_, _, _, _, _, _, _, rfl⟩ := h; exact hok _ _ rfl) ?_ ?_ _ _ _ ⟨[], lvR n fre j, y5, y6, rfl, rfl, by rw [List.length_append], by simp⟩
    · rintro ρ μ' ⟨done, rest, y5, y6, e, er, rfl, rfl⟩
      have er' : rest = [] := by cases rest with | nil => rfl | cons _ _ => simp at er
      subst er'
      rw [List.append_nil] at e
      subst e
      have hc : (μ ++ (tl ++ [Cell.lst (((lvR n fre j).flatMap (onR n fre)).map wayD)]))[μ.length + tl.length]? = some (.lst (((lvR n fre j).flatMap (onR n fre)).map wayD)) := by rw [← List.append_assoc]; rw [List.getElem?_append_right (by simp)]; simp
      have hup := up_small (c := fre) hn (show j ≤ 4 by omega)
      have hlv := lv_small2 (c := fre) hn (show j + 1 ≤ 4 by omega)
      ((try dsimp only); rw [sSeq_def]; (try (try walk_at "wp1")))
      have hadd : ∀ (Q : WK), oAdd (.p (.list ((upR n fre j).map wayD))) (.r (μ.length + tl.length)) (μ ++ (tl ++ [Cell.lst (((lvR n fre j).flatMap (onR n fre)).map wayD)])) Q = (((upR n fre j).map wayD).length + (((lvR n fre j).flatMap (onR n fre)).map wayD).length ≤ sizeLine ∧ Q (.p (.list ((upR n fre j).map wayD ++ ((lvR n fre j).flatMap (onR n fre)).map wayD))) (μ ++ (tl ++ [Cell.lst (((lvR n fre j).flatMap (onR n fre)).map wayD)]))) := fun Q => by simp only [oAdd, lsOf, hc]
      rw [hadd]
      refine ⟨by rw [sizeLine_eq, List.length_map, List.length_map]; simp only [lvR] at hlv; omega, ?_⟩
      (try walk_at "wp1")
      exact hR _ _ ⟨j + 1, _, _, _, _, .r (μ.length + tl.length), tl ++ [.lst (((lvR n fre j).flatMap (onR n fre)).map wayD)], by simpa using ex', by omega, by rw [← List.map_append]; rfl, rfl, LastR.new⟩
    · rintro x xs2 ρ μ' R2 hR2 ⟨done, rest, y5, y6, e, er, rfl, rfl⟩
      cases rest with
      | nil => simp at er
      | cons r rest =>
        simp only [List.map_cons, List.cons.injEq] at er
        obtain ⟨rfl, rfl⟩ := er
        have hc : (μ ++ (tl ++ [Cell.lst ((done.flatMap (onR n fre)).map wayD)]))[μ.length + tl.length]? = some (.lst ((done.flatMap (onR n fre)).map wayD)) := by rw [← List.append_assoc]; rw [List.getElem?_append_right (by simp)]; simp
        (try walk_at "wp1")
        simp only [sDrop, wExt, wVar, List.getElem?_cons_zero, List.getElem?_cons_succ, hc, true_and, wLc, iRng]
        (try walk_at "wp1")
        refine ⟨by omega, by omega, ?_⟩
        simp only [wipeW, List.set_cons_zero, List.set_cons_succ]
        have hr : r ∈ lvR n fre j := by rw [← e]; simp
        have hrl := lvR_len hr
        have hsm := lv_small (c := fre) hn (show j ≤ 3 by omega) e
        refine compR_of (fun xs acc μ1 => μ1 = μ ++ (tl ++ [Cell.lst ((done.flatMap (onR n fre)).map wayD)]) ∧ ∃ k : Nat, xs = rng k xs.length ∧ k + xs.length = n ∧ acc = (((List.range k).filter (fre r)).map fun i => r ++ [i]).map wayD) (fun _ _ _ _ => trivial) ?_ ?_ _ _ _ ⟨rfl, 0, by simp [rng], by simp [rng], rfl⟩
        · rintro acc μ1 ⟨rfl, k, _, hk, rfl⟩
          simp only [List.length_nil, Nat.add_zero] at hk
          subst hk
          have hol := onR_length (n := k) (c := fre) r
          unfold onR at hol
          simp only [lsOf, hc]
          refine ⟨by rw [sizeLine_eq, List.length_map, List.length_map]; omega, hR2 _ _ ⟨done ++ [r], rest, _, _, by rw [List.append_assoc]; exact e, rfl, rfl, ?_⟩⟩
          rw [set_last, ← List.map_append, List.flatMap_append, List.flatMap_singleton]
          rfl
        · rintro x xs acc μ1 R3 hR3 ⟨rfl, k, ex2, hk, rfl⟩
          obtain ⟨rfl, ex3⟩ := rng_cons ex2
          simp only [List.length_cons] at hk
          refine ⟨_, rfl, ?_⟩
          (try walk_at "wp1")
          refine oNotIn_way ?_
          cases hf : fre r k with
          | false =>
            dsimp only
            rw [if_neg (by simp)]
            exact hR3 _ _ ⟨rfl, k + 1, by simpa using ex3, by omega, by rw [range_filter_succ, hf]; simp⟩
          | true =>
            dsimp only
            rw [if_pos rfl]
            (try walk_at "wp1")
            refine ⟨szk (by decide), way_add (by omega) ?_⟩
            refine ⟨?_, hR3 _ _ ⟨rfl, k + 1, by simpa using ex3, by omega, by rw [range_filter_succ, hf]; simp⟩⟩
            have hf2 := List.length_filter_le (fre r) (List.range k)
            rw [List.length_range] at hf2
            rw [sizeLine_eq, List.length_map, List.length_map]; omega
def sp_small12 : SpW := fun ws μ Q => ∃ many ms, ws = [.p (netD many ms)] ∧ 2 ≤ many ∧ MsAll many ms ∧ ∀ many' ms', 2 ≤ many' → many' ≤ 4 → MsAll many' ms' → ms'.length ≤ 5 → Q (.p (netD many' ms')) μ
theorem vc_small12 (ws : List W) (μ : Mu) (Q : WK) (h : sp_small12 ws μ Q) : spBody N__law_small 1 b__law_small ws μ Q := by
  obtain ⟨many, ms, rfl, h2, ha, q⟩ := h
  unfold b__law_small netD
  refine ⟨rfl, ?_⟩
  show sSeq _ _ _ [some (.p (.tuple [.int many, .tuple (ms.map Mt.d)])), none, none, none, none, none, none, none] μ
  ((try dsimp only); rw [sSeq_def]; (try (try walk_at "wp1")))
  generalize hs : min many 4 = sm
  have hsm : 2 ≤ sm ∧ sm ≤ 4 := by omega
  ((try dsimp only); rw [sSeq_def]; (try (try walk_at "wp1")))
  refine ⟨szk (by decide), ?_⟩
  ((try dsimp only); rw [sSeq_def]; (try (try walk_at "wp1")))
  simp only [sFor, iSeq]
  (try walk_at "wp1")
  rw [oSl_tup, show cut (ms.map Mt.d) none (some 5) = (ms.map Mt.d).take 5 from cut_take _ 5, ← List.map_take]
  have hcm : ∀ m ∈ ms.take 5, m.Ok many := fun m hm => ha m (List.mem_of_mem_take hm)
  have hcl : (ms.take 5).length ≤ 5 := by rw [List.length_take]; omega
  generalize ms.take 5 = cs at hcm hcl
  clear hs
  dsimp only
  have ml : (μ ++ [Cell.lst []])[μ.length]? = some (.lst []) := by simp
  refine forR_of (fun xs ρ μ' => ∃ (rest ms' : List Mt) (y3 y4 y5 y6 y7 : Option W), xs = rest.map Mt.d ∧ (∀ m ∈ rest, m.Ok many) ∧ MsAll sm ms' ∧ ms'.length + rest.length ≤ 5 ∧ ρ = [some (.p (.tuple [.int many, .tuple (ms.map Mt.d)])), some (.p (.int sm)), some (.r μ.length), y3, y4, y5, y6, y7] ∧ μ' = μ ++ [.lst (ms'.map Mt.d)])
    (fun _ _ _ _ => trivial) ?_ ?_ _ _ _ ⟨cs, [], _, _, _, _, _, rfl, hcm, fun m h => by simp at h, by simpa using hcl, rfl, rfl⟩
  · rintro ρ μ' ⟨rest, ms', y3, y4, y5, y6, y7, _, _, hm', hl', rfl, rfl⟩
    have hrl : lsOf (μ ++ [.lst (ms'.map Mt.d)]) (.r μ.length) = some (ms'.map Mt.d) := by simp [lsOf]
    (try walk_at "wp1")
    simp only [cTuple, rlOf, hrl]
    (try walk_at "wp1")
    refine ⟨szk (by decide), ret_cut (by simp) ?_⟩
    rw [List.take_left]
    exact q sm ms' hsm.1 hsm.2 hm' (by omega)
  · rintro x xs ρ μ' R hR ⟨rest, ms', y3, y4, y5, y6, y7, er, hr, hm', hl', rfl, rfl⟩
    cases rest with
    | nil => simp at er
    | cons m rest =>
      simp only [List.map_cons, List.cons.injEq] at er
      obtain ⟨rfl, rfl⟩ := er
      have hc : (μ ++ [Cell.lst (ms'.map Mt.d)])[μ.length]? = some (.lst (ms'.map Mt.d)) := by simp
      rw [show m.d = .tuple [.str (wd m.w), .int m.one, .int m.oth, .int m.b, .int m.l] from rfl]
      (try walk_at "wp1")
      ((try dsimp only); rw [sSeq_def]; (try (try walk_at "wp1")))
      refine ⟨by omega, ?_⟩
      ((try dsimp only); rw [sSeq_def]; (try (try walk_at "wp1")))
      refine ⟨by omega, ?_⟩
      have ho := hr m (by simp)
      have a0 : 0 ≤ m.one % sm ∧ m.one % sm < sm := ⟨Int.emod_nonneg _ (by omega), Int.emod_lt_of_pos _ (by omega)⟩
      have b0 : 0 ≤ m.oth % sm ∧ m.oth % sm < sm := ⟨Int.emod_nonneg _ (by omega), Int.emod_lt_of_pos _ (by omega)⟩
      generalize m.one % sm = one at a0
      generalize m.oth % sm = oth at b0
      refine sSeq_cut (fun ρ μ1 => ∃ oth', 0 ≤ oth' ∧ oth' < sm ∧ one ≠ oth' ∧ μ1 = μ ++ [Cell.lst (ms'.map Mt.d)] ∧ ρ = [some (.p (.tuple [.int many, .tuple (ms.map Mt.d)])), some (.p (.int sm)), some (.r μ.length), some (.p (.str (wd m.w))), some (.p (.int one)), some (.p (.int oth')), some (.p (.int m.b)), some (.p (.int m.l))]) ?_ ?_
      · rintro ρ μ1 ⟨oth', o1, o2, o3, rfl, rfl⟩
        simp only [sDrop, wApp, wVar, List.getElem?_cons_zero, List.getElem?_cons_succ, hc, true_and]
        (try walk_at "wp1")
        simp only [hc]
        have ok' : (Mt.mk m.w one oth' m.b m.l).Ok sm := ⟨a0.1, a0.2, o1, o2, o3, ho.b0, ho.l1⟩
        refine ⟨szk (by decide), szl (by simp at hl' ⊢; omega), hR _ _ ⟨rest, ms' ++ [⟨m.w, one, oth', m.b, m.l⟩], _, _, _, _, _, rfl, fun m' h => hr m' (by simp [h]), fun m' h => ?_, by simp at hl' ⊢; omega, rfl, ?_⟩⟩
        · rcases List.mem_append.mp h with h | h
          · exact hm' m' h
          · simp at h; subst h; exact ok'
        · simp [Mt.d]
      · intro K hK
        (try walk_at "wp1")
        by_cases he : one = oth
        · subst he
          simp only [shaped_int, PyData.eqv, decide_true, true_and, if_true]
          (try walk_at "wp1")
          refine ⟨by omega, hK _ _ ⟨(one + 1) % sm, Int.emod_nonneg _ (by omega), Int.emod_lt_of_pos _ (by omega), fun z => ?_, rfl, rfl⟩⟩
          by_cases q : one + 1 < sm
          · rw [Int.emod_eq_of_lt (by omega) q] at z; omega
          · rw [show one + 1 = sm by omega, Int.emod_self] at z; omega
        · simp only [shaped_int, PyData.eqv, he, decide_false, true_and, Bool.false_eq_true, if_false]
          (try walk_at "wp1")
          exact hK _ _ ⟨oth, b0.1, b0.2, he, rfl, rfl⟩
end K12
set_option maxHeartbeats 1000000
set_option autoImplicit false
namespace K12
open PySem L2 L2.Ev Net
local macro_rules | `(tactic| walk_at "wp1") => `(tactic| simp only [spBody, startW, sIf, sSet, sAsg, sRet, sRetN, sDrop, sNext, wVar, wC, wOp, wTest, wAnd, wOr, wNot, wAndV, wOrV, wNotV, wChain, wIf, wCall, aCons, aNil, wTup, wLst, wNew, pdOf, Option.map_some, wSl, wP, wNoP, nName, nSub, nTup, nCons, nNil, wTy, wNeg, cInt, cMax, cMin, List.map_cons, List.map_nil, List.length_cons, List.length_nil, List.replicate_succ, List.replicate_zero, List.cons_append, List.nil_append, List.append_nil, Nat.reduceAdd, Nat.reduceSub, List.set_cons_zero, List.set_cons_succ, List.getElem?_cons_zero, List.getElem?_cons_succ, Nat.zero_add, oAdd_int, oI_int, oI0_int, oIx_tup, oIx_lst, oIx_scr, oEq_p, oNe_p, oIs_n, oIsNot_n, oIs_bb, oIsNot_bb, atI_0, atI_1, atI_2, atI_3, atI_4, shaped_int, shaped_bool, eqv_int, eqv_bool, eqv_lst_nil, eqv_tup_nil, shaped_nilL, shaped_nilT, true_and, and_true, Nat.sub_self, Nat.add_one_sub_one, Bool.false_eq_true, if_false, if_true, Nat.reduceLeDiff, Int.reduceToNat, Int.reducePow, Int.reduceLT, Int.reduceLE, Int.reduceMul, Int.reduceSub, Int.reduceAdd, decide_true, decide_false, wTupRev])
local macro_rules | `(tactic| walk_at "wps") => `(tactic| simp only [spBody, startW, sSeq, sIf, sSet, sAsg, sRet, sRetN, sDrop, sNext, wVar, wC, wOp, wTest, wAnd, wOr, wNot, wAndV, wOrV, wNotV, wChain, wIf, wCall, aCons, aNil, wTup, wLst, wNew, pdOf, Option.map_some, wSl, wP, wNoP, nName, nSub, nTup, nCons, nNil, wTy, wNeg, cInt, cMax, cMin, List.map_cons, List.map_nil, List.length_cons, List.length_nil, List.replicate_succ, List.replicate_zero, List.cons_append, List.nil_append, List.append_nil, Nat.reduceAdd, Nat.reduceSub, List.set_cons_zero, List.set_cons_succ, List.getElem?_cons_zero, List.getElem?_cons_succ, Nat.zero_add, oAdd_int, oI_int, oI0_int, oIx_tup, oIx_lst, oIx_scr, oEq_p, oNe_p, oIs_n, oIsNot_n, oIs_bb, oIsNot_bb, atI_0, atI_1, atI_2, atI_3, atI_4, shaped_int, shaped_bool, eqv_int, eqv_bool, eqv_lst_nil, eqv_tup_nil, shaped_nilL, shaped_nilT, true_and, and_true, Nat.sub_self, Nat.add_one_sub_one, Bool.false_eq_true, if_false, if_true, Nat.reduceLeDiff, Int.reduceToNat, Int.reducePow, Int.reduceLT, Int.reduceLE, Int.reduceMul, Int.reduceSub, Int.reduceAdd, decide_true, decide_false, wTupRev])
theorem keyT_way (w : List Nat) : keyT (.p (wayD w)) = some (kyR w) := keysP_ky w
theorem kyR_snoc (w : List Nat) (k : Nat) : kyR w ++ [.inl (k : Int)] = kyR (w ++ [k]) := by simp [kyR]
def sp_all12 : SpW := fun ws μ Q => ∃ many ms p t, ws = [.p (netD many ms), .p (.int p), .p (.int t)] ∧ MsAll many ms ∧ ms.length ≤ 5 ∧ Q (.r μ.length) (μ ++ [.dt (enR ms p t (upR ms.length (nxt ms p t) 4))])
theorem vc_all12 (ws : List W) (μ : Mu) (Q : WK) (h : sp_all12 ws μ Q) : spBody N__law_all 3 (b__law_all sp_step) ws μ Q := by
  obtain ⟨many, ms, p, t, rfl, ok, hn, q⟩ := h
  unfold b__law_all
  generalize hnet : netD many ms = net
  refine ⟨rfl, ?_⟩
  show sSeq _ _ _ [some (.p net), some (.p (.int p)), some (.p (.int t)), none, none, none, none, none, none, none, none, none] μ
  (try dsimp only); rw [sSeq_def]
  simp only [sSet, wDictT1]
  (try walk_at "wp1")
  simp only [keysW]
  refine ⟨Nat.zero_le _, szk (by decide), by simp, ?_⟩
  rw [show List.set (μ ++ [Cell.dt []]) μ.length (Cell.dt [([], PyData.tuple [PyData.int p, PyData.int t])]) = μ ++ [Cell.dt (enR ms p t (upR ms.length (nxt ms p t) 0))] from by rw [List.set_append_right _ _ (Nat.le_refl _)]; simp [enR, upR, kyR, atR, lst, Net.fin]]
  ((try dsimp only); rw [sSeq_def]; (try (try walk_at "wp1")))
  refine ⟨szk (by decide), szk (by decide), ?_⟩
  ((try dsimp only); rw [sSeq_def]; (try (try walk_at "wp1")))
  simp only [sFor, iRng]
  (try walk_at "wp1")
  generalize hc : nxt ms p t = c at q
  refine forR_of (fun xs ρ μ' => ∃ (j : Nat) (y5 y6 y7 y8 y9 y10 y11 : Option W) (lw : W) (tl : Mu), xs = rng j xs.length ∧ j + xs.length = 4 ∧ ρ = [some (.p net), some (.p (.int p)), some (.p (.int t)), some (.r μ.length), some lw, y5, y6, y7, y8, y9, y10, y11] ∧ μ' = (μ ++ [Cell.dt (enR ms p t (upR ms.length c j))]) ++ tl ∧ LastR (μ.length + 1) tl lw ((lvR ms.length c j).map wayD))
    (fun _ _ _ _ => trivial) ?_ ?_ _ _ _ ⟨0, _, _, _, _, _, _, _, _, [], by simp [rng], by simp [rng], rfl, by simp, .inl rfl⟩
  · rintro ρ μ' ⟨j, y5, y6, y7, y8, y9, y10, y11, lw, tl, _, hj, rfl, rfl, hL⟩
    simp only [List.length_nil, Nat.add_zero] at hj
    subst hj
    (try walk_at "wp1")
    refine ⟨μ.length + 1, by omega, by simp, by show μ.length < _; omega, ?_⟩
    rw [show μ.length + 1 = (μ ++ [Cell.dt (enR ms p t (upR ms.length c 4))]).length by simp, List.take_left]
    exact q
  · rintro x xs ρ μ' R hR ⟨j, y5, y6, y7, y8, y9, y10, y11, lw, tl, ex, hj, rfl, rfl, hL⟩
    obtain ⟨rfl, ex'⟩ := rng_cons ex
    simp only [List.length_cons] at hj
    (try walk_at "wp1")
    ((try dsimp only); rw [sSeq_def]; (try (try walk_at "wp1")))
    refine ⟨Nat.zero_le _, ?_⟩
    rw [sSeq_def]
    simp only [sFor]
    refine iSeq_last hL rfl ⟨μ ++ [Cell.dt (enR ms p t (upR ms.length c j))], [.lst []], by simp, by simp⟩ fun ok' hok => ?_
    refine forR_of (fun xs ρ μ' => ∃ (done rest : List (List Nat)) (y7 y8 y9 y10 y11 : Option W), done ++ rest = lvR ms.length c j ∧ xs = rest.map wayD ∧ ρ = [some (.p net), some (.p (.int p)), some (.p (.int t)), some (.r μ.length), some lw, some (.p (.int (j : Int))), some (.r (μ.length + 1 + tl.length)), y7, y8, y9, y10, y11] ∧ μ' = (μ ++ [Cell.dt (enR ms p t (upR ms.length c j ++ done.flatMap (onR ms.length c)))]) ++ (tl ++ [.lst ((done.flatMap (onR ms.length c)).map wayD)]))
      (fun _ _ _ h => by obtain ⟨_, _, _, _, _, _, _, _, _, _, rfl⟩ := h; exact hok _ _ (by simp)) ?_ ?_ _ _ _ ⟨[], lvR ms.length c j, y7, y8, y9, y10, y11, rfl, rfl, by simp; omega, by simp⟩
    · rintro ρ μ' ⟨done, rest, y7, y8, y9, y10, y11, e, er, rfl, rfl⟩
      have er' : rest = [] := by cases rest with | nil => rfl | cons _ _ => simp at er
      subst er'
      rw [List.append_nil] at e
      subst e
      (try walk_at "wp1")
      exact hR _ _ ⟨j + 1, _, _, _, _, _, _, _, .r (μ.length + 1 + tl.length), tl ++ [.lst (((lvR ms.length c j).flatMap (onR ms.length c)).map wayD)], by simpa using ex', by omega, rfl, rfl, LastR.new⟩
    · rintro x xs2 ρ μ' R2 hR2 ⟨done, rest, y7, y8, y9, y10, y11, e, er, rfl, rfl⟩
      cases rest with
      | nil => simp at er
      | cons r rest =>
        simp only [List.map_cons, List.cons.injEq] at er
        obtain ⟨rfl, rfl⟩ := er
        have hr : r ∈ lvR ms.length c j := by rw [← e]; simp
        have hrl := lvR_len hr
        have hw : Wy ms p t r := lv_way ok (by rw [hc]; exact hr)
        have hsm := lv_small (c := c) hn (show j ≤ 3 by omega) e
        have hup := up_small (c := c) hn (show j ≤ 4 by omega)
        (try walk_at "wp1")
        (try dsimp only); rw [sSeq_def]
        have hdt : ∀ (L : List (List Key × PyData)) (Y : Mu), dtOf ((μ ++ [Cell.dt L]) ++ Y) (.r μ.length) = some L := fun L Y => by simp [dtOf]
        have hv : valG (enR ms p t (upR ms.length c j ++ done.flatMap (onR ms.length c))) (kyR r) = some (.tuple [.int (lst ms p r), .int (Net.fin ms t r)]) := valG_en (List.mem_append_left _ (lv_up hr))
        simp only [sAsg, wTGetW, wVar, List.getElem?_cons_zero, List.getElem?_cons_succ, hdt, keyT_way, hv]
        (try walk_at "wp1")
        simp only [sFor, iRng]
        have hix : ∀ (μ : Mu) (Q : WK), oIx (.p net) (.p (.int 1)) μ Q = Q (.p (.tuple (ms.map Mt.d))) μ := fun _ _ => by subst hnet; rfl
        simp only [wCall, wOp, wVar, wC, aCons, aNil, List.getElem?_cons_zero, List.getElem?_cons_succ, hix, cLen_tup, List.length_map]
        refine ⟨by omega, by omega, ?_⟩
        refine forR_of (fun xs ρ μ' => ∃ (i : Nat) (y10 y11 : Option W), xs = rng i xs.length ∧ i + xs.length = ms.length ∧ ρ = [some (.p net), some (.p (.int p)), some (.p (.int t)), some (.r μ.length), some lw, some (.p (.int (j : Int))), some (.r (μ.length + 1 + tl.length)), some (.p (wayD r)), some (.p (.int (lst ms p r))), some (.p (.int (Net.fin ms t r))), y10, y11] ∧ μ' = (μ ++ [Cell.dt (enR ms p t (upR ms.length c j ++ (done.flatMap (onR ms.length c) ++ ((List.range i).filter (c r)).map fun k => r ++ [k])))]) ++ (tl ++ [.lst ((done.flatMap (onR ms.length c) ++ ((List.range i).filter (c r)).map fun k => r ++ [k]).map wayD)]))
          (fun _ _ _ _ => trivial) ?_ ?_ _ _ _ ⟨0, y10, y11, by simp [rng], by simp [rng], rfl, by simp⟩
        · rintro ρ μ' ⟨i, y10, y11, _, hi, rfl, rfl⟩
          simp only [List.length_nil, Nat.add_zero] at hi
          subst hi
          exact hR2 _ _ ⟨done ++ [r], rest, _, _, _, _, _, by rw [List.append_assoc]; exact e, rfl, rfl, by rw [List.flatMap_append, List.flatMap_singleton]; rfl⟩
        · rintro x xs3 ρ μ' R3 hR3 ⟨i, y10, y11, ex3, hi, rfl, rfl⟩
          obtain ⟨rfl, ex4⟩ := rng_cons ex3
          simp only [List.length_cons] at hi
          have hm : ms[i]? = some ms[i] := List.getElem?_eq_getElem (by omega)
          generalize ms[i] = m at hm
          have hci : c r i = ((m.led (lst ms p r)).isSome && decide (Net.fin ms t r ≤ m.b)) := by rw [← hc]; simp only [nxt, hm]
          (try walk_at "wp1")
          (try dsimp only); rw [sSeq_def]
          (try walk_at "wp1")
          refine ⟨many, ms, i, lst ms p r, m, by rw [hnet], hm, ?_⟩
          unfold stepD
          have skip : c r i = false → R3 [some (.p net), some (.p (.int p)), some (.p (.int t)), some (.r μ.length), some lw, some (.p (.int (j : Int))), some (.r (μ.length + 1 + tl.length)), some (.p (wayD r)), some (.p (.int (lst ms p r))), some (.p (.int (Net.fin ms t r))), some (.p (.int (i : Int))), some (.p (stepD m (lst ms p r)))] ((μ ++ [Cell.dt (enR ms p t (upR ms.length c j ++ (done.flatMap (onR ms.length c) ++ ((List.range i).filter (c r)).map fun k => r ++ [k])))]) ++ (tl ++ [.lst ((done.flatMap (onR ms.length c) ++ ((List.range i).filter (c r)).map fun k => r ++ [k]).map wayD)])) := fun hf =>
            hR3 _ _ ⟨i + 1, _, _, by simpa using ex4, by omega, rfl, by rw [range_filter_succ, hf]; simp⟩
          unfold stepD at skip
          cases hq : m.led (lst ms p r) with
          | none =>
            rw [hq] at hci skip
            simp only [isNo, Bool.not_true, Bool.false_eq_true, if_false]
            exact skip (by rw [hci]; simp)
          | some q' =>
            rw [hq] at hci skip
            simp only [isNo, Bool.not_false, if_true]
            (try walk_at "wp1")
            by_cases hb : Net.fin ms t r ≤ m.b
            · have hci' : c r i = true := by rw [hci]; simp [hb]
              have hfr := fresh_on (c := c) (i := i) e
              have hps : ∀ X : Cell, (μ ++ [X] ++ (tl ++ [Cell.lst ((done.flatMap (onR ms.length c) ++ ((List.range i).filter (c r)).map fun k => r ++ [k]).map wayD)]))[μ.length + 1 + tl.length]? = some (Cell.lst ((done.flatMap (onR ms.length c) ++ ((List.range i).filter (c r)).map fun k => r ++ [k]).map wayD)) := fun X => by
                rw [← List.append_assoc, List.getElem?_append_right (by simp; omega)]
                simp [Nat.add_comm, Nat.add_left_comm]
              have hfl := List.length_filter_le (c r) (List.range i)
              rw [List.length_range] at hfl
              generalize hS : done.flatMap (onR ms.length c) ++ ((List.range i).filter (c r)).map (fun k => r ++ [k]) = S at hps hfr skip
              have hSl : S.length ≤ 700 := by rw [← hS, List.length_append, List.length_map]; omega
              simp only [ge_iff_le, hb, decide_true, if_true]
              (try dsimp only); rw [sSeq_def]
              simp only [sDrop, wApp, wVar, List.getElem?_cons_zero, List.getElem?_cons_succ, hps, true_and]
              (try walk_at "wp1")
              have hset : ∀ (X c d : Cell), List.set ((μ ++ [X]) ++ (tl ++ [c])) (μ.length + 1 + tl.length) d = (μ ++ [X]) ++ (tl ++ [d]) := fun X c d => by
                have z := set_last (μ := μ ++ [X]) (tl := tl) (c := c) (d := d)
                rw [List.length_append, List.length_singleton] at z
                exact z
              have hset2 : ∀ (X d : Cell) (Y : Mu), List.set ((μ ++ [X]) ++ Y) μ.length d = (μ ++ [d]) ++ Y := fun X d Y => by
                rw [List.append_assoc, List.set_append_right _ _ (Nat.le_refl _)]; simp
              have hget2 : ∀ (X : Cell) (Y : Mu), ((μ ++ [X]) ++ Y)[μ.length]? = some X := fun X Y => by
                rw [List.append_assoc, List.getElem?_append_right (Nat.le_refl _)]; simp
              refine ⟨szk (by decide), way_add (by omega) ?_⟩
              simp only [hps, hset]
              refine ⟨by rw [sizeLine_eq, List.length_map]; omega, ?_⟩
              simp only [sDPutC]
              (try walk_at "wp1")
              refine ⟨szk (by decide), ?_⟩
              simp only [keyT_way, keysW, keyOf, kyR_snoc, hget2, hset2]
              have hat := at_snoc (t := t) hm hw hq
              have hput := putG_en (ms := ms) (p := p) (t := t) hfr
              rw [hat] at hput
              rw [hput]
              refine ⟨by simp, ?_, ?_, hR3 _ _ ⟨i + 1, _, _, by simpa using ex4, by omega, rfl, ?_⟩⟩
              · unfold kyR; rw [List.length_map, sizeLine_eq]; simp; omega
              · unfold enR; rw [List.length_map, List.length_append, sizeLine_eq]; omega
              · rw [range_filter_succ, hci', if_pos rfl, List.map_append, ← List.append_assoc (done.flatMap _), hS]
                simp
            · simp only [ge_iff_le, hb, decide_false, Bool.false_eq_true, if_false]
              exact skip (by rw [hci]; simp [hb])
end K12
set_option maxHeartbeats 1000000
set_option autoImplicit false
namespace K12
open PySem L2 L2.Ev Net
local macro_rules | `(tactic| walk_at "wp1") => `(tactic| simp only [spBody, startW, sIf, sSet, sAsg, sRet, sRetN, sDrop, sNext, wVar, wC, wOp, wTest, wAnd, wOr, wNot, wAndV, wOrV, wNotV, wChain, wIf, wCall, aCons, aNil, wTup, wLst, wNew, pdOf, Option.map_some, wSl, wP, wNoP, nName, nSub, nTup, nCons, nNil, wTy, wNeg, cInt, cMax, cMin, List.map_cons, List.map_nil, List.length_cons, List.length_nil, List.replicate_succ, List.replicate_zero, List.cons_append, List.nil_append, List.append_nil, Nat.reduceAdd, Nat.reduceSub, List.set_cons_zero, List.set_cons_succ, List.getElem?_cons_zero, List.getElem?_cons_succ, Nat.zero_add, oAdd_int, oI_int, oI0_int, oIx_tup, oIx_lst, oIx_scr, oEq_p, oNe_p, oIs_n, oIsNot_n, oIs_bb, oIsNot_bb, atI_0, atI_1, atI_2, atI_3, atI_4, shaped_int, shaped_bool, eqv_int, eqv_bool, eqv_lst_nil, eqv_tup_nil, shaped_nilL, shaped_nilT, true_and, and_true, Nat.sub_self, Nat.add_one_sub_one, Bool.false_eq_true, if_false, if_true, Nat.reduceLeDiff, Int.reduceToNat, Int.reducePow, Int.reduceLT, Int.reduceLE, Int.reduceMul, Int.reduceSub, Int.reduceAdd, decide_true, decide_false, wTupRev])
local macro_rules | `(tactic| walk_at "wps") => `(tactic| simp only [spBody, startW, sSeq, sIf, sSet, sAsg, sRet, sRetN, sDrop, sNext, wVar, wC, wOp, wTest, wAnd, wOr, wNot, wAndV, wOrV, wNotV, wChain, wIf, wCall, aCons, aNil, wTup, wLst, wNew, pdOf, Option.map_some, wSl, wP, wNoP, nName, nSub, nTup, nCons, nNil, wTy, wNeg, cInt, cMax, cMin, List.map_cons, List.map_nil, List.length_cons, List.length_nil, List.replicate_succ, List.replicate_zero, List.cons_append, List.nil_append, List.append_nil, Nat.reduceAdd, Nat.reduceSub, List.set_cons_zero, List.set_cons_succ, List.getElem?_cons_zero, List.getElem?_cons_succ, Nat.zero_add, oAdd_int, oI_int, oI0_int, oIx_tup, oIx_lst, oIx_scr, oEq_p, oNe_p, oIs_n, oIsNot_n, oIs_bb, oIsNot_bb, atI_0, atI_1, atI_2, atI_3, atI_4, shaped_int, shaped_bool, eqv_int, eqv_bool, eqv_lst_nil, eqv_tup_nil, shaped_nilL, shaped_nilT, true_and, and_true, Nat.sub_self, Nat.add_one_sub_one, Bool.false_eq_true, if_false, if_true, Nat.reduceLeDiff, Int.reduceToNat, Int.reducePow, Int.reduceLT, Int.reduceLE, Int.reduceMul, Int.reduceSub, Int.reduceAdd, decide_true, decide_false, wTupRev])
theorem sh_p2 (a b : Int) : SeqAt.shaped (PyData.tuple [PyData.int a, PyData.int b]) = true := by simp [SeqAt.shaped, PyData.canLay0, PyData.canLayAll0, PyData.depth, PyData.depthAll]
def sp_right12 : SpW := fun ws μ Q => ∃ many ms p t, ws = [.p (netD many ms), .p (.int p), .p (.int t), .p (.list ((rowsR ms.length).map wayD))] ∧ MsAll many ms ∧ ms.length ≤ 5 ∧ Q (.p (.bool true)) μ
theorem vc_right12 (ws : List W) (μ : Mu) (Q : WK) (h : sp_right12 ws μ Q) : spBody N__law_right 4 (b__law_right sp_all12 sp_isway sp_comes sp_places) ws μ Q := by
  obtain ⟨many, ms, p, t, rfl, ok, hn, q⟩ := h
  unfold b__law_right
  generalize hnet : netD many ms = net
  refine ⟨rfl, ?_⟩
  show sSeq _ _ _ [some (.p net), some (.p (.int p)), some (.p (.int t)), some (.p (.list ((rowsR ms.length).map wayD))), none, none, none, none] μ
  ((try dsimp only); rw [sSeq_def]; (try (try walk_at "wp1")))
  refine ⟨many, ms, p, t, by rw [hnet], ok, hn, ?_⟩
  ((try dsimp only); rw [sSeq_def]; (try (try walk_at "wp1")))
  generalize hD : enR ms p t (upR ms.length (nxt ms p t) 4) = D
  have hdt : dtOf (μ ++ [Cell.dt D]) (.r μ.length) = some D := by simp [dtOf]
  ((try dsimp only); rw [sSeq_def]; (try (try walk_at "wp1")))
  simp only [sFor, iSeq]
  (try walk_at "wp1")
  refine forR_of (fun xs ρ μ' => ∃ (done rest : List (List Nat)) (y6 y7 : Option W), done ++ rest = rowsR ms.length ∧ xs = rest.map wayD ∧ ρ = [some (.p net), some (.p (.int p)), some (.p (.int t)), some (.p (.list ((rowsR ms.length).map wayD))), some (.r μ.length), some (.p (.int ((done.filter (isW ms p t)).length : Nat))), y6, y7] ∧ μ' = μ ++ [Cell.dt D])
    (fun _ _ _ _ => trivial) ?_ ?_ _ _ _ ⟨[], rowsR ms.length, _, _, rfl, rfl, rfl, rfl⟩
  · rintro ρ μ' ⟨done, rest, y6, y7, e, er, rfl, rfl⟩
    have er' : rest = [] := by cases rest with | nil => rfl | cons _ _ => simp at er
    subst er'
    rw [List.append_nil] at e
    subst e
    (try walk_at "wp1")
    simp only [cLenT, hdt]
    have hl : (D.length : Int) = (((rowsR ms.length).filter (isW ms p t)).length : Nat) := by
      rw [← hD, rowsR_isW ok]
      unfold enR
      rw [List.length_map]
    rw [hl, oEq_p]
    refine ⟨rfl, rfl, ret_cut (by simp) ?_⟩
    rw [List.take_left, show PyData.eqv (.int (((rowsR ms.length).filter (isW ms p t)).length : Nat)) (.int (((rowsR ms.length).filter (isW ms p t)).length : Nat)) = true from by simp [PyData.eqv]]
    exact q
  · rintro x xs ρ μ' R hR ⟨done, rest, y6, y7, e, er, rfl, rfl⟩
    cases rest with
    | nil => simp at er
    | cons r rest =>
      simp only [List.map_cons, List.cons.injEq] at er
      obtain ⟨rfl, rfl⟩ := er
      have hr : r ∈ rowsR ms.length := by rw [← e]; simp
      have hlt := rowsR_lt hr
      have hrl := rowsR_len hr
      (try walk_at "wp1")
      ((try dsimp only); rw [sSeq_def]; (try (try walk_at "wp1")))
      refine ⟨many, ms, p, t, r, by rw [hnet], hlt, ?_⟩
      (try dsimp only)
      have hsome : (valG D (kyR r)).isSome = isW ms p t r := by
        rw [← hD]
        by_cases hw : isW ms p t r = true
        · rw [valG_en ((rowsR_mem ok hr).mpr hw), hw]; rfl
        · rw [valG_en_none (fun z => hw ((rowsR_mem ok hr).mp z)), Bool.eq_false_iff.mpr hw]; rfl
      have hin : ∀ (Q : WK), oInT (.p (wayD r)) (.r μ.length) (μ ++ [Cell.dt D]) Q = Q (.p (.bool (isW ms p t r))) (μ ++ [Cell.dt D]) := fun Q => by simp only [oInT, hdt, keyT_way, hsome]
      rw [sSeq_def]
      (try walk_at "wp1")
      rw [cIsi_p (T := "bool") rfl (by simp), show isT "bool" "bool" = true from by decide]
      (try walk_at "wp1")
      simp only [Bool.not_true, Bool.false_eq_true, if_false, wOp, wVar, List.getElem?_cons_zero, List.getElem?_cons_succ, hin, oNe_p]
      refine ⟨rfl, rfl, ?_⟩
      rw [show (!PyData.eqv (.bool (isW ms p t r)) (.bool (isW ms p t r))) = false from by cases isW ms p t r <;> rfl]
      simp only [Bool.false_eq_true, if_false]
      (try walk_at "wp1")
      by_cases hb : isW ms p t r = true
      · have hw := isW_iff.mp hb
        have hlast : atI ((p :: pls ms p r).map PyData.int) (-1) = some (.int (lst ms p r)) := by
          have z := List.dropLast_concat_getLast (show p :: pls ms p r ≠ [] by simp)
          rw [pls_last hw] at z
          rw [← z, List.map_append]
          exact atI_last _ _
        have hvl : valG D (kyR r) = some (atR ms p t r) := by rw [← hD]; exact valG_en ((rowsR_mem ok hr).mpr hb)
        rw [if_pos hb]
        ((try dsimp only); rw [sSeq_def]; (try (try walk_at "wp1")))
        refine ⟨many, ms, p, t, r, by rw [hnet], hw, by omega, ?_⟩
        unfold plsD
        simp only [oIx_tup, hlast]
        refine ⟨many, ms, t, r, by rw [hnet], hlt, ?_⟩
        (try walk_at "wp1")
        refine ⟨szk (by decide), ?_⟩
        simp only [wTGetW, wVar, List.getElem?_cons_zero, List.getElem?_cons_succ, hdt, keyT_way, hvl, oNe_p, atR]
        refine ⟨sh_p2 _ _, sh_p2 _ _, ?_⟩
        rw [if_neg (by simp [PyData.eqv, PyData.eqvAll])]
        exact hR _ _ ⟨done ++ [r], rest, some (.p (wayD r)), some (.p (.bool (isW ms p t r))), by rw [List.append_assoc]; exact e, rfl, by rw [List.filter_append, List.filter_cons, if_pos hb]; simp, rfl⟩
      · rw [if_neg hb]
        exact hR _ _ ⟨done ++ [r], rest, some (.p (wayD r)), some (.p (.bool (isW ms p t r))), by rw [List.append_assoc]; exact e, rfl, by rw [List.filter_append, List.filter_cons, if_neg hb]; simp, rfl⟩
end K12
set_option maxHeartbeats 1000000
set_option autoImplicit false
namespace K12
open PySem L2 L2.Ev Net
local macro_rules | `(tactic| walk_at "wp1") => `(tactic| simp only [spBody, startW, sIf, sSet, sAsg, sRet, sRetN, sDrop, sNext, wVar, wC, wOp, wTest, wAnd, wOr, wNot, wAndV, wOrV, wNotV, wChain, wIf, wCall, aCons, aNil, wTup, wLst, wNew, pdOf, Option.map_some, wSl, wP, wNoP, nName, nSub, nTup, nCons, nNil, wTy, wNeg, cInt, cMax, cMin, List.map_cons, List.map_nil, List.length_cons, List.length_nil, List.replicate_succ, List.replicate_zero, List.cons_append, List.nil_append, List.append_nil, Nat.reduceAdd, Nat.reduceSub, List.set_cons_zero, List.set_cons_succ, List.getElem?_cons_zero, List.getElem?_cons_succ, Nat.zero_add, oAdd_int, oI_int, oI0_int, oIx_tup, oIx_lst, oIx_scr, oEq_p, oNe_p, oIs_n, oIsNot_n, oIs_bb, oIsNot_bb, atI_0, atI_1, atI_2, atI_3, atI_4, shaped_int, shaped_bool, eqv_int, eqv_bool, eqv_lst_nil, eqv_tup_nil, shaped_nilL, shaped_nilT, true_and, and_true, Nat.sub_self, Nat.add_one_sub_one, Bool.false_eq_true, if_false, if_true, Nat.reduceLeDiff, Int.reduceToNat, Int.reducePow, Int.reduceLT, Int.reduceLE, Int.reduceMul, Int.reduceSub, Int.reduceAdd, decide_true, decide_false, wTupRev])
local macro_rules | `(tactic| walk_at "wps") => `(tactic| simp only [spBody, startW, sSeq, sIf, sSet, sAsg, sRet, sRetN, sDrop, sNext, wVar, wC, wOp, wTest, wAnd, wOr, wNot, wAndV, wOrV, wNotV, wChain, wIf, wCall, aCons, aNil, wTup, wLst, wNew, pdOf, Option.map_some, wSl, wP, wNoP, nName, nSub, nTup, nCons, nNil, wTy, wNeg, cInt, cMax, cMin, List.map_cons, List.map_nil, List.length_cons, List.length_nil, List.replicate_succ, List.replicate_zero, List.cons_append, List.nil_append, List.append_nil, Nat.reduceAdd, Nat.reduceSub, List.set_cons_zero, List.set_cons_succ, List.getElem?_cons_zero, List.getElem?_cons_succ, Nat.zero_add, oAdd_int, oI_int, oI0_int, oIx_tup, oIx_lst, oIx_scr, oEq_p, oNe_p, oIs_n, oIsNot_n, oIs_bb, oIsNot_bb, atI_0, atI_1, atI_2, atI_3, atI_4, shaped_int, shaped_bool, eqv_int, eqv_bool, eqv_lst_nil, eqv_tup_nil, shaped_nilL, shaped_nilT, true_and, and_true, Nat.sub_self, Nat.add_one_sub_one, Bool.false_eq_true, if_false, if_true, Nat.reduceLeDiff, Int.reduceToNat, Int.reducePow, Int.reduceLT, Int.reduceLE, Int.reduceMul, Int.reduceSub, Int.reduceAdd, decide_true, decide_false, wTupRev])
def sp_law : SpW := fun ws μ Q => ∃ ns : List Int, ws = [.s (ns.map PyData.int)] ∧ ∀ μ', Q (.p (.bool true)) μ'
theorem vc_lawb (ws : List W) (μ : Mu) (Q : WK) (h : sp_law ws μ Q) : spBody N_law 1 (b_law sp_deck sp_small12 sp_rows12 sp_net sp_right12 sp_moment) ws μ Q := by
  obtain ⟨ns, rfl, q⟩ := h
  unfold b_law
  refine ⟨rfl, ?_⟩
  show sSeq _ _ _ [some (.s (ns.map PyData.int)), none, none, none, none, none, none, none, none] μ
  (try dsimp only); rw [sSeq_def]
  simp only [sFor, iRng]
  (try walk_at "wp1")
  have eL : cLen [W.s (ns.map PyData.int)] μ = fun Q => Q (.p (.int ns.length)) μ := by funext Q; show Q (.p (.int (ns.map PyData.int).length)) μ = _; rw [List.length_map]
  simp only [eL]
  refine ⟨by show -4611686018427387904 ≤ _; omega, by show _ < 4611686018427387904; omega, ?_⟩
  refine forR_of (fun xs ρ μ' => ∃ (y1 y2 y3 y4 y5 y6 y7 y8 : Option W), ρ = [some (.s (ns.map PyData.int)), y1, y2, y3, y4, y5, y6, y7, y8] ∧ (∀ x ∈ xs, ∃ i : Int, 0 ≤ i ∧ x = .int i) ∧ μ.length ≤ μ'.length) (fun _ _ _ _ => trivial) ?_ ?_ _ _ _ ⟨_, _, _, _, _, _, _, _, rfl, fun x hx => ?_, Nat.le_refl _⟩
  · rintro ρ μ' ⟨y1, y2, y3, y4, y5, y6, y7, y8, rfl, _, hm⟩
    (try walk_at "wp1")
    exact ret_cut hm (q _)
  · rintro x xs ρ μ' R hR ⟨y1, y2, y3, y4, y5, y6, y7, y8, rfl, hx, hm⟩
    obtain ⟨i, i0, rfl⟩ := hx x (by simp)
    have hx' : ∀ x ∈ xs, ∃ i : Int, 0 ≤ i ∧ x = .int i := fun x h => hx x (by simp [h])
    (try walk_at "wp1")
    ((try dsimp only); rw [sSeq_def]; (try (try walk_at "wp1")))
    refine ⟨ns, i, rfl, i0, fun a b c => ?_⟩
    have hd : DeckAt (μ' ++ [.lst [.int a, .int b, .int c]]) μ'.length := ⟨a, b, c, by simp⟩
    generalize hD : μ'.length = D at hd
    have hl0 : μ.length ≤ (μ' ++ [Cell.lst [.int a, .int b, .int c]]).length := by simp; omega
    generalize μ' ++ [Cell.lst [.int a, .int b, .int c]] = μ0 at hd hl0
    ((try dsimp only); rw [sSeq_def]; (try (try walk_at "wp1")))
    refine ⟨_, 2, rfl, ⟨by decide, by decide⟩, hd, fun many ms μ1 m1 m10 ha hl he k1 => ?_⟩
    refine ⟨many, ms, rfl, m1, ha, fun many2 ms2 n1 n2 hb hl2 => ?_⟩
    clear ha hl he
    ((try dsimp only); rw [sSeq_def]; (try (try walk_at "wp1")))
    have nets0 : ∀ (μ : Mu) (Q : WK), oIx (.p (netD many2 ms2)) (.p (.int 0)) μ Q = Q (.p (.int many2)) μ := fun _ _ => rfl
    have nets1 : ∀ (μ : Mu) (Q : WK), oIx (.p (netD many2 ms2)) (.p (.int 1)) μ Q = Q (.p (.tuple (ms2.map Mt.d))) μ := fun _ _ => rfl
    simp only [nets1, cLen_tup, List.length_map]
    refine ⟨ms2.length, rfl, hl2, ?_⟩
    (try dsimp only); rw [sSeq_def]
    simp only [sSet, wSortSet]
    (try walk_at "wp1")
    refine ⟨D, many2, ms2, rfl, hb, by omega, k1.at', fun t μ2 t0 k2 => ?_⟩
    have d2 := k1.trans k2
    simp only [pdOf, Option.map_some]
    refine ⟨szk (show 2 ≤ 16777216 by decide), ?_⟩
    simp only [wLc, iSeq]
    (try walk_at "wp1")
    simp only [nets1, oSl_tup]
    rw [show cut (ms2.map Mt.d) none (some 1) = (ms2.map Mt.d).take 1 from cut_take _ 1, ← List.map_take]
    have htl : (ms2.take 1).length ≤ 1 := by rw [List.length_take]; omega
    generalize ms2.take 1 = tk at htl
    simp only [wipeW, List.set_cons_zero, List.set_cons_succ]
    refine compR_of (fun xs acc μ3 => μ3 = μ2 ∧ ∃ (done rest : List Mt), done ++ rest = tk ∧ xs = rest.map Mt.d ∧ acc = (done.map Mt.b).map PyData.int) (fun _ _ _ _ => trivial) ?_ ?_ _ _ _ ⟨rfl, [], tk, rfl, rfl, rfl⟩
    · rintro acc μ3 ⟨rfl, done, rest, e, er, rfl⟩
      have er' : rest = [] := by cases rest with | nil => rfl | cons _ _ => simp at er
      subst er'
      rw [List.append_nil] at e
      subst e
      have hadd : ∀ (Q : WK), oAdd (.p (.list [.int 0, .int t])) (.p (.list ((done.map Mt.b).map PyData.int))) μ3 Q = (2 + ((done.map Mt.b).map PyData.int).length ≤ sizeLine ∧ Q (.p (.list ((0 :: t :: done.map Mt.b).map PyData.int))) μ3) := fun Q => rfl
      rw [hadd]
      refine ⟨by rw [sizeLine_eq, List.length_map, List.length_map]; omega, ?_⟩
      simp only [rlOf, lsOf, intsD_map]
      refine ⟨⟨_, by simp; omega, fun n h => h⟩, fun ys _ _ _ => ?_⟩
      simp only [sFor, iRng]
      (try walk_at "wp1")
      simp only [nets0]
      refine ⟨by omega, by omega, ?_⟩
      refine forR_of (fun xs2 ρ μ4 => μ4 = μ3 ∧ ∃ (y6 y7 y8 : Option W), ρ = [some (.s (ns.map PyData.int)), some (.p (.int i)), some (.r D), some (.p (netD many2 ms2)), some (.p (.list ((rowsR ms2.length).map wayD))), some (.p (.list (ys.map PyData.int))), y6, y7, y8] ∧ ∀ x ∈ xs2, ∃ p : Int, x = .int p) (fun _ _ _ _ => trivial) ?_ ?_ _ _ _ ⟨rfl, _, _, _, rfl, fun x hx => ?_⟩
      · rintro ρ μ4 ⟨rfl, y6, y7, y8, rfl, _⟩
        exact hR _ _ ⟨_, _, _, _, _, _, _, _, rfl, hx', by rw [d2.len]; exact hl0⟩
      · rintro x xs2 ρ μ4 R2 hR2 ⟨rfl, y6, y7, y8, rfl, hx2⟩
        obtain ⟨p, rfl⟩ := hx2 x (by simp)
        (try walk_at "wp1")
        simp only [sFor, iSeq]
        (try walk_at "wp1")
        refine forR_of (fun xs3 ρ μ4' => μ4' = μ4 ∧ ∃ (y7 y8 : Option W), ρ = [some (.s (ns.map PyData.int)), some (.p (.int i)), some (.r D), some (.p (netD many2 ms2)), some (.p (.list ((rowsR ms2.length).map wayD))), some (.p (.list (ys.map PyData.int))), some (.p (.int p)), y7, y8] ∧ ∀ x ∈ xs3, ∃ p : Int, x = .int p) (fun _ _ _ _ => trivial) ?_ ?_ _ _ _ ⟨rfl, _, _, rfl, fun x hx => ?_⟩
        · rintro ρ μ5 ⟨rfl, y7, y8, rfl, _⟩
          exact hR2 _ _ ⟨rfl, _, _, _, rfl, fun x h => hx2 x (by simp [h])⟩
        · rintro x xs3 ρ μ5 R3 hR3 ⟨rfl, y7, y8, rfl, hx3⟩
          obtain ⟨u, rfl⟩ := hx3 x (by simp)
          (try walk_at "wp1")
          refine ⟨many2, ms2, p, u, rfl, hb, hl2, ?_⟩
          (try walk_at "wp1")
          exact hR3 _ _ ⟨rfl, _, _, rfl, fun x h => hx3 x (by simp [h])⟩
        · obtain ⟨v, _, rfl⟩ := List.mem_map.mp hx
          exact ⟨v, rfl⟩
      · obtain ⟨j, hj, rfl⟩ := rng_mem hx
        exact ⟨_, rfl⟩
    · rintro x xs2 acc μ3 R2 hR2 ⟨rfl, done, rest, e, er, rfl⟩
      cases rest with
      | nil => simp at er
      | cons m rest =>
        simp only [List.map_cons, List.cons.injEq] at er
        obtain ⟨rfl, rfl⟩ := er
        refine ⟨_, rfl, ?_⟩
        simp only [wYes, if_true]
        rw [show m.d = .tuple [.str (wd m.w), .int m.one, .int m.oth, .int m.b, .int m.l] from rfl]
        (try walk_at "wp1")
        have hdl : done.length ≤ 1 := by have := congrArg List.length e; simp at this; omega
        exact ⟨by rw [sizeLine_eq, List.length_map, List.length_map]; omega, hR2 _ _ ⟨rfl, done ++ [m], rest, by rw [List.append_assoc]; exact e, rfl, by simp⟩⟩
  · obtain ⟨j, hj, rfl⟩ := rng_mem hx
    exact ⟨_, by omega, rfl⟩
end K12
namespace K12
open PySem L2 L2.Ev Net
theorem law_fn {P : Program} {w : World} {K : PySem.W.Frag} {mg : Str → Option Value} {base : Heap} {a : Ad} (T : Tx K mg a) (hB : GenB K mg base) : FnOk P w K mg base CX0 5 a.f_law a.d_law ["_law_script"] (rdSp K sp_law) := by
  have G_is_whole := (ok_is_whole (P := P) (w := w) (base := base) T).imp (rdSp_imp vc_whole)
  have G_end_of := (ok_end_of (P := P) (w := w) (base := base) T).imp (rdSp_imp vc_end)
  have G_led_to := (ok_led_to (P := P) (w := w) (base := base) T).imp (rdSp_imp vc_led)
  have G__law_deck := (ok__law_deck (P := P) (w := w) (base := base) T).imp (rdSp_imp vc_deck)
  have G__law_draw := (ok__law_draw (P := P) (w := w) (base := base) T).imp (rdSp_imp vc_draw)
  have G__law_step := (ok__law_step (P := P) (w := w) (base := base) T).imp (rdSp_imp vc_step)
  have G__law_small := (ok__law_small (P := P) (w := w) (base := base) T).imp (rdSp_imp vc_small12)
  have G__law_rows := (ok__law_rows (P := P) (w := w) (base := base) T).imp (rdSp_imp vc_rows12)
  have G_is_number_below := (ok_is_number_below (P := P) (w := w) (base := base) T G_is_whole).imp (rdSp_imp vc_below)
  have G_places_on := (ok_places_on (P := P) (w := w) (base := base) T G_led_to).imp (rdSp_imp vc_places)
  have G_comes_at := (ok_comes_at (P := P) (w := w) (base := base) T G_end_of).imp (rdSp_imp vc_comes)
  have G__law_far := (ok__law_far (P := P) (w := w) (base := base) T G__law_draw).imp (rdSp_imp vc_far)
  have G__law_begin := (ok__law_begin (P := P) (w := w) (base := base) T G__law_draw).imp (rdSp_imp vc_begin)
  have G__law_moment := (ok__law_moment (P := P) (w := w) (base := base) T G__law_draw).imp (rdSp_imp vc_moment)
  have G__law_all := (ok__law_all (P := P) (w := w) (base := base) T G__law_step).imp (rdSp_imp vc_all12)
  have G_is_way := (ok_is_way (P := P) (w := w) (base := base) T G_led_to G_end_of G_is_number_below).imp (rdSp_imp vc_isway)
  have G__law_meeting := (ok__law_meeting (P := P) (w := w) (base := base) T G__law_draw G__law_begin G__law_far).imp (rdSp_imp vc_meeting)
  have G__law_net := (ok__law_net (P := P) (w := w) (base := base) T G__law_draw G__law_meeting).imp (rdSp_imp vc_net)
  have G__law_right := (ok__law_right (P := P) (w := w) (base := base) T G__law_all G_is_way G_comes_at G_places_on).imp (rdSp_imp vc_right12)
  exact (ok_law (P := P) (w := w) (base := base) T G__law_deck G__law_small G__law_rows G__law_net G__law_right G__law_moment).imp (rdSp_imp vc_lawb)
theorem law_binds {K : PySem.W.Frag} {mg : Str → Option Value} {a : Ad} (T : Tx K mg a) (s : Shared) (u : Value) : BindsTo s a.d_law ⟨[u], []⟩ [("_law_script", u)] := by
  obtain ⟨oc, od, kV, doc, pm, an, cdv, ct, osl, e, lk, hcd⟩ := T.F_law.ex
  rw [e]
  exact .of_eq rfl
theorem vc_law (ns : List Int) (h : ns.length ≤ 63) : sp_law [.s (ns.map PyData.int)] [] (fun w _ => w = .p (.bool true)) := by first | exact ⟨ns, rfl, fun _ => rfl⟩ | exact ⟨ns, rfl, h, fun _ => rfl⟩
end K12
open PySem PySem.W PyProof.Rows
set_option maxRecDepth 100000 in
set_option maxHeartbeats 0 in
theorem PySem.Challenge.cw_meetways_k12_all_ways_of_small_nets_holds : PySem.Challenge.rw_meetways_k12_all_ways_of_small_nets.Holds := by
  w_on; o_law; k_head; (case hw => w_witness2)
  k_fill
  refine L2.Ev.walkW (l := PySem.Challenge.rw_meetways_k12_all_ways_of_small_nets) (k := 5) (x := "_law_script") (sp := K12.sp_law) rfl rfl ⟨rfl, by decide, by decide, rfl⟩ (fun w h Y => PySem.W.kIn_of Y) ?noTabs ?owned ?F K12.vc_law
  case noTabs => intro w; kernel_rfl
  case owned => intro w mg h KX G; exact L2.Ev.own_none (by kernel_rfl)
  case F =>
    intro w mg fa h KX G hmg
    have T : ∃ a : K12.Ad, K12.Tx (L2.KOf KX) mg a := by
      dsimp only [L2.KOf]
      refine' K12.tx_mk KX G ?own_a0 ?own_l0 ?own_c0 ?own_k0 ?own_a1 ?own_l1 ?own_c1 ?own_k1 ?own_a2 ?own_l2 ?own_c2 ?own_k2 ?own_a3 ?own_l3 ?own_c3 ?own_k3 ?own_a4 ?own_l4 ?own_c4 ?own_k4 ?own_a5 ?own_l5 ?own_c5 ?own_k5 ?own_a6 ?own_l6 ?own_c6 ?own_k6 ?own_a7 ?own_l7 ?own_c7 ?own_k7 ?own_a8 ?own_l8 ?own_c8 ?own_k8 ?own_a9 ?own_l9 ?own_c9 ?own_k9 ?own_a10 ?own_l10 ?own_c10 ?own_k10 ?own_a11 ?own_l11 ?own_c11 ?own_k11 ?own_a12 ?own_l12 ?own_c12 ?own_k12 ?own_a13 ?own_l13 ?own_c13 ?own_k13 ?own_a14 ?own_l14 ?own_c14 ?own_k14 ?own_a15 ?own_l15 ?own_c15 ?own_k15 ?own_a16 ?own_l16 ?own_c16 ?own_k16 ?own_a17 ?own_l17 ?own_c17 ?own_k17 ?own_a18 ?own_l18 ?own_c18 ?own_k18 ?own_a19 ?own_l19 ?own_c19 ?own_k19 ?own_z_bool ?own_z_int ?own_z_isinstance ?own_z_len ?own_z_max ?own_z_min ?own_z_range ?own_z_set ?own_z_sorted ?own_z_tuple
      (case own_a0 => k_is)
      (case own_l0 => k_is)
      (case own_c0 => k_is)
      (case own_k0 => k_is)
      (case own_a1 => k_is)
      (case own_l1 => k_is)
      (case own_c1 => k_is)
      (case own_k1 => k_is)
      (case own_a2 => k_is)
      (case own_l2 => k_is)
      (case own_c2 => k_is)
      (case own_k2 => k_is)
      (case own_a3 => k_is)
      (case own_l3 => k_is)
      (case own_c3 => k_is)
      (case own_k3 => k_is)
      (case own_a4 => k_is)
      (case own_l4 => k_is)
      (case own_c4 => k_is)
      (case own_k4 => k_is)
      (case own_a5 => k_is)
      (case own_l5 => k_is)
      (case own_c5 => k_is)
      (case own_k5 => k_is)
      (case own_a6 => k_is)
      (case own_l6 => k_is)
      (case own_c6 => k_is)
      (case own_k6 => k_is)
      (case own_a7 => k_is)
      (case own_l7 => k_is)
      (case own_c7 => k_is)
      (case own_k7 => k_is)
      (case own_a8 => k_is)
      (case own_l8 => k_is)
      (case own_c8 => k_is)
      (case own_k8 => k_is)
      (case own_a9 => k_is)
      (case own_l9 => k_is)
      (case own_c9 => k_is)
      (case own_k9 => k_is)
      (case own_a10 => k_is)
      (case own_l10 => k_is)
      (case own_c10 => k_is)
      (case own_k10 => k_is)
      (case own_a11 => k_is)
      (case own_l11 => k_is)
      (case own_c11 => k_is)
      (case own_k11 => k_is)
      (case own_a12 => k_is)
      (case own_l12 => k_is)
      (case own_c12 => k_is)
      (case own_k12 => k_is)
      (case own_a13 => k_is)
      (case own_l13 => k_is)
      (case own_c13 => k_is)
      (case own_k13 => k_is)
      (case own_a14 => k_is)
      (case own_l14 => k_is)
      (case own_c14 => k_is)
      (case own_k14 => k_is)
      (case own_a15 => k_is)
      (case own_l15 => k_is)
      (case own_c15 => k_is)
      (case own_k15 => k_is)
      (case own_a16 => k_is)
      (case own_l16 => k_is)
      (case own_c16 => k_is)
      (case own_k16 => k_is)
      (case own_a17 => k_is)
      (case own_l17 => k_is)
      (case own_c17 => k_is)
      (case own_k17 => k_is)
      (case own_a18 => k_is)
      (case own_l18 => k_is)
      (case own_c18 => k_is)
      (case own_k18 => k_is)
      (case own_a19 => k_is)
      (case own_l19 => k_is)
      (case own_c19 => k_is)
      (case own_k19 => k_is)
      (case own_z_bool => k_is)
      (case own_z_int => k_is)
      (case own_z_isinstance => k_is)
      (case own_z_len => k_is)
      (case own_z_max => k_is)
      (case own_z_min => k_is)
      (case own_z_range => k_is)
      (case own_z_set => k_is)
      (case own_z_sorted => k_is)
      (case own_z_tuple => k_is)
    obtain ⟨a, T⟩ := T
    have e0 := hmg.symm.trans T.m_law
    cases e0
    refine' ⟨a.d_law, ?b, fun base kb nb hB => K12.law_fn T hB⟩
    exact fun s u => K12.law_binds T s u
