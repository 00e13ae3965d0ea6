import PyProof.Rows.All
import Wide.All
import OpenK.AllK
import Wide.FinOn
import PyProof.EqAt
import PyProof.EqKinds
import PyProof.TupleCall
import KE.BitLaws
import PyProof.Rows.TupAdd
import KE.KIsAll
import KE.KTupSum
import PyProof.IsRules
import KE.KSortTupG
import KE.KNest
import PyProof.GenCompD
import PyProof.StrWalks
import PyProof.ConsumeS
import PyProof.CodeObjX
import PyProof.Rows.GenRows
import Wide.BridgeG
import KE.KRevSl
import KE.KMinKey
import KE.KRevIter
import PyProof.TupleOfGen
import KE.KUnpackStar
import KE.KStar
import PyProof.P3In
import PyProof.TupleOfSeq
import PyProof.ListRange
import PyProof.Draws
import PyProof.ZipIter
import PyProof.JoinWalk
import PyProof.CallStr
import PyProof.ListMulRoad
import PyProof.ListMulAny
import PyProof.FactsAll.tuple_2
import KE.KSortKeySt
import KE.KEqDict
import PyProof.Rows.SetFrom
import PyProof.CollectIter
import PyProof.Rows.SortShellAny
import PyProof.Rows.SortWalk
import KE.KDictLaws
import PyProof.DictCompW
import PyProof.DictFindH
import PyProof.SetRoads
import PySem.Challenge.RW_meetways_k02_what_is_a_net
set_option Elab.async false
set_option linter.all false
set_option maxRecDepth 100000
namespace L2
open PySem PySem.Spec PyProof.Rows
abbrev Key := Sum Int Str
def keyIs : Key → Value → Bool
  | .inl k, v => Value.isInt k v
  | .inr x, v => Value.isStrOf x v
def keyH (w : World) : Key → Int
  | .inl k => hashInt k
  | .inr x => hashStr w x
theorem keyIs_shape : ∀ {k : Key} {v : Value}, keyIs k v = true → (∃ i t, k = Sum.inl i ∧ v = Value.int i t) ∨ (∃ x t, k = Sum.inr x ∧ v = Value.str x t)
  | .inl i, v, h => by
    obtain ⟨t, e⟩ := Value.isInt_shape (k := i) (v := v) h
    exact .inl ⟨i, t, rfl, e⟩
  | .inr x, v, h => by
    obtain ⟨t, e⟩ := Value.isStrOf_shape (x := x) (v := v) h
    exact .inr ⟨x, t, rfl, e⟩
theorem keyIs_int (i : Int) (t : Tok) : keyIs (.inl i) (.int i t) = true := by simp [keyIs, Value.isInt]
theorem keyIs_str (x : Str) (t : Tok) : keyIs (.inr x) (.str x t) = true := by simp [keyIs, Value.isStrOf]
theorem key_ll (a b : Int) : decide ((Sum.inl a : Key) = Sum.inl b) = (a == b) := by
  by_cases e : a = b
  · subst e; simp
  · have h : ¬ (Sum.inl a : Key) = Sum.inl b := fun q => e (Sum.inl.inj q)
    rw [decide_eq_false h]
    exact (beq_eq_false_iff_ne.mpr e).symm
theorem key_rr (a b : Str) : decide ((Sum.inr a : Key) = Sum.inr b) = decide (a = b) := by
  by_cases e : a = b
  · subst e; simp
  · have h : ¬ (Sum.inr a : Key) = Sum.inr b := fun q => e (Sum.inr.inj q)
    rw [decide_eq_false h, decide_eq_false e]
theorem key_lr (a : Int) (b : Str) : decide ((Sum.inl a : Key) = Sum.inr b) = false := decide_eq_false (fun q => nomatch q)
theorem key_rl (a : Str) (b : Int) : decide ((Sum.inr a : Key) = Sum.inl b) = false := decide_eq_false (fun q => nomatch q)
def mixKind (prog : Program) (w : World) : PySem.KeyKind prog w Key where
  is := keyIs
  hash := keyH w
  inj := fun v a b ha hb => by
    rcases keyIs_shape ha with ⟨i, t, rfl, rfl⟩ | ⟨x, t, rfl, rfl⟩
    · rcases keyIs_shape hb with ⟨j, u, rfl, e⟩ | ⟨y, u, rfl, e⟩
      · injection e with e1 _; rw [e1]
      · exact nomatch e
    · rcases keyIs_shape hb with ⟨j, u, rfl, e⟩ | ⟨y, u, rfl, e⟩
      · exact nomatch e
      · injection e with e1 _; rw [e1]
  byValue := fun k v h => by
    rcases keyIs_shape h with ⟨i, t, rfl, rfl⟩ | ⟨x, t, rfl, rfl⟩ <;> rfl
  pyHash := fun hv h => by
    rcases keyIs_shape hv with ⟨i, t, rfl, rfl⟩ | ⟨x, t, rfl, rfl⟩
    · exact wpAny_pyHash_int h
    · exact wpAny_pyHash_str h
  eqBool := fun hu hv h => by
    rcases keyIs_shape hu with ⟨i, t, rfl, rfl⟩ | ⟨x, t, rfl, rfl⟩
    · rcases keyIs_shape hv with ⟨j, u, rfl, rfl⟩ | ⟨y, u, rfl, rfl⟩
      · rw [key_ll] at h; exact wpAny_eqBool_int h
      · rw [key_lr] at h; exact SeqAt.EqAt.int_str i t y u _ _ _ _ h
    · rcases keyIs_shape hv with ⟨j, u, rfl, rfl⟩ | ⟨y, u, rfl, rfl⟩
      · rw [key_rl] at h; exact SeqAt.EqAt.str_int x t j u _ _ _ _ h
      · rw [key_rr] at h; exact wpAny_eqBool_str h
  «strs» := fun k x t v h => by
    rcases keyIs_shape h with ⟨i, u, rfl, e⟩ | ⟨y, u, rfl, e⟩
    · exact nomatch e
    · injection e with e1 _
      subst e1
      cases v <;> rfl
theorem mixKind_int (prog : Program) (w : World) (i : Int) (t : Tok) : (mixKind prog w).is (.inl i) (.int i t) = true := keyIs_int i t
theorem mixKind_str (prog : Program) (w : World) (x : Str) (t : Tok) : (mixKind prog w).is (.inr x) (.str x t) = true := keyIs_str x t
end L2
namespace L2
open PySem PySem.Spec PyProof.Rows
inductive V where
  | non | bl (b : Bool) | int (i : Int) | str (x : Str) | byt (b : Array UInt8) | flt (b : UInt64) | ref (a : Addr) | ty (n : String)
  deriving DecidableEq
def RelV : V → Value → Prop
  | .non, u => u = Value.none
  | .bl b, u => u = Value.bool b
  | .int i, u => ∃ t, u = Value.int i t
  | .str x, u => ∃ t, u = Value.str x t
  | .byt b, u => ∃ t, u = Value.bytes b t
  | .flt b, u => ∃ t, u = Value.float b t
  | .ref a, u => u = Value.ref a
  | .ty n, u => u = Value.type n
abbrev Vals : List V → List Value → Prop := Paired RelV
theorem Vals.length {xs : List V} {us : List Value} (r : Vals xs us) : xs.length = us.length := Paired.length r
theorem Vals.get : ∀ {xs : List V} {us : List Value} {i : Nat} {x : V}, Vals xs us → xs[i]? = some x → ∃ u, us[i]? = some u ∧ RelV x u
  | _, _, _, _, .nil, e => by simp at e
  | _, _, 0, _, .cons r _, e => by simp at e; subst e; exact ⟨_, rfl, r⟩
  | _, _, i + 1, x, .cons _ t, e => by
    obtain ⟨u, h1, h2⟩ := Vals.get (i := i) (x := x) t (by simpa using e)
    exact ⟨u, by simpa using h1, h2⟩
theorem Vals.set {x : V} {u : Value} (r : RelV x u) : ∀ {xs : List V} {us : List Value} (i : Nat), Vals xs us → Vals (xs.set i x) (us.set i u)
  | _, _, _, .nil => .nil
  | _, _, 0, .cons _ t => .cons r t
  | _, _, i + 1, .cons q t => .cons q (Vals.set r i t)
theorem Vals.append : ∀ {xs ys : List V} {us ws : List Value}, Vals xs us → Vals ys ws → Vals (xs ++ ys) (us ++ ws)
  | _, _, _, _, .nil, s => s
  | _, _, _, _, .cons r t, s => .cons r (Vals.append t s)
theorem Vals.take : ∀ {xs : List V} {us : List Value} (n : Nat), Vals xs us → Vals (xs.take n) (us.take n)
  | _, _, 0, _ => .nil
  | _, _, _ + 1, .nil => .nil
  | _, _, n + 1, .cons r t => .cons r (Vals.take n t)
theorem Vals.drop : ∀ {xs : List V} {us : List Value} (n : Nat), Vals xs us → Vals (xs.drop n) (us.drop n)
  | _, _, 0, r => r
  | _, _, _ + 1, .nil => .nil
  | _, _, n + 1, .cons _ t => Vals.drop n t
def RelO : Option V → Option Value → Prop
  | some v, some u => RelV v u
  | none, none => True
  | _, _ => False
def KV {κ : Type} : List (κ × V) → List (κ × Value) → Prop := Paired fun (p : κ × V) (q : κ × Value) => p.1 = q.1 ∧ RelV p.2 q.2
def kV : Key → V
  | .inl i => .int i
  | .inr x => .str x
inductive HO where
  /-- a list -/
  | lst (xs : List V)
  /-- a tuple (never changes) -/
  | tup (xs : List V)
  /-- a dict whose keys are ints and texts; one whose keys are tuples of ints and texts (the empty one is both) -/
  | dK (kvs : List (Key × V)) | dT (kvs : List (List Key × V))
  /-- a set of ints: its members, its size -/
  | set (S : Int → Bool) (n : Nat)
  /-- an instance of the class at C, its dict at dx, its attributes -/
  | ins (C dx : Addr) (fs : List (Str × V))
  /-- the dict of the instance at x -/
  | own (x : Addr)
  /-- the dict of an exception -/
  | xd (fs : List (Str × V))
  /-- a bound method, f of x -/
  | met (f x : Addr)
  /-- a range object lo, lo + 1, .. below hi -/
  | rng (lo hi : Int)
  /-- a thing that is known to the object (the script; a dict while a loop walks it): read, never written while it is so -/
  | frz (o : Obj) (u : HO)
  /-- a code object's table -/
  | tbl (ps : Array Value)
  /-- any other thing, by what is true of its one object (a def of one's own: SetO a S n := HO.ext fun h => ..) -/
  | ext (φ : Heap → Prop)
abbrev Hp := Addr → Option HO
def upd (H : Hp) (a : Addr) (o : HO) : Hp := fun b => if b = a then some o else H b
theorem upd_same {H : Hp} {a : Addr} {o : HO} : upd H a o a = some o := by unfold upd; rw [if_pos rfl]
theorem upd_ne {H : Hp} {a b : Addr} {o : HO} (h : b ≠ a) : upd H a o b = H b := by unfold upd; rw [if_neg h]
theorem ne_of_none {H : Hp} {a b : Addr} {o : HO} (h : H a = some o) (h' : H b = none) : a ≠ b := by
  intro e; subst e; rw [h] at h'; cases h'
section
variable (P : Program) (w : World)
def ObjOk (H : Hp) (h : Heap) (a : Addr) : HO → Prop
  | .lst xs => xs.length ≤ sizeLine ∧ ∃ (its : List Value) (n : Nat), Vals xs its ∧ h.get? a = some { cls := .type "list", data := .seq its.toArray n }
  | .tup xs => xs.length ≤ sizeLine ∧ ∃ its : List Value, Vals xs its ∧ IsTup h a its.toArray
  | .dK kvs => kvs.length ≤ sizeLine ∧ (a == sysModules) = false ∧ ∃ vs, KV kvs vs ∧ h.DictOf (mixKind P w) a vs
  | .dT kvs => kvs.length ≤ sizeLine ∧ (a == sysModules) = false ∧ ∃ xs : List (List Key × Addr × Value),
      Paired (fun (p : List Key × V) (q : List Key × Addr × Value) => p.1 = q.1 ∧ H q.2.1 = some (.tup (p.1.map kV)) ∧ RelV p.2 q.2.2) kvs xs ∧
      ∃ o es ep, h.get? a = some o ∧ o.ExactDict ∧ o.data = .dict es ep ∧ es.toList = xs.map (entryOfKey (tupleKind (mixKind P w))) ∧ (xs.map (·.1)).Nodup
  | .set S n => h.SetOf (intKind P w) a S n
  | .ins C dx fs => H dx = some (.own a) ∧ fs.length ≤ 1000 ∧ dx ≠ a ∧ h.get? a = some (PySem.W.instObj C dx) ∧
      ∃ mA, h.Ns1 dx mA ∧ (∀ f, RelO (fs.lookup f) (mA f)) ∧ PySem.Within mA (fs.map (·.1))
  | .own _ => ∃ o, h.get? a = some o
  | .xd fs => ∃ mA, h.Ns1 a mA ∧ ∀ f, RelO (fs.lookup f) (mA f)
  | .rng lo hi => ∃ t u v, h.get? a = some { cls := .type "range", data := .fields #[.int lo t, .int hi u, .int 1 v] }
  | .frz o u => h.get? a = some o ∧ ObjOk H h a u
  | .tbl ps => h.get? a = some { cls := .none, data := .fields ps }
  | .met f x => h.get? a = some (PySem.W.methodObj (.ref f) (.ref x))
  | .ext φ => φ h ∧ (∃ o, h.get? a = some o) ∧ ∀ h1 h2 : Heap, φ h1 → (∀ o, h1.get? a = some o → h2.get? a = some o) → φ h2
def HOk (H : Hp) (h : Heap) : Prop := ∀ a o, H a = some o → ObjOk P w H h a o
end
section
variable {P : Program} {w : World} {H H' : Hp} {h h' : Heap} {a : Addr} {o : HO}
theorem ObjOk.lt (x : ObjOk P w H h a o) : a < h.objs.size := by
  cases o with
  | lst xs => obtain ⟨_, _, _, _, e⟩ := x; exact Heap.lt_size e
  | tup xs => obtain ⟨_, _, _, p⟩ := x; exact p.lt
  | dK kvs => obtain ⟨_, _, _, _, o, _, _, e, _⟩ := x; exact Heap.lt_size e
  | dT kvs => obtain ⟨_, _, _, _, o, _, _, e, _⟩ := x; exact Heap.lt_size e
  | set S n => obtain ⟨o, _, _, _, e, _⟩ := x; exact Heap.lt_size e
  | ins C dx fs => obtain ⟨_, _, _, e, _⟩ := x; exact Heap.lt_size e
  | own y => obtain ⟨_, e⟩ := x; exact Heap.lt_size e
  | xd fs => obtain ⟨_, ⟨_, _, _, e, _⟩, _⟩ := x; exact Heap.lt_size e
  | rng lo hi => obtain ⟨_, _, _, e⟩ := x; exact Heap.lt_size e
  | frz ob u => obtain ⟨e, _⟩ := x; exact Heap.lt_size e
  | tbl ps => exact Heap.lt_size (show h.get? a = some _ from x)
  | met f y => exact Heap.lt_size (show h.get? a = some _ from x)
  | ext φ => obtain ⟨_, ⟨_, e⟩, _⟩ := x; exact Heap.lt_size e
theorem Paired.mapP {α β : Type} {F G : α → β → Prop} : ∀ {l₁ : List α} {l₂ : List β}, Paired F l₁ l₂ → (∀ a b, F a b → G a b) → Paired G l₁ l₂
  | _, _, .nil, _ => .nil
  | _, _, .cons r t, f => .cons (f _ _ r) (Paired.mapP t f)
theorem ObjOk.stay (x : ObjOk P w H h a o) (k : ∀ b u, (b = a ∨ H b = some (.own a)) → h.get? b = some u → h'.get? b = some u)
    (ho : ∀ b, H b = some (.own a) → H' b = some (.own a)) (ht : ∀ b xs, H b = some (.tup xs) → H' b = some (.tup xs)) : ObjOk P w H' h' a o := by
  induction o with
  | lst xs => obtain ⟨z, its, n, r, e⟩ := x; exact ⟨z, its, n, r, k _ _ (.inl rfl) e⟩
  | tup xs => obtain ⟨z, its, r, ob, e, c⟩ := x; exact ⟨z, its, r, ob, k _ _ (.inl rfl) e, c⟩
  | dK kvs => obtain ⟨z, y, vs, r, ob, es, ep, e, c⟩ := x; exact ⟨z, y, vs, r, ob, es, ep, k _ _ (.inl rfl) e, c⟩
  | dT kvs =>
    obtain ⟨z, y, xs, r, ob, es, ep, e, c⟩ := x
    exact ⟨z, y, xs, Paired.mapP r fun p q z => ⟨z.1, ht _ _ z.2.1, z.2.2⟩, ob, es, ep, k _ _ (.inl rfl) e, c⟩
  | set S n => obtain ⟨ob, es, ep, t, e, c⟩ := x; exact ⟨ob, es, ep, t, k _ _ (.inl rfl) e, c⟩
  | ins C dx fs =>
    obtain ⟨d, z, ne, e, mA, ⟨od, es, ep, e2, c⟩, r⟩ := x
    exact ⟨ho _ d, z, ne, k _ _ (.inl rfl) e, mA, ⟨od, es, ep, k _ _ (.inr d) e2, c⟩, r⟩
  | own y => obtain ⟨ob, e⟩ := x; exact ⟨ob, k _ _ (.inl rfl) e⟩
  | xd fs => obtain ⟨mA, ⟨od, es, ep, e, c⟩, r⟩ := x; exact ⟨mA, ⟨od, es, ep, k _ _ (.inl rfl) e, c⟩, r⟩
  | rng lo hi => obtain ⟨t, u, v, e⟩ := x; exact ⟨t, u, v, k _ _ (.inl rfl) e⟩
  | frz ob u ih => obtain ⟨e, q⟩ := x; exact ⟨k _ _ (.inl rfl) e, ih q⟩
  | tbl ps =>
    have e : h.get? a = some { cls := .none, data := .fields ps } := x
    show h'.get? a = some { cls := .none, data := .fields ps }
    exact k a _ (.inl rfl) e
  | met f y =>
    have e : h.get? a = some (PySem.W.methodObj (.ref f) (.ref y)) := x
    show h'.get? a = some (PySem.W.methodObj (.ref f) (.ref y))
    exact k a _ (.inl rfl) e
  | ext φ => obtain ⟨p, ⟨o, e⟩, st⟩ := x; exact ⟨st _ _ p fun o q => k _ _ (.inl rfl) q, ⟨o, k _ _ (.inl rfl) e⟩, st⟩
theorem HOk.lt (x : HOk P w H h) (e : H a = some o) : a < h.objs.size := (x a o e).lt
theorem HOk.fresh (x : HOk P w H h) (e : h.objs.size ≤ a) : H a = none := by
  cases q : H a with
  | none => rfl
  | some u => exact absurd (Nat.lt_of_lt_of_le (x.lt q) e) (Nat.lt_irrefl _)
theorem HOk.kept (x : HOk P w H h) (k : ∀ b u, h.get? b = some u → h'.get? b = some u) : HOk P w H h' := fun a o e =>
  (x a o e).stay (fun b u _ q => k b u q) (fun _ q => q) fun _ _ q => q
theorem HOk.laid (x : HOk P w H h) (k : ∀ b u, h.get? b = some u → h'.get? b = some u) (hp : h.objs.size ≤ a) (new : ObjOk P w (upd H a o) h' a o) : HOk P w (upd H a o) h' := fun b u e => by
  have hn := x.fresh hp
  by_cases hb : b = a
  · subst hb; rw [upd_same] at e; cases e; exact new
  · rw [upd_ne hb] at e
    exact (x b u e).stay (fun c v _ q => k c v q) (fun c q => by rw [upd_ne (ne_of_none q hn)]; exact q) fun c xs q => by rw [upd_ne (ne_of_none q hn)]; exact q
end
def Rd (H : Hp) (a : Addr) (u : HO) : Prop := H a = some u ∨ ∃ o, H a = some (.frz o u)
theorem Rd.of {H : Hp} {a : Addr} {u : HO} (h : H a = some u) : Rd H a u := .inl h
theorem Rd.ok {P : Program} {w : World} {H : Hp} {h : Heap} {a : Addr} {u : HO} (r : Rd H a u) (x : HOk P w H h) : ObjOk P w H h a u := by
  rcases r with r | ⟨o, r⟩
  · exact x a u r
  · obtain ⟨_, q⟩ := x a _ r
    exact q
def Mut : Option HO → Prop
  | some (.lst _) => True
  | some (.dK _) => True
  | some (.dT _) => True
  | some (.set _ _) => True
  | some (.ins _ _ _) => True
  | some (.ext _) => True
  | _ => False
section
variable {P : Program} {w : World} {H : Hp} {h h' : Heap} {x e : Addr} {o' : HO}
theorem HOk.write (ok : HOk P w H h) (mu : Mut (H x)) (he : e = x ∨ H e = some (.own x)) (k : ∀ b u, b ≠ e → h.get? b = some u → h'.get? b = some u) (heo : ∃ u, h'.get? e = some u)
    (new : ObjOk P w (upd H x o') h' x o') : HOk P w (upd H x o') h' := fun b u q => by
  have nown : ∀ c y, H c = some (.own y) → c ≠ x := fun c y r z => by subst z; rw [r] at mu; exact mu
  have ntup : ∀ c xs, H c = some (.tup xs) → c ≠ x := fun c xs r z => by subst z; rw [r] at mu; exact mu
  by_cases hb : b = x
  · subst hb; rw [upd_same] at q; cases q; exact new
  · rw [upd_ne hb] at q
    by_cases hbe : b = e
    · have q' : H b = some (.own x) := by
        rcases he with z | z
        · exact absurd (hbe.trans z) hb
        · rw [hbe]; exact z
      rw [q] at q'; cases q'
      obtain ⟨v, hv⟩ := heo
      exact ⟨v, by rw [hbe]; exact hv⟩
    · refine (ok b u q).stay (fun c v hc r => k c v ?_ r) (fun c r => by rw [upd_ne (nown c b r)]; exact r) fun c xs r => by rw [upd_ne (ntup c xs r)]; exact r
      rcases hc with rfl | hc
      · exact hbe
      · rintro rfl
        rcases he with z | z
        · exact nown c b hc z
        · rw [hc] at z; cases z; exact hb rfl
end
structure Un (fs ex : List Addr) (H H' : Hp) (h h' : Heap) : Prop where
  keep : ∀ b o, h.get? b = some o → H b = none → b ∉ fs → b ∉ ex → h'.get? b = some o
  slot : ∀ b o, h.get? b = some o → H b = none → b ∈ fs → b ∉ ex → ∃ sl, h'.get? b = some { o with slots := sl }
  free : ∀ b o, h.get? b = some o → H b = none → b ∉ ex → H' b = none
  there : ∀ b o, h.get? b = some o → b ∉ ex → ∃ o', h'.get? b = some o'
  tups : ∀ b xs, H b = some (.tup xs) → H' b = some (.tup xs)
  frzs : ∀ b o u, H b = some (.frz o u) → H' b = some (.frz o u)
  tbls : ∀ b ps, H b = some (.tbl ps) → ∃ more, H' b = some (.tbl (ps ++ more))
section
variable {fs fs' ex ex' : List Addr} {H H1 H2 : Hp} {h h1 h2 h' : Heap} {a x e : Addr} {o : HO}
theorem Un.any (u : Un fs ex H H1 h h1) {b : Addr} {ob : Obj} (q : h.get? b = some ob) (n : H b = none) (hx : b ∉ ex) : ∃ sl, h1.get? b = some { ob with slots := sl } := by
  by_cases hb : b ∈ fs
  · exact u.slot b ob q n hb hx
  · exact ⟨ob.slots, u.keep b ob q n hb hx⟩
theorem Un.trans (a : Un fs ex H H1 h h1) (b : Un fs ex H1 H2 h1 h2) : Un fs ex H H2 h h2 where
  keep := fun c ob q n hc hx => b.keep c ob (a.keep c ob q n hc hx) (a.free c ob q n hx) hc hx
  slot := fun c ob q n hc hx => by
    obtain ⟨sl, e1⟩ := a.slot c ob q n hc hx
    obtain ⟨sl', e2⟩ := b.slot c _ e1 (a.free c ob q n hx) hc hx
    exact ⟨sl', e2⟩
  free := fun c ob q n hx => by
    obtain ⟨o', e1⟩ := a.there c ob q hx
    exact b.free c o' e1 (a.free c ob q n hx) hx
  there := fun c ob q hx => by
    obtain ⟨o', e1⟩ := a.there c ob q hx
    exact b.there c o' e1 hx
  tups := fun c xs q => b.tups c xs (a.tups c xs q)
  frzs := fun c ob xs q => b.frzs c ob xs (a.frzs c ob xs q)
  tbls := fun c ps q => by
    obtain ⟨m1, e1⟩ := a.tbls c ps q
    obtain ⟨m2, e2⟩ := b.tbls c _ e1
    exact ⟨m1 ++ m2, by rw [e2, Array.append_assoc]⟩
theorem Un.kept (k : ∀ b u, h.get? b = some u → h'.get? b = some u) : Un fs ex H H h h' :=
  ⟨fun b ob q _ _ _ => k b ob q, fun b ob q _ _ _ => ⟨ob.slots, k b ob q⟩, fun _ _ _ n _ => n, fun b ob q _ => ⟨ob, k b ob q⟩, fun _ _ q => q, fun _ _ _ q => q, fun _ ps q => ⟨#[], by rw [q]; simp⟩⟩
theorem Un.refl : Un fs ex H H h h := Un.kept fun _ _ q => q
theorem Un.laid (k : ∀ b u, h.get? b = some u → h'.get? b = some u) (hp : h.objs.size ≤ a) (hn : H a = none) : Un fs ex H (upd H a o) h h' where
  keep := fun b u q _ _ _ => k b u q
  slot := fun b u q _ _ _ => ⟨u.slots, k b u q⟩
  free := fun b u q n _ => by rw [upd_ne (Nat.ne_of_lt (Nat.lt_of_lt_of_le (Heap.lt_size q) hp))]; exact n
  there := fun b u q _ => ⟨u, k b u q⟩
  tups := fun b xs q => by rw [upd_ne (ne_of_none q hn)]; exact q
  frzs := fun b u xs q => by rw [upd_ne (ne_of_none q hn)]; exact q
  tbls := fun b ps q => ⟨#[], by rw [upd_ne (ne_of_none q hn), q]; simp⟩
theorem Un.write (mu : Mut (H x)) (he : e = x ∨ H e = some (.own x)) (k : ∀ b u, b ≠ e → h.get? b = some u → h'.get? b = some u) (heo : ∃ u, h'.get? e = some u) : Un fs ex H (upd H x o) h h' := by
  have hx : ∀ b, H b = none → b ≠ x := fun b n z => by subst z; rw [n] at mu; exact mu
  have hb : ∀ b, H b = none → b ≠ e := fun b n z => by
    subst z
    rcases he with r | r
    · exact hx b n r
    · rw [n] at r; cases r
  have hm : ∀ b u, H b = some u → ¬ Mut (some u) → b ≠ x := fun b u q nm z => by subst z; rw [q] at mu; exact nm mu
  refine ⟨fun b u q n _ _ => k b u (hb b n) q, fun b u q n _ _ => ⟨u.slots, k b u (hb b n) q⟩, fun b u q n _ => by rw [upd_ne (hx b n)]; exact n, fun b u q _ => ?_,
    fun b xs q => by rw [upd_ne (hm b _ q fun z => z)]; exact q, fun b u xs q => by rw [upd_ne (hm b _ q fun z => z)]; exact q, fun b ps q => ⟨#[], by rw [upd_ne (hm b _ q fun z => z), q]; simp⟩⟩
  by_cases hbe : b = e
  · subst hbe; exact heo
  · exact ⟨u, k b u hbe q⟩
theorem Un.mono (u : Un fs ex H H1 h h1) (hs : ∀ b ∈ fs, b ∈ fs') (hx : ∀ b ∈ ex, b ∈ ex') : Un fs' ex' H H1 h h1 :=
  ⟨fun b ob q n hb he => u.keep b ob q n (fun z => hb (hs b z)) fun z => he (hx b z), fun _ _ q n _ he => u.any q n fun z => he (hx _ z), fun b ob q n he => u.free b ob q n fun z => he (hx b z), fun b ob q he => u.there b ob q fun z => he (hx b z), u.tups, u.frzs, u.tbls⟩
end
def trk (h : Heap) (H : Hp) : List Addr := (List.range h.objs.size).filter fun a => (H a).isSome
def hidT (h : Heap) (H : Hp) : Heap := PySem.W.hideAll h (trk h H)
theorem hidT_size (h : Heap) (H : Hp) : (hidT h H).objs.size = h.objs.size := PySem.W.hideAll_size _ _
theorem hidT_get {h : Heap} {H : Hp} {b : Addr} {o : Obj} (e : h.get? b = some o) (n : H b = none) : (hidT h H).get? b = some o :=
  PySem.W.hideAll_get _ e fun hm => by
    have q : (H b).isSome = true := (List.mem_filter.mp hm).2
    rw [n] at q; simp at q
theorem of_hidT {h : Heap} {H : Hp} {b : Addr} {o : Obj} (e : (hidT h H).get? b = some o) : h.get? b = some o ∧ H b = none := by
  have e' : h.get? b = some o := PySem.W.of_hideAll (trk h H) e
  refine ⟨e', ?_⟩
  cases q : H b with
  | none => rfl
  | some x =>
    have hm : b ∈ trk h H := List.mem_filter.mpr ⟨List.mem_range.mpr (Heap.lt_size e'), by simp [q]⟩
    have z : (hidT h H).get? b = none := PySem.W.hideAll_none (trk h H) hm
    rw [z] at e; cases e
def allNews (g h : Heap) (L : Addr) : List (Addr × Obj) := (List.range h.objs.size).filterMap fun a => if a = L ∨ (g.get? a).isSome = true then none else (h.get? a).map fun o => (a, o)
def rest (g h : Heap) (L d : Addr) : List (Addr × Obj) := (allNews g h L).filter fun p => decide (p.1 ≠ d)
end L2
namespace L2
open PySem PySem.Spec PyProof.Rows
structure Mod (K : PySem.W.Frag) (mg : Str → Option Value) (base : Heap) : Prop where
  kin : K.In base
  glob : base.Ns mainGlobals mg
  blt : ∃ mb, base.Ns builtinsNs mb ∧ ∀ x : Str, x ≠ "__name__" → mb x = bootBuiltins x
  nolimit : base.NoLimit
structure Cx where
  prog : Program
  w : World
  K : PySem.W.Frag
  mg : Str → Option Value
  base : Heap
  A : Around
  N : List Str
  s_0 : Shared
  H_0 : Hp
  env : Env
  outer : List Env
  stack : List Env
  ex : List Addr
  fn : Str → Bool
  calm : Bool
  pn : List (Addr × Obj)
  xe : Value → Shared → Prop
def frs (l : List Env) : List Addr := l.filterMap (·.frame)
abbrev Cx.fs (X : Cx) : List Addr := frs X.outer
def Vis (sc : Scope) (x : Str) : Prop := sc.names.lookup x = some .local ∨ sc.names.lookup x = some .cell ∨ sc.names.lookup x = some .free
def Loc (sc : Scope) (x : Str) : Prop := sc.names.lookup x = some .local ∨ sc.names.lookup x = some .cell
def Look (env : Env) (h : Heap) (m : Str → Option Value) (x : Str) (u : Value) : Prop :=
  (env.kindOf x = some .local ∧ m x = some u) ∨ ((env.kindOf x = some .cell ∨ env.kindOf x = some .free) ∧ ∃ c, env.cells.lookup x = some c ∧ h.IsCell c (some u))
structure Cx.Ok (X : Cx) : Prop where
  mod : Mod X.K X.mg X.base
  kind : X.env.scope.kind = .function
  glob : X.env.globals = mainGlobals
  blt : X.env.builtins = builtinsNs
  above : X.s_0.heap.objs.size ≤ X.env.locals
  inj : ∀ x y c, X.env.cells.lookup x = some c → X.env.cells.lookup y = some c → x = y
  has : ∀ x, (X.env.kindOf x = some .cell ∨ X.env.kindOf x = some .free) → ∃ c, X.env.cells.lookup x = some c
  cab : ∀ x c, X.fn x = true → X.env.cells.lookup x = some c → X.s_0.heap.objs.size ≤ c
  hd : X.calm = true → X.A.handled = none
  frames : X.A.frames = some X.stack
  stk : X.stack = X.outer ∨ (X.stack = X.env :: X.outer ∧ X.env.frame = some X.env.locals)
  exf : ∀ b ∈ X.ex, b ≠ X.env.locals ∧ ∀ x c, X.env.cells.lookup x = some c → c ≠ b
  bs : ∀ b o, X.base.get? b = some o → X.s_0.heap.get? b = some o ∧ X.H_0 b = none
  bsz : X.base.objs.size ≤ X.s_0.heap.objs.size
  noex : ∀ b o, X.base.get? b = some o → b ∉ X.ex
  exfs : ∀ b ∈ X.ex, b ∉ X.fs
  funs : X.s_0.heap.FunFrames X.base X.outer
  frf : ∀ b ∈ X.fs, X.H_0 b = none
structure Inv (X : Cx) (pins : List (Addr × Obj)) (σ : List (Option V)) (H : Hp) (s : Shared) : Prop where
  ok : X.Ok
  os : s.os = X.s_0.os
  bare : AllBare s.gens
  base : Un X.fs X.ex X.H_0 H X.s_0.heap s.heap
  loc : ∃ m, s.heap.Ns X.env.locals m ∧ ∀ (i : Nat) (x : Str) (v : V), X.N[i]? = some x → σ[i]? = some (some v) → Vis X.env.scope x → ∃ u, RelV v u ∧ Look X.env s.heap m x u
  cell : ∀ x c, X.env.cells.lookup x = some c → ∃ v, s.heap.IsCell c v
  free : H X.env.locals = none
  freeC : ∀ x c, X.env.cells.lookup x = some c → H c = none
  pin : ∀ p ∈ X.pn ++ pins, s.heap.get? p.1 = some p.2 ∧ H p.1 = none ∧ p.1 ≠ X.env.locals ∧ p.1 ∉ X.fs ∧ ∀ v, p.2.data ≠ .cell v
  hok : HOk X.prog X.w H s.heap
  len : σ.length = X.N.length
section
variable {X : Cx} {pins : List (Addr × Obj)} {σ : List (Option V)} {H H' : Hp} {s : Shared} {h' : Heap}
theorem Cx.Ok.nofr (ok : X.Ok) {b : Addr} {o : Obj} (e : X.base.get? b = some o) : b ∉ X.fs := fun hb => by
  have := (ok.funs.mem hb).1
  rw [e] at this; cases this
theorem Inv.bs (I : Inv X pins σ H s) : ∀ b o, X.base.get? b = some o → s.heap.get? b = some o ∧ H b = none := fun b o e =>
  ⟨I.base.keep b o (I.ok.bs b o e).1 (I.ok.bs b o e).2 (I.ok.nofr e) (I.ok.noex b o e), I.base.free b o (I.ok.bs b o e).1 (I.ok.bs b o e).2 (I.ok.noex b o e)⟩
theorem Inv.bk (I : Inv X pins σ H s) : ∀ b o, X.base.get? b = some o → s.heap.get? b = some o := fun b o e => (I.bs b o e).1
theorem Inv.mod (I : Inv X pins σ H s) : Mod X.K X.mg X.base := I.ok.mod
theorem Inv.kIn (I : Inv X pins σ H s) : X.K.In s.heap := I.ok.mod.kin.keeps I.bk
theorem Inv.nolimit (I : Inv X pins σ H s) : s.heap.NoLimit := I.ok.mod.nolimit.keeps I.bk
theorem Inv.fr (I : Inv X pins σ H s) : ∃ m, Fr X.base X.env.locals s.heap m :=
  let ⟨m, hn, _⟩ := I.loc
  ⟨m, hn, I.bk, Nat.le_trans I.ok.bsz I.ok.above⟩
theorem Inv.lt (I : Inv X pins σ H s) : X.env.locals < s.heap.objs.size := let ⟨_, hn, _⟩ := I.loc; hn.lt
theorem Inv.sz (I : Inv X pins σ H s) : X.s_0.heap.objs.size ≤ s.heap.objs.size := Nat.le_trans I.ok.above (Nat.le_of_lt I.lt)
theorem Inv.nofs (I : Inv X pins σ H s) {a : Addr} (h : s.heap.objs.size ≤ a) : a ∉ X.fs := fun hb => by
  obtain ⟨_, o, ho, _⟩ := I.ok.funs.mem hb
  exact absurd (Nat.lt_of_lt_of_le (Heap.lt_size ho) (Nat.le_trans I.sz h)) (Nat.lt_irrefl _)
theorem Inv.cne (I : Inv X pins σ H s) : ∀ x c, X.env.cells.lookup x = some c → c ≠ X.env.locals := fun x c e z => by
  obtain ⟨v, o, ho, hd⟩ := I.cell x c e
  obtain ⟨m, ⟨o', es, ep, ho', hd', _⟩, _⟩ := I.loc
  rw [z, ho'] at ho; cases ho; rw [hd'] at hd; cases hd
theorem Inv.funs (I : Inv X pins σ H s) : s.heap.FunFrames X.base X.outer := by
  have all : ∀ (l : List Env), (∀ b ∈ frs l, b ∈ X.fs) → X.s_0.heap.FunFrames X.base l → s.heap.FunFrames X.base l := by
    intro l
    induction l with
    | nil => intro _ _; trivial
    | cons env r ih =>
      intro hs hl
      obtain ⟨hk, ⟨L, o, hf, hn, ho, hd⟩, hr⟩ := hl
      have hL : L ∈ X.fs := hs L (by unfold frs; rw [List.filterMap_cons, hf]; exact List.mem_cons_self)
      obtain ⟨sl, e⟩ := I.base.slot L o ho (I.ok.frf L hL) hL fun z => I.ok.exfs L z hL
      exact ⟨hk, ⟨L, _, hf, hn, e, hd⟩, ih (fun b hb => hs b (by unfold frs; rw [List.filterMap_cons, hf]; exact List.mem_cons_of_mem _ hb)) hr⟩
  exact all X.outer (fun _ hb => hb) I.ok.funs
theorem Inv.stack (I : Inv X pins σ H s) : s.heap.FunFrames X.base X.stack := by
  rcases I.ok.stk with e | ⟨e, hf⟩
  · rw [e]; exact I.funs
  · rw [e]
    obtain ⟨m, hn, _⟩ := I.loc
    refine .cons (by rw [I.ok.kind]; decide) hf hn ?_ I.funs
    exact Heap.get?_none_of_le (Nat.le_trans I.ok.bsz I.ok.above)
theorem Inv.stkSub (I : Inv X pins σ H s) : ∀ b ∈ frs X.stack, b ∈ X.env.locals :: X.fs := fun b hb => by
  rcases I.ok.stk with e | ⟨e, hf⟩
  · rw [e] at hb; exact List.mem_cons_of_mem _ hb
  · rw [e] at hb
    unfold frs at hb
    rw [List.filterMap_cons, hf] at hb
    exact hb
theorem Inv.stkFree (I : Inv X pins σ H s) : ∀ b ∈ frs X.stack, H b = none := fun b hb => by
  rcases List.mem_cons.mp (I.stkSub b hb) with e | hb
  · rw [e]; exact I.free
  · obtain ⟨_, o, ho, _⟩ := I.ok.funs.mem hb
    exact I.base.free b o ho (I.ok.frf b hb) fun z => I.ok.exfs b z hb
theorem Inv.step {g' : Array GenState} {t' : Nat} {d' : Drawn} {ch : List Addr} (I : Inv X pins σ H s)
    (hch : ∀ b ∈ ch, (b ∈ X.ex ∨ X.s_0.heap.objs.size ≤ b) ∧ b ≠ X.env.locals ∧ (∀ x c, X.env.cells.lookup x = some c → c ≠ b) ∧ ∀ p ∈ X.pn ++ pins, p.1 ≠ b)
    (keep : ∀ b o, b ≠ X.env.locals → b ∉ X.fs → b ∉ ch → s.heap.get? b = some o → H b = none → h'.get? b = some o)
    (slot : ∀ b o, b ≠ X.env.locals → b ∈ X.fs → b ∉ ch → s.heap.get? b = some o → H b = none → ∃ sl, h'.get? b = some { o with slots := sl }) (free : ∀ b o, b ∉ ch → s.heap.get? b = some o → H b = none → H' b = none)
    (there : ∀ b o, b ∉ ch → s.heap.get? b = some o → ∃ o', h'.get? b = some o')
    (tups : ∀ b xs, H b = some (.tup xs) → H' b = some (.tup xs)) (frzs : ∀ b o u, H b = some (.frz o u) → H' b = some (.frz o u)) (tbls : ∀ b ps, H b = some (.tbl ps) → ∃ more, H' b = some (.tbl (ps ++ more)))
    (ns : ∀ m, s.heap.Ns X.env.locals m → h'.Ns X.env.locals m) (hok : HOk X.prog X.w H' h') (hg : AllBare g') :
    Inv X pins σ H' { s with heap := h', gens := g', drawn := d', toks := t' } := by
  have neL : ∀ b o, X.s_0.heap.get? b = some o → b ≠ X.env.locals := fun b o e => Nat.ne_of_lt (Nat.lt_of_lt_of_le (Heap.lt_size e) I.ok.above)
  have neC : ∀ b o, X.s_0.heap.get? b = some o → b ∉ X.ex → b ∉ ch := fun b o e hx hb => by
    rcases (hch b hb).1 with z | z
    · exact hx z
    · exact absurd (Nat.lt_of_lt_of_le (Heap.lt_size e) z) (Nat.lt_irrefl _)
  have cellK : ∀ x c, X.env.cells.lookup x = some c → ∀ v, s.heap.IsCell c v → h'.IsCell c v := fun x c e v ⟨o, ho, hd⟩ => by
    have nch : c ∉ ch := fun z => (hch c z).2.2.1 x c e rfl
    by_cases hc : c ∈ X.fs
    · obtain ⟨sl, q⟩ := slot c o (I.cne x c e) hc nch ho (I.freeC x c e)
      exact ⟨_, q, hd⟩
    · exact ⟨o, keep c o (I.cne x c e) hc nch ho (I.freeC x c e), hd⟩
  refine ⟨I.ok, I.os, hg, ⟨fun b o e n hb hx => ?_, fun b o e n hb hx => ?_, fun b o e n hx => ?_, fun b o e hx => ?_, fun b xs e => tups b xs (I.base.tups b xs e), fun b o xs e => frzs b o xs (I.base.frzs b o xs e), fun b ps e => ?_⟩, ?_, fun x c e => ?_, ?_, fun x c e => ?_, fun p hp => ?_, hok, I.len⟩
  · exact keep b o (neL b o e) hb (neC b o e hx) (I.base.keep b o e n hb hx) (I.base.free b o e n hx)
  · obtain ⟨sl, e1⟩ := I.base.slot b o e n hb hx
    obtain ⟨sl', e2⟩ := slot b _ (neL b o e) hb (neC b o e hx) e1 (I.base.free b o e n hx)
    exact ⟨sl', e2⟩
  · obtain ⟨o', e1⟩ := I.base.there b o e hx
    exact free b o' (neC b o e hx) e1 (I.base.free b o e n hx)
  · obtain ⟨o', e1⟩ := I.base.there b o e hx
    exact there b o' (neC b o e hx) e1
  · obtain ⟨m1, e1⟩ := I.base.tbls b ps e
    obtain ⟨m2, e2⟩ := tbls b _ e1
    exact ⟨m1 ++ m2, by rw [e2, Array.append_assoc]⟩
  · obtain ⟨m, hn, hl⟩ := I.loc
    refine ⟨m, ns m hn, fun i x v e1 e2 e3 => ?_⟩
    obtain ⟨u, r, l⟩ := hl i x v e1 e2 e3
    refine ⟨u, r, ?_⟩
    rcases l with l | ⟨k, c, e, z⟩
    · exact .inl l
    · exact .inr ⟨k, c, e, cellK x c e _ z⟩
  · obtain ⟨v, z⟩ := I.cell x c e
    exact ⟨v, cellK x c e v z⟩
  · obtain ⟨m, ⟨o, _, _, ho, _⟩, _⟩ := I.loc
    exact free _ o (fun z => (hch _ z).2.1 rfl) ho I.free
  · obtain ⟨v, o, ho, hd⟩ := I.cell x c e
    exact free c o (fun z => (hch c z).2.2.1 x c e rfl) ho (I.freeC x c e)
  · obtain ⟨e, n, ne, nf, d⟩ := I.pin p hp
    have nch : p.1 ∉ ch := fun z => (hch p.1 z).2.2.2 p hp rfl
    exact ⟨keep p.1 p.2 ne nf nch e n, free p.1 p.2 nch e n, ne, nf, d⟩
theorem Inv.un {t' : Nat} (I : Inv X pins σ H s) (u : Un X.fs [] H H' s.heap h') (hok : HOk X.prog X.w H' h') : Inv X pins σ H' { s with heap := h', toks := t' } := by
  obtain ⟨m, ⟨o, es, ep, ho, r⟩, _⟩ := id I.loc
  obtain ⟨sl, hL⟩ := u.any ho I.free (by simp)
  exact I.step (g' := s.gens) (d' := s.drawn) (ch := []) (fun _ z => nomatch z) (fun b o _ hb _ e n => u.keep b o e n hb (by simp)) (fun b o _ hb _ e n => u.slot b o e n hb (by simp)) (fun b o _ e n => u.free b o e n (by simp)) (fun b o _ e => u.there b o e (by simp)) u.tups u.frzs u.tbls (fun m' hm => by
    obtain ⟨o', es', ep', ho', r'⟩ := hm
    rw [ho] at ho'; cases ho'
    exact ⟨_, es', ep', hL, r'⟩) hok I.bare
theorem Inv.call {g' : Array GenState} {t' : Nat} {d' : Drawn} {ch : List Addr} (I : Inv X pins σ H s) (u : Un (frs X.stack) ch H H' s.heap h') (hok : HOk X.prog X.w H' h') (hg : AllBare g')
    (hch : ∀ b ∈ ch, (b ∈ X.ex ∨ X.s_0.heap.objs.size ≤ b) ∧ b ≠ X.env.locals ∧ (∀ x c, X.env.cells.lookup x = some c → c ≠ b) ∧ ∀ p ∈ X.pn ++ pins, p.1 ≠ b) :
    Inv X pins σ H' { s with heap := h', gens := g', drawn := d', toks := t' } := by
  obtain ⟨m, ⟨o, es, ep, ho, r⟩, _⟩ := id I.loc
  obtain ⟨sl, hL⟩ := u.any ho I.free fun z => (hch _ z).2.1 rfl
  exact I.step (ch := ch) hch (fun b o hL hb hc e n => u.keep b o e n (fun z => (List.mem_cons.mp (I.stkSub b z)).elim hL hb) hc) (fun b o _ _ hc e n => u.any e n hc) (fun b o hc e n => u.free b o e n hc) (fun b o hc e => u.there b o e hc) u.tups u.frzs u.tbls (fun m' hm => by
    obtain ⟨o', es', ep', ho', r'⟩ := hm
    rw [ho] at ho'; cases ho'
    exact ⟨_, es', ep', hL, r'⟩) hok hg
theorem Inv.turned {t' : Nat} {it : Addr} (I : Inv X pins σ H s) (k : ∀ b o, b ≠ it → s.heap.get? b = some o → h'.get? b = some o) (hn : H it = none) (hL : it ≠ X.env.locals)
    (h1 : it ∈ X.ex ∨ X.s_0.heap.objs.size ≤ it) (h2 : ∀ x c, X.env.cells.lookup x = some c → c ≠ it) (h3 : ∀ p ∈ X.pn ++ pins, p.1 ≠ it) : Inv X pins σ H { s with heap := h', toks := t' } := by
  have nit : ∀ b u, H b = some u → b ≠ it := fun b u e z => by rw [z, hn] at e; cases e
  refine I.step (g' := s.gens) (d' := s.drawn) (ch := [it]) (fun b hb => ?_) (fun b o _ _ hc e _ => k b o (fun z => hc (by simp [z])) e) (fun b o _ _ hc e _ => ⟨o.slots, k b o (fun z => hc (by simp [z])) e⟩) (fun _ _ _ _ n => n)
    (fun b o hc e => ⟨o, k b o (fun z => hc (by simp [z])) e⟩) (fun _ _ e => e) (fun _ _ _ e => e) (fun b ps e => ⟨#[], by rw [e]; simp⟩) (fun m hm => ?_) (fun b u e => ?_) I.bare
  · have e : b = it := by simpa using hb
    subst e
    exact ⟨h1, hL, h2, h3⟩
  · obtain ⟨o, es, ep, ho, r⟩ := hm
    exact ⟨o, es, ep, k _ o (Ne.symm hL) ho, r⟩
  · refine (I.hok b u e).stay (fun c v hc q => k c v ?_ q) (fun _ q => q) fun _ _ q => q
    rcases hc with z | z
    · rw [z]; exact nit b u e
    · exact nit c _ z
theorem Inv.tok (I : Inv X pins σ H s) (t : Nat) : Inv X pins σ H { s with toks := t } := I.un (h' := s.heap) (t' := t) Un.refl I.hok
theorem Inv.kept {t' : Nat} (I : Inv X pins σ H s) (k : ∀ b u, s.heap.get? b = some u → h'.get? b = some u) : Inv X pins σ H { s with heap := h', toks := t' } := I.un (Un.kept k) (I.hok.kept k)
theorem Inv.laid {a : Addr} {o : HO} {t' : Nat} (I : Inv X pins σ H s) (k : ∀ b u, s.heap.get? b = some u → h'.get? b = some u) (hp : s.heap.objs.size ≤ a) (new : ObjOk X.prog X.w (upd H a o) h' a o) :
    Inv X pins σ (upd H a o) { s with heap := h', toks := t' } := I.un (Un.laid k hp (I.hok.fresh hp)) (I.hok.laid k hp new)
theorem Inv.write {x e : Addr} {o : HO} {t' : Nat} (I : Inv X pins σ H s) (mu : Mut (H x)) (he : e = x ∨ H e = some (.own x)) (k : ∀ b u, b ≠ e → s.heap.get? b = some u → h'.get? b = some u) (heo : ∃ u, h'.get? e = some u)
    (new : ObjOk X.prog X.w (upd H x o) h' x o) : Inv X pins σ (upd H x o) { s with heap := h', toks := t' } := I.un (Un.write mu he k heo) (I.hok.write mu he k heo new)
theorem Inv.weak {σ' : List (Option V)} (I : Inv X pins σ H s) (hl : σ'.length = σ.length) (w : ∀ (i : Nat) v, σ'[i]? = some (some v) → σ[i]? = some (some v)) : Inv X pins σ' H s :=
  ⟨I.ok, I.os, I.bare, I.base, let ⟨m, hn, hl'⟩ := I.loc; ⟨m, hn, fun i x v e1 e2 e3 => hl' i x v e1 (w i v e2) e3⟩, I.cell, I.free, I.freeC, I.pin, I.hok, hl.trans I.len⟩
theorem Inv.pins_of {pins' : List (Addr × Obj)} (I : Inv X pins σ H s) (h : ∀ p ∈ pins', s.heap.get? p.1 = some p.2 ∧ H p.1 = none ∧ p.1 ≠ X.env.locals ∧ p.1 ∉ X.fs ∧ ∀ v, p.2.data ≠ .cell v) : Inv X pins' σ H s :=
  ⟨I.ok, I.os, I.bare, I.base, I.loc, I.cell, I.free, I.freeC, fun p hp => (List.mem_append.mp hp).elim (fun z => I.pin p (List.mem_append_left _ z)) (h p), I.hok, I.len⟩
theorem nodup_ix {N : List Str} (hN : N.Nodup) {i j : Nat} {x : Str} (a : N[i]? = some x) (b : N[j]? = some x) : i = j := by
  obtain ⟨h1, e1⟩ := List.getElem?_eq_some_iff.mp a
  obtain ⟨h2, e2⟩ := List.getElem?_eq_some_iff.mp b
  exact (List.getElem_inj hN).mp (e1.trans e2.symm)
theorem store_ok2 {M : Model} {A : Around} {E : Value → Shared → Prop} {i : Nat} {x : Str} {v : V} {u : Value} {Q : Unit → Shared → Prop} (I : Inv X pins σ H s) (hN : X.N.Nodup) (hi : X.N[i]? = some x) (hx : Loc X.env.scope x) (r : RelV v u)
    (h : ∀ s', Inv X pins (σ.set i (some v)) H s' → (∃ a, Heap.SameBut a s.heap s'.heap ∧ (a = X.env.locals ∨ X.env.cells.lookup x = some a)) → Q () s') (hf : X.fn x = true ∨ X.env.scope.names.lookup x = some .local := by first | exact .inl rfl | exact .inr rfl | assumption) : wpAny M A (storeName X.env x u) Q E s := by
  obtain ⟨m, hn, hl⟩ := id I.loc
  have hcls : (X.env.scope.kind == .class || (X.env.scope.kind == .module && X.env.locals != X.env.globals)) = false := by rw [I.ok.kind]; rfl
  have hiσ : i < σ.length := by rw [I.len]; exact (List.getElem?_eq_some_iff.mp hi).1
  have cne := I.cne
  have tracked : ∀ {a : Addr} {h' : Heap}, (∃ o, s.heap.get? a = some o ∧ H a = none) → Heap.SameBut a s.heap h' → HOk X.prog X.w H h' := fun {a h'} ha hs b ob e => by
    obtain ⟨_, _, hfree⟩ := ha
    refine (I.hok b ob e).stay (fun c w' hc q => (hs.2 c ?_).trans q) (fun _ q => q) fun _ _ q => q
    rintro rfl
    rcases hc with rfl | hc
    · rw [hfree] at e; cases e
    · rw [hfree] at hc; cases hc
  rcases hx with hk | hk
  · refine wpAny_storeName_local hk hn (fun h' hn' hs => ?_) hcls
    obtain ⟨oL, _, _, hoL, _⟩ := id hn
    refine h _ ⟨I.ok, I.os, I.bare, ⟨fun b o e n hb hx => ?_, fun b o e n hb hx => ?_, I.base.free, fun b o e hx => ?_, I.base.tups, I.base.frzs, I.base.tbls⟩, ⟨_, hn', fun j y v' e1 e2 e3 => ?_⟩, fun y c e => ?_, I.free, I.freeC, fun p hp => ?_, tracked ⟨oL, hoL, I.free⟩ hs, by simpa using I.len⟩ ⟨_, hs, .inl rfl⟩
    · exact (hs.2 b (Nat.ne_of_lt (Nat.lt_of_lt_of_le (Heap.lt_size e) I.ok.above))).trans (I.base.keep b o e n hb hx)
    · obtain ⟨sl, e1⟩ := I.base.slot b o e n hb hx
      exact ⟨sl, (hs.2 b (Nat.ne_of_lt (Nat.lt_of_lt_of_le (Heap.lt_size e) I.ok.above))).trans e1⟩
    · obtain ⟨o', e1⟩ := I.base.there b o e hx
      exact ⟨o', (hs.2 b (Nat.ne_of_lt (Nat.lt_of_lt_of_le (Heap.lt_size e) I.ok.above))).trans e1⟩
    · by_cases hj : j = i
      · subst hj
        rw [hi] at e1; cases e1
        rw [List.getElem?_set_self hiσ] at e2
        cases e2
        exact ⟨u, r, .inl ⟨hk, by simp⟩⟩
      · rw [List.getElem?_set_ne (Ne.symm hj)] at e2
        obtain ⟨u', r', q⟩ := hl j y v' e1 e2 e3
        refine ⟨u', r', ?_⟩
        rcases q with ⟨k, e⟩ | ⟨k, c, e, z⟩
        · refine .inl ⟨k, ?_⟩
          have : y ≠ x := fun e => hj (nodup_ix hN e1 (e ▸ hi))
          simp [this, e]
        · exact .inr ⟨k, c, e, z.sameBut hs (cne y c e)⟩
    · obtain ⟨w', z⟩ := I.cell y c e
      exact ⟨w', z.sameBut hs (cne y c e)⟩
    · obtain ⟨e, n, ne, nf, d⟩ := I.pin p hp
      exact ⟨(hs.2 p.1 ne).trans e, n, ne, nf, d⟩
  · have hfn : X.fn x = true := by
      rcases hf with z | z
      · exact z
      · rw [z] at hk; cases hk
    obtain ⟨c, hc⟩ := I.ok.has x (.inl hk)
    obtain ⟨w', z⟩ := I.cell x c hc
    refine wpAny_storeName_cell I.ok.kind hk hc z (fun h' hc' hs => ?_)
    obtain ⟨oc, hoc, hocd⟩ := id z
    refine h { s with heap := h' } ⟨I.ok, I.os, I.bare, ⟨fun b o e n hb hx => ?_, fun b o e n hb hx => ?_, I.base.free, fun b o e hx => ?_, I.base.tups, I.base.frzs, I.base.tbls⟩, ⟨m, hn.sameBut hs (Ne.symm (cne x c hc)), fun j y v' e1 e2 e3 => ?_⟩, fun y c' e => ?_, I.free, I.freeC, fun p hp => ?_, tracked ⟨oc, hoc, I.freeC x c hc⟩ hs, by simpa using I.len⟩ ⟨c, hs, .inr hc⟩
    · exact (hs.2 b (Nat.ne_of_lt (Nat.lt_of_lt_of_le (Heap.lt_size e) (I.ok.cab x c hfn hc)))).trans (I.base.keep b o e n hb hx)
    · obtain ⟨sl, e1⟩ := I.base.slot b o e n hb hx
      exact ⟨sl, (hs.2 b (Nat.ne_of_lt (Nat.lt_of_lt_of_le (Heap.lt_size e) (I.ok.cab x c hfn hc)))).trans e1⟩
    · obtain ⟨o', e1⟩ := I.base.there b o e hx
      exact ⟨o', (hs.2 b (Nat.ne_of_lt (Nat.lt_of_lt_of_le (Heap.lt_size e) (I.ok.cab x c hfn hc)))).trans e1⟩
    · by_cases hj : j = i
      · subst hj
        rw [hi] at e1; cases e1
        rw [List.getElem?_set_self hiσ] at e2
        cases e2
        exact ⟨u, r, .inr ⟨.inl hk, c, hc, hc'⟩⟩
      · rw [List.getElem?_set_ne (Ne.symm hj)] at e2
        obtain ⟨u', r', q⟩ := hl j y v' e1 e2 e3
        refine ⟨u', r', ?_⟩
        rcases q with q | ⟨k, c', e, z'⟩
        · exact .inl q
        · refine .inr ⟨k, c', e, z'.sameBut hs ?_⟩
          rintro rfl
          exact hj (nodup_ix hN e1 (I.ok.inj _ _ _ e hc ▸ hi))
    · by_cases hcc : c' = c
      · subst hcc; exact ⟨_, hc'⟩
      · obtain ⟨w2, z2⟩ := I.cell y c' e
        exact ⟨w2, z2.sameBut hs hcc⟩
    · obtain ⟨e, n, ne, nf, d⟩ := I.pin p hp
      refine ⟨(hs.2 p.1 ?_).trans e, n, ne, nf, d⟩
      intro q
      rw [q, hoc] at e
      have q' : oc = p.2 := Option.some.inj e
      exact d w' (by rw [← q']; exact hocd)
theorem store_ok {M : Model} {A : Around} {E : Value → Shared → Prop} {i : Nat} {x : Str} {v : V} {u : Value} {Q : Unit → Shared → Prop} (I : Inv X pins σ H s) (hN : X.N.Nodup) (hi : X.N[i]? = some x) (hx : Loc X.env.scope x) (r : RelV v u)
    (h : ∀ s', Inv X pins (σ.set i (some v)) H s' → Q () s') (hf : X.fn x = true ∨ X.env.scope.names.lookup x = some .local := by first | exact .inl rfl | exact .inr rfl | assumption) : wpAny M A (storeName X.env x u) Q E s :=
  store_ok2 I hN hi hx r (fun s' I' _ => h s' I') hf
theorem Inv.call' {s' : Shared} {ch : List Addr} (I : Inv X pins σ H s) (ho : s'.os = s.os) (u : Un (frs X.stack) ch H H' s.heap s'.heap) (hok : HOk X.prog X.w H' s'.heap) (hg : AllBare s'.gens)
    (hch : ∀ b ∈ ch, (b ∈ X.ex ∨ X.s_0.heap.objs.size ≤ b) ∧ b ≠ X.env.locals ∧ (∀ x c, X.env.cells.lookup x = some c → c ≠ b) ∧ ∀ p ∈ X.pn ++ pins, p.1 ≠ b) : Inv X pins σ H' s' := by
  obtain ⟨h', g', d', t', o'⟩ := s'
  have e : o' = s.os := ho
  subst e
  exact I.call (g' := g') (t' := t') (d' := d') u hok hg hch
end
abbrev XK := Value → Option Addr → Hp → Prop
abbrev St := List (Option V)
abbrev VK := V → Hp → Prop
abbrev TE := St → Hp → VK → Prop
abbrev TT := St → Hp → (Bool → Hp → Prop) → Prop
abbrev TA := St → Hp → (List V → Hp → Prop) → Prop
structure Ends where
  nx : St → Hp → Prop
  rt : VK
  bk : St → Hp → Prop := fun _ _ => False
  ct : St → Hp → Prop := fun _ _ => False
abbrev TS := Ends → St → Hp → Prop
def EP (X : Cx) (pins : List (Addr × Obj)) (σ : St) (Q : VK) (u : Value) (s' : Shared) : Prop := ∃ v H', Inv X pins σ H' s' ∧ RelV v u ∧ Q v H'
def TP (X : Cx) (pins : List (Addr × Obj)) (σ : St) (Q : Bool → Hp → Prop) (b : Bool) (s' : Shared) : Prop := ∃ H', Inv X pins σ H' s' ∧ Q b H'
def AP (X : Cx) (pins : List (Addr × Obj)) (σ : St) (Q : List V → Hp → Prop) (us : List Value) (s' : Shared) : Prop := ∃ vs H', Inv X pins σ H' s' ∧ Vals vs us ∧ Q vs H'
def SP (X : Cx) (pins : List (Addr × Obj)) (D : Ends) (f : Flow) (s' : Shared) : Prop :=
  match f with
  | .next => ∃ σ' H', Inv X pins σ' H' s' ∧ D.nx σ' H'
  | .brk => ∃ σ' H', Inv X pins σ' H' s' ∧ D.bk σ' H'
  | .cont => ∃ σ' H', Inv X pins σ' H' s' ∧ D.ct σ' H'
  | .ret u => ∃ v σ' H', Inv X pins σ' H' s' ∧ RelV v u ∧ D.rt v H'
def PE (X : Cx) (e : Expr) (t : TE) : Prop :=
  ∀ (pins : List (Addr × Obj)) (s : Shared) (σ : St) (H : Hp) (Q : VK), Inv X pins σ H s → t σ H Q → wpAny (model X.prog X.w) X.A (eval e X.env) (EP X pins σ Q) X.xe s
def PT (X : Cx) (e : Expr) (t : TT) : Prop :=
  ∀ (pins : List (Addr × Obj)) (s : Shared) (σ : St) (H : Hp) (Q : Bool → Hp → Prop), Inv X pins σ H s → t σ H Q → wpAny (model X.prog X.w) X.A (isTrue e X.env (eval e X.env)) (TP X pins σ Q) X.xe s
def PW (X : Cx) (e : Expr) (t : TT) : Prop :=
  ∀ (whole : Sem Value) (pins : List (Addr × Obj)) (s : Shared) (σ : St) (H : Hp) (Q : Bool → Hp → Prop), Inv X pins σ H s → t σ H Q → wpAny (model X.prog X.w) X.A (isTrue e X.env whole) (TP X pins σ Q) X.xe s
theorem PW.pt {X : Cx} {e : Expr} {t : TT} (h : PW X e t) : PT X e t := h _
def PA (X : Cx) (es : List Expr) (t : TA) : Prop :=
  ∀ (pos : Pos) (pins : List (Addr × Obj)) (s : Shared) (σ : St) (H : Hp) (Q : List V → Hp → Prop), Inv X pins σ H s → t σ H Q → wpAny (model X.prog X.w) X.A (spliced (backTo pos (starEach es X.env))) (AP X pins σ Q) X.xe s
def PS (X : Cx) (st : Stmt) (t : TS) : Prop :=
  ∀ (pins : List (Addr × Obj)) (s : Shared) (σ : St) (H : Hp) (D : Ends), Inv X pins σ H s → t D σ H → wpAny (model X.prog X.w) X.A (exec st X.env) (SP X pins D) X.xe s
def PSs (X : Cx) (st : List Stmt) (t : TS) : Prop :=
  ∀ (pins : List (Addr × Obj)) (s : Shared) (σ : St) (H : Hp) (D : Ends), Inv X pins σ H s → t D σ H → wpAny (model X.prog X.w) X.A (execs st X.env) (SP X pins D) X.xe s
theorem thn {α : Type} {t : Sem α} {Q Q' : α → Shared → Prop} {M : Model} {A : Around} {E : Value → Shared → Prop} {s : Shared} (h : wpAny M A t Q E s) (hQ : ∀ a s, Q a s → Q' a s) : wpAny M A t Q' E s := wpAny_mono h hQ fun _ _ x => x
end L2
namespace L2
open PySem PySem.Spec PyProof.Rows
section
variable {X : Cx}
def tVar (i : Nat) : TE := fun σ H Q => ∃ v, σ[i]? = some (some v) ∧ Q v H
def tC (v : V) : TE := fun _ H Q => Q v H
theorem pe_var {i : Nat} {x : Str} {pos : Pos} (hN : X.N[i]? = some x) (hv : Vis X.env.scope x) (hd : (x == ("__debug__" : Str)) = false := by decide) (hcd : (x == ("__classdict__" : Str)) = false := by decide) : PE X (.Name x pos) (tVar i) := by
  intro pins s σ H Q I h
  obtain ⟨v, e, h⟩ := h
  obtain ⟨m, hn, hl⟩ := I.loc
  obtain ⟨u, r, l⟩ := hl i x v hN e hv
  have fin : EP X pins σ Q u s := ⟨v, H, I, r, h⟩
  rcases l with ⟨hk, hm⟩ | ⟨hk, c, hc, hcell⟩
  · exact wpAny_Name (wpAny_loadName_local I.ok.kind hk hn hm fin) hd
  · rcases hk with hk | hk
    · exact wpAny_Name (wpAny_loadName_cell I.ok.kind hk hc hcell fin) hd
    · exact wpAny_Name (wpAny_loadName_free I.ok.kind hk hc hcell fin hcd) hd
theorem pe_int {i j pos} : PE X (.Constant (.int i) j pos) (tC (.int i)) := fun _ _ _ H _ I h => wpAny_Constant_int ⟨.int i, H, I.tok _, ⟨_, rfl⟩, h⟩
theorem pe_bl {b j pos} : PE X (.Constant (.bool b) j pos) (tC (.bl b)) := fun _ _ _ H _ I h => Constant_bool ⟨.bl b, H, I, rfl, h⟩
theorem pe_non {j pos} : PE X (.Constant .none j pos) (tC .non) := fun _ _ _ H _ I h => Constant_none ⟨.non, H, I, rfl, h⟩
theorem pe_str {x j pos} : PE X (.Constant (.str x) j pos) (tC (.str x)) := fun _ _ _ H _ I h => Calls.Constant_str ⟨.str x, H, I.tok _, ⟨_, rfl⟩, h⟩
def Gl (X : Cx) (x : Str) : Prop := X.env.kindOf x = some .globalImplicit
theorem ld_glob {E : Value → Shared → Prop} {pins : List (Addr × Obj)} {s : Shared} {σ : St} {H : Hp} {x : Str} {u : Value} {pos : Pos} {Q : Value → Shared → Prop} (I : Inv X pins σ H s) (hg : Gl X x) (hm : X.mg x = some u) (h : Q u s)
    (hd : (x == ("__debug__" : Str)) = false := by decide) : wpAny (model X.prog X.w) X.A (eval (.Name x pos) X.env) Q E s :=
  Calls.Name_function_global I.ok.kind hg (Calls.loadGlobal_global (by rw [I.ok.glob]; exact I.mod.glob.keeps I.bk) hm h) hd
theorem ld_blt {E : Value → Shared → Prop} {pins : List (Addr × Obj)} {s : Shared} {σ : St} {H : Hp} {x : Str} {u : Value} {pos : Pos} {Q : Value → Shared → Prop} (I : Inv X pins σ H s) (hg : Gl X x) (hm : X.mg x = none) (hv : bootBuiltins x = some u) (h : Q u s)
    (hn : x ≠ "__name__" := by decide) (hd : (x == ("__debug__" : Str)) = false := by decide) : wpAny (model X.prog X.w) X.A (eval (.Name x pos) X.env) Q E s := by
  obtain ⟨mb, h1, h2⟩ := I.mod.blt
  exact Calls.Name_function_global I.ok.kind hg (Calls.loadGlobal_builtin (by rw [I.ok.glob]; exact I.mod.glob.keeps I.bk) hm (by rw [I.ok.blt]; exact h1.keeps I.bk) ((h2 x hn).trans hv) h) hd
theorem pe_glob {x : Str} {v : V} {u : Value} {pos : Pos} (hg : Gl X x) (hm : X.mg x = some u) (r : RelV v u) (hd : (x == ("__debug__" : Str)) = false := by decide) : PE X (.Name x pos) (tC v) :=
  fun _ _ _ H _ I h => ld_glob I hg hm ⟨v, H, I, r, h⟩ hd
theorem pe_bltn {x : Str} {v : V} {u : Value} {pos : Pos} (hg : Gl X x) (hm : X.mg x = none) (hv : bootBuiltins x = some u) (r : RelV v u) (hn : x ≠ "__name__" := by decide) (hd : (x == ("__debug__" : Str)) = false := by decide) : PE X (.Name x pos) (tC v) :=
  fun _ _ _ H _ I h => ld_blt I hg hm hv ⟨v, H, I, r, h⟩ hn hd
variable {a b : Expr} {ta tb : TE} {pos : Pos}
def tB (t : TE) : TT := fun σ H Q => t σ H fun x H1 => ∃ c, x = .bl c ∧ Q c H1
theorem pt_val {e : Expr} {t : TE} (h : PE X e t) (he : ∀ whole, isTrue e X.env whole = (do let v ← whole; standAt e.pos; holding [v] (truthy v)) := by intro _; rfl) : PT X e (tB t) := by
  intro pins s σ H Q I hw
  refine isTrue_plain (thn (h pins s σ H _ I hw) fun v s1 ⟨x, H1, I1, r1, q1⟩ => ?_) (he _)
  obtain ⟨d, rfl, q⟩ := q1
  cases r1
  exact wpAny_truthy_bool ⟨H1, I1, q⟩
variable {tA tB' : TT} {rest : List Expr}
def tAnd (t u : TT) : TT := fun σ H Q => t σ H fun c H1 => if c = true then u σ H1 Q else Q false H1
def tOr (t u : TT) : TT := fun σ H Q => t σ H fun c H1 => if c = true then Q true H1 else u σ H1 Q
def tNot (t : TT) : TT := fun σ H Q => t σ H fun c H1 => Q (!c) H1
theorem pw_and1 (ha : PT X a tA) : PW X (.BoolOp .And [a] pos) tA := by
  intro wh pins s σ H Q I h
  refine isTrue_and (thn (ha pins s σ H Q I h) fun c s1 e => ?_)
  cases c with
  | true => exact isTrue_and_nil e
  | false => exact e
theorem pw_or1 (ha : PT X a tA) : PW X (.BoolOp .Or [a] pos) tA := by
  intro wh pins s σ H Q I h
  refine isTrue_or (thn (ha pins s σ H Q I h) fun c s1 e => ?_)
  cases c with
  | false => exact isTrue_or_nil e
  | true => exact e
theorem pw_and (ha : PT X a tA) (hb : PW X (.BoolOp .And (b :: rest) pos) tB') : PW X (.BoolOp .And (a :: b :: rest) pos) (tAnd tA tB') := by
  intro wh pins s σ H Q I h
  refine isTrue_and (thn (ha pins s σ H _ I h) fun c s1 ⟨H1, I1, q1⟩ => ?_)
  cases c with
  | true => exact hb wh pins s1 σ H1 Q I1 q1
  | false => exact ⟨H1, I1, q1⟩
theorem pw_or (ha : PT X a tA) (hb : PW X (.BoolOp .Or (b :: rest) pos) tB') : PW X (.BoolOp .Or (a :: b :: rest) pos) (tOr tA tB') := by
  intro wh pins s σ H Q I h
  refine isTrue_or (thn (ha pins s σ H _ I h) fun c s1 ⟨H1, I1, q1⟩ => ?_)
  cases c with
  | true => exact ⟨H1, I1, q1⟩
  | false => exact hb wh pins s1 σ H1 Q I1 q1
theorem pt_not (ha : PT X a tA) : PT X (.UnaryOp .Not a pos) (tNot tA) := by
  intro pins s σ H Q I h
  exact isTrue_not (ha pins s σ H (fun c H1 => Q (!c) H1) I h)
def tAndV (ta tb : TE) : TE := fun σ H Q => ta σ H fun x H1 => ∃ c, x = .bl c ∧ if c = true then tb σ H1 Q else Q (.bl false) H1
def tNotV (ta : TE) : TE := fun σ H Q => ta σ H fun x H1 => ∃ c, x = .bl c ∧ Q (.bl (!c)) H1
theorem pe_one {op} {t : TE} (h : PE X a t) : PE X (.BoolOp op [a] pos) t := fun pins s σ H Q I hw => BoolOp_one (h pins s σ H Q I hw)
theorem pe_and (ha : PE X a ta) (hb : PE X (.BoolOp .And (b :: rest) pos) tb) : PE X (.BoolOp .And (a :: b :: rest) pos) (tAndV ta tb) := by
  intro pins s σ H Q I h
  refine BoolOp_and (thn (ha pins s σ H _ I h) fun v s1 ⟨x, H1, I1, r1, q1⟩ => ?_)
  obtain ⟨c, rfl, q1⟩ := q1
  cases r1
  refine wpAny_truthy_bool ?_
  cases c with
  | true => exact hb pins s1 σ H1 Q I1 q1
  | false => exact ⟨.bl false, H1, I1, rfl, q1⟩
theorem pe_not (ha : PE X a ta) : PE X (.UnaryOp .Not a pos) (tNotV ta) := by
  intro pins s σ H Q I h
  refine UnaryOp_ (thn (ha pins s σ H _ I h) fun v s1 ⟨x, H1, I1, r1, q1⟩ => ?_)
  obtain ⟨c, rfl, q1⟩ := q1
  cases r1
  exact not_of (wpAny_truthy_bool ⟨.bl (!c), H1, I1, rfl, q1⟩)
end
end L2
namespace L2
open PySem PySem.Spec PyProof.Rows
def SqL (K : PySem.W.Frag) (H : Hp) (a : Addr) (xs : List V) : Prop :=
  Rd H a (.lst xs) ∨
    ∃ (o : Obj) (its : Array Value) (n : Nat), K.lookup a = some o ∧ o.cls = .type "list" ∧ o.dict = none ∧ o.data = .seq its n ∧ its.size ≤ sizeLine ∧ Vals xs its.toList
def SqT (K : PySem.W.Frag) (H : Hp) (a : Addr) (xs : List V) : Prop :=
  Rd H a (.tup xs) ∨
    ∃ (o : Obj) (its : Array Value) (n : Nat), K.lookup a = some o ∧ o.cls = .type "tuple" ∧ o.data = .seq its n ∧ its.size ≤ sizeLine ∧ Vals xs its.toList
def absV : Value → Option V
  | .none => some .non
  | .bool b => some (.bl b)
  | .int i _ => some (.int i)
  | .str x _ => some (.str x)
  | .bytes b _ => some (.byt b)
  | .float b _ => some (.flt b)
  | .ref a => some (.ref a)
  | .type n => some (.ty n)
  | _ => none
theorem RelV.abs {x : V} {u : Value} (r : RelV x u) : absV u = some x := by
  cases x with
  | non => cases r; rfl
  | bl _ => cases r; rfl
  | int _ => obtain ⟨t, rfl⟩ := r; rfl
  | str _ => obtain ⟨t, rfl⟩ := r; rfl
  | byt _ => obtain ⟨t, rfl⟩ := r; rfl
  | flt _ => obtain ⟨t, rfl⟩ := r; rfl
  | ref _ => cases r; rfl
  | ty _ => cases r; rfl
theorem RelV.inj {x y : V} {u : Value} (r : RelV x u) (q : RelV y u) : x = y := Option.some.inj (r.abs.symm.trans q.abs)
theorem Vals.inj : ∀ {xs ys : List V} {us : List Value}, Vals xs us → Vals ys us → xs = ys
  | _, _, _, .nil, .nil => rfl
  | _, _, _, .cons r t, .cons r' t' => by rw [r.inj r', Vals.inj t t']
section
variable {X : Cx} {pins : List (Addr × Obj)} {σ : St} {H : Hp} {s : Shared} {a : Addr} {xs ys : List V}
theorem SqL.of {K : PySem.W.Frag} (h : H a = some (.lst xs)) : SqL K H a xs := .inl (.inl h)
theorem SqT.of {K : PySem.W.Frag} (h : H a = some (.tup xs)) : SqT K H a xs := .inl (.inl h)
theorem Inv.list (I : Inv X pins σ H s) (h : SqL X.K H a xs) : ∃ its : List Value, Vals xs its ∧ PlainL s.heap a its.toArray ∧ xs.length ≤ sizeLine := by
  rcases h with h | ⟨o, its, n, hk, hc, hd, hs, hz, r⟩
  · obtain ⟨z, its, n, r, e⟩ := h.ok I.hok
    exact ⟨its, r, ⟨_, n, e, rfl, rfl, rfl⟩, z⟩
  · refine ⟨its.toList, r, ⟨o, n, I.kIn a o hk, hc, hd, by simpa using hs⟩, ?_⟩
    have e := r.length
    simp only [Array.length_toList] at e
    omega
theorem Inv.tuple (I : Inv X pins σ H s) (h : SqT X.K H a xs) : ∃ its : List Value, Vals xs its ∧ IsTup s.heap a its.toArray ∧ xs.length ≤ sizeLine := by
  rcases h with h | ⟨o, its, n, hk, hc, hs, hz, r⟩
  · obtain ⟨z, its, r, p⟩ := h.ok I.hok
    exact ⟨its, r, p, z⟩
  · refine ⟨its.toList, r, ⟨o, I.kIn a o hk, hc, n, by simpa using hs⟩, ?_⟩
    have e := r.length
    simp only [Array.length_toList] at e
    omega
theorem Inv.list_inj (I : Inv X pins σ H s) (h : SqL X.K H a xs) (h' : SqL X.K H a ys) : xs = ys := by
  obtain ⟨its, r, ⟨o, n, e, _, _, d⟩, _⟩ := I.list h
  obtain ⟨its', r', ⟨o', n', e', _, _, d'⟩, _⟩ := I.list h'
  rw [e] at e'; cases e'
  rw [d] at d'
  injection d' with d1 _
  have : its = its' := by simpa using congrArg Array.toList d1
  subst this
  exact r.inj r'
theorem Inv.tuple_inj (I : Inv X pins σ H s) (h : SqT X.K H a xs) (h' : SqT X.K H a ys) : xs = ys := by
  obtain ⟨its, r, ⟨o, e, _, n, d⟩, _⟩ := I.tuple h
  obtain ⟨its', r', ⟨o', e', _, n', d'⟩, _⟩ := I.tuple h'
  rw [e] at e'; cases e'
  rw [d] at d'
  injection d' with d1 _
  have : its = its' := by simpa using congrArg Array.toList d1
  subst this
  exact r.inj r'
end
abbrev Cx.wish (X : Cx) (E : Value → Shared → Prop) : Cx := { X with xe := E }
abbrev Cx.nox (X : Cx) : Cx := X.wish fun _ _ => False
theorem Cx.Ok.wish {X : Cx} (ok : X.Ok) (E : Value → Shared → Prop) : (X.wish E).Ok :=
  ⟨ok.mod, ok.kind, ok.glob, ok.blt, ok.above, ok.inj, ok.has, ok.cab, ok.hd, ok.frames, ok.stk, ok.exf, ok.bs, ok.bsz, ok.noex, ok.exfs, ok.funs, ok.frf⟩
theorem Cx.Ok.unwish {X : Cx} {E : Value → Shared → Prop} (ok : (X.wish E).Ok) : X.Ok :=
  ⟨ok.mod, ok.kind, ok.glob, ok.blt, ok.above, ok.inj, ok.has, ok.cab, ok.hd, ok.frames, ok.stk, ok.exf, ok.bs, ok.bsz, ok.noex, ok.exfs, ok.funs, ok.frf⟩
section
variable {X : Cx} {pins : List (Addr × Obj)} {σ : St} {H : Hp} {s : Shared} {E : Value → Shared → Prop}
theorem Inv.wish (I : Inv X pins σ H s) (E : Value → Shared → Prop) : Inv (X.wish E) pins σ H s := ⟨I.ok.wish E, I.os, I.bare, I.base, I.loc, I.cell, I.free, I.freeC, I.pin, I.hok, I.len⟩
theorem Inv.unwish (I : Inv (X.wish E) pins σ H s) : Inv X pins σ H s := ⟨I.ok.unwish, I.os, I.bare, I.base, I.loc, I.cell, I.free, I.freeC, I.pin, I.hok, I.len⟩
theorem SP.unwish {D : Ends} {f : Flow} {s' : Shared} (h : SP (X.wish E) pins D f s') : SP X pins D f s' := by
  cases f with
  | next => obtain ⟨σ', H', I, q⟩ := h; exact ⟨σ', H', I.unwish, q⟩
  | brk => obtain ⟨σ', H', I, q⟩ := h; exact ⟨σ', H', I.unwish, q⟩
  | cont => obtain ⟨σ', H', I, q⟩ := h; exact ⟨σ', H', I.unwish, q⟩
  | ret u => obtain ⟨v, σ', H', I, r, q⟩ := h; exact ⟨v, σ', H', I.unwish, r, q⟩
theorem PE.nox {e : Expr} {t : TE} (h : PE X.nox e t) : PE X e t := fun pins s σ H Q I hw =>
  wpAny_mono (h pins s σ H Q (I.wish _) hw) (fun _ _ ⟨v, H', I', r, q⟩ => ⟨v, H', I'.unwish, r, q⟩) fun _ _ z => False.elim z
theorem PT.nox {e : Expr} {t : TT} (h : PT X.nox e t) : PT X e t := fun pins s σ H Q I hw =>
  wpAny_mono (h pins s σ H Q (I.wish _) hw) (fun _ _ ⟨H', I', q⟩ => ⟨H', I'.unwish, q⟩) fun _ _ z => False.elim z
theorem PSs.nox {st : List Stmt} {t : TS} (h : PSs X.nox st t) : PSs X st t := fun pins s σ H D I hw =>
  wpAny_mono (h pins s σ H D (I.wish _) hw) (fun _ _ q => q.unwish) fun _ _ z => False.elim z
end
section
variable {X : Cx} {st : Stmt} {rest : List Stmt} {t u : TS} {e : Expr} {te : TE} {pos : Pos}
def tNext : TS := fun D σ H => D.nx σ H
def tSeq (t u : TS) : TS := fun D σ H => t { D with nx := u D } σ H
theorem pss_nil : PSs X [] tNext := fun _ _ σ H _ I h => wpAny_execs_nil ⟨σ, H, I, h⟩
theorem pss_cons (h1 : PS X st t) (h2 : PSs X rest u) : PSs X (st :: rest) (tSeq t u) := by
  intro pins s σ H D I h
  refine wpAny_execs_cons (thn (h1 pins s σ H { D with nx := u D } I h) fun f s1 q => ?_)
  cases f with
  | next =>
    obtain ⟨σ', H', I', q⟩ := q
    exact h2 pins s1 σ' H' D I' q
  | ret v => exact q
  | brk => exact q
  | cont => exact q
theorem pss_one (h1 : PS X st t) : PSs X [st] t := by
  intro pins s σ H D I h
  refine wpAny_execs_cons (thn (h1 pins s σ H D I h) fun f s1 q => ?_)
  cases f with
  | next => exact wpAny_execs_nil q
  | ret v => exact q
  | brk => exact q
  | cont => exact q
theorem Inv.quiet {pins : List (Addr × Obj)} {σ : St} {H : Hp} {s : Shared} (I : Inv X pins σ H s) : interactive X.env = false := by simp [interactive, I.ok.kind]
def tDrop (te : TE) : TS := fun D σ H => te σ H fun _ H1 => D.nx σ H1
theorem ps_expr (he : PE X e te) (hs : swapsWith e none pos.line X.env = pure false := by rfl) : PS X (.Expr e pos) (tDrop te) := by
  intro pins s σ H D I h
  exact wpAny_Expr_any (thn (he pins s σ H _ I h) fun v s1 ⟨x, H1, I1, r1, q1⟩ => ⟨σ, H1, I1, q1⟩) I.quiet hs
def tRet (te : TE) : TS := fun D σ H => te σ H D.rt
theorem ps_ret (he : PE X e te) : PS X (.Return (some e) pos) (tRet te) := by
  intro pins s σ H D I h
  exact wpAny_Return_some (thn (he pins s σ H _ I h) fun v s1 ⟨x, H1, I1, r1, q1⟩ => ⟨x, σ, H1, I1, r1, q1⟩)
def tIfS (c : TT) (t u : TS) : TS := fun D σ H => c σ H fun b H1 => if b = true then t D σ H1 else u D σ H1
theorem ps_if {c : Expr} {a b : List Stmt} {tc : TT} (hc : PT X c tc) (ha : PSs X a t) (hb : PSs X b u) : PS X (.If c a b pos) (tIfS tc t u) := by
  intro pins s σ H D I h
  refine wpAny_If (thn (hc pins s σ H _ I h) fun d s1 ⟨H1, I1, q1⟩ => ?_)
  cases d with
  | true => exact ha pins s1 σ H1 D I1 q1
  | false => exact hb pins s1 σ H1 D I1 q1
end
abbrev TG := V → St → Hp → (St → Hp → Prop) → Prop
abbrev TGs := List V → St → Hp → (St → Hp → Prop) → Prop
def PG (X : Cx) (target : Expr) (t : TG) : Prop :=
  ∀ (pins : List (Addr × Obj)) (s : Shared) (σ : St) (H : Hp) (v : V) (u : Value) (Q : St → Hp → Prop), Inv X pins σ H s → RelV v u → t v σ H Q →
    wpAny (model X.prog X.w) X.A (assign target X.env u) (fun _ s' => ∃ σ' H', Inv X pins σ' H' s' ∧ Q σ' H') X.xe s
def PGs (X : Cx) (ts : List Expr) (t : TGs) : Prop :=
  ∀ (pins : List (Addr × Obj)) (s : Shared) (σ : St) (H : Hp) (vs : List V) (us : List Value) (Q : St → Hp → Prop), Inv X pins σ H s → Vals vs us → t vs σ H Q →
    wpAny (model X.prog X.w) X.A (assignInOrder ((assignEach ts X.env).map (·.2)) us) (fun _ s' => ∃ σ' H', Inv X pins σ' H' s' ∧ Q σ' H') X.xe s
abbrev TSet := V → V → V → Hp → (Hp → Prop) → Prop
def PSet (X : Cx) (t : TSet) : Prop :=
  ∀ (pins : List (Addr × Obj)) (s : Shared) (σ : St) (H : Hp) (o i v : V) (ov iv u : Value) (Q : Hp → Prop), Inv X pins σ H s → RelV o ov → RelV i iv → RelV v u → t o i v H Q →
    wpAny (model X.prog X.w) X.A (setItem ov iv u) (fun _ s' => ∃ H', Inv X pins σ H' s' ∧ Q H') X.xe s
section
variable {X : Cx} {pos : Pos}
def gName (i : Nat) : TG := fun v σ H Q => Q (σ.set i (some v)) H
theorem pg_name {i : Nat} {x : Str} (hN : X.N.Nodup) (hi : X.N[i]? = some x) (hx : Loc X.env.scope x) (hf : X.fn x = true ∨ X.env.scope.names.lookup x = some .local := by first | exact .inl rfl | exact .inr rfl | assumption) : PG X (.Name x pos) (gName i) := by
  intro pins s σ H v u Q I r h
  exact wpAny_assign_Name (store_ok I hN hi hx r (fun s' I' => ⟨_, H, I', h⟩) hf)
def gNil : TGs := fun vs σ H Q => vs = [] ∧ Q σ H
def gCons (t : TG) (u : TGs) : TGs := fun vs σ H Q => ∃ v r, vs = v :: r ∧ t v σ H fun σ' H' => u r σ' H' Q
theorem pgs_nil : PGs X [] gNil := by
  intro pins s σ H vs us Q I r h
  obtain ⟨e, h⟩ := h
  subst e
  cases r
  exact assignInOrder_nil ⟨σ, H, I, h⟩
theorem pgs_cons {e : Expr} {es : List Expr} {t : TG} {u : TGs} (h1 : PG X e t) (h2 : PGs X es u)
    (hs : (assignEach (e :: es) X.env).map (·.2) = assign e X.env :: (assignEach es X.env).map (·.2) := by rfl) : PGs X (e :: es) (gCons t u) := by
  intro pins s σ H vs us Q I r h
  obtain ⟨v, vr, e1, h⟩ := h
  subst e1
  cases r with
  | cons r rr =>
    rw [hs]
    refine assignInOrder_cons (thn (h1 pins s σ H _ _ _ I r h) fun _ s1 ⟨σ1, H1, I1, q1⟩ => ?_)
    exact h2 pins s1 σ1 H1 _ _ Q I1 rr q1
def gTup (K : PySem.W.Frag) (n : Nat) (t : TGs) : TG := fun v σ H Q => ∃ a xs, v = .ref a ∧ SqT K H a xs ∧ xs.length = n ∧ t xs σ H Q
theorem pg_tup {es : List Expr} {k : Nat} {t : TGs} {n : Nat} (hc : X.calm = true) (h : PGs X es t)
    (hn : (assignEach es X.env).length = n := by rfl) (hst : (assignEach es X.env).findIdx? (·.1) = none := by rfl) : PG X (.Tuple es k pos) (gTup X.K n t) := by
  intro pins s σ H v u Q I r hw
  obtain ⟨a, xs, e1, hq, hl, hw⟩ := hw
  subst e1
  cases r
  obtain ⟨its, rv, ht, hz⟩ := I.tuple hq
  refine assign_Tuple_tuple (I.ok.hd hc) ht (by simp [hn, ← hl, rv.length]) hst fun h' hx => ?_
  have I1 : Inv X pins σ H { s with heap := h' } := I.kept (t' := s.toks) fun b o e => hx b o (Nat.ne_of_lt (Heap.lt_size e)) e
  exact h pins _ σ H xs _ Q I1 (by simpa using rv) hw
def gSub (to ti : TE) (t : TSet) : TG := fun v σ H Q => to σ H fun o H1 => ti σ H1 fun i H2 => t o i v H2 fun H3 => Q σ H3
theorem pg_sub {o i : Expr} {to ti : TE} {t : TSet} (ho : PE X o to) (hi : PE X i ti) (hs : PSet X t)
    (ha : ∀ v, assign (.Subscript o i pos) X.env v = (do
      let ov ← holding [v] (eval o X.env)
      let iv ← holding [v, ov] (eval i X.env)
      standAt pos
      holding [v, ov, iv] (setItem ov iv v)
      release [v, ov, iv] []) := by intro _; rfl) : PG X (.Subscript o i pos) (gSub to ti t) := by
  intro pins s σ H v u Q I r h
  rw [ha]
  refine wpAny_bind (wpAny_holding (thn (ho pins s σ H _ I h) fun ov s1 ⟨x, H1, I1, r1, q1⟩ => ?_))
  refine wpAny_bind (wpAny_holding (thn (hi pins s1 σ H1 _ I1 q1) fun iv s2 ⟨y, H2, I2, r2, q2⟩ => ?_))
  refine wpAny_bind (wpAny_standAt (wpAny_bind (wpAny_holding (thn (hs pins s2 σ H2 x y v ov iv u _ I2 r1 r2 r q2) fun _ s3 ⟨H3, I3, q3⟩ => ?_))))
  exact wpAny_release ⟨σ, H3, I3, q3⟩
def tAsg (te : TE) (g : TG) : TS := fun D σ H => te σ H fun x H1 => g x σ H1 D.nx
theorem ps_asg {tg e : Expr} {te : TE} {g : TG} (he : PE X e te) (hg : PG X tg g) (hs : swapsWithSole [tg] e pos.line X.env = pure false := by rfl) (hw : swappedStores [tg] e X.env = pure none := by rfl)
    (h1 : (assignEach [tg] X.env).map (·.2) = [assign tg X.env] := by rfl) : PS X (.Assign [tg] e pos) (tAsg te g) := by
  intro pins s σ H D I h
  refine wpAny_Assign_stores (thn (he pins s σ H _ I h) fun v s1 ⟨x, H1, I1, r1, q1⟩ => ?_) hs hw
  rw [h1]
  exact thn (hg pins s1 σ H1 x v _ I1 r1 q1) fun _ s2 q => q
theorem ps_set {i : Nat} {x : Str} {e : Expr} {te : TE} {pos' : Pos} (hN : X.N.Nodup) (hi : X.N[i]? = some x) (hx : Loc X.env.scope x) (he : PE X e te) (hs : swapsWith e (some (.Name x pos')) pos.line X.env = pure false := by rfl) (hf : X.fn x = true ∨ X.env.scope.names.lookup x = some .local := by first | exact .inl rfl | exact .inr rfl | assumption) :
    PS X (.Assign [.Name x pos'] e pos) (tAsg te (gName i)) := by
  intro pins s σ H D I h
  refine wpAny_Assign_Name (thn (he pins s σ H _ I h) fun v s1 ⟨y, H1, I1, r1, q1⟩ => ?_) hs
  exact store_ok I1 hN hi hx r1 (fun s2 I2 => ⟨_, H1, I2, q1⟩) hf
end
section
variable {X : Cx} {pos : Pos}
end
structure It where
  go : Nat → Hp → Prop
  yld : Nat → Hp → V → Hp → Prop
  stop : Nat → Hp → Prop
def FpOk (X : Cx) (pins : List (Addr × Obj)) (H : Hp) (b : Addr) : Prop :=
  H b = none ∧ b ≠ X.env.locals ∧ b ∉ X.fs ∧ (b ∈ X.ex ∨ X.s_0.heap.objs.size ≤ b) ∧ (∀ x c, X.env.cells.lookup x = some c → c ≠ b) ∧ ∀ p ∈ X.pn ++ pins, p.1 ≠ b
theorem Inv.fpOk {X : Cx} {pins : List (Addr × Obj)} {σ : St} {H H' : Hp} {s : Shared} {b : Addr} (I : Inv X pins σ H s) (hb : s.heap.objs.size ≤ b) (hn : H' b = none) : FpOk X pins H' b := by
  refine ⟨hn, Nat.ne_of_gt (Nat.lt_of_lt_of_le I.lt hb), I.nofs hb, .inr (Nat.le_trans I.sz hb), fun x c e z => ?_, fun p hp z => ?_⟩
  · obtain ⟨v, q⟩ := I.cell x c e
    exact absurd (Nat.lt_of_lt_of_le q.lt (by rw [z]; exact hb)) (Nat.lt_irrefl _)
  · exact absurd (Nat.lt_of_lt_of_le (Heap.lt_size (I.pin p hp).1) (by rw [z]; exact hb)) (Nat.lt_irrefl _)
structure Turn (P : Program) (w : World) (K : PySem.W.Frag) (tg : Expr) (J : It) (fp : List Addr) (it : Addr) (tn : Nat → Heap → Prop) : Prop where
  mem : it ∈ fp
  obj : ∀ i h, tn i h → ∀ b ∈ fp, ∃ o, h.get? b = some o ∧ ∀ v, o.data ≠ .cell v
  keep : ∀ i h h', tn i h → (∀ b ∈ fp, ∀ o, h.get? b = some o → h'.get? b = some o) → tn i h'
  item : ∀ (X : Cx), X.prog = P → X.w = w → X.K = K → X.calm = true → ∀ (i : Nat) (pins : List (Addr × Obj)) (s : Shared) (σ : St) (H : Hp) (E : Value → Shared → Prop), Inv X pins σ H s → (∀ b ∈ fp, FpOk X pins H b) → tn i s.heap → J.go i H →
    wpAny (model P w) X.A (pyNext (.ref it)) (fun r s1 => ∃ u, r = some u ∧
      wpAny (model P w) X.A (letOwnedTupleGo tg (.ref it) u) (fun _ s2 => ∃ x H', Inv X pins σ H' s2 ∧ RelV x u ∧ J.yld i H x H' ∧ tn (i + 1) s2.heap ∧ ∀ b ∈ fp, H' b = none) E s1) E s
  done : ∀ (X : Cx), X.prog = P → X.w = w → X.K = K → X.calm = true → ∀ (i : Nat) (pins : List (Addr × Obj)) (s : Shared) (σ : St) (H : Hp) (E : Value → Shared → Prop), Inv X pins σ H s → (∀ b ∈ fp, FpOk X pins H b) → tn i s.heap → J.stop i H →
    wpAny (model P w) X.A (pyNext (.ref it)) (fun r s1 => r = none ∧ Inv X pins σ H s1) E s
  self : ∀ (A : Around) (i : Nat) (s : Shared) (Q : Value → Shared → Prop) (E : Value → Shared → Prop), tn i s.heap → Q (.ref it) s → wpAny (model P w) A (pyIter (.ref it)) Q E s
abbrev TI := St → Hp → (It → Hp → Prop) → Prop
def PIE (X : Cx) (pins : List (Addr × Obj)) (σ : St) (tg : Expr) (R : It → Hp → Prop) (itv : Value) (s2 : Shared) : Prop :=
  ∃ (it : Addr) (fp : List Addr) (tn : Nat → Heap → Prop) (J : It) (H' : Hp), itv = .ref it ∧ Inv X pins σ H' s2 ∧ Turn X.prog X.w X.K tg J fp it tn ∧ tn 0 s2.heap ∧ (∀ b ∈ fp, FpOk X pins H' b) ∧ R J H'
def PI (X : Cx) (tg iter : Expr) (wi : TI) : Prop :=
  ∀ (pins : List (Addr × Obj)) (s : Shared) (σ : St) (H : Hp) (R : It → Hp → Prop), Inv X pins σ H s → wi σ H R →
    wpAny (model X.prog X.w) X.A (eval iter X.env) (fun v s1 => wpAny (model X.prog X.w) X.A (pyIter v) (PIE X pins σ tg R) X.xe s1) X.xe s
theorem go_of {M : Model} {A : Around} {E : Value → Shared → Prop} {s : Shared} {tg : Expr} {it : Addr} {u : Value} {o : Obj} {n : String} {vs : Array Value} {Q : Unit → Shared → Prop} (ho : s.heap.get? it = some o) (hc : o.cls = .type n) (hd : o.data = .fields vs)
    (hn : ["enumerate", "zip", "dict_itemiterator", "dict_reverseitemiterator", "odict_iterator", "itertools.zip_longest", "itertools.pairwise"].contains n = false) (hQ : Q () s) : wpAny M A (letOwnedTupleGo tg (.ref it) u) Q E s := by
  unfold letOwnedTupleGo
  cases tg <;> first
    | exact wpAny_pure hQ
    | (cases u <;> first
        | exact wpAny_pure hQ
        | (refine wpAny_bind (wpAny_load ho ?_)
           rw [hc, hd]
           show wpAny M A (if (["enumerate", "zip", "dict_itemiterator", "dict_reverseitemiterator", "odict_iterator", "itertools.zip_longest", "itertools.pairwise"].contains n && vs[0]? == some (rawInt _)) = true then _ else _) Q E s
           rw [if_neg (by intro h; rw [hn, Bool.false_and] at h; cases h)]
           exact wpAny_pure hQ))
def Itl (K : PySem.W.Frag) (a : Addr) : It :=
  ⟨fun i H => ∃ xs x, SqL K H a xs ∧ xs[i]? = some x, fun i H x H' => H' = H ∧ ∀ xs, SqL K H a xs → xs[i]? = some x, fun i H => ∃ xs, SqL K H a xs ∧ xs.length ≤ i⟩
def Itt (K : PySem.W.Frag) (a : Addr) : It :=
  ⟨fun i H => ∃ xs x, SqT K H a xs ∧ xs[i]? = some x, fun i H x H' => H' = H ∧ ∀ xs, SqT K H a xs → xs[i]? = some x, fun i H => ∃ xs, SqT K H a xs ∧ xs.length ≤ i⟩
def Itr (lo : Int) (n : Nat) : It := ⟨fun i _ => i < n, fun i H x H' => H' = H ∧ x = .int (lo + i), fun i _ => n ≤ i⟩
theorem turn_list {P : Program} {w : World} {K : PySem.W.Frag} {tg : Expr} (a it : Addr) : Turn P w K tg (Itl K a) [it] it (fun i h => h.IsListIter it a i) where
  mem := by simp
  obj := fun i h st b hb => by
    have e : b = it := by simpa using hb
    subst e
    obtain ⟨o, e, c, d⟩ := st
    exact ⟨o, e, fun v z => by rw [d] at z; cases z⟩
  keep := fun i h h' st k => st.at fun o e => k it (by simp) o e
  item := by
    intro X hP hw hK hc i pins s σ H E I hf st hg
    subst hP hw hK
    obtain ⟨xs, x, hq, hx⟩ := hg
    obtain ⟨its, rv, p, hz⟩ := I.list hq
    obtain ⟨u, hu, ru⟩ := rv.get hx
    obtain ⟨f0, f1, f2, f3, f4, f5⟩ := hf it (by simp)
    refine wpAny_pyNext_list_item st p.isList (x := u) (by simpa using hu) fun h' st' sb => ?_
    have I1 : Inv X pins σ H { s with heap := h' } := I.turned (t' := s.toks) (fun b o hb e => (sb.2 b hb).trans e) f0 f1 f3 f4 f5
    obtain ⟨o, e, c, d⟩ := id st'
    exact ⟨u, rfl, go_of (s := { s with heap := h' }) e c d (by decide) ⟨x, H, I1, ru, ⟨rfl, fun ys hy => by rw [I.list_inj hy hq]; exact hx⟩, st', fun b hb => (hf b hb).1⟩⟩
  done := by
    intro X hP hw hK hc i pins s σ H E I hf st hg
    subst hP hw hK
    obtain ⟨xs, hq, hx⟩ := hg
    obtain ⟨its, rv, p, hz⟩ := I.list hq
    obtain ⟨f0, f1, f2, f3, f4, f5⟩ := hf it (by simp)
    have hl := rv.length
    exact wpAny_pyNext_list_end (I.ok.hd hc) st p.isList (by simp; omega) fun h' eb => ⟨rfl, I.turned (t' := s.toks) (fun b o hb e => eb b o hb e) f0 f1 f3 f4 f5⟩
  self := fun _ _ _ _ _ st h => wpAny_pyIter_listiter st h
theorem turn_tuple {P : Program} {w : World} {K : PySem.W.Frag} {tg : Expr} (a it : Addr) : Turn P w K tg (Itt K a) [it] it (fun i h => h.IsTupleIter it a i) where
  mem := by simp
  obj := fun i h st b hb => by
    have e : b = it := by simpa using hb
    subst e
    obtain ⟨o, e, c, d⟩ := st
    exact ⟨o, e, fun v z => by rw [d] at z; cases z⟩
  keep := fun i h h' st k => st.at fun o e => k it (by simp) o e
  item := by
    intro X hP hw hK hc i pins s σ H E I hf st hg
    subst hP hw hK
    obtain ⟨xs, x, hq, hx⟩ := hg
    obtain ⟨its, rv, p, hz⟩ := I.tuple hq
    obtain ⟨u, hu, ru⟩ := rv.get hx
    obtain ⟨f0, f1, f2, f3, f4, f5⟩ := hf it (by simp)
    refine wpAny_pyNext_tuple_item st (show s.heap.IsTuple a its.toArray from p) (x := u) (by simpa using hu) fun h' st' sb => ?_
    have I1 : Inv X pins σ H { s with heap := h' } := I.turned (t' := s.toks) (fun b o hb e => (sb.2 b hb).trans e) f0 f1 f3 f4 f5
    obtain ⟨o, e, c, d⟩ := id st'
    exact ⟨u, rfl, go_of (s := { s with heap := h' }) e c d (by decide) ⟨x, H, I1, ru, ⟨rfl, fun ys hy => by rw [I.tuple_inj hy hq]; exact hx⟩, st', fun b hb => (hf b hb).1⟩⟩
  done := by
    intro X hP hw hK hc i pins s σ H E I hf st hg
    subst hP hw hK
    obtain ⟨xs, hq, hx⟩ := hg
    obtain ⟨its, rv, p, hz⟩ := I.tuple hq
    obtain ⟨f0, f1, f2, f3, f4, f5⟩ := hf it (by simp)
    have hl := rv.length
    exact wpAny_pyNext_tuple_end (I.ok.hd hc) st (show s.heap.IsTuple a its.toArray from p) (by simp; omega) fun h' eb => ⟨rfl, I.turned (t' := s.toks) (fun b o hb e => eb b o hb e) f0 f1 f3 f4 f5⟩
  self := fun _ _ _ _ _ st h => wpAny_pyIter_tupleiter st h
theorem turn_range {P : Program} {w : World} {K : PySem.W.Frag} {tg : Expr} (it : Addr) (lo : Int) (n : Nat) : Turn P w K tg (Itr lo n) [it] it (fun i h => IsRangeIter h it (lo + (i : Nat) * 1) ((n : Int) - (i : Nat)) 1) where
  mem := by simp
  obj := fun i h st b hb => by
    have e : b = it := by simpa using hb
    subst e
    exact ⟨_, st, fun v z => by
      have z' : Data.fields _ = Data.cell v := z
      cases z'⟩
  keep := fun i h h' st k => k it (by simp) _ st
  item := by
    intro X hP hw hK hc i pins s σ H E I hf st hg
    subst hP hw hK
    obtain ⟨f0, f1, f2, f3, f4, f5⟩ := hf it (by simp)
    have W := Walks.range (prog := X.prog) (w := X.w) (I.ok.hd hc) it lo 1 n
    refine W.item i s _ _ hg st fun v h' tk hv st' kk => ?_
    obtain ⟨t, rfl⟩ := hv
    have I1 : Inv X pins σ H { s with heap := h', toks := tk } := I.turned (fun b o hb e => kk b o (by simpa using hb) e) f0 f1 f3 f4 f5
    refine ⟨_, rfl, go_of (s := { s with heap := h', toks := tk }) (n := "range_iterator") st' rfl rfl (by decide) ⟨.int (lo + i), H, I1, ⟨t, ?_⟩, ⟨rfl, rfl⟩, st', fun b hb => (hf b hb).1⟩⟩
    rw [Int.mul_one]
  done := by
    intro X hP hw hK hc i pins s σ H E I hf st hg
    subst hP hw hK
    obtain ⟨f0, f1, f2, f3, f4, f5⟩ := hf it (by simp)
    exact wpAny_pyNext_range_end (I.ok.hd hc) st (by have : n ≤ i := hg; omega) fun h' eb => ⟨rfl, I.turned (t' := s.toks) (fun b o hb e => eb b o hb e) f0 f1 f3 f4 f5⟩
  self := fun _ _ _ _ _ st h => wpAny_pyIter_rangeiter st h
end L2
namespace L2
open PySem PySem.Spec PyProof.Rows
section
variable {X : Cx} {tg : Expr}
theorem range_it {pins : List (Addr × Obj)} {σ : St} {H : Hp} {s : Shared} {R : It → Hp → Prop} {E : Value → Shared → Prop} {lo hi : Int} {t u v : Tok} {tk : Nat} (I : Inv X pins σ H s) (h1 : -(2 ^ 62) ≤ lo) (h2 : lo < 2 ^ 62) (h3 : -(2 ^ 62) ≤ hi) (h4 : hi < 2 ^ 62)
    (q : R (Itr lo (hi - lo).toNat) H) : wpAny (model X.prog X.w) X.A (pyIter (.ref s.heap.objs.size)) (PIE X pins σ tg R) E { s with heap := s.heap.push { cls := .type "range", data := .fields #[.int lo t, .int hi u, .int 1 v] }, toks := tk } := by
  refine wpAny_pyIter_range (IsRange.new ..) (small_one h1 h2 h3 h4) ?_
  have I1 : Inv X pins σ H { s with heap := s.heap.push { cls := .type "range", data := .fields #[.int lo t, .int hi u, .int 1 v] }, toks := tk } := I.kept fun b o e => Heap.get?_push_of_some _ e
  refine ⟨(s.heap.push { cls := .type "range", data := .fields #[.int lo t, .int hi u, .int 1 v] }).objs.size, [(s.heap.push { cls := .type "range", data := .fields #[.int lo t, .int hi u, .int 1 v] }).objs.size], _, _, H, rfl,
    I1.kept (t' := tk) fun b o e => Heap.get?_push_of_some _ e, turn_range _ lo (hi - lo).toNat, ?_, fun b hb => ?_, q⟩
  · have e1 : lo + ((0 : Nat) : Int) * 1 = lo := by simp
    have e2 : (((hi - lo).toNat : Nat) : Int) - ((0 : Nat) : Int) = Builtin.Range.rangeSize lo hi 1 := by rw [rangeSize_one]; split <;> omega
    show IsRangeIter _ _ (lo + ((0 : Nat) : Int) * 1) ((((hi - lo).toNat : Nat) : Int) - ((0 : Nat) : Int)) 1
    rw [e1, e2]
    exact Heap.get?_push_size _ rfl
  · have e : b = (s.heap.push { cls := .type "range", data := .fields #[.int lo t, .int hi u, .int 1 v] }).objs.size := by simpa using hb
    subst e
    exact I1.fpOk (Nat.le_refl _) (I1.hok.fresh (Nat.le_refl _))
def iRng1 (ta : TA) : TI := fun σ H R => ta σ H fun vs H1 => ∃ j : Int, vs = [.int j] ∧ -(2 ^ 62) ≤ j ∧ j < 2 ^ 62 ∧ R (Itr 0 j.toNat) H1
theorem pi_range1 {a : Expr} {ta : TA} {p pos : Pos} (hg : Gl X "range") (hm : X.mg "range" = none) (ha : PA X [a] ta) (hs : starEach [a] X.env = [(false, eval a X.env)] := by rfl) : PI X tg (.Call (.Name "range" p) [a] [] pos) (iRng1 ta) := by
  intro pins s σ H R I h
  refine Call_ (ld_blt I hg hm boot_range (PyProof.Rows.callWith_type1 (thn (ha pos pins s σ H _ I h) fun us s1 ⟨vs, H1, I1, r1, q1⟩ => ?_) hs rfl))
  obtain ⟨j, e, q1, q2, q⟩ := q1
  subst e
  cases r1 with
  | cons r rr =>
    cases rr
    obtain ⟨t, rfl⟩ := r
    exact call_range_1 (range_it I1 (by omega) (by omega) q1 q2 (by simpa using q))
def tFor (wi : TI) (g : TG) (tb : TS) : TS := fun D σ H => wi σ H fun J H1 => ∃ W : Nat → Nat → St → Hp → Prop, (∃ m, W 0 m σ H1) ∧ ∀ i m σ H, W i m σ H →
  (J.stop i H ∧ D.nx σ H) ∨ (J.go i H ∧ ∃ N : St → Hp → Prop, (∀ σ' H', N σ' H' → ∃ m', m' < m ∧ W (i + 1) m' σ' H') ∧ ∀ x H', J.yld i H x H' → g x σ H' fun σ2 H2 => tb { D with nx := N, ct := N, bk := D.nx } σ2 H2)
def pinsAt (fp : List Addr) (h : Heap) : List (Addr × Obj) := fp.filterMap fun b => (h.get? b).map fun o => (b, o)
theorem mem_pinsAt {fp : List Addr} {h : Heap} {b : Addr} {o : Obj} (hb : b ∈ fp) (e : h.get? b = some o) : (b, o) ∈ pinsAt fp h := List.mem_filterMap.mpr ⟨b, hb, by rw [e]; rfl⟩
theorem of_pinsAt {fp : List Addr} {h : Heap} {p : Addr × Obj} (hp : p ∈ pinsAt fp h) : p.1 ∈ fp ∧ h.get? p.1 = some p.2 := by
  obtain ⟨b, hb, e⟩ := List.mem_filterMap.mp hp
  cases q : h.get? b with
  | none => rw [q] at e; cases e
  | some o =>
    rw [q] at e
    have e' : (b, o) = p := Option.some.inj e
    subst e'
    exact ⟨hb, q⟩
theorem Inv.pinned {pins : List (Addr × Obj)} {σ : St} {H : Hp} {s : Shared} {fp : List Addr} (I : Inv X pins σ H s) (hf : ∀ b ∈ fp, FpOk X pins H b) (ho : ∀ b ∈ fp, ∃ o, s.heap.get? b = some o ∧ ∀ v, o.data ≠ .cell v) : Inv X (pins ++ pinsAt fp s.heap) σ H s :=
  I.pins_of fun p hp => (List.mem_append.mp hp).elim (fun z => I.pin p (List.mem_append_right _ z)) fun z => by
    obtain ⟨hb, e⟩ := of_pinsAt z
    obtain ⟨f0, f1, f2, _⟩ := hf p.1 hb
    obtain ⟨o, e', d⟩ := ho p.1 hb
    rw [e] at e'; cases e'
    exact ⟨e, f0, f1, f2, d⟩
theorem Inv.unpinned {pins pl : List (Addr × Obj)} {σ : St} {H : Hp} {s : Shared} (I : Inv X (pins ++ pl) σ H s) : Inv X pins σ H s := I.pins_of fun p hp => I.pin p (List.mem_append_right _ (List.mem_append_left _ hp))
theorem ps_for {iter : Expr} {body : List Stmt} {wi : TI} {g : TG} {tb : TS} {pos : Pos} (hp : PassesOwn (model X.prog X.w) X.A X.env X.xe) (hc : X.calm = true) (hi : PI X tg iter wi) (hg : PG X tg g) (hb : PSs X body tb)
    (hs : ∀ x, foldedSetIterable iter X.env x = pure x := by intro _; rfl) : PS X (.For tg iter body [] pos) (tFor wi g tb) := by
  intro pins s σ H D I h
  refine wpAny_For (thn (hi pins s σ H _ I h) fun v s1 h1 => thn h1 fun itv s2 h2 => ?_) hs
  obtain ⟨it, fp, tn, J, H2, e, I2, T, st2, f2, W, ⟨m0, w0⟩, turn⟩ := h2
  subst e
  -- what stays true of the iterator's objects through the loop
  have stat : ∀ {H' : Hp}, (∀ b ∈ fp, H' b = none) → ∀ b ∈ fp, FpOk X pins H' b := fun hn b hb => ⟨hn b hb, (f2 b hb).2⟩
  refine codeAny_forLoop_any (fun n s' => ∃ i σ' H', Inv X pins σ' H' s' ∧ tn i s'.heap ∧ (∀ b ∈ fp, H' b = none) ∧ W i n σ' H') ?_ m0 ⟨0, σ, H2, I2, st2, fun b hb => (f2 b hb).1, w0⟩
  rintro n s3 ⟨i, σ3, H3, I3, st3, fr3, w3⟩
  rcases turn i n σ3 H3 w3 with ⟨stop, qn⟩ | ⟨go, N, hN, step⟩
  · refine wpAny_passesOwn hp (thn (T.done X rfl rfl rfl hc i pins s3 σ3 H3 X.xe I3 (stat fr3) st3 stop) fun r s4 ⟨hr, I4⟩ => ?_)
    subst hr
    exact wpAny_execs_nil ⟨σ3, H3, I4, qn⟩
  · refine wpAny_passesOwn hp (thn (T.item X rfl rfl rfl hc i pins s3 σ3 H3 X.xe I3 (stat fr3) st3 go) fun r s4 ⟨u, hr, h4⟩ => ?_)
    subst hr
    refine wpAny_passesOwn hp (thn h4 fun _ s5 ⟨x, H5, I5, r5, y5, st5, fr5⟩ => ?_)
    have I5' := I5.pinned (stat fr5) (T.obj _ _ st5)
    refine wpAny_passesOwn hp (thn (hg _ s5 σ3 H5 x u _ I5' r5 (step x H5 y5)) fun _ s6 ⟨σ6, H6, I6, q6⟩ => ?_)
    refine wpAny_passesOwn hp (thn (hb _ s6 σ6 H6 _ I6 q6) fun f s7 q7 => ?_)
    have again : ∀ {σ7 : St} {H7 : Hp}, Inv X (pins ++ pinsAt fp s5.heap) σ7 H7 s7 → N σ7 H7 → ∃ m, m < n ∧ ∃ i σ' H', Inv X pins σ' H' s7 ∧ tn i s7.heap ∧ (∀ b ∈ fp, H' b = none) ∧ W i m σ' H' := fun {σ7 H7} I7 n7 => by
      obtain ⟨m', hm, w7⟩ := hN σ7 H7 n7
      refine ⟨m', hm, i + 1, σ7, H7, I7.unpinned, T.keep _ _ _ st5 fun b hb o e => (I7.pin (b, o) (List.mem_append_right _ (List.mem_append_right _ (mem_pinsAt hb e)))).1, fun b hb => ?_, w7⟩
      obtain ⟨o, e, d⟩ := T.obj _ _ st5 b hb
      exact (I7.pin (b, o) (List.mem_append_right _ (List.mem_append_right _ (mem_pinsAt hb e)))).2.1
    cases f with
    | next => obtain ⟨σ7, H7, I7, n7⟩ := q7; exact again I7 n7
    | cont => obtain ⟨σ7, H7, I7, n7⟩ := q7; exact again I7 n7
    | brk => obtain ⟨σ7, H7, I7, q7⟩ := q7; exact ⟨σ7, H7, I7.unpinned, q7⟩
    | ret v => obtain ⟨x7, σ7, H7, I7, r7, q7⟩ := q7; exact ⟨x7, σ7, H7, I7.unpinned, r7, q7⟩
end
end L2
namespace L2
open PySem PySem.Spec PyProof.Rows
abbrev R2 := V → V → Hp → VK → Prop
def OpR (X : Cx) (f : Value → Value → Sem Value) (r : R2) : Prop :=
  ∀ (pins : List (Addr × Obj)) (s : Shared) (σ : St) (H : Hp) (x y : V) (v u : Value) (Q : VK), Inv X pins σ H s → RelV x v → RelV y u → r x y H Q →
    wpAny (model X.prog X.w) X.A (f v u) (EP X pins σ Q) X.xe s
def UnR (X : Cx) (f : Value → Sem Value) (r : V → Hp → VK → Prop) : Prop :=
  ∀ (pins : List (Addr × Obj)) (s : Shared) (σ : St) (H : Hp) (x : V) (v : Value) (Q : VK), Inv X pins σ H s → RelV x v → r x H Q →
    wpAny (model X.prog X.w) X.A (f v) (EP X pins σ Q) X.xe s
def CallR (X : Cx) (f : Value) (r : List V → Hp → VK → Prop) : Prop :=
  ∀ (pins : List (Addr × Obj)) (s : Shared) (σ : St) (H : Hp) (xs : List V) (us : List Value) (Q : VK), Inv X pins σ H s → Vals xs us → r xs H Q →
    wpAny (model X.prog X.w) X.A (call f us) (EP X pins σ Q) X.xe s
def tOp (r : R2) (ta tb : TE) : TE := fun σ H Q => ta σ H fun x H1 => tb σ H1 fun y H2 => r x y H2 Q
def tUn (r : V → Hp → VK → Prop) (ta : TE) : TE := fun σ H Q => ta σ H fun x H1 => r x H1 Q
def rI (C : Int → Int → Prop) (g : Int → Int → V) : R2 := fun x y H Q => ∃ i j, x = .int i ∧ y = .int j ∧ C i j ∧ Q (g i j) H
def rI0 (g : Int → Int → V) : R2 := fun x y H Q => ∃ i j, x = .int i ∧ y = .int j ∧ Q (g i j) H
def rU (g : Int → V) : V → Hp → VK → Prop := fun x H Q => ∃ i, x = .int i ∧ Q (g i) H
section
variable {X : Cx} {a b c : Expr} {ta tb tc : TE} {pos : Pos}
theorem binT (ha : PE X a ta) (hb : PE X b tb) {pins : List (Addr × Obj)} {s : Shared} {σ : St} {H : Hp} {R : V → V → Hp → Prop} (I : Inv X pins σ H s)
    (h : ta σ H fun x H1 => tb σ H1 fun y H2 => R x y H2) {Q : Value → Shared → Prop} {f : Value → Value → Sem Value}
    (hf : ∀ v u s2 x y H2, Inv X pins σ H2 s2 → RelV x v → RelV y u → R x y H2 → wpAny (model X.prog X.w) X.A (f v u) Q X.xe s2) :
    wpAny (model X.prog X.w) X.A (eval a X.env) (fun v s₁ => wpAny (model X.prog X.w) X.A (eval b X.env) (fun u s₂ => wpAny (model X.prog X.w) X.A (f v u) Q X.xe s₂) X.xe s₁) X.xe s := by
  refine thn (ha pins s σ H _ I h) fun v s1 ⟨x, H1, I1, r1, q1⟩ => ?_
  refine thn (hb pins s1 σ H1 _ I1 q1) fun u s2 ⟨y, H2, I2, r2, q2⟩ => ?_
  exact hf v u s2 x y H2 I2 r1 r2 q2
theorem pe_op {op : Operator} {r : R2} (ho : OpR X (binaryOp op) r) (ha : PE X a ta) (hb : PE X b tb) : PE X (.BinOp a op b pos) (tOp r ta tb) := by
  intro pins s σ H Q I h
  exact wpAny_BinOp (binT ha hb I h fun v u s2 x y H2 I2 rx ry q => ho pins s2 σ H2 x y v u Q I2 rx ry q)
theorem pe_un {op : UnaryOp} {r : V → Hp → VK → Prop} (ho : UnR X (unaryOp op) r) (ha : PE X a ta) : PE X (.UnaryOp op a pos) (tUn r ta) := by
  intro pins s σ H Q I h
  exact UnaryOp_ (thn (ha pins s σ H _ I h) fun v s1 ⟨x, H1, I1, r1, q1⟩ => ho pins s1 σ H1 x v Q I1 r1 q1)
theorem opI {f : Value → Value → Sem Value} {C : Int → Int → Prop} {g : Int → Int → Int}
    (rule : ∀ (i j : Int) (t u : Tok) (s : Shared) (Q : Value → Shared → Prop) (E : Value → Shared → Prop), C i j → Q (.int (g i j) s.toks) { s with toks := s.toks + 1 } → wpAny (model X.prog X.w) X.A (f (.int i t) (.int j u)) Q E s) :
    OpR X f (rI C fun i j => .int (g i j)) := by
  intro pins s σ H x y v u Q I rx ry h
  obtain ⟨i, j, rfl, rfl, hc, q⟩ := h
  obtain ⟨t, rfl⟩ := rx
  obtain ⟨t', rfl⟩ := ry
  exact rule i j t t' s _ _ hc ⟨.int (g i j), H, I.tok _, ⟨_, rfl⟩, q⟩
theorem opI0 {f : Value → Value → Sem Value} {g : Int → Int → Int}
    (rule : ∀ (i j : Int) (t u : Tok) (s : Shared) (Q : Value → Shared → Prop) (E : Value → Shared → Prop), Q (.int (g i j) s.toks) { s with toks := s.toks + 1 } → wpAny (model X.prog X.w) X.A (f (.int i t) (.int j u)) Q E s) :
    OpR X f (rI0 fun i j => .int (g i j)) := by
  intro pins s σ H x y v u Q I rx ry h
  obtain ⟨i, j, rfl, rfl, q⟩ := h
  obtain ⟨t, rfl⟩ := rx
  obtain ⟨t', rfl⟩ := ry
  exact rule i j t t' s _ _ ⟨.int (g i j), H, I.tok _, ⟨_, rfl⟩, q⟩
theorem opB0 {f : Value → Value → Sem Value} {g : Int → Int → Bool}
    (rule : ∀ (i j : Int) (t u : Tok) (s : Shared) (Q : Value → Shared → Prop) (E : Value → Shared → Prop), Q (.bool (g i j)) s → wpAny (model X.prog X.w) X.A (f (.int i t) (.int j u)) Q E s) :
    OpR X f (rI0 fun i j => .bl (g i j)) := by
  intro pins s σ H x y v u Q I rx ry h
  obtain ⟨i, j, rfl, rfl, q⟩ := h
  obtain ⟨t, rfl⟩ := rx
  obtain ⟨t', rfl⟩ := ry
  exact rule i j t t' s _ _ ⟨.bl (g i j), H, I, rfl, q⟩
def CDiv (i j : Int) : Prop := 0 < j ∧ j < 1073741824
def CPow (i j : Int) : Prop := 0 ≤ j ∧ j ≤ 1000000 ∧ i.natAbs < 2 ^ 64
def CMul (i j : Int) : Prop := (-(2 ^ 64) < i ∧ i < 2 ^ 64) ∨ (-(2 ^ 64) < j ∧ j < 2 ^ 64)
theorem CMul.ok {i j : Int} (h : CMul i j) : IntMulOk i j := by
  rcases h with ⟨h1, h2⟩ | ⟨h1, h2⟩
  · exact .of_left (intBits_le_64 h1 h2)
  · exact .of_right (intBits_le_64 h1 h2)
theorem op_add : OpR X (binaryOp .Add) (rI0 fun i j => .int (i + j)) := opI0 fun _ _ _ _ _ _ _ q => add_int q
theorem op_sub : OpR X (binaryOp .Sub) (rI0 fun i j => .int (i - j)) := opI0 fun _ _ _ _ _ _ _ q => sub_int q
theorem op_mul : OpR X (binaryOp .Mult) (rI CMul fun i j => .int (i * j)) := opI fun _ _ _ _ _ _ _ hc q => mul_int q hc.ok
theorem op_fdiv : OpR X (binaryOp .FloorDiv) (rI CDiv fun i j => .int (i / j)) := opI fun i j _ _ _ _ _ hc q => by
  have h1 : (0 : Int) < j := hc.1
  have h2 : j < 1073741824 := hc.2
  exact floordiv_int (by omega) (by rw [Int.fdiv_eq_ediv_of_nonneg i (by omega)]; exact q) (.inl (PyProof.noPylong_small (by omega)))
theorem op_mod : OpR X (binaryOp .Mod) (rI (fun _ j => 0 < j) fun i j => .int (i % j)) := opI fun i j _ _ _ _ _ hc q => by
  have h1 : (0 : Int) < j := hc
  exact mod_int' (by omega) (by rw [Int.fmod_eq_emod_of_nonneg i (by omega)]; exact q)
theorem op_pow : OpR X (binaryOp .Pow) (rI CPow fun i j => .int (i ^ j.toNat)) := opI fun _ _ _ _ _ _ _ hc q => pow_int_small hc.1 hc.2.1 hc.2.2 q
theorem unI {f : Value → Sem Value} {g : Int → Int}
    (rule : ∀ (i : Int) (t : Tok) (s : Shared) (Q : Value → Shared → Prop) (E : Value → Shared → Prop), Q (.int (g i) s.toks) { s with toks := s.toks + 1 } → wpAny (model X.prog X.w) X.A (f (.int i t)) Q E s) :
    UnR X f (rU fun i => .int (g i)) := by
  intro pins s σ H x v Q I rx h
  obtain ⟨i, rfl, q⟩ := h
  obtain ⟨t, rfl⟩ := rx
  exact rule i t s _ _ ⟨.int (g i), H, I.tok _, ⟨_, rfl⟩, q⟩
theorem un_neg : UnR X (unaryOp .USub) (rU fun i => .int (-i)) := unI fun _ _ _ _ _ q => neg_int q
end
def scal : V → V → Bool
  | .non, .non => true | .non, .int _ => true | .int _, .non => true | .non, .bl _ => true | .bl _, .non => true | .non, .str _ => true | .str _, .non => true
  | .int _, .int _ => true | .bl _, .bl _ => true | .str _, .str _ => true | .byt _, .byt _ => true
  | .int _, .str _ => true | .str _, .int _ => true | .bl _, .str _ => true | .str _, .bl _ => true
  | _, _ => false
section
variable {X : Cx} {a b c : Expr} {ta tb tc : TE} {pos : Pos}
theorem fin_bl {pins : List (Addr × Obj)} {σ : St} {H : Hp} {s : Shared} {Q : VK} {k k' : Bool} (I : Inv X pins σ H s) (q : Q (.bl k) H) (e : k = k') : EP X pins σ Q (.bool k') s := by
  subst e
  exact ⟨.bl k, H, I, rfl, q⟩
theorem op_lt : OpR X (compareOp .Lt) (rI0 fun i j => .bl (decide (i < j))) := opB0 fun _ _ _ _ _ _ _ q => lt_int q
theorem op_le : OpR X (compareOp .LtE) (rI0 fun i j => .bl (decide (i ≤ j))) := opB0 fun _ _ _ _ _ _ _ q => le_int q
theorem op_gt : OpR X (compareOp .Gt) (rI0 fun i j => .bl (decide (j < i))) := opB0 fun _ _ _ _ _ _ _ q => gt_int q
theorem op_ge : OpR X (compareOp .GtE) (rI0 fun i j => .bl (decide (j ≤ i))) := opB0 fun _ _ _ _ _ _ _ q => ge_int q
theorem op_isN : OpR X (compareOp .Is) (fun x y H Q => y = .non ∧ Q (.bl (decide (x = .non))) H) := by
  intro pins s σ H x y v u Q I rx ry h
  obtain ⟨rfl, q⟩ := h
  cases ry
  refine is_none_gen (fin_bl I q ?_)
  cases x <;> first
    | (cases rx; rfl)
    | (obtain ⟨t, rfl⟩ := rx; rfl)
theorem op_notN : OpR X (compareOp .IsNot) (fun x y H Q => y = .non ∧ Q (.bl (!decide (x = .non))) H) := by
  intro pins s σ H x y v u Q I rx ry h
  obtain ⟨rfl, q⟩ := h
  cases ry
  refine isnot_none_gen (fin_bl I q ?_)
  cases x <;> first
    | (cases rx; rfl)
    | (obtain ⟨t, rfl⟩ := rx; rfl)
theorem OpR.or {f : Value → Value → Sem Value} {r r' : R2} (h : OpR X f r) (h' : OpR X f r') : OpR X f (fun x y H Q => r x y H Q ∨ r' x y H Q) := by
  intro pins s σ H x y v u Q I rx ry q
  rcases q with q | q
  · exact h pins s σ H x y v u Q I rx ry q
  · exact h' pins s σ H x y v u Q I rx ry q
theorem nomark (b : Expr) {op : CmpOp} (h : op ≠ .In := by decide) (h2 : op ≠ .NotIn := by decide) : behindInMarks op b = false := by
  have e1 : (op == CmpOp.In) = false := by cases op <;> first | rfl | exact absurd rfl h
  have e2 : (op == CmpOp.NotIn) = false := by cases op <;> first | rfl | exact absurd rfl h2
  cases b <;> simp [behindInMarks, e1, e2]
theorem pe_cmpR {op : CmpOp} {r : R2} (ho : OpR X (compareOp op) r) (ha : PE X a ta) (hb : PE X b tb) (hm : behindInMarks op b = false) : PE X (.Compare a [op] [b] pos) (tOp r ta tb) := by
  intro pins s σ H Q I h
  exact wpAny_Compare1 (binT ha hb I h fun v u s2 x y H2 I2 rx ry q => ho pins s2 σ H2 x y v u Q I2 rx ry q) hm
def tTest (t : TE) : TT := fun σ H Q => t σ H fun x H' => ∃ k, x = .bl k ∧ Q k H'
theorem pt_cmpR {op : CmpOp} {r : R2} (ho : OpR X (compareOp op) r) (ha : PE X a ta) (hb : PE X b tb) (hm : behindInMarks op b = false) : PT X (.Compare a [op] [b] pos) (tTest (tOp r ta tb)) := by
  intro pins s σ H Q I h
  refine wpAny_isTrue_Compare1 (thn (ha pins s σ H _ I h) fun v s1 ⟨x, H1, I1, r1, q1⟩ => thn (hb pins s1 σ H1 _ I1 q1) fun u s2 ⟨y, H2, I2, r2, q2⟩ =>
    thn (ho pins s2 σ H2 x y v u _ I2 r1 r2 q2) fun c s3 ⟨z, H3, I3, r3, k, e, q3⟩ => ?_) hm
  subst e
  cases r3
  exact wpAny_truthy_bool ⟨H3, I3, q3⟩
def tChain (r r' : R2) (ta tb tc : TE) : TE := fun σ H Q => ta σ H fun x H1 => tb σ H1 fun y H2 => r x y H2 fun z H3 => ∃ k, z = .bl k ∧
  (if k = true then tc σ H3 fun w' H4 => r' y w' H4 Q else Q (.bl false) H3)
theorem pe_chain {op op' : CmpOp} {r r' : R2} (ho : OpR X (compareOp op) r) (ho' : OpR X (compareOp op') r') (ha : PE X a ta) (hb : PE X b tb) (hc : PE X c tc)
    (hm : lastMarks [op, op'] [b, c] = false := by with_unfolding_all rfl) : PE X (.Compare a [op, op'] [b, c] pos) (tChain r r' ta tb tc) := by
  intro pins s σ H Q I h
  refine Compare_chain (thn (ha pins s σ H _ I h) fun v s1 ⟨x, H1, I1, r1, q1⟩ => chain_link (thn (hb pins s1 σ H1 _ I1 q1) fun u s2 ⟨y, H2, I2, r2, q2⟩ =>
    thn (ho pins s2 σ H2 x y v u _ I2 r1 r2 q2) fun d s3 ⟨z, H3, I3, r3, k, e, q3⟩ => ?_)) hm
  subst e
  cases r3
  refine wpAny_truthy_bool ?_
  cases k with
  | false => exact ite_ff ⟨.bl false, H3, I3, rfl, q3⟩
  | true => exact ite_tt (chain_last (thn (hc pins s3 σ H3 _ I3 q3) fun w' s4 ⟨z', H4, I4, r4, q4⟩ => ho' pins s4 σ H4 y z' u w' Q I4 r2 r4 q4))
theorem line63 : (sizeLine : Nat) < 2 ^ 63 := by rw [sizeLine_eq]; decide
theorem op_add_str : OpR X (binaryOp .Add) (fun x y H Q => ∃ i j, x = .str i ∧ y = .str j ∧ i.length + j.length ≤ sizeLine ∧ Q (.str (i ++ j)) H) := by
  intro pins s σ H x y v u Q I rx ry h
  obtain ⟨i, j, rfl, rfl, hz, q⟩ := h
  obtain ⟨t, rfl⟩ := rx
  obtain ⟨t', rfl⟩ := ry
  exact add_str (fun t' tk => ⟨.str (i ++ j), H, I.tok _, ⟨_, rfl⟩, q⟩) hz
theorem vals1 {x : V} {us : List Value} (r : Vals [x] us) : ∃ u, us = [u] ∧ RelV x u := by
  cases r with
  | cons r1 r2 => cases r2; exact ⟨_, rfl, r1⟩
theorem vals2 {x y : V} {us : List Value} (r : Vals [x, y] us) : ∃ u w', us = [u, w'] ∧ RelV x u ∧ RelV y w' := by
  cases r with
  | cons r1 r2 =>
    cases r2 with
    | cons r3 r4 => cases r4; exact ⟨_, _, rfl, r1, r3⟩
theorem call_max2 (hc : X.calm = true) : CallR X (.builtin "max") (fun xs H Q => ∃ i j, xs = [.int i, .int j] ∧ Q (.int (if j > i then j else i)) H) := by
  intro pins s σ H xs us Q I r h
  obtain ⟨i, j, rfl, q⟩ := h
  obtain ⟨u, w', rfl, ⟨t, rfl⟩, ⟨t', rfl⟩⟩ := vals2 r
  refine max_two_ints (I.ok.hd hc) fun h' tk k => ⟨_, H, I.kept k, ?_, q⟩
  by_cases hj : j > i
  · rw [if_pos hj, if_pos hj]; exact ⟨_, rfl⟩
  · rw [if_neg hj, if_neg hj]; exact ⟨_, rfl⟩
theorem call_min2 (hc : X.calm = true) : CallR X (.builtin "min") (fun xs H Q => ∃ i j, xs = [.int i, .int j] ∧ Q (.int (if j < i then j else i)) H) := by
  intro pins s σ H xs us Q I r h
  obtain ⟨i, j, rfl, q⟩ := h
  obtain ⟨u, w', rfl, ⟨t, rfl⟩, ⟨t', rfl⟩⟩ := vals2 r
  refine min_two_ints (I.ok.hd hc) fun h' tk k => ⟨_, H, I.kept k, ?_, q⟩
  by_cases hj : j < i
  · rw [if_pos hj, if_pos hj]; exact ⟨_, rfl⟩
  · rw [if_neg hj, if_neg hj]; exact ⟨_, rfl⟩
theorem call_int1 : CallR X (.type "int") (fun xs H Q => (∃ i, xs = [.int i] ∧ Q (.int i) H) ∨ ∃ k, xs = [.bl k] ∧ Q (.int (if k then 1 else 0)) H) := by
  intro pins s σ H xs us Q I r h
  rcases h with ⟨i, rfl, q⟩ | ⟨k, rfl, q⟩
  · obtain ⟨u, rfl, t, rfl⟩ := vals1 r
    exact call_int_int ⟨.int i, H, I, ⟨_, rfl⟩, q⟩
  · obtain ⟨u, rfl, r1⟩ := vals1 r
    cases r1
    exact call_int_bool ⟨.int (if k then 1 else 0), H, I.tok _, ⟨_, rfl⟩, q⟩
def LenV (K : PySem.W.Frag) (x : V) (H : Hp) (n : Nat) : Prop :=
  match x with
  | .str y => y.length ≤ sizeLine ∧ n = y.length
  | .byt y => y.size ≤ sizeLine ∧ n = y.size
  | .ref p => (∃ xs, SqL K H p xs ∧ n = xs.length) ∨ ∃ xs, SqT K H p xs ∧ n = xs.length
  | _ => False
theorem call_len : CallR X (.builtin "len") (fun xs H Q => ∃ x n, xs = [x] ∧ LenV X.K x H n ∧ Q (.int n) H) := by
  intro pins s σ H xs us Q I r h
  obtain ⟨x, n, rfl, e, q⟩ := h
  obtain ⟨u, rfl, rx⟩ := vals1 r
  have hl := line63
  have hs : sizeLine = 16777216 := sizeLine_eq
  cases x with
  | str y =>
    obtain ⟨t, rfl⟩ := rx
    obtain ⟨hy, e'⟩ : y.length ≤ sizeLine ∧ n = y.length := e
    subst e'
    exact len_str (by omega) ⟨.int _, H, I.tok _, ⟨_, rfl⟩, q⟩
  | byt y =>
    obtain ⟨t, rfl⟩ := rx
    obtain ⟨hy, e'⟩ : y.size ≤ sizeLine ∧ n = y.size := e
    subst e'
    exact PySem.W.len_bytes (by omega) ⟨.int _, H, I.tok _, ⟨_, rfl⟩, q⟩
  | ref p =>
    cases rx
    have e' : (∃ xs, SqL X.K H p xs ∧ n = xs.length) ∨ ∃ xs, SqT X.K H p xs ∧ n = xs.length := e
    rcases e' with ⟨xs, hx, e'⟩ | ⟨xs, hx, e'⟩
    · subst e'
      obtain ⟨its, r', pl, hz⟩ := I.list hx
      have hlen := r'.length
      exact Calls.call_len_list pl.isList (by simp only [List.size_toArray]; omega) ⟨.int xs.length, H, I.tok _, ⟨_, by simp only [List.size_toArray]; rw [hlen]⟩, q⟩
    · subst e'
      obtain ⟨its, r', pl, hz⟩ := I.tuple hx
      have hlen := r'.length
      exact len_tuple pl (by simp only [List.size_toArray]; omega) ⟨.int xs.length, H, I.tok _, ⟨_, by simp only [List.size_toArray]; rw [hlen]⟩, q⟩
  | _ => exact (show False from e).elim
end
end L2
namespace L2
open PySem PySem.Spec PyProof.Rows
structure ObjM (h : Heap) (x dx C : Addr) (mA : Str → Option Value) : Prop where
  obj : h.get? x = some (PySem.W.instObj C dx)
  ns : h.Ns1 dx mA
  ne : dx ≠ x
theorem lookIn_ns {h : Heap} {dx : Addr} {mA : Str → Option Value} (n : h.Ns1 dx mA) : ∃ od, h.get? dx = some od ∧ ∀ name, PySem.W.lookIn name od = some (mA name) := by
  obtain ⟨o, es, ep, ho, hd, hk, _, hm⟩ := n
  refine ⟨o, ho, fun name => ?_⟩
  have e := hm name
  unfold nsFind findBy at e
  rw [← Array.find?_toList] at e
  unfold PySem.W.lookIn
  rw [hd]
  dsimp only
  split
  · rename_i y q
    rw [q] at e
    exact congrArg some e
  · rename_i q
    rw [q] at e
    have a : es.toList.any (·.refKey) = false := by
      rw [List.any_eq_false]
      intro y hy
      obtain ⟨z, t, hkey⟩ := hk y (Array.mem_toList_iff.mp hy)
      simp [DictEntry.refKey, hkey]
    have a' : ¬ es.toList.any (·.refKey) = true := by rw [a]; exact Bool.false_ne_true
    rw [if_neg a']
    exact congrArg some e
theorem ObjM.look {h : Heap} {x dx C : Addr} {mA : Str → Option Value} (I : ObjM h x dx C mA) : ∃ od, PySem.W.InstAt h x (PySem.W.instObj C dx) C (some od) ∧ ∀ name, PySem.W.lookIn name od = some (mA name) :=
  let ⟨od, ho, hl⟩ := lookIn_ns I.ns
  ⟨od, ⟨I.obj, rfl, rfl, ho⟩, hl⟩
section
variable {prog : Program} {w : World} {A : Around} {E : Value → Shared → Prop} {s : Shared} {K : PySem.W.Frag} {x dx C f : Addr} {mA : Str → Option Value} {name : Str} {v : Value}
end
def putF (f : Str) (v : V) : List (Str × V) → List (Str × V)
  | [] => [(f, v)]
  | (g, x) :: r => if g = f then (g, v) :: r else (g, x) :: putF f v r
section
variable {P : Program} {w : World} {H H' : Hp} {h h' : Heap} {a C dx : Addr} {fs fs' : List (Str × V)}
end
structure Cls (K : PySem.W.Frag) (C : Addr) : Prop where
  pg : PySem.W.plainGet K C Str.empty = true
  hd : PySem.W.hasDictIn K C = true
  po : PySem.W.plainOver K C = true
  sa : PySem.W.findIn K (.ref C) "__setattr__" = some (some (.builtin "object.__setattr__"))
theorem Cls.get {K : PySem.W.Frag} {C : Addr} (c : Cls K C) (f : Str) : PySem.W.plainGet K C f = true := c.pg
structure Con (K : PySem.W.Frag) (C : Addr) (f : Str) (v : V) (u : Value) : Prop where
  at_ : PySem.W.findIn K (.ref C) f = some (some u)
  rel : RelV v u
  get : PySem.W.specialIn K u "__get__" = some none
  cp : PySem.W.copiedNames.contains f = false
structure Meth (K : PySem.W.Frag) (C : Addr) (m : Str) (f : Addr) : Prop where
  at_ : PySem.W.findIn K (.ref C) m = some (some (.ref f))
  fn : PySem.W.isFn K (.ref f) = true
  kp : PySem.W.keepIn K (.ref f) = true
section
variable {X : Cx} {pins : List (Addr × Obj)} {σ : St} {H : Hp} {s : Shared} {a C dx : Addr} {fs : List (Str × V)} {f : Str} {v : V} {A : Around} {E : Value → Shared → Prop}
theorem Inv.made (I : Inv X pins σ H s) : Inv X pins σ (upd (upd H s.heap.objs.size (.own (s.heap.objs.size + 1))) (s.heap.objs.size + 1) (.ins C s.heap.objs.size []))
    { s with heap := (s.heap.push PySem.W.emptyDict).push (PySem.W.instObj C s.heap.objs.size) } := by
  have e1 : (s.heap.push PySem.W.emptyDict).get? s.heap.objs.size = some PySem.W.emptyDict := Heap.get?_push_size s.heap rfl
  have e2 : ((s.heap.push PySem.W.emptyDict).push (PySem.W.instObj C s.heap.objs.size)).get? (s.heap.objs.size + 1) = some (PySem.W.instObj C s.heap.objs.size) := by
    have := Heap.get?_push_size (s.heap.push PySem.W.emptyDict) (o := PySem.W.instObj C s.heap.objs.size) rfl
    rwa [Heap.size_push] at this
  have e3 : (s.heap.push PySem.W.emptyDict).Ns s.heap.objs.size (fun _ => none) := ⟨PySem.W.emptyDict, #[], _, e1, rfl, (fun e he => absurd he (by simp)), fun _ => rfl⟩
  have I1 := I.laid (a := s.heap.objs.size) (o := .own (s.heap.objs.size + 1)) (h' := s.heap.push PySem.W.emptyDict) (t' := s.toks) (fun b u q => Heap.get?_push_of_some _ q) (Nat.le_refl _) ⟨_, e1⟩
  refine I1.laid (a := s.heap.objs.size + 1) (o := .ins C s.heap.objs.size []) (t' := s.toks) (fun b u q => Heap.get?_push_of_some _ q) (Nat.le_of_eq (Heap.size_push _ _)) ?_
  have ne : s.heap.objs.size ≠ s.heap.objs.size + 1 := Nat.ne_of_lt (Nat.lt_succ_self _)
  refine ⟨by rw [upd_ne ne, upd_same], Nat.zero_le _, ne, e2, fun _ => none, (Heap.Ns1.of_empty e3).at fun o q => Heap.get?_push_of_some _ q, fun _ => True.intro, fun y hy => absurd rfl hy⟩
end
section
variable {X : Cx} {o e value : Expr} {f : Str} {pos pos' tpos : Pos} {ta tv : TE}
end
section
variable {X : Cx} {pins : List (Addr × Obj)} {σ : St} {H : Hp} {s : Shared} {A : Around} {E : Value → Shared → Prop} {Q : Value → Shared → Prop} {c : Value} {b : Bool}
inductive TyOf (K : PySem.W.Frag) (H : Hp) : V → Value → Prop where
  | non : TyOf K H .non (.type "NoneType")
  | bl (x : Bool) : TyOf K H (.bl x) (.type "bool")
  | int (i : Int) : TyOf K H (.int i) (.type "int")
  | str (x : Str) : TyOf K H (.str x) (.type "str")
  | flt (x : UInt64) : TyOf K H (.flt x) (.type "float")
  | lst {a : Addr} {xs : List V} (e : H a = some (.lst xs)) : TyOf K H (.ref a) (.type "list")
  | frz {a : Addr} {o : Obj} {xs : List V} (e : H a = some (.frz o (.lst xs))) : TyOf K H (.ref a) (.type "list")
  | tup {a : Addr} {xs : List V} (e : H a = some (.tup xs)) : TyOf K H (.ref a) (.type "tuple")
  | dK {a : Addr} {kvs : List (Key × V)} (e : H a = some (.dK kvs)) : TyOf K H (.ref a) (.type "dict")
  | dT {a : Addr} {kvs : List (List Key × V)} (e : H a = some (.dT kvs)) : TyOf K H (.ref a) (.type "dict")
  | ins {a C dx : Addr} {fs : List (Str × V)} (e : H a = some (.ins C dx fs)) (cl : Cls K C) (ha : PySem.W.findIn K (.ref C) "__class__" = some (some (.builtin "object.__class__")))
      (hn : PySem.W.specialIn K (.builtin "object.__class__") "__get__" = some (some (.builtin "getset_descriptor.__get__"))) (htk : PySem.W.takesIn K (.builtin "object.__class__") = some true)
      (hm : PySem.W.mroIn K C (.type "object") = some true) : TyOf K H (.ref a) (.ref C)
end
end L2
namespace L2
open PySem PySem.Spec PyProof.Rows
structure Room (k : Nat) (A : Around) : Prop where
  hd : A.handled = none
  dp : A.depth + 3 * k + 5 < recursionLimit
  un : A.units + 16 * k + 200 < cLine
  gd : A.guards = some []
theorem Room.mono {j k : Nat} {A : Around} (r : Room k A) (h : j ≤ k) : Room j A := ⟨r.hd, by have := r.dp; omega, by have := r.un; omega, r.gd⟩
theorem Room.deeper {k : Nat} {A : Around} (r : Room (k + 1) A) (env : Env) : Room k (A.deeper env) :=
  ⟨r.hd, by have := r.dp; show A.depth + 1 + 3 * k + 5 < _; omega, by have := r.un; show A.units + 3 + 16 * k + 200 < _; omega, r.gd⟩
theorem Room.in1 {k : Nat} {A : Around} (r : Room (k + 1) A) : Room k A.in1 :=
  ⟨r.hd, by have := r.dp; show A.depth + 3 * k + 5 < _; omega, by have := r.un; show A.units + 1 + 16 * k + 200 < _; omega, r.gd⟩
theorem Room.depth {k : Nat} {A : Around} (r : Room k A) : A.depth < recursionLimit := by have := r.dp; omega
theorem Room.units {k : Nat} {A : Around} (r : Room k A) : A.units + 64 < cLine := by have := r.un; omega
def tNil : TA := fun _ H Q => Q [] H
def tCons (ta : TE) (tr : TA) : TA := fun σ H Q => ta σ H fun x H1 => tr σ H1 fun xs H2 => Q (x :: xs) H2
section
variable {X : Cx} {e : Expr} {es : List Expr} {te : TE} {t : TA} {pos : Pos}
theorem pa_nil : PA X [] tNil := fun _ _ _ _ H Q I h => Calls.spliced_nil ⟨[], H, I, .nil, h⟩
theorem pa_cons (ha : PE X e te) (hr : PA X es t) (hs : starEach (e :: es) X.env = (false, eval e X.env) :: starEach es X.env := by rfl) : PA X (e :: es) (tCons te t) := by
  intro pos pins s σ H Q I h
  rw [hs]
  show wpAny _ _ (spliced ((false, eval e X.env) :: backTo pos (starEach es X.env))) _ _ s
  refine Calls.spliced_cons (thn (ha pins s σ H _ I h) fun u s1 ⟨x, H1, I1, r1, q1⟩ => ?_)
  exact thn (hr pos pins s1 σ H1 _ I1 q1) fun us s2 ⟨xs, H2, I2, r2, q2⟩ => ⟨x :: xs, H2, I2, .cons r1 r2, q2⟩
def tTup (t : TA) : TE := fun σ H Q => t σ H fun xs H1 => xs.length ≤ sizeLine ∧ ∀ p, H1 p = none → Q (.ref p) (upd H1 p (.tup xs))
def tLst (t : TA) : TE := fun σ H Q => t σ H fun xs H1 => xs.length ≤ sizeLine ∧ ∀ p, H1 p = none → Q (.ref p) (upd H1 p (.lst xs))
theorem pe_tup {x1} (h : PA X es t) : PE X (.Tuple es x1 pos) (tTup t) := by
  intro pins s σ H Q I hq
  refine wpAny_Tuple_spliced (thn (h pos pins s σ H _ I hq) fun us s1 ⟨xs, H1, I1, r, z, q⟩ => ⟨by rw [← r.length]; exact z, ?_⟩)
  have hf : H1 s1.heap.objs.size = none := I1.hok.fresh (Nat.le_refl _)
  refine ⟨.ref s1.heap.objs.size, upd H1 s1.heap.objs.size (.tup xs), I1.laid (t' := s1.toks) (fun b u e => Heap.get?_push_of_some _ e) (Nat.le_refl _) ?_, rfl, q _ hf⟩
  exact ⟨z, us, r, ⟨_, Heap.get?_push_size _ rfl, rfl, _, rfl⟩⟩
theorem pe_lst (h : PA X es t) : PE X (.List es pos) (tLst t) := by
  intro pins s σ H Q I hq
  refine wpAny_List_spliced (thn (h pos pins s σ H _ I hq) fun us s1 ⟨xs, H1, I1, r, z, q⟩ => ⟨by rw [← r.length]; exact z, ?_⟩)
  have hf : H1 s1.heap.objs.size = none := I1.hok.fresh (Nat.le_refl _)
  refine ⟨.ref s1.heap.objs.size, upd H1 s1.heap.objs.size (.lst xs), I1.laid (t' := s1.toks) (fun b u e => Heap.get?_push_of_some _ e) (Nat.le_refl _) ?_, rfl, q _ hf⟩
  exact ⟨z, us, 0, r, Heap.get?_push_size _ rfl⟩
end
abbrev Sp := List V → Hp → VK → XK → Prop
abbrev CXT := List Env → Hp → Shared → XK → Value → Shared → Prop
structure Env0 (P : Program) (w : World) (K : PySem.W.Frag) (mg : Str → Option Value) (base : Heap) (A : Around) (outer : List Env) (s : Shared) (H : Hp) : Prop where
  frames : A.frames = some outer
  mod : Mod K mg base
  bs : ∀ b o, base.get? b = some o → s.heap.get? b = some o ∧ H b = none
  bsz : base.objs.size ≤ s.heap.objs.size
  funs : s.heap.FunFrames base outer
  frf : ∀ b ∈ frs outer, H b = none
  hok : HOk P w H s.heap
  bare : AllBare s.gens
def CE (outer : List Env) (P : Program) (w : World) (H : Hp) (s : Shared) (Q : VK) (u : Value) (s' : Shared) : Prop :=
  ∃ v H', s'.os = s.os ∧ AllBare s'.gens ∧ Un (frs outer) [] H H' s.heap s'.heap ∧ HOk P w H' s'.heap ∧ RelV v u ∧ Q v H'
def CR (CX : CXT) (outer : List Env) (P : Program) (w : World) (H : Hp) (s : Shared) (Q : VK) (E : XK) (r : Result) (s' : Shared) : Prop :=
  match r with
  | .ok (.ret u) => CE outer P w H s Q u s'
  | .ok _ => False
  | .error e => CX outer H s E e s'
structure FnOk (P : Program) (w : World) (K : PySem.W.Frag) (mg : Str → Option Value) (base : Heap) (CX : CXT) (k : Nat) (f : Addr) (fd : FuncData) (ps : List Str) (sp : Sp) : Prop where
  len : ∀ vs H Q E, sp vs H Q E → vs.length = ps.length
  run : ∀ (A : Around) (outer : List Env) (s : Shared) (H : Hp) (args : Args) (us : List Value) (vs : List V) (Q : VK) (E : XK), Room k A → Env0 P w K mg base A outer s H → BindsTo s fd args (ps.zip us) → Vals vs us → sp vs H Q E →
    codeAny (model P w) A (.call (.ref f) args) (CR CX outer P w H s Q E) s
theorem FnOk.mono {P : Program} {w : World} {K : PySem.W.Frag} {mg : Str → Option Value} {base : Heap} {CX : CXT} {j k : Nat} {f : Addr} {fd : FuncData} {ps : List Str} {sp : Sp} (F : FnOk P w K mg base CX j f fd ps sp) (h : j ≤ k) :
    FnOk P w K mg base CX k f fd ps sp := ⟨F.len, fun A outer s H args us vs Q E hr => F.run A outer s H args us vs Q E (hr.mono h)⟩
theorem FnOk.imp {P : Program} {w : World} {K : PySem.W.Frag} {mg : Str → Option Value} {base : Heap} {CX : CXT} {k : Nat} {f : Addr} {fd : FuncData} {ps : List Str} {sp sp' : Sp} (F : FnOk P w K mg base CX k f fd ps sp)
    (h : ∀ vs H Q E, sp' vs H Q E → sp vs H Q E) : FnOk P w K mg base CX k f fd ps sp' :=
  ⟨fun vs H Q E q => F.len vs H Q E (h _ _ _ _ q), fun A outer s H args us vs Q E hr he hb hv hs => F.run A outer s H args us vs Q E hr he hb hv (h _ _ _ _ hs)⟩
theorem Env0.in1 {P : Program} {w : World} {K : PySem.W.Frag} {mg : Str → Option Value} {base : Heap} {A : Around} {outer : List Env} {s : Shared} {H : Hp} (e : Env0 P w K mg base A outer s H) :
    Env0 P w K mg base A.in1 outer s H := ⟨e.frames, e.mod, e.bs, e.bsz, e.funs, e.frf, e.hok, e.bare⟩
section
variable {X : Cx} {pins : List (Addr × Obj)} {σ : St} {H : Hp} {s s' : Shared}
theorem Inv.env0 (I : Inv X pins σ H s) : Env0 X.prog X.w X.K X.mg X.base X.A X.stack s H :=
  ⟨I.ok.frames, I.ok.mod, I.bs, Nat.le_trans I.ok.bsz I.sz, I.stack, I.stkFree, I.hok, I.bare⟩
theorem Inv.after {Q : VK} {u : Value} (I : Inv X pins σ H s) (h : CE X.stack X.prog X.w H s Q u s') : EP X pins σ Q u s' := by
  obtain ⟨v, H', os, bare, un, hok, r, q⟩ := h
  obtain ⟨hh, g, d, t, os'⟩ := s'
  obtain rfl : os' = s.os := os
  exact ⟨v, H', I.call (h' := hh) (g' := g) (d' := d) (t' := t) (ch := []) un hok bare (fun b z => absurd z (by simp)), r, q⟩
end
def tCall (sp : Sp) (dvs : List V) (E : XK) (t : TA) : TE := fun σ H Q => t σ H fun vs H1 => sp (vs ++ dvs) H1 Q E
def Binds (K : PySem.W.Frag) (fd : FuncData) (ps : List Str) (ds : List Value) : Prop :=
  ∀ (s : Shared) (us : List Value), K.In s.heap → (us ++ ds).length = ps.length → BindsTo s fd ⟨us, []⟩ (ps.zip (us ++ ds))
theorem Binds.all {K : PySem.W.Frag} {fd : FuncData} {ps : List Str} (h : ∀ us : List Value, us.length = ps.length → bindArgs fd ⟨us, []⟩ = pure (ps.zip us)) : Binds K fd ps [] := fun s us _ hl => by
  rw [List.append_nil] at hl ⊢
  exact .of_eq (h us hl)
def Passes (CX : CXT) (X : Cx) (E : XK) : Prop := ∀ (pins : List (Addr × Obj)) (σ : St) (H : Hp) (s : Shared) (e : Value) (s' : Shared), Inv X pins σ H s → CX X.stack H s E e s' → X.xe e s'
section
variable {X : Cx} {CX : CXT} {k : Nat} {f C : Addr} {fd : FuncData} {ps : List Str} {sp : Sp} {dvs : List V} {ds : List Value} {E : XK} {x m : Str} {p pos apos : Pos} {e o : Expr} {es : List Expr} {ta : TE} {t : TA}
theorem run_fn {pins : List (Addr × Obj)} {σ : St} {H : Hp} {s : Shared} {Q : VK} {us : List Value} {vs : List V} (F : FnOk X.prog X.w X.K X.mg X.base CX k f fd ps sp) (hr : Room k X.A) (hb : Binds X.K fd ps ds) (hd : Vals dvs ds) (hx : Passes CX X E)
    (I : Inv X pins σ H s) (r : Vals vs us) (h : sp (vs ++ dvs) H Q E) : wpAny (model X.prog X.w) X.A (call (.ref f) us) (EP X pins σ Q) X.xe s := by
  have r2 : Vals (vs ++ dvs) (us ++ ds) := r.append hd
  have hl : (us ++ ds).length = ps.length := by rw [← r2.length]; exact F.len _ _ _ _ h
  refine wpAny_call (codeAny_mono (F.run X.A X.stack s H ⟨us, []⟩ (us ++ ds) (vs ++ dvs) Q E hr I.env0 (hb s us I.kIn hl) r2 h) fun r s' hq => ?_)
  cases r with
  | error e => exact hx pins σ H s e s' I hq
  | ok fl =>
    cases fl with
    | ret u => exact I.after hq
    | next => exact False.elim hq
    | brk => exact False.elim hq
    | cont => exact False.elim hq
theorem pe_call (F : FnOk X.prog X.w X.K X.mg X.base CX k f fd ps sp) (hr : Room k X.A) (hg : Gl X x) (hm : X.mg x = some (.ref f)) (hk : PySem.W.keepIn X.K (.ref f) = true) (hb : Binds X.K fd ps ds) (hd : Vals dvs ds) (hx : Passes CX X E)
    (ha : PA X (e :: es) t) (hdb : (x == ("__debug__" : Str)) = false := by decide) (he : starEach (e :: es) X.env = (false, eval e X.env) :: starEach es X.env := by rfl) (hpl : (backTo pos (starEach es X.env)).any (·.1) = false := by rfl) :
    PE X (.Call (.Name x p) (e :: es) [] pos) (tCall sp dvs E t) := by
  intro pins s σ H Q I h
  refine wpAny_Call_Name_kw (ld_glob I hg hm ?_ hdb)
  refine PySem.W.callWith_K (h₀ := X.base) I.ok.mod.kin hk (thn (ha pos pins s σ H _ I h) fun us s1 ⟨vs, H1, I1, r, q⟩ => ⟨I1.kIn, ?_⟩) he hpl
  exact run_fn F hr hb hd hx I1 r q
structure Mk (K : PySem.W.Frag) (C f : Addr) : Prop where
  makes : PySem.W.makesIn K C = true
  init : PySem.W.findIn K (.ref C) "__init__" = some (some (.ref f))
  fn : PySem.W.isFn K (.ref f) = true
  kp : PySem.W.keepIn K (.ref C) = true
end
section
variable {X : Cx} {CX : CXT} {k : Nat} {f C : Addr} {fd : FuncData} {ps ks : List Str} {sp : Sp} {E : XK} {x m : Str} {p pos apos kpos : Pos} {e o : Expr} {es : List Expr} {kws : List Keyword} {te ta : TE} {t tk : TA} {nm : Option Str}
structure KBinds (K : PySem.W.Frag) (fd : FuncData) (ps ks : List Str) (g : List Value → List Value → List Value) (gV : List V → List V → List V) : Prop where
  to : ∀ (s : Shared) (us ws : List Value), K.In s.heap → (g us ws).length = ps.length → BindsTo s fd ⟨us, ks.zip ws⟩ (ps.zip (g us ws))
  rel : ∀ {vs : List V} {us : List Value} {zs : List V} {ws : List Value}, Vals vs us → Vals zs ws → Vals (gV vs zs) (g us ws)
variable {g : List Value → List Value → List Value} {gV : List V → List V → List V}
end
structure FnScope (N P : List Str) (sc : Scope) : Prop where
  kind : sc.kind = .function
  co : sc.isCoroutine = false
  gen : sc.isGenerator = false
  nd : N.Nodup
  pre : N.take P.length = P
  par : ∀ x ∈ P, sc.names.lookup x = some .local ∨ sc.names.lookup x = some .cell
  nofree : ∀ y ∈ sc.names, y.2 ≠ .free
theorem bindL_out {kindOf : Str → Option NameKind} {x : Str} : ∀ {binds : List (Str × Value)} {m : Str → Option Value}, (∀ v, (x, v) ∉ binds) → bindL kindOf binds m x = m x
  | [], _, _ => rfl
  | (n, v) :: r, m, h => by
    unfold bindL
    rw [bindL_out fun w hw => h w (List.mem_cons_of_mem _ hw)]
    split
    · have : x ≠ n := by rintro rfl; exact h v List.mem_cons_self
      simp [this]
    · rfl
theorem bindC_out {kindOf : Str → Option NameKind} {x : Str} : ∀ {binds : List (Str × Value)} {m : Str → Option Value}, (∀ v, (x, v) ∉ binds) → bindC kindOf binds m x = m x
  | [], _, _ => rfl
  | (n, v) :: r, m, h => by
    unfold bindC
    rw [bindC_out fun w hw => h w (List.mem_cons_of_mem _ hw)]
    split
    · rfl
    · have : x ≠ n := by rintro rfl; exact h v List.mem_cons_self
      simp [this]
theorem bindL_get {kindOf : Str → Option NameKind} {x : Str} {v : Value} : ∀ {P : List Str} {vs : List Value} {i : Nat} {m : Str → Option Value}, P.Nodup → P[i]? = some x → vs[i]? = some v → kindOf x = some .local →
    bindL kindOf (P.zip vs) m x = some v
  | [], _, _, _, _, h, _, _ => by simp at h
  | _ :: _, [], _, _, _, _, h, _ => by simp at h
  | p :: P, w :: vs, 0, m, nd, h1, h2, hk => by
    simp at h1 h2; subst h1; subst h2
    show bindL kindOf ((p, w) :: P.zip vs) m p = _
    unfold bindL
    rw [bindL_out fun v hv => (List.nodup_cons.mp nd).1 (List.of_mem_zip hv).1, if_pos hk]
    simp
  | p :: P, w :: vs, i + 1, m, nd, h1, h2, hk => by
    show bindL kindOf ((p, w) :: P.zip vs) m x = _
    unfold bindL
    exact bindL_get (i := i) (List.nodup_cons.mp nd).2 (by simpa using h1) (by simpa using h2) hk
theorem bindC_get {kindOf : Str → Option NameKind} {x : Str} {v : Value} : ∀ {P : List Str} {vs : List Value} {i : Nat} {m : Str → Option Value}, P.Nodup → P[i]? = some x → vs[i]? = some v → kindOf x ≠ some .local →
    bindC kindOf (P.zip vs) m x = some v
  | [], _, _, _, _, h, _, _ => by simp at h
  | _ :: _, [], _, _, _, _, h, _ => by simp at h
  | p :: P, w :: vs, 0, m, nd, h1, h2, hk => by
    simp at h1 h2; subst h1; subst h2
    show bindC kindOf ((p, w) :: P.zip vs) m p = _
    unfold bindC
    rw [bindC_out fun v hv => (List.nodup_cons.mp nd).1 (List.of_mem_zip hv).1, if_neg hk]
    simp
  | p :: P, w :: vs, i + 1, m, nd, h1, h2, hk => by
    show bindC kindOf ((p, w) :: P.zip vs) m x = _
    unfold bindC
    exact bindC_get (i := i) (List.nodup_cons.mp nd).2 (by simpa using h1) (by simpa using h2) hk
def start (N : List Str) (vs : List V) : St := vs.map some ++ List.replicate (N.length - vs.length) none
def cxOf (CX : CXT) (P : Program) (w : World) (K : PySem.W.Frag) (mg : Str → Option Value) (base : Heap) (N : List Str) (qual : Str) (scope : Scope) (f : Addr) (cd : Value) (A : Around) (outer : List Env) (s : Shared) (H : Hp) (E : XK) : Cx where
  prog := P
  w := w
  K := K
  mg := mg
  base := base
  A := A.deeper (envOfC qual scope s.heap.objs.size f cd)
  N := N
  s_0 := s
  H_0 := H
  env := envOfC qual scope s.heap.objs.size f cd
  outer := outer
  stack := envOfC qual scope s.heap.objs.size f cd :: outer
  ex := []
  calm := true
  fn := fun _ => true
  pn := []
  xe := fun e s' => wpAny (model P w) (A.deeper (envOfC qual scope s.heap.objs.size f cd)) (leaving (envOfC qual scope s.heap.objs.size f cd) e) (fun _ s'' => CX outer H s E e s'') (fun e' s'' => CX outer H s E e' s'') s'
theorem cell_has {sc : Scope} {n : Nat} {x : Str} (h : sc.names.lookup x = some .cell) : ∃ c, (cellsFrom n sc.names []).lookup x = some c := by
  have q := PySem.W.cellsFrom_some sc.names n [] (.inl h)
  exact Option.isSome_iff_exists.mp q
theorem inv_start {CX : CXT} {P : Program} {w : World} {K : PySem.W.Frag} {mg : Str → Option Value} {base : Heap} {N ps : List Str} {qual : Str} {scope : Scope} {f : Addr} {cd : Value} {A : Around} {outer : List Env} {s s1 : Shared} {H : Hp} {E : XK} {us : List Value} {vs : List V}
    (S : FnScope N ps scope) (hd : A.handled = none) (e0 : Env0 P w K mg base A outer s H) (hl : vs.length = ps.length) (r : Vals vs us)
    (x : InCallC s s.heap.objs.size (bindL (envOfC qual scope s.heap.objs.size f cd).kindOf (ps.zip us) fun _ => none) (cellsFrom (s.heap.objs.size + 1) scope.names []) (bindC (envOfC qual scope s.heap.objs.size f cd).kindOf (ps.zip us) fun _ => none) s1) :
    Inv (cxOf CX P w K mg base N qual scope f cd A outer s H E) [] (start N vs) H s1 := by
  have hpl : ps.length ≤ N.length := by have := congrArg List.length S.pre; rw [List.length_take] at this; omega
  obtain ⟨h1, tk, rfl, hk⟩ := x.done
  have noA : ∀ b : Addr, b ∉ (cxOf CX P w K mg base N qual scope f cd A outer s H E).ex := fun b z => absurd (show b ∈ ([] : List Addr) from z) (by simp)
  refine ⟨⟨e0.mod, S.kind, rfl, rfl, Nat.le_refl _, fun y z c h1 h2 => ?_, fun y hy => ?_, fun y c _ h => ?_, fun _ => hd, Around.frames_deeper e0.frames, .inr ⟨rfl, rfl⟩, fun b z => absurd z (noA b), e0.bs, e0.bsz, fun b _ _ => noA b, fun b z => absurd z (noA b), e0.funs, e0.frf⟩,
    rfl, e0.bare, Un.kept hk, ⟨_, x.toInCall.ns, fun i y v h1 h2 h3 => ?_⟩, fun y c h => ⟨_, x.cell y c h⟩, e0.hok.fresh (Nat.le_refl _), fun y c h => ?_, fun p hp => absurd (show p ∈ ([] : List (Addr × Obj)) from hp) (by simp), e0.hok.kept hk, ?_⟩
  · exact name_of_addr x.apart (PySem.mem_of_lookup h1) (PySem.mem_of_lookup h2)
  · have hy : scope.names.lookup y = some .cell ∨ scope.names.lookup y = some .free := hy
    rcases hy with hy | hy
    · exact cell_has hy
    · exact absurd rfl (S.nofree _ (PySem.mem_of_lookup hy))
  · exact Nat.le_of_lt (x.above y c (PySem.mem_of_lookup h))
  · have hi : i < vs.length := by
      unfold start at h2
      by_cases hi : i < vs.length
      · exact hi
      · rw [List.getElem?_append_right (by simpa using hi)] at h2
        rw [List.getElem?_replicate] at h2
        split at h2 <;> cases h2
    have ha : vs[i]? = some v := by
      unfold start at h2
      rw [List.getElem?_append_left (by simpa using hi), List.getElem?_map] at h2
      cases e : vs[i]? with
      | none => rw [e] at h2; cases h2
      | some a => rw [e] at h2; cases h2; rfl
    obtain ⟨u, hu, rv⟩ := r.get ha
    have hp : ps[i]? = some y := by
      rw [← S.pre, List.getElem?_take_of_lt (by omega)]; exact h1
    have ndP : ps.Nodup := by rw [← S.pre]; exact S.nd.sublist (List.take_sublist _ _)
    refine ⟨u, rv, ?_⟩
    rcases S.par y (List.mem_of_getElem? hp) with k | k
    · exact .inl ⟨k, bindL_get ndP hp hu k⟩
    · obtain ⟨c, e⟩ := cell_has (n := s.heap.objs.size + 1) k
      refine .inr ⟨.inl k, c, e, ?_⟩
      have q := x.cell y c e
      rw [bindC_get ndP hp hu (by show scope.names.lookup y ≠ _; rw [k]; decide)] at q
      exact q
  · exact e0.hok.fresh (Nat.le_of_lt (x.above y c (PySem.mem_of_lookup h)))
  · unfold start
    show _ = N.length
    rw [List.length_append, List.length_map, List.length_replicate]
    omega
theorem fn_of {CX : CXT} {P : Program} {w : World} {K : PySem.W.Frag} {mg : Str → Option Value} {base : Heap} {k : Nat} {f : Addr} {name qual : Str} {params : Arguments} {body : List Stmt} {scope : Scope} {dV kV doc pm cdv ct oc : Value} {an od : Option Addr}
    {osl : Array (Option Value)} {N ps : List Str} {sp : Sp} (lk : K.lookup f = some ⟨oc, od, .func (PySem.W.fnOf name qual params body scope dV kV doc pm an cdv ct), osl⟩) (hcd : PySem.W.codeIn K cdv qual = true) (S : FnScope N ps scope)
    (len : ∀ vs H Q E, sp vs H Q E → vs.length = ps.length)
    (hbody : ∀ (A : Around) (outer : List Env) (s : Shared) (H : Hp) (vs : List V) (Q : VK) (E : XK), Room k (A.deeper (envOfC qual scope s.heap.objs.size f cdv)) → sp vs H Q E →
      ∃ t, PSs (cxOf CX P w K mg base N qual scope f cdv A outer s H E) body t ∧ t { nx := fun _ H' => Q .non H', rt := Q } (start N vs) H) :
    FnOk P w K mg base CX (k + 1) f (PySem.W.fnOf name qual params body scope dV kV doc pm an cdv ct) ps sp := by
  refine ⟨len, fun A outer s H args us vs Q E hr e0 hb r hsp => ?_⟩
  have hl := len _ _ _ _ hsp
  have KX : K.In s.heap := e0.mod.kin.keeps fun b o e => (e0.bs b o e).1
  have lim : s.heap.NoLimit := e0.mod.nolimit.keeps fun b o e => (e0.bs b o e).1
  have hkind : ∀ y ∈ ps.zip us, scope.names.lookup y.1 = some .local ∨ (scope.names.lookup y.1 = some .cell ∧ ((cellsFrom (s.heap.objs.size + 1) scope.names []).lookup y.1).isSome = true) := fun ⟨n, v⟩ hy => by
    rcases S.par n (List.of_mem_zip hy).1 with q | q
    · exact .inl q
    · exact .inr ⟨q, PySem.W.cellsFrom_some _ _ _ (.inl q)⟩
  refine codeAny_call_function hr.depth (KX _ _ lk) rfl S.co S.gen rfl (PySem.W.codeRec_of KX hcd) (hb _ _ _ _ ?_)
  refine wpAny_newFunctionEnv_cells S.kind hkind fun env he s1 x => ?_
  subst he
  refine ⟨lim.keeps x.toInCall.keep, codeAny_func ?_⟩
  obtain ⟨t, ht, hq⟩ := hbody A outer s H vs Q E (hr.deeper _) hsp
  have I : Inv (cxOf CX P w K mg base N qual scope f cdv A outer s H E) [] (start N vs) H s1 := inv_start S hr.hd e0 hl r x
  refine wpAny_mono (ht [] s1 (start N vs) H _ I hq) (fun fl s' hs => ?_) fun e s' hs => hs
  have fin : ∀ {σ' : St} {H' : Hp} {v : V} {u : Value}, Inv (cxOf CX P w K mg base N qual scope f cdv A outer s H E) [] σ' H' s' → RelV v u → Q v H' → CE outer P w H s Q u s' :=
    fun {σ' H' v u} J rv q => ⟨v, H', J.os, J.bare, J.base, J.hok, rv, q⟩
  cases fl with
  | ret u =>
    obtain ⟨v, σ', H', J, rv, q⟩ := hs
    exact fin J rv q
  | next =>
    obtain ⟨σ', H', J, q⟩ := hs
    exact fin (v := V.non) (u := Value.none) J rfl q
  | brk =>
    obtain ⟨_, _, _, q⟩ := hs
    exact False.elim q
  | cont =>
    obtain ⟨_, _, _, q⟩ := hs
    exact False.elim q
end L2
namespace L2
open PySem PySem.Spec PyProof.Rows
section
variable {X : Cx} {x : Str} {p pos : Pos} {e : Expr} {es : List Expr} {t : TA} {id T : String} {r : List V → Hp → VK → Prop}
def tCB (r : List V → Hp → VK → Prop) (t : TA) : TE := fun σ H Q => t σ H fun vs H1 => r vs H1 Q
theorem pe_callB (hc : CallR X (.builtin id) r) (hg : Gl X x) (hm : X.mg x = none) (hv : bootBuiltins x = some (.builtin id)) (ha : PA X (e :: es) t) (hn : x ≠ "__name__" := by decide) (hdb : (x == ("__debug__" : Str)) = false := by decide)
    (he : starEach (e :: es) X.env = (false, eval e X.env) :: starEach es X.env := by rfl) (hpl : (backTo pos (starEach es X.env)).any (·.1) = false := by rfl) : PE X (.Call (.Name x p) (e :: es) [] pos) (tCB r t) := by
  intro pins s σ H Q I h
  refine wpAny_Call_Name_kw (ld_blt I hg hm hv ?_ hn hdb)
  exact PyProof.Rows.callWith_builtin1 (thn (ha pos pins s σ H _ I h) fun us s1 ⟨vs, H1, I1, r1, q1⟩ => hc pins s1 σ H1 vs us Q I1 r1 q1) he hpl
theorem pe_callTy (hc : CallR X (.type T) r) (hg : Gl X x) (hm : X.mg x = none) (hv : bootBuiltins x = some (.type T)) (ha : PA X (e :: es) t) (hn : x ≠ "__name__" := by decide) (hdb : (x == ("__debug__" : Str)) = false := by decide)
    (he : starEach (e :: es) X.env = (false, eval e X.env) :: starEach es X.env := by rfl) (hpl : (backTo pos (starEach es X.env)).any (·.1) = false := by rfl) : PE X (.Call (.Name x p) (e :: es) [] pos) (tCB r t) := by
  intro pins s σ H Q I h
  refine wpAny_Call_Name_kw (ld_blt I hg hm hv ?_ hn hdb)
  exact PyProof.Rows.callWith_type1 (thn (ha pos pins s σ H _ I h) fun us s1 ⟨vs, H1, I1, r1, q1⟩ => hc pins s1 σ H1 vs us Q I1 r1 q1) he hpl
end
end L2
namespace HT
open PySem PyProof.Rows
section
open PySem.SeqAt
open PySem.AutoSeq1 (wpAny_loadPart')
open PySem.MeetsSeq PySem.MeetsSeq2 PySem.MeetsSeq3
end
section
variable {prog : Program} {w : World} {A : Around} {E : Value → Shared → Prop} {s : Shared}
theorem cat_tup {t b : Addr} {vs ws : List Value} {Q : Value → Shared → Prop} (ht : IsTup s.heap t vs.toArray) (hb : IsTup s.heap b ws.toArray) (hv : vs ≠ [])
    (h1 : ws = [] → Q (.ref t) s) (h2 : ws ≠ [] → Q (.ref s.heap.objs.size) { s with heap := s.heap.push { cls := .type "tuple", data := .seq (vs ++ ws).toArray } })
    (hsz : vs.length + ws.length ≤ sizeLine) : wpAny (model prog w) A (binaryOp .Add (.ref t) (.ref b)) Q E s := by
  obtain ⟨⟨cls, dd, data, sl⟩, ho, hc, n, hd⟩ := id ht
  obtain ⟨⟨cls2, dd2, data2, sl2⟩, ho2, hc2, n2, hd2⟩ := id hb
  simp only at hc hd hc2 hd2
  subst hc hd hc2 hd2
  have e : vs.toArray ++ ws.toArray = (vs ++ ws).toArray := by simp
  by_cases hw : ws = []
  · exact concat_meets ⟨_, ho, rfl⟩ ⟨_, ho2, rfl⟩ noFill_tuple_add seq_tuple_add PySem.F.slot_tuple_add PySem.F.entry_tuple_add (PySem.F.args_tuple_add_2 _ _)
      (tuple_addW1 t b vs.toArray ws.toArray n n2 dd dd2 sl sl2 (by simpa using hv) (by simp [hw])) ⟨ho, ho2, h1 hw⟩
  · refine concat_meets ⟨_, ho, rfl⟩ ⟨_, ho2, rfl⟩ noFill_tuple_add seq_tuple_add PySem.F.slot_tuple_add PySem.F.entry_tuple_add (PySem.F.args_tuple_add_2 _ _)
      (tuple_addW2 t b vs.toArray ws.toArray n n2 dd dd2 sl sl2 (by simpa using hv) (by simpa using hw) (by rw [List.size_toArray, List.size_toArray]; exact hsz)) ⟨ho, ho2, ?_⟩
    rw [e]
    exact h2 hw
def sIx (n d : Nat) : Option Int → Nat
  | none => d
  | some v => if v < 0 then (v + (n : Int)).toNat else min v.toNat n
theorem sIx_none (n d : Nat) : sIx n d none = d := rfl
theorem sIx_nat (n d k : Nat) : sIx n d (some (k : Int)) = min k n := by
  show (if (k : Int) < 0 then ((k : Int) + (n : Int)).toNat else min (k : Int).toNat n) = min k n
  rw [if_neg (by omega), Int.toNat_natCast]
theorem sIx_le (n d : Nat) (hd : d ≤ n) (o : Option Int) : sIx n d o ≤ n := by
  cases o with
  | none => exact hd
  | some v =>
    show (if v < 0 then (v + (n : Int)).toNat else min v.toNat n) ≤ n
    by_cases hv : v < 0
    · rw [if_pos hv]; omega
    · rw [if_neg hv]; exact Nat.min_le_right _ _
theorem clip_eq (v : Int) (n d : Nat) : (if v < 0 then max (v + (n : Int)) 0 else min v (n : Int)) = ((sIx n d (some v) : Nat) : Int) := by
  show (if v < 0 then max (v + (n : Int)) 0 else min v (n : Int)) = (((if v < 0 then (v + (n : Int)).toNat else min v.toNat n) : Nat) : Int)
  by_cases hv : v < 0
  · simp only [if_pos hv]; omega
  · simp only [if_neg hv]; omega
theorem adjust_gen (lo hi : Option Int) (n : Nat) : Builtin.Slice.sliceAdjust lo hi 1 (n : Int) = (((sIx n 0 lo : Nat) : Int), ((sIx n n hi : Nat) : Int)) := by
  have h1 : ¬ ((1 : Int) < 0) := by omega
  unfold Builtin.Slice.sliceAdjust
  simp only [h1, if_false]
  refine Prod.ext ?_ ?_
  · cases lo with
    | none => rfl
    | some v => exact clip_eq v n 0
  · cases hi with
    | none => rfl
    | some v => exact clip_eq v n n
theorem places_gen (i j : Nat) : Builtin.Slice.slicePlaces (i : Int) (j : Int) 1 = j - i := by
  unfold Builtin.Slice.slicePlaces
  have h1 : (1 : Int) > 0 := by omega
  simp only [h1, if_true, Int.ediv_one]
  split <;> omega
theorem slicePart_ {v : Value} {o : Option Int} {Q : Option Int → Shared → Prop} (p : IsPart v o) (h : Q o s) : wpAny (model prog w) A (Builtin.Slice.slicePartIndex v) Q E s := by
  cases p with
  | none => exact slicePart_none h
  | int i t => exact slicePart_int h
theorem sliceApplied_gen {sl : Addr} {vl vu : Value} {lo hi : Option Int} {n : Nat} {Q : Int × Int × Nat → Shared → Prop} (hs : s.heap.IsSliceOf sl vl vu .none) (pl : IsPart vl lo) (pu : IsPart vu hi)
    (h : Q (((sIx n 0 lo : Nat) : Int), 1, sIx n n hi - sIx n 0 lo) s) : wpAny (model prog w) A (Builtin.Slice.sliceApplied (.ref sl) (pure (n : Int))) Q E s := by
  obtain ⟨os, hos, hcs, hds⟩ := id hs
  unfold Builtin.Slice.sliceApplied Builtin.Slice.sliceFields
  refine wpAny_bind (wpAny_bind (wpAny_field hos hds (x := vl) rfl (wpAny_bind (wpAny_field hos hds (x := vu) rfl (wpAny_bind (wpAny_field hos hds (x := .none) rfl (wpAny_pure ?_)))))))
  refine wpAny_bind (slicePart_none ?_)
  show wpAny _ _ (if ((1 : Int) == 0) = true then _ else _) _ _ s
  rw [if_neg (by decide)]
  refine wpAny_bind (slicePart_ pl (wpAny_bind (slicePart_ pu (wpAny_bind (wpAny_pure ?_)))))
  show wpAny _ _ (match Builtin.Slice.sliceAdjust lo hi 1 (n : Int) with | (lo, hi) => pure (lo, (1 : Int), Builtin.Slice.slicePlaces lo hi 1)) _ _ s
  rw [adjust_gen lo hi n]
  show wpAny _ _ (pure (((sIx n 0 lo : Nat) : Int), (1 : Int), Builtin.Slice.slicePlaces ((sIx n 0 lo : Nat) : Int) ((sIx n n hi : Nat) : Int) 1)) _ _ s
  rw [places_gen]
  exact wpAny_pure h
theorem pick_gen (xs : Array Value) (i k : Nat) : ((List.range k).filterMap fun (m : Nat) => xs[((i : Int) + (m : Int) * 1).toNat]?).toArray = ((xs.toList.drop i).take k).toArray := by
  have e : (fun (m : Nat) => xs[((i : Int) + (m : Int) * 1).toNat]?) = fun m => xs[i + m]? := by
    funext m
    have : ((i : Int) + (m : Int) * 1).toNat = i + m := by omega
    rw [this]
  rw [e]
  have := pick_run xs i k
  rw [List.filterMap_map] at this
  have e2 : ((fun x => xs[x]?) ∘ fun x => i + x) = fun m => xs[i + m]? := rfl
  rw [e2] at this
  rw [this]
theorem getItem_tuple_cut {t sl : Addr} {items : Array Value} {vl vu : Value} {lo hi : Option Int} {Q : Value → Shared → Prop} (ht : IsTup s.heap t items) (hs : s.heap.IsSliceOf sl vl vu .none) (pl : IsPart vl lo) (pu : IsPart vu hi)
    (hw : ¬ (sIx items.size 0 lo = 0 ∧ sIx items.size items.size hi = items.size))
    (h : Q (.ref s.heap.objs.size) { s with heap := s.heap.push { cls := .type "tuple", data := .seq ((items.toList.drop (sIx items.size 0 lo)).take (sIx items.size items.size hi - sIx items.size 0 lo)).toArray } })
    (hsz : items.size ≤ sizeLine) : wpAny (model prog w) A (getItem (.ref t) (.ref sl)) Q E s := by
  have htake : sizeOk (.seq ((items.toList.drop (sIx items.size 0 lo)).take (sIx items.size items.size hi - sIx items.size 0 lo)).toArray) := by
    show ((items.toList.drop (sIx items.size 0 lo)).take (sIx items.size items.size hi - sIx items.size 0 lo)).toArray.size ≤ sizeLine
    rw [List.size_toArray, List.length_take, List.length_drop, Array.length_toList]
    omega
  have hj : sIx items.size items.size hi ≤ items.size := sIx_le _ _ (Nat.le_refl _) hi
  obtain ⟨os, hos, hcs, hds⟩ := id hs
  have hTs : s.TypeIs (.ref sl) "slice" := ⟨os, hos, hcs⟩
  unfold getItem
  try with_reducible refine wpAny_holding ?_
  first | refine wpAny_bind (wpAny_pure ?_) | skip
  refine wpAny_bind (wpAny_sequenceKey ht.typeIs (by decide) ?_)
  refine wpAny_bind (wpAny_callSpecial?_slot (name := Str.ofString "__getitem__") ht.typeIs PyProof.Rows.slot_tuple_getitem
    (wpAny_call_entry PyProof.Rows.slot_tuple_getitem ht.typeIs entry_tuple_getitem ?_ (args_tuple_getitem _ _)))
  show wpAny _ _ (Builtin.Tuple.tupleItemsOf (.ref t) >>= _) _ _ s
  refine wpAny_bind (tupleItemsOf_ ht ?_)
  refine wpAny_bind (wpAny_typeOf hTs ?_)
  rw [if_pos (by decide)]
  refine wpAny_bind (sliceApplied_gen hs pl pu ?_)
  have hno : ¬ ((((sIx items.size 0 lo : Nat) : Int) == 0 && (1 : Int) == 1 && (sIx items.size items.size hi - sIx items.size 0 lo) == items.size) = true) := by
    intro q
    rw [Bool.and_eq_true, Bool.and_eq_true] at q
    have q1 : ((sIx items.size 0 lo : Nat) : Int) = 0 := eq_of_beq q.1.1
    have q2 : sIx items.size items.size hi - sIx items.size 0 lo = items.size := eq_of_beq q.2
    exact hw ⟨by omega, by omega⟩
  show wpAny _ _ (if (((sIx items.size 0 lo : Nat) : Int) == 0 && (1 : Int) == 1 && (sIx items.size items.size hi - sIx items.size 0 lo) == items.size) = true then _ else _) _ _ s
  rw [if_neg hno, pick_gen]
  first
    | exact wpAny_bind (m := Builtin.Tuple.tupleExact _) (wpAny_newObj_type (wpAny_pure ⟨_, rfl, wpAny_pure h⟩) htake)
    | exact wpAny_bind (m := Builtin.Tuple.tupleExact _) (wpAny_newObj_type (wpAny_bind (wpAny_pure (wpAny_pure ⟨_, rfl, wpAny_pure h⟩))) htake)
    | exact wpAny_bind (wpAny_bind (m := Builtin.Tuple.tupleExact _) (wpAny_newObj_type (wpAny_pure (wpAny_pure ⟨_, rfl, wpAny_pure h⟩)) htake))
    | exact wpAny_bind (wpAny_bind (m := Builtin.Tuple.tupleExact _) (wpAny_newObj_type (wpAny_pure ⟨_, rfl, wpAny_pure h⟩) htake))
end
end HT
namespace L2
open PySem PySem.Spec PyProof.Rows
abbrev TO := St → Hp → (Option Int → Hp → Prop) → Prop
def PO (X : Cx) (e : Option Expr) (t : TO) : Prop :=
  ∀ (pins : List (Addr × Obj)) (s : Shared) (σ : St) (H : Hp) (Q : Option Int → Hp → Prop), Inv X pins σ H s → t σ H Q →
    wpAny (model X.prog X.w) X.A (evalPart e X.env) (fun u s' => ∃ o H', Inv X pins σ H' s' ∧ IsPart u o ∧ Q o H') X.xe s
def tNoPart : TO := fun _ H Q => Q none H
def tPart (t : TE) : TO := fun σ H Q => t σ H fun x H1 => ∃ i, x = .int i ∧ Q (some i) H1
section
variable {X : Cx} {e : Expr} {te : TE} {lo hi : Option Expr} {tl th : TO} {pos p2 : Pos}
theorem po_none : PO X none tNoPart := by
  intro pins s σ H Q I h
  rw [evalPart_none]
  exact wpAny_pure ⟨none, H, I, .none, h⟩
theorem po_some (h : PE X e te) : PO X (some e) (tPart te) := by
  intro pins s σ H Q I hw
  rw [evalPart_some]
  refine thn (h pins s σ H _ I hw) fun u s1 ⟨x, H1, I1, r1, q1⟩ => ?_
  obtain ⟨i, rfl, q⟩ := q1
  obtain ⟨t, rfl⟩ := r1
  exact ⟨some i, H1, I1, .int i t, q⟩
def SlR (X : Cx) (r : V → Option Int → Option Int → Hp → VK → Prop) : Prop :=
  ∀ (pins : List (Addr × Obj)) (s : Shared) (σ : St) (H : Hp) (x : V) (v vl vu : Value) (lo hi : Option Int) (sl : Addr) (Q : VK), Inv X pins σ H s → RelV x v → s.heap.IsSliceOf sl vl vu .none → IsPart vl lo → IsPart vu hi → r x lo hi H Q →
    ∃ T id, typeLookup (.type T) "__getitem__" = pure (some (.builtin id)) ∧ s.TypeIs v T ∧ wpAny (model X.prog X.w) X.A (getItem v (.ref sl)) (EP X pins σ Q) X.xe s
theorem SlR.or {r r' : V → Option Int → Option Int → Hp → VK → Prop} (h : SlR X r) (h' : SlR X r') : SlR X (fun x lo hi H Q => r x lo hi H Q ∨ r' x lo hi H Q) := by
  intro pins s σ H x v vl vu lo hi sl Q I rx hs pl pu q
  rcases q with q | q
  · exact h pins s σ H x v vl vu lo hi sl Q I rx hs pl pu q
  · exact h' pins s σ H x v vl vu lo hi sl Q I rx hs pl pu q
def tSl (r : V → Option Int → Option Int → Hp → VK → Prop) (te : TE) (tl th : TO) : TE := fun σ H Q => te σ H fun x H1 => tl σ H1 fun l H2 => th σ H2 fun u H3 => r x l u H3 Q
theorem pe_slice {r : V → Option Int → Option Int → Hp → VK → Prop} (hr : SlR X r) (he : PE X e te) (hl : PO X lo tl) (hu : PO X hi th) : PE X (.Subscript e (.Slice lo hi none p2) pos) (tSl r te tl th) := by
  intro pins s σ H Q I h
  refine Subscript_ (thn (he pins s σ H _ I h) fun v s1 ⟨x, H1, I1, r1, q1⟩ => ?_)
  refine wpAny_Slice (thn (hl pins s1 σ H1 _ I1 q1) fun vl s2 ⟨l, H2, I2, pl, q2⟩ => thn (hu pins s2 σ H2 _ I2 q2) fun vu s3 ⟨u, H3, I3, pu, q3⟩ => ?_)
  rw [evalPart_none]
  refine wpAny_pure ?_
  have I4 : Inv X pins σ H3 { s3 with heap := s3.heap.push { cls := .type "slice", data := .fields #[vl, vu, .none] } } := I3.kept (t' := s3.toks) fun b ob q => Heap.get?_push_of_some _ q
  obtain ⟨T, id, hT, ht, hg⟩ := hr pins { s3 with heap := s3.heap.push { cls := .type "slice", data := .fields #[vl, vu, .none] } } σ H3 x v vl vu l u s3.heap.objs.size Q I4 r1 (Heap.IsSliceOf.new ..) pl pu q3
  show wpAny (model X.prog X.w) X.A (subscriptTail e (.Slice lo hi none p2) v (.ref s3.heap.objs.size)) (EP X pins σ Q) X.xe { s3 with heap := s3.heap.push { cls := .type "slice", data := .fields #[vl, vu, .none] } }
  exact tail_any (ops := [.ref s3.heap.objs.size, v]) ht hT hg (by with_unfolding_all rfl)
def cutV (xs : List V) (lo hi : Option Int) : List V := (xs.drop (HT.sIx xs.length 0 lo)).take (HT.sIx xs.length xs.length hi - HT.sIx xs.length 0 lo)
theorem cutV_length (xs : List V) (lo hi : Option Int) : (cutV xs lo hi).length ≤ xs.length := by
  unfold cutV
  rw [List.length_take, List.length_drop]
  omega
def rSlT (K : PySem.W.Frag) : V → Option Int → Option Int → Hp → VK → Prop := fun x lo hi H Q => ∃ a xs, x = .ref a ∧ SqT K H a xs ∧
  ¬ (HT.sIx xs.length 0 lo = 0 ∧ HT.sIx xs.length xs.length hi = xs.length) ∧ ∀ p, H p = none → Q (.ref p) (upd H p (.tup (cutV xs lo hi)))
theorem sl_tup : SlR X (rSlT X.K) := by
  intro pins s σ H x v vl vu lo hi sl Q I rx hs pl pu h
  obtain ⟨a, xs, rfl, hx, hw, q⟩ := h
  cases rx
  obtain ⟨its, r, ht, hz⟩ := I.tuple hx
  have hlen : its.toArray.size = xs.length := by rw [List.size_toArray]; exact r.length.symm
  refine ⟨"tuple", _, PyProof.Rows.slot_tuple_getitem.lookup, ht.typeIs, ?_⟩
  refine HT.getItem_tuple_cut ht hs pl pu (by rw [hlen]; exact hw) ?_ (by rw [hlen]; exact hz)
  rw [hlen]
  refine ⟨.ref s.heap.objs.size, _, I.laid (t' := s.toks) (o := .tup (cutV xs lo hi)) (fun b ob q => Heap.get?_push_of_some _ q) (Nat.le_refl _) ?_, rfl, q _ (I.hok.fresh (Nat.le_refl _))⟩
  exact ⟨Nat.le_trans (cutV_length xs lo hi) hz, _, (r.drop (HT.sIx xs.length 0 lo)).take (HT.sIx xs.length xs.length hi - HT.sIx xs.length 0 lo), IsTup.new _ _⟩
theorem Vals.nil_iff {xs : List V} {us : List Value} (r : Vals xs us) : us = [] ↔ xs = [] := by
  cases r with
  | nil => simp
  | cons _ _ => simp
end
end L2
namespace L2
open PySem PySem.Spec PyProof.Rows
def ixN (n : Nat) (i : Int) : Option Nat := if 0 ≤ i then (if i < n then some i.toNat else none) else if -(n : Int) ≤ i then some (i + n).toNat else none
def atI {α : Type} (xs : List α) (i : Int) : Option α := (ixN xs.length i).bind fun j => xs[j]?
theorem ixN_seq {n : Nat} {i : Int} {j : Nat} (h : ixN n i = some j) : seqIndex? i n = some j ∧ j < n ∧ -(n : Int) ≤ i ∧ i < n := by
  unfold ixN at h
  by_cases h0 : 0 ≤ i
  · rw [if_pos h0] at h
    by_cases h1 : i < n
    · rw [if_pos h1] at h
      have e : i.toNat = j := Option.some.inj h
      exact ⟨by rw [seqIndex_of h0 h1, e], by omega, by omega, h1⟩
    · rw [if_neg h1] at h; cases h
  · rw [if_neg h0] at h
    by_cases h1 : -(n : Int) ≤ i
    · rw [if_pos h1] at h
      have e : (i + n).toNat = j := Option.some.inj h
      exact ⟨by rw [seqIndex_neg (by omega) h1, e], by omega, h1, by omega⟩
    · rw [if_neg h1] at h; cases h
theorem atI_get {α : Type} {xs : List α} {i : Int} {v : α} (h : atI xs i = some v) : ∃ j, seqIndex? i xs.length = some j ∧ xs[j]? = some v ∧ j < xs.length ∧ -(xs.length : Int) ≤ i ∧ i < xs.length := by
  unfold atI at h
  cases e : ixN xs.length i with
  | none => rw [e] at h; cases h
  | some j =>
    rw [e] at h
    obtain ⟨h1, h2, h3, h4⟩ := ixN_seq e
    exact ⟨j, h1, h, h2, h3, h4⟩
def PlainIx (b : Expr) : Prop := ∀ o i, subscripted b false o i = operate [o, i] (getItem o i)
def IxR (X : Cx) (r : R2) : Prop :=
  ∀ (value slice : Expr) (pins : List (Addr × Obj)) (s : Shared) (σ : St) (H : Hp) (x y : V) (v u : Value) (Q : VK), Inv X pins σ H s → RelV x v → RelV y u → r x y H Q →
    subscripted slice false v u = operate [v, u] (getItem v u) → wpAny (model X.prog X.w) X.A (subscriptTail value slice v u) (EP X pins σ Q) X.xe s
def MtR (X : Cx) (id : String) (r : V → List V → Hp → VK → Prop) : Prop :=
  ∀ (pins : List (Addr × Obj)) (s : Shared) (σ : St) (H : Hp) (x : V) (xs : List V) (v : Value) (us : List Value) (Q : VK), Inv X pins σ H s → RelV x v → Vals xs us → r x xs H Q →
    wpAny (model X.prog X.w) X.A (call (.builtin id) (v :: us)) (EP X pins σ Q) X.xe s
section
variable {X : Cx} {a b : Expr} {ta tb : TE} {pos : Pos}
theorem IxR.or {r r' : R2} (h : IxR X r) (h' : IxR X r') : IxR X (fun x y H Q => r x y H Q ∨ r' x y H Q) := by
  intro value slice pins s σ H x y v u Q I rx ry q hs
  rcases q with q | q
  · exact h value slice pins s σ H x y v u Q I rx ry q hs
  · exact h' value slice pins s σ H x y v u Q I rx ry q hs
theorem MtR.or {id : String} {r r' : V → List V → Hp → VK → Prop} (h : MtR X id r) (h' : MtR X id r') : MtR X id (fun x xs H Q => r x xs H Q ∨ r' x xs H Q) := by
  intro pins s σ H x xs v us Q I rx rs q
  rcases q with q | q
  · exact h pins s σ H x xs v us Q I rx rs q
  · exact h' pins s σ H x xs v us Q I rx rs q
theorem pe_ix {r : R2} (hr : IxR X r) (ha : PE X a ta) (hb : PE X b tb) (hs : PlainIx b) : PE X (.Subscript a b pos) (tOp r ta tb) := by
  intro pins s σ H Q I h
  exact Subscript_ (binT ha hb I h fun v u s2 x y H2 I2 rx ry q => hr a b pins s2 σ H2 x y v u Q I2 rx ry q (hs _ _))
def rIxL (K : PySem.W.Frag) : R2 := fun x y H Q => ∃ p xs i v, x = .ref p ∧ y = .int i ∧ SqL K H p xs ∧ atI xs i = some v ∧ Q v H
def rIxT (K : PySem.W.Frag) : R2 := fun x y H Q => ∃ p xs i v, x = .ref p ∧ y = .int i ∧ SqT K H p xs ∧ atI xs i = some v ∧ Q v H
def rIxS : R2 := fun x y H Q => ∃ z i c, x = .str z ∧ y = .int i ∧ z.length ≤ sizeLine ∧ atI z.cps.toList i = some c ∧ Q (.str ⟨#[c]⟩) H
theorem ix_list : IxR X (rIxL X.K) := by
  intro value slice pins s σ H x y v u Q I rx ry h hs
  obtain ⟨p, xs, i, z, rfl, rfl, hq, he, q⟩ := h
  cases rx
  obtain ⟨t, rfl⟩ := ry
  obtain ⟨its, r, pl, hz⟩ := I.list hq
  obtain ⟨j, h1, h2, h3, h4, h5⟩ := atI_get he
  obtain ⟨w, ew, rw'⟩ := r.get h2
  have hl := r.length
  have hn := line63
  have fin : EP X pins σ Q w s := ⟨z, H, I, rw', q⟩
  by_cases h0 : 0 ≤ i
  · have hj : i.toNat = j := by
      rw [seqIndex_of h0 h5] at h1
      exact Option.some.inj h1
    exact item_listR pl.isList h0 (by omega) (by rw [hj]; simpa using ew) fin hs
  · have hj : (i + (its.toArray.size : Int)).toNat = j := by
      rw [seqIndex_neg (by omega) h4] at h1
      rw [List.size_toArray, ← hl]
      exact Option.some.inj h1
    exact subscriptTail_builtinR (x := w) pl.isList.typeIs slot_list_getitem.lookup
      (wpAny_getItem_list_neg (Q := fun r s' => r = w ∧ EP X pins σ Q r s') pl.isList (by omega) (by rw [List.size_toArray] <;> omega) (by omega) (by rw [hj]; simpa using ew) ⟨rfl, fin⟩) hs
theorem ix_tup : IxR X (rIxT X.K) := by
  intro value slice pins s σ H x y v u Q I rx ry h hs
  obtain ⟨p, xs, i, z, rfl, rfl, hq, he, q⟩ := h
  cases rx
  obtain ⟨t, rfl⟩ := ry
  obtain ⟨its, r, pl, hz⟩ := I.tuple hq
  obtain ⟨j, h1, h2, h3, h4, h5⟩ := atI_get he
  obtain ⟨w, ew, rw'⟩ := r.get h2
  have hl := r.length
  have hn := line63
  have fin : EP X pins σ Q w s := ⟨z, H, I, rw', q⟩
  exact subscriptTail_builtinR (x := w) pl.typeIs slot_tuple_getitem.lookup
    (getItem_tuple (j := j) (Q := fun r s' => r = w ∧ EP X pins σ Q r s') pl (by omega) (by omega) (by rw [List.size_toArray, ← hl]; exact h1) (by simpa using ew) ⟨rfl, fin⟩) hs
theorem ix_str : IxR X rIxS := by
  intro value slice pins s σ H x y v u Q I rx ry h hs
  obtain ⟨z, i, c, rfl, rfl, hz, he, q⟩ := h
  obtain ⟨t, rfl⟩ := rx
  obtain ⟨t', rfl⟩ := ry
  obtain ⟨j, h1, h2, h3, h4, h5⟩ := atI_get he
  have hl : z.cps.toList.length = z.length := by simp [Str.length]
  rw [hl] at h1 h4 h5
  have hn := line63
  exact tail_any (typeIs_str s z t) slot_str_getitem.lookup (getItem_str (c := c) (by
    have e1 : decide (i < -(2 ^ 63 : Int)) = false := decide_eq_false (by omega)
    have e2 : decide (i ≥ 2 ^ 63) = false := decide_eq_false (by omega)
    rw [e1, e2, Bool.or_false]) (by rw [h1]; simpa using h2) ⟨.str ⟨#[c]⟩, H, I.tok _, ⟨_, rfl⟩, q⟩) hs
def rIx (K : PySem.W.Frag) : R2 := fun x y H Q => rIxL K x y H Q ∨ rIxT K x y H Q ∨ rIxS x y H Q
theorem ix_seq : IxR X (rIx X.K) := ix_list.or (ix_tup.or ix_str)
theorem mapSeq_set (its : List Value) (n j : Nat) (u : Value) : Obj.mapSeq (·.setIfInBounds j u) { cls := .type "list", data := .seq its.toArray n } = { cls := .type "list", data := .seq (its.set j u).toArray n } := by
  simp [Obj.mapSeq]
theorem Inv.lst {pins : List (Addr × Obj)} {σ : St} {H : Hp} {s : Shared} {p : Addr} {xs : List V} (I : Inv X pins σ H s) (h : H p = some (.lst xs)) :
    ∃ (its : List Value) (n : Nat), Vals xs its ∧ s.heap.get? p = some { cls := .type "list", data := .seq its.toArray n } ∧ xs.length ≤ sizeLine := by
  obtain ⟨z, its, n, r, e⟩ := I.hok p _ h
  exact ⟨its, n, r, e, z⟩
theorem Inv.lstUpd {pins : List (Addr × Obj)} {σ : St} {H : Hp} {s : Shared} {p : Addr} {xs ys : List V} {its its' : List Value} {n n' : Nat} {f : Obj → Obj} (I : Inv X pins σ H s) (h : H p = some (.lst xs))
    (ho : s.heap.get? p = some { cls := .type "list", data := .seq its.toArray n }) (hf : f { cls := .type "list", data := .seq its.toArray n } = { cls := .type "list", data := .seq its'.toArray n' }) (r : Vals ys its') (hz : ys.length ≤ sizeLine) (t : Nat) :
    Inv X pins σ (upd H p (.lst ys)) { s with heap := s.heap.update p f, toks := t } := by
  have e : (s.heap.update p f).get? p = some { cls := .type "list", data := .seq its'.toArray n' } := by
    rw [Heap.get?_update_self f ho (by rw [hf] <;> rfl), hf]
  refine I.write (x := p) (e := p) (by rw [h]; trivial) (.inl rfl) (fun b u hb q => (Heap.get?_update_other _ _ (Ne.symm hb)).trans q) ⟨_, e⟩ ?_
  exact ⟨hz, its', n', r, e⟩
def rSetL : V → V → V → Hp → (Hp → Prop) → Prop := fun o i v H Q => ∃ p xs k j, o = .ref p ∧ i = .int k ∧ H p = some (.lst xs) ∧ ixN xs.length k = some j ∧ Q (upd H p (.lst (xs.set j v)))
theorem set_list : PSet X rSetL := by
  intro pins s σ H o i v ov iv u Q I ro ri rv h
  obtain ⟨p, xs, k, j, rfl, rfl, hp, hj, q⟩ := h
  cases ro
  obtain ⟨t, rfl⟩ := ri
  obtain ⟨its, n, r, ho, hz⟩ := I.lst hp
  obtain ⟨h1, h2, h3, h4⟩ := ixN_seq hj
  have hl := r.length
  have hn := line63
  have I' : Inv X pins σ (upd H p (.lst (xs.set j v))) { s with heap := s.heap.update p (Obj.mapSeq (·.setIfInBounds j u)) } :=
    I.lstUpd hp ho (mapSeq_set its n j u) (r.set rv j) (by rw [List.length_set]; exact hz) s.toks
  by_cases h0 : 0 ≤ k
  · have hk : k.toNat = j := by
      rw [seqIndex_of h0 h4] at h1
      exact Option.some.inj h1
    exact PySem.W.ki_setAt ho h0 (by omega) (by rw [List.size_toArray, ← hl]; exact h4) (by rw [hk]; exact ⟨_, I', q⟩)
  · have hk : (k + (its.toArray.size : Int)).toNat = j := by
      rw [seqIndex_neg (by omega) h3] at h1
      rw [List.size_toArray, ← hl]
      exact Option.some.inj h1
    exact PySem.W.ki_setBack ho (by omega) (by rw [List.size_toArray, ← hl]; exact h3) (by omega) (by rw [hk]; exact ⟨_, I', q⟩)
theorem slice_bounds (lo hi : Option Int) (n : Nat) : (sliceBounds lo hi none n).1 = ((HT.sIx n 0 lo : Nat) : Int) ∧ (sliceBounds lo hi none n).2.1 = ((HT.sIx n n hi : Nat) : Int) ∧ (sliceBounds lo hi none n).2.2 = 1 := by
  refine ⟨?_, ?_, rfl⟩
  · cases lo with
    | none => simp [sliceBounds, HT.sIx]
    | some i =>
      simp only [sliceBounds, HT.sIx, Option.getD_none, show (1 : Int) > 0 by decide, if_true]
      by_cases h : i < 0
      · simp only [h, if_true] <;> omega
      · simp only [h, if_false] <;> omega
  · cases hi with
    | none => simp [sliceBounds, HT.sIx]
    | some i =>
      simp only [sliceBounds, HT.sIx, Option.getD_none, show (1 : Int) > 0 by decide, if_true]
      by_cases h : i < 0
      · simp only [h, if_true] <;> omega
      · simp only [h, if_false] <;> omega
theorem slicePick_cut (its : List Value) (lo hi : Option Int) : slicePick its.toArray lo hi none = ((its.drop (HT.sIx its.length 0 lo)).take (HT.sIx its.length its.length hi - HT.sIx its.length 0 lo)).toArray := by
  obtain ⟨h1, h2, h3⟩ := slice_bounds lo hi its.toArray.size
  unfold slicePick
  rw [h1, h2, h3]
  simp only [sliceRange_one, pick_run, List.size_toArray] <;> rfl
def rSlL (K : PySem.W.Frag) : V → Option Int → Option Int → Hp → VK → Prop := fun x lo hi H Q => ∃ a xs, x = .ref a ∧ SqL K H a xs ∧ ∀ p, H p = none → Q (.ref p) (upd H p (.lst (cutV xs lo hi)))
theorem sl_list : SlR X (rSlL X.K) := by
  intro pins s σ H x v vl vu lo hi sl Q I rx hs pl pu h
  obtain ⟨a, xs, rfl, hx, q⟩ := h
  cases rx
  obtain ⟨its, r, ht, hz⟩ := I.list hx
  have hlen := r.length
  refine ⟨"list", _, slot_list_getitem.lookup, ht.isList.typeIs, ?_⟩
  refine wpAny_getItem_list_slice ht.isList hs pl pu .none (by simp) ?_ (by rw [List.size_toArray] <;> omega)
  rw [slicePick_cut, ← hlen]
  refine ⟨.ref s.heap.objs.size, _, I.laid (t' := s.toks) (o := .lst (cutV xs lo hi)) (fun b ob q => Heap.get?_push_of_some _ q) (Nat.le_refl _) ?_, rfl, q _ (I.hok.fresh (Nat.le_refl _))⟩
  exact ⟨Nat.le_trans (cutV_length xs lo hi) hz, _, 0, (r.drop (HT.sIx xs.length 0 lo)).take (HT.sIx xs.length xs.length hi - HT.sIx xs.length 0 lo), Heap.get?_push_size _ rfl⟩
theorem CallR.or {f : Value} {r r' : List V → Hp → VK → Prop} (h : CallR X f r) (h' : CallR X f r') : CallR X f (fun xs H Q => r xs H Q ∨ r' xs H Q) := by
  intro pins s σ H xs us Q I rs q
  rcases q with q | q
  · exact h pins s σ H xs us Q I rs q
  · exact h' pins s σ H xs us Q I rs q
theorem call_list_of : CallR X (.type "list") (fun xs H Q => ∃ p ys, xs = [.ref p] ∧ (SqL X.K H p ys ∨ SqT X.K H p ys) ∧ ∀ l, H l = none → Q (.ref l) (upd H l (.lst ys))) := by
  intro pins s σ H xs us Q I r h
  obtain ⟨p, ys, rfl, hq, q⟩ := h
  obtain ⟨u, rfl, rx⟩ := vals1 r
  cases rx
  have fin : ∀ (its : List Value), Vals ys its → ys.length ≤ sizeLine → ∀ (h' : Heap) (c' : Nat), (∀ b o', s.heap.get? b = some o' → h'.get? b = some o') →
      h'.get? s.heap.objs.size = some { cls := .type "list", dict := none, data := .seq its.toArray c', slots := #[] } → EP X pins σ Q (.ref s.heap.objs.size) { s with heap := h' } := fun its r' hz h' c' kp e =>
    ⟨.ref s.heap.objs.size, _, I.laid (t' := s.toks) kp (Nat.le_refl _) (show ObjOk X.prog X.w _ h' _ (.lst ys) from ⟨hz, its, c', r', e⟩), rfl, q _ (I.hok.fresh (Nat.le_refl _))⟩
  rcases hq with hq | hq
  · obtain ⟨its, r', pl, hz⟩ := I.list hq
    have hlen := r'.length
    obtain ⟨o, ho, hc, n, hd⟩ := pl.isList
    exact call_list_seq p (.inl rfl) ho hc hd (fun h' c' kp e => fin its r' hz h' c' kp e) (by simp only [List.size_toArray] <;> omega)
  · obtain ⟨its, r', pl, hz⟩ := I.tuple hq
    have hlen := r'.length
    obtain ⟨o, ho, hc, n, hd⟩ := pl
    exact call_list_seq p (.inr rfl) ho hc hd (fun h' c' kp e => fin its r' hz h' c' kp e) (by simp only [List.size_toArray] <;> omega)
theorem call_tuple_of : CallR X (.type "tuple") (fun xs H Q => ∃ p ys, xs = [.ref p] ∧ ((SqL X.K H p ys ∧ ∀ l, H l = none → Q (.ref l) (upd H l (.tup ys))) ∨ (SqT X.K H p ys ∧ Q (.ref p) H))) := by
  intro pins s σ H xs us Q I r h
  obtain ⟨p, ys, rfl, h⟩ := h
  obtain ⟨u, rfl, rx⟩ := vals1 r
  cases rx
  rcases h with ⟨hq, q⟩ | ⟨hq, q⟩
  · obtain ⟨its, r', pl, hz⟩ := I.list hq
    have hlen := r'.length
    refine call_tuple_list pl.isList (fun h' kp => ?_) (by simp only [List.size_toArray] <;> omega)
    have I1 : Inv X pins σ H { s with heap := h' } := I.kept (t' := s.toks) kp
    have I2 : Inv X pins σ (upd H h'.objs.size (.tup ys)) { s with heap := h'.push { cls := .type "tuple", data := .seq its.toArray } } :=
      I1.laid (t' := s.toks) (fun b o e => Heap.get?_push_of_some _ e) (Nat.le_refl _) (show ObjOk X.prog X.w _ _ _ (.tup ys) from ⟨hz, its, r', IsTup.new _ _⟩)
    exact ⟨.ref h'.objs.size, _, I2, rfl, q _ (I1.hok.fresh (Nat.le_refl _))⟩
  · obtain ⟨its, r', pl, hz⟩ := I.tuple hq
    exact call_tuple_same pl ⟨.ref p, H, I, rfl, q⟩
def tyV (K : PySem.W.Frag) (T : String) (x : V) (H : Hp) : Prop := match x with
  | .str _ => T = "str"
  | .int _ => T = "int"
  | .ref p => (T = "list" ∧ ∃ xs, SqL K H p xs) ∨ (T = "tuple" ∧ ∃ o, K.lookup p = some o ∧ o.cls = .type "tuple" ∧ o.dict = none) ∨
      (T = "dict" ∧ ((∃ kvs, H p = some (.dK kvs)) ∨ ∃ kvs, H p = some (.dT kvs))) ∨ (T = "set" ∧ ∃ S n, H p = some (.set S n))
  | _ => False
theorem tyV_is {pins : List (Addr × Obj)} {σ : St} {H : Hp} {s : Shared} {T : String} {x : V} {v : Value} (I : Inv X pins σ H s) (r : RelV x v) (ty : tyV X.K T x H) :
    s.TypeIs v T ∧ ∀ a, v = .ref a → ∃ ob, s.heap.get? a = some ob ∧ ob.dict = none := by
  cases x with
  | str z =>
    obtain ⟨t, rfl⟩ := r
    cases (show T = "str" from ty)
    exact ⟨typeIs_str s z t, fun _ e => nomatch e⟩
  | int i =>
    obtain ⟨t, rfl⟩ := r
    cases (show T = "int" from ty)
    exact ⟨typeIs_int s i t, fun _ e => nomatch e⟩
  | ref p =>
    cases r
    rcases ty with ⟨rfl, xs, hq⟩ | ⟨rfl, o, hk, hc, hd⟩ | ⟨rfl, hk⟩ | ⟨rfl, S, n, hk⟩
    · obtain ⟨its, _, pl, _⟩ := I.list hq
      refine ⟨pl.isList.typeIs, fun a e => ?_⟩
      cases e
      obtain ⟨o, n, e, c, hd, _⟩ := pl
      exact ⟨o, e, hd⟩
    · refine ⟨⟨o, I.kIn p o hk, hc⟩, fun a e => ?_⟩
      cases e
      exact ⟨o, I.kIn _ o hk, hd⟩
    · have z : ∃ o, s.heap.get? p = some o ∧ o.ExactDict := by
        rcases hk with ⟨kvs, hk⟩ | ⟨kvs, hk⟩
        · obtain ⟨_, _, _, _, o, _, _, e, ex, _⟩ := I.hok p _ hk
          exact ⟨o, e, ex⟩
        · obtain ⟨_, _, _, _, o, _, _, e, ex, _⟩ := I.hok p _ hk
          exact ⟨o, e, ex⟩
      obtain ⟨o, e, ex⟩ := z
      refine ⟨⟨o, e, ex.1⟩, fun a e2 => ?_⟩
      cases e2
      exact ⟨o, e, ex.2.1⟩
    · obtain ⟨o, _, _, _, e, ex, _⟩ := I.hok p _ hk
      refine ⟨⟨o, e, ex.1⟩, fun a e2 => ?_⟩
      cases e2
      exact ⟨o, e, ex.2.1⟩
  | _ => exact False.elim ty
def tBM (K : PySem.W.Frag) (T : String) (r : V → List V → Hp → VK → Prop) (to : TE) (t : TA) : TE := fun σ H Q => to σ H fun x H1 => tyV K T x H1 ∧ t σ H1 fun xs H2 => r x xs H2 Q
variable {o e : Expr} {es : List Expr} {to : TE} {t : TA} {name : Str} {apos cpos : Pos} {T id : String} {r : V → List V → Hp → VK → Prop}
theorem pe_bm (pa : PlainAttrs T) (slot : Slot T name id) (hty : typeOf (.builtin id) = pure (.type "method_descriptor")) (hm : MtR X id r) (ho : PE X o to) (ha : PA X (e :: es) t)
    (hbase : attributeBase o name X.env (eval o X.env) = eval o X.env := by rfl)
    (hfew : ((backTo cpos (starEach (e :: es) X.env)).all (fun x => !x.1) && (backToKw cpos (keywordEach [] X.env)).all (fun x => x.1.isSome)
      && decide ((e :: es).length + ([] : List Keyword).length + (if ([] : List Keyword).isEmpty then 0 else 1) < 30)) = true := by rfl)
    (hline : (apos.endLine == cpos.line) = true := by rfl) (hs : starEach (e :: es) X.env = (false, eval e X.env) :: starEach es X.env := by rfl) (hplain : (backTo cpos (starEach es X.env)).any (·.1) = false := by rfl) :
    PE X (.Call (.Attribute o name apos) (e :: es) [] cpos) (tBM X.K T r to t) := by
  intro pins s σ H Q I h
  refine wpAny_Call_method_late hbase hfew hline rfl (thn (ho pins s σ H _ I h) fun v s1 ⟨x, H1, I1, r1, ty, q1⟩ => ?_)
  obtain ⟨h1, h2⟩ := tyV_is I1 r1 ty
  refine ⟨T, id, pa, slot, hty, h1, h2, ?_⟩
  have hA := ha cpos pins s1 σ H1 _ I1 q1
  rw [hs] at hA ⊢
  refine Calls.callWith_builtin (by show (false || (backTo cpos (starEach es X.env)).any (·.1)) = false; rw [hplain] <;> rfl) (Calls.evalArgs_plain ?_)
  exact thn hA fun us s2 ⟨vs, H2, I2, r2, q2⟩ => hm pins s2 σ H2 x vs v us Q I2 r1 r2 q2
end
end L2
namespace L2
open PySem PySem.Spec PyProof.Rows
def MtM (X : Cx) (id : String) (r : V → List V → Hp → VK → Prop) : Prop :=
  ∀ (pins : List (Addr × Obj)) (s : Shared) (σ : St) (H : Hp) (x : V) (xs : List V) (v : Value) (us : List Value) (Q : VK), Inv X pins σ H s → RelV x v → Vals xs us → r x xs H Q →
    wpAny (model X.prog X.w) X.A (call (.builtin id) (v :: us)) (EP X pins σ Q) X.xe s
theorem Vals.one : ∀ {x : V} {us : List Value}, Vals [x] us → ∃ u, us = [u] ∧ RelV x u
  | _, _, .cons r .nil => ⟨_, rfl, r⟩
theorem Vals.two : ∀ {x y : V} {us : List Value}, Vals [x, y] us → ∃ u v, us = [u, v] ∧ RelV x u ∧ RelV y v
  | _, _, _, .cons r (.cons q .nil) => ⟨_, _, rfl, r, q⟩
theorem Vals.zero : ∀ {us : List Value}, Vals [] us → us = []
  | _, .nil => rfl
theorem Vals.reverse {xs : List V} {us : List Value} (h : Vals xs us) : Vals xs.reverse us.reverse := by
  induction h with
  | nil => exact .nil
  | cons r t ih => rw [List.reverse_cons, List.reverse_cons]; exact Vals.append ih (.cons r .nil)
section
variable {X : Cx} {pins : List (Addr × Obj)} {σ : St} {H : Hp} {s : Shared} {l b : Addr} {xs ys zs : List V}
theorem Inv.lset {its its' : List Value} {n : Nat} {f : Array Value → Array Value} {t' : Nat} (I : Inv X pins σ H s) (hH : H l = some (.lst xs))
    (e : s.heap.get? l = some { cls := .type "list", data := .seq its.toArray n }) (hf : f its.toArray = its'.toArray) (hv : Vals ys its') (hz : ys.length ≤ sizeLine) :
    Inv X pins σ (upd H l (.lst ys)) { s with heap := s.heap.update l (Obj.mapSeq f), toks := t' } := by
  have q := PySem.IsL.update e f
  rw [hf] at q
  refine I.write (x := l) (e := l) (by rw [hH]; exact trivial) (.inl rfl) (fun b' u hb hu => (Heap.get?_update_other s.heap (Obj.mapSeq f) (Ne.symm hb)).trans hu) ⟨_, q⟩ ?_
  exact ⟨hz, its', _, hv, q⟩
theorem Inv.lnew {its : List Value} {t' : Nat} (I : Inv X pins σ H s) (hv : Vals ys its) (hz : ys.length ≤ sizeLine) :
    Inv X pins σ (upd H s.heap.objs.size (.lst ys)) { s with heap := s.heap.push { cls := .type "list", data := .seq its.toArray }, toks := t' } :=
  I.laid (fun _ _ q => Heap.get?_push_of_some _ q) (Nat.le_refl _) ⟨hz, its, 0, hv, Heap.get?_push_size _ rfl⟩
theorem Inv.fresh (I : Inv X pins σ H s) : H s.heap.objs.size = none := I.hok.fresh (Nat.le_refl _)
theorem Inv.lstM (I : Inv X pins σ H s) (hH : H l = some (.lst xs)) : xs.length ≤ sizeLine ∧ ∃ (its : List Value) (n : Nat), Vals xs its ∧ xs.length = its.length ∧ s.heap.get? l = some { cls := .type "list", data := .seq its.toArray n } := by
  obtain ⟨z, its, n, r, e⟩ := I.hok l _ hH
  exact ⟨z, its, n, r, r.length, e⟩
end
section
variable {X : Cx}
def rAppend : V → List V → Hp → VK → Prop := fun x vs H Q => ∃ l xs y, x = .ref l ∧ vs = [y] ∧ H l = some (.lst xs) ∧ xs.length < sizeLine ∧ Q .non (upd H l (.lst (xs ++ [y])))
theorem mt_append : MtM X "list.append" rAppend := by
  intro pins s σ H x vs v us Q I rx rv h
  obtain ⟨l, xs, y, rfl, rfl, hH, hz, q⟩ := h
  cases rx
  obtain ⟨u, rfl, ru⟩ := rv.one
  obtain ⟨z, its, n, r, hl, e⟩ := I.lstM hH
  refine call_meets F.slot_list_append ⟨_, e, rfl⟩ F.entry_list_append (F.args_list_append_2 _ _) (PySem.list_append l its.toArray n u (by rw [List.size_toArray]; omega)) ⟨e, ?_⟩
  refine ⟨.non, _, I.lset (its' := its ++ [u]) hH e (by simp) (r.append (.cons ru .nil)) ?_, rfl, q⟩
  rw [List.length_append, List.length_singleton]
  omega
end
section
variable {prog : Program} {w : World} {A : Around} {E : Value → Shared → Prop} {s : Shared}
end
section
variable {X : Cx}
end
end L2
namespace L2
open PySem PySem.Spec PyProof.Rows
theorem Vals.ints : ∀ {ns : List Int} {us : List Value}, Vals (ns.map V.int) us → IntsAre us ns
  | [], us, h => by
    rw [List.map_nil] at h
    cases h
    exact IntsAre.nil
  | n :: ns, us, h => by
    rw [List.map_cons] at h
    cases h with
    | cons r t =>
      obtain ⟨k, rfl⟩ := r
      exact IntsAre.cons n k (Vals.ints t)
theorem Vals.strs : ∀ {xs : List Str} {us : List Value}, Vals (xs.map V.str) us → StrsAre us xs
  | [], us, h => by
    rw [List.map_nil] at h
    cases h
    exact StrsAre.nil
  | x :: xs, us, h => by
    rw [List.map_cons] at h
    cases h with
    | cons r t =>
      obtain ⟨k, rfl⟩ := r
      exact StrsAre.cons x k (Vals.strs t)
section
variable {prog : Program} {w : World} {A : Around} {E : Value → Shared → Prop} {s : Shared} {l : Addr} {its : List Value} {ns : List Int} {Q : Value → Shared → Prop}
end
section
variable {X : Cx}
end
section
variable {X : Cx}
end
section
variable {X : Cx}
end
section
variable {X : Cx}
end
def keyD : Key → PyData
  | .inl i => .int i
  | .inr x => .str x
mutual
inductive Dp (K : PySem.W.Frag) (H : Hp) : V → PyData → Prop
  | non : Dp K H .non .none
  | bl (b : Bool) : Dp K H (.bl b) (.bool b)
  | int (i : Int) : Dp K H (.int i) (.int i)
  | str (x : Str) : Dp K H (.str x) (.str x)
  | lst {a : Addr} {xs : List V} {ds : List PyData} : SqL K H a xs → DpAll K H xs ds → Dp K H (.ref a) (.list ds)
  | tup {a : Addr} {xs : List V} {ds : List PyData} : SqT K H a xs → DpAll K H xs ds → Dp K H (.ref a) (.tuple ds)
  | dct {a : Addr} {us : List (Key × V)} {kvs : List (PyData × PyData)} : Rd H a (.dK us) → us.map (fun u => keyD u.1) = kvs.map (·.1) → DpAll K H (us.map (·.2)) (kvs.map (·.2)) → Dp K H (.ref a) (.dict kvs)
inductive DpAll (K : PySem.W.Frag) (H : Hp) : List V → List PyData → Prop
  | nil : DpAll K H [] []
  | cons {v : V} {vs : List V} {d : PyData} {ds : List PyData} : Dp K H v d → DpAll K H vs ds → DpAll K H (v :: vs) (d :: ds)
end
theorem keys_read {P : Program} {w : World} {h : Heap} : ∀ {es : List DictEntry} {vs : List (Key × Value)}, Pairs (mixKind P w) es vs → ∃ as, ReadsAll h (es.map (·.key)) (vs.map fun v => keyD v.1) as
  | _, _, .nil => ⟨_, .nil⟩
  | _, _, .cons (e := e) (kv := kv) hk _ t => by
    obtain ⟨as, q⟩ := keys_read t
    rcases keyIs_shape hk with ⟨i, t, e1, e2⟩ | ⟨x, t, e1, e2⟩
    · refine ⟨_, .cons (as := []) ?_ q⟩
      show Reads h e.key (keyD kv.1) []
      rw [e1, e2]; exact Reads.int _ _
    · refine ⟨_, .cons (as := []) ?_ q⟩
      show Reads h e.key (keyD kv.1) []
      rw [e1, e2]; exact Reads.str _ _
theorem vals_of_pairs {P : Program} {w : World} : ∀ {es : List DictEntry} {vs : List (Key × Value)}, Pairs (mixKind P w) es vs → es.map (·.val) = vs.map (·.2)
  | _, _, .nil => rfl
  | _, _, .cons _ hv t => by simp [hv, vals_of_pairs t]
theorem KV.ks {us : List (Key × V)} {vs : List (Key × Value)} (r : KV us vs) : us.map (fun u => keyD u.1) = vs.map fun v => keyD v.1 := by
  induction r with
  | nil => rfl
  | cons h _ ih => simp [h.1, ih]
theorem KV.vs {us : List (Key × V)} {vs : List (Key × Value)} (r : KV us vs) : Vals (us.map (·.2)) (vs.map (·.2)) := by
  induction r with
  | nil => exact .nil
  | cons h _ ih => exact .cons h.2 ih
section
variable {X : Cx} {pins : List (Addr × Obj)} {σ : St} {H : Hp} {s : Shared}
mutual
theorem Dp.rd (I : Inv X pins σ H s) : ∀ {v : V} {d : PyData}, Dp X.K H v d → ∀ u : Value, RelV v u → ∃ as, Reads s.heap u d as
  | _, _, .non, _, r => by cases r; exact ⟨_, Reads.none⟩
  | _, _, .bl b, _, r => by cases r; exact ⟨_, Reads.bool b⟩
  | _, _, .int i, _, r => by obtain ⟨t, rfl⟩ := r; exact ⟨_, Reads.int i t⟩
  | _, _, .str x, _, r => by obtain ⟨t, rfl⟩ := r; exact ⟨_, Reads.str x t⟩
  | _, _, .lst hs ha, _, r => by
      cases r
      obtain ⟨its, rv, ⟨o, n, ho, hc, _, hd⟩, _⟩ := I.list hs
      obtain ⟨as, hr⟩ := DpAll.rd I ha its rv
      exact ⟨_, Reads.list ho hc hd hr⟩
  | _, _, .tup hs ha, _, r => by
      cases r
      obtain ⟨its, rv, ⟨o, ho, hc, n, hd⟩, _⟩ := I.tuple hs
      obtain ⟨as, hr⟩ := DpAll.rd I ha its rv
      exact ⟨_, Reads.tuple ho hc hd hr⟩
  | _, _, .dct (a := a) (us := us) hs hk ha, _, r => by
      cases r
      obtain ⟨_, _, vs, rel, o, es, ep, ho, hx, hd, _, pr, _⟩ := (show ObjOk X.prog X.w H s.heap a (.dK us) from hs.ok I.hok)
      obtain ⟨as, hr⟩ := DpAll.rd I ha _ rel.vs
      obtain ⟨bs, hq⟩ := keys_read (h := s.heap) pr
      have hq' := hq
      rw [← rel.ks, hk] at hq'
      rw [← vals_of_pairs pr] at hr
      exact ⟨_, Reads.dict ho hx.1 hd hq' hr⟩
theorem DpAll.rd (I : Inv X pins σ H s) : ∀ {vs : List V} {ds : List PyData}, DpAll X.K H vs ds → ∀ us : List Value, Vals vs us → ∃ as, ReadsAll s.heap us ds as
  | _, _, .nil, _, r => by cases r; exact ⟨_, ReadsAll.nil⟩
  | _, _, .cons h1 h2, _, r => by
      cases r with
      | cons r1 r2 =>
        obtain ⟨as, q1⟩ := Dp.rd I h1 _ r1
        obtain ⟨bs, q2⟩ := DpAll.rd I h2 _ r2
        exact ⟨_, ReadsAll.cons q1 q2⟩
end
theorem Dp.reads (I : Inv X pins σ H s) (d : PyData) (v : V) (u : Value) (h : Dp X.K H v d) (r : RelV v u) : ∃ as, Reads s.heap u d as := Dp.rd I h u r
end
section
variable {X : Cx}
def rEqD (K : PySem.W.Frag) : R2 := fun x y H Q => ∃ d e, Dp K H x d ∧ Dp K H y e ∧ SeqAt.shaped d = true ∧ SeqAt.shaped e = true ∧ Q (.bl (PyData.eqv d e)) H
def rNeD (K : PySem.W.Frag) : R2 := fun x y H Q => ∃ d e, Dp K H x d ∧ Dp K H y e ∧ SeqAt.shaped d = true ∧ SeqAt.shaped e = true ∧ Q (.bl (!PyData.eqv d e)) H
theorem op_eqD (hu : X.A.units + 64 < cLine) : OpR X (compareOp .Eq) (rEqD X.K) := by
  intro pins s σ H x y v u Q I rx ry h
  obtain ⟨d, e, hd, he, sd, se, q⟩ := h
  obtain ⟨as, r1⟩ := Dp.reads I d x v hd rx
  obtain ⟨bs, r2⟩ := Dp.reads I e y u he ry
  exact SeqAt.compareEq_shaped r1 r2 sd se hu ⟨.bl _, H, I, rfl, q⟩
theorem op_neD (hu : X.A.units + 64 < cLine) : OpR X (compareOp .NotEq) (rNeD X.K) := by
  intro pins s σ H x y v u Q I rx ry h
  obtain ⟨d, e, hd, he, sd, se, q⟩ := h
  obtain ⟨as, r1⟩ := Dp.reads I d x v hd rx
  obtain ⟨bs, r2⟩ := Dp.reads I e y u he ry
  exact SeqAt.compareNe_shaped r1 r2 sd se hu ⟨.bl _, H, I, rfl, q⟩
end
end L2
namespace L2
open PySem PySem.Spec PyProof.Rows
abbrev CellAt (h : Heap) (c : Addr) (v : Option Value) : Prop := h.IsCell c v
def relS (scope sc : Scope) : Scope :=
  { scope with names := scope.names.map fun (n, k) => if (k == .free && sc.kind == .function && sc.names.lookup n == some .cell) then (n, .cell) else (n, k) }
def cloFrom (cells : List (Str × Addr)) : List (Str × NameKind) → List (Str × Addr) → List (Str × Addr)
  | [], acc => acc
  | (n, k) :: r, acc => if k == .free then cloFrom cells r ((n, (cells.lookup n).getD 0) :: acc) else cloFrom cells r acc
theorem closure_loop (env : Env) (f : Str × NameKind → List (Str × Addr) → Sem (ForInStep (List (Str × Addr))))
    (hf : ∀ n k c, f (n, k) c = if k == .free then (do let a ← cellOf env n; pure (.yield ((n, a) :: c))) else pure (.yield c)) :
    ∀ (names : List (Str × NameKind)) (acc : List (Str × Addr)), (∀ y ∈ names, y.2 = .free → ∃ c, env.cells.lookup y.1 = some c) → forIn names acc f = pure (cloFrom env.cells names acc)
  | [], acc, _ => by rw [List.forIn_nil]; rfl
  | (n, k) :: r, acc, h => by
    rw [List.forIn_cons, hf]
    have ih := fun acc => closure_loop env f hf r acc fun y hy => h y (List.mem_cons_of_mem _ hy)
    unfold cloFrom
    by_cases hk : (k == NameKind.free) = true
    · rw [if_pos hk, if_pos hk]
      obtain ⟨c, hc⟩ := h (n, k) List.mem_cons_self (by simpa using hk)
      have e : cellOf env n = pure c := by unfold cellOf; rw [hc]
      rw [e]
      have e2 : (env.cells.lookup n).getD 0 = c := by rw [hc]; rfl
      rw [e2]
      exact ih _
    · rw [if_neg hk, if_neg hk]
      exact ih _
theorem closure_ok {scope : Scope} {env : Env} (h : ∀ y ∈ scope.names, y.2 = .free → ∃ c, env.cells.lookup y.1 = some c) : closureFor scope env = pure (cloFrom env.cells scope.names []) := by
  simp only [closureFor]
  rw [closure_loop env _ (fun n k c => rfl) scope.names [] h]
  rfl
theorem mem_lookup {α : Type} : ∀ {l : List (Str × α)} {n : Str} {c : α}, (n, c) ∈ l → ∃ c', l.lookup n = some c'
  | (k, v) :: r, n, c, h => by
    rw [List.lookup_cons]
    cases hb : n == k with
    | true => exact ⟨_, rfl⟩
    | false =>
      rcases List.mem_cons.mp h with e | h
      · cases e; simp at hb
      · exact mem_lookup h
theorem cloFrom_mem {cells : List (Str × Addr)} : ∀ {names : List (Str × NameKind)} {acc : List (Str × Addr)} {n : Str} {c : Addr}, (n, c) ∈ cloFrom cells names acc → (n, c) ∈ acc ∨ ((n, .free) ∈ names ∧ c = (cells.lookup n).getD 0)
  | [], _, _, _, h => .inl h
  | (m, k) :: r, acc, n, c, h => by
    unfold cloFrom at h
    split at h
    · rename_i hk
      have hk : k = .free := by simpa using hk
      rcases cloFrom_mem h with h | ⟨h1, h2⟩
      · rcases List.mem_cons.mp h with e | h
        · cases e; exact .inr ⟨hk ▸ List.mem_cons_self, rfl⟩
        · exact .inl h
      · exact .inr ⟨List.mem_cons_of_mem _ h1, h2⟩
    · rcases cloFrom_mem h with h | ⟨h1, h2⟩
      · exact .inl h
      · exact .inr ⟨List.mem_cons_of_mem _ h1, h2⟩
theorem cloFrom_acc {cells : List (Str × Addr)} : ∀ {names : List (Str × NameKind)} {acc : List (Str × Addr)} {p : Str × Addr}, p ∈ acc → p ∈ cloFrom cells names acc
  | [], _, _, h => h
  | (m, k) :: r, acc, p, h => by
    unfold cloFrom
    split
    · exact cloFrom_acc (List.mem_cons_of_mem _ h)
    · exact cloFrom_acc h
theorem cloFrom_has {cells : List (Str × Addr)} : ∀ {names : List (Str × NameKind)} {acc : List (Str × Addr)} {n : Str}, (n, .free) ∈ names → (n, (cells.lookup n).getD 0) ∈ cloFrom cells names acc
  | (m, k) :: r, acc, n, h => by
    unfold cloFrom
    rcases List.mem_cons.mp h with e | h
    · cases e
      exact cloFrom_acc List.mem_cons_self
    · split
      · exact cloFrom_has h
      · exact cloFrom_has h
theorem cells_mem : ∀ {names : List (Str × NameKind)} {h : Heap} {acc : List (Str × Addr)} {x : Str} {c : Addr}, (x, c) ∈ cellsFrom h.objs.size names acc →
    (x, c) ∈ acc ∨ ((x, .cell) ∈ names ∧ h.objs.size ≤ c ∧ CellAt (pushCells h names) c none)
  | [], _, _, _, _, h => .inl h
  | (n, k) :: r, h, acc, x, c, hm => by
    unfold cellsFrom at hm
    unfold pushCells
    split at hm
    · rename_i hk
      rw [if_pos hk]
      have hk : k = .cell := by simpa using hk
      rw [← Heap.size_push h { cls := .type "cell", data := .cell none }] at hm
      rcases cells_mem hm with hm | ⟨h1, h2, h3⟩
      · rcases List.mem_cons.mp hm with e | hm
        · cases e
          exact .inr ⟨hk ▸ List.mem_cons_self, Nat.le_refl _, _, pushCells_keeps r _ _ _ (Heap.get?_push_size _ rfl), rfl⟩
        · exact .inl hm
      · rw [Heap.size_push] at h2
        exact .inr ⟨List.mem_cons_of_mem _ h1, Nat.le_of_succ_le h2, h3⟩
    · rename_i hk
      rw [if_neg hk]
      rcases cells_mem hm with hm | ⟨h1, h2, h3⟩
      · exact .inl hm
      · exact .inr ⟨List.mem_cons_of_mem _ h1, h2, h3⟩
theorem cells_acc : ∀ {names : List (Str × NameKind)} {n : Nat} {acc : List (Str × Addr)} {p : Str × Addr}, p ∈ acc → p ∈ cellsFrom n names acc
  | [], _, _, _, h => h
  | (m, k) :: r, n, acc, p, h => by
    unfold cellsFrom
    split
    · exact cells_acc (List.mem_cons_of_mem _ h)
    · exact cells_acc h
theorem cells_has : ∀ {names : List (Str × NameKind)} {n : Nat} {acc : List (Str × Addr)} {x : Str}, (x, .cell) ∈ names → ∃ c, (x, c) ∈ cellsFrom n names acc
  | (m, k) :: r, n, acc, x, h => by
    unfold cellsFrom
    rcases List.mem_cons.mp h with e | h
    · cases e
      exact ⟨n, cells_acc List.mem_cons_self⟩
    · split
      · exact cells_has h
      · exact cells_has h
theorem cells_inj : ∀ {names : List (Str × NameKind)} {h : Heap} {acc : List (Str × Addr)} {x y : Str} {c : Addr}, (∀ p ∈ acc, p.2 < h.objs.size) → (∀ x y c, (x, c) ∈ acc → (y, c) ∈ acc → x = y) →
    (x, c) ∈ cellsFrom h.objs.size names acc → (y, c) ∈ cellsFrom h.objs.size names acc → x = y
  | [], _, _, _, _, _, _, hi, h1, h2 => hi _ _ _ h1 h2
  | (n, k) :: r, h, acc, x, y, c, hl, hi, h1, h2 => by
    unfold cellsFrom at h1 h2
    split at h1
    · rename_i hk
      rw [if_pos hk] at h2
      rw [← Heap.size_push h { cls := .type "cell", data := .cell none }] at h1 h2
      refine cells_inj (h := h.push _) (fun p hp => ?_) (fun x y c a b => ?_) h1 h2
      · rw [Heap.size_push]
        rcases List.mem_cons.mp hp with rfl | hp
        · exact Nat.lt_succ_self _
        · exact Nat.lt_succ_of_lt (hl p hp)
      · rcases List.mem_cons.mp a with e | a <;> rcases List.mem_cons.mp b with e' | b
        · cases e; cases e'; rfl
        · cases e; exact absurd (hl _ b) (Nat.lt_irrefl _)
        · cases e'; exact absurd (hl _ a) (Nat.lt_irrefl _)
        · exact hi _ _ _ a b
    · rename_i hk
      rw [if_neg hk] at h2
      exact cells_inj hl hi h1 h2
theorem newEnv_comp {M : Model} {A : Around} {E : Value → Shared → Prop} {s : Shared} {scope : Scope} {globals : Addr} {closure : List (Str × Addr)} {qual : Str} {func : Option Addr} {code : Value} {around : Env} {builtins : Addr} {Q : Env → Shared → Prop}
    (h : Q (newEnv scope s.heap.objs.size globals (cellsFrom (s.heap.objs.size + 1) scope.names closure) qual func code (some around) builtins)
      { s with heap := pushCells (s.heap.push { cls := .type "dict", data := .dict #[] }) scope.names }) :
    wpAny M A (newFunctionEnv scope globals closure [] qual func code (some around) builtins) Q E s := by
  simp only [newFunctionEnv, Option.isSome_some, if_true]
  refine wpAny_bind (wpAny_alloc ?_)
  refine wpAny_bind (wpAny_layCells _ (fun n k c => rfl) scope.names closure _ _ ?_)
  rw [show ({ s with heap := s.heap.push { cls := .type "dict", data := .dict #[] } } : Shared).heap.objs.size = s.heap.objs.size + 1 from Heap.size_push ..]
  rw [List.forIn_nil]
  exact wpAny_bind (wpAny_pure (wpAny_pure h))
theorem lookup_relS {sc : Scope} : ∀ {names : List (Str × NameKind)} {x : Str} {k : NameKind},
    (names.map fun (n, k) => if (k == NameKind.free && sc.kind == .function && sc.names.lookup n == some .cell) then (n, NameKind.cell) else (n, k)).lookup x = some k →
    ∃ k', names.lookup x = some k' ∧ (k = k' ∨ (k' = .free ∧ k = .cell))
  | [], _, _, h => by simp at h
  | (n, k₀) :: r, x, k, h => by
    have ih := @lookup_relS sc r x k
    have h' : List.lookup x ((if (k₀ == NameKind.free && sc.kind == .function && sc.names.lookup n == some .cell) = true then (n, NameKind.cell) else (n, k₀)) :: (r.map _)) = some k := h
    cases hx : x == n with
    | true =>
      simp only [List.lookup_cons, hx]
      by_cases hc : (k₀ == NameKind.free && sc.kind == .function && sc.names.lookup n == some .cell) = true
      · rw [if_pos hc] at h'
        simp only [List.lookup_cons, hx] at h'
        cases h'
        simp only [Bool.and_eq_true, beq_iff_eq] at hc
        exact ⟨k₀, rfl, .inr ⟨hc.1.1, rfl⟩⟩
      · rw [if_neg hc] at h'
        simp only [List.lookup_cons, hx] at h'
        cases h'
        exact ⟨_, rfl, .inl rfl⟩
    | false =>
      simp only [List.lookup_cons, hx]
      by_cases hc : (k₀ == NameKind.free && sc.kind == .function && sc.names.lookup n == some .cell) = true
      · rw [if_pos hc] at h'
        simp only [List.lookup_cons, hx] at h'
        exact ih h'
      · rw [if_neg hc] at h'
        simp only [List.lookup_cons, hx] at h'
        exact ih h'
structure BlkOk (N : List Str) (sc scope : Scope) (own : List (Str × Nat)) : Prop where
  kind : scope.kind = .function
  uniq : ∀ y ∈ scope.names, scope.names.lookup y.1 = some y.2
  ix : ∀ p ∈ own, N[p.2]? = some p.1
  free : ∀ y ∈ scope.names, y.2 = .free → sc.names.lookup y.1 = some .cell ∨ sc.names.lookup y.1 = some .free
  own : ∀ y ∈ scope.names, y.2 = .local ∨ y.2 = .cell → y.1 ∈ own.map (·.1) ∨ y.1 ∉ N
def wipe (σ : St) : List Nat → St
  | [] => σ
  | v :: vs => (wipe σ vs).set v none
theorem wipe_length (σ : St) : ∀ vs : List Nat, (wipe σ vs).length = σ.length
  | [] => rfl
  | v :: vs => by unfold wipe; rw [List.length_set, wipe_length σ vs]
theorem wipe_some {σ : St} {i : Nat} {x : V} : ∀ {vs : List Nat}, (wipe σ vs)[i]? = some (some x) → σ[i]? = some (some x) ∧ i ∉ vs
  | [], h => ⟨h, by simp⟩
  | v :: vs, h => by
    unfold wipe at h
    by_cases hi : v = i
    · subst hi
      by_cases hv : v < (wipe σ vs).length
      · rw [List.getElem?_set_self hv] at h; cases h
      · rw [List.getElem?_eq_none (by simpa using hv)] at h; cases h
    · rw [List.getElem?_set_ne hi] at h
      obtain ⟨h1, h2⟩ := wipe_some h
      exact ⟨h1, by simp only [List.mem_cons, not_or]; exact ⟨fun e => hi e.symm, h2⟩⟩
abbrev Cx.blk (X : Cx) (s : Shared) (H : Hp) (scope : Scope) (cenv : Env) (fp : List Addr) : Cx := { X with s_0 := s, H_0 := H, env := cenv, outer := X.stack, ex := fp, fn := fun x => scope.names.lookup x == some .cell, pn := [], xe := fun _ _ => False }
section
variable {X : Cx} {pins : List (Addr × Obj)} {σ : St} {H : Hp} {s : Shared}
theorem block_start {scope : Scope} {own : List (Str × Nat)} {fp : List Addr} (I : Inv X pins σ H s) (ok : BlkOk X.N X.env.scope scope own) (hN : X.N.Nodup) (hfp : ∀ b ∈ fp, FpOk X pins H b ∧ b < s.heap.objs.size) :
    Inv (X.blk s H scope (compEnvC scope (cellsFrom (s.heap.objs.size + 1) scope.names (cloFrom X.env.cells scope.names [])) s.heap.objs.size X.env) fp) [] (wipe σ (own.map (·.2))) H { s with heap := pushCells (s.heap.push { cls := .type "dict", data := .dict #[] }) scope.names } := by
  have hfree : ∀ y ∈ scope.names, y.2 = .free → ∃ c, X.env.cells.lookup y.1 = some c := fun y hy e => by
    rcases ok.free y hy e with k | k
    · exact I.ok.has _ (.inl k)
    · exact I.ok.has _ (.inr k)
  generalize hcenv : compEnvC scope (cellsFrom (s.heap.objs.size + 1) scope.names (cloFrom X.env.cells scope.names [])) s.heap.objs.size X.env = cenv
  have kp : ∀ b o, s.heap.get? b = some o → (pushCells (s.heap.push { cls := .type "dict", data := .dict #[] }) scope.names).get? b = some o := fun b o e => pushCells_keeps _ _ _ _ (Heap.get?_push_of_some _ e)
  have hL : cenv.locals = s.heap.objs.size := by rw [← hcenv]; rfl
  have hcl : cenv.cells = cellsFrom (s.heap.objs.size + 1) scope.names (cloFrom X.env.cells scope.names []) := by rw [← hcenv]; rfl
  have hsc : cenv.scope = relS scope X.env.scope := by rw [← hcenv]; rfl
  rw [← Heap.size_push s.heap { cls := .type "dict", data := .dict #[] }] at hcl
  have cm : ∀ {y c}, (y, c) ∈ cloFrom X.env.cells scope.names [] → X.env.cells.lookup y = some c ∧ c < s.heap.objs.size := fun {y c} hm => by
    rcases cloFrom_mem hm with hm | ⟨h1, rfl⟩
    · cases hm
    · obtain ⟨c, hc⟩ := hfree _ h1 rfl
      rw [hc]
      obtain ⟨w, z⟩ := I.cell _ _ hc
      exact ⟨rfl, z.lt⟩
  have mem : ∀ {y c}, cenv.cells.lookup y = some c → (X.env.cells.lookup y = some c ∧ c < s.heap.objs.size) ∨ (s.heap.objs.size + 1 ≤ c ∧ CellAt (pushCells (s.heap.push { cls := .type "dict", data := .dict #[] }) scope.names) c none) := fun {y c} e => by
    rw [hcl] at e
    rcases cells_mem (PySem.mem_of_lookup e) with hm | ⟨_, h2, h3⟩
    · exact .inl (cm hm)
    · rw [Heap.size_push] at h2; exact .inr ⟨h2, h3⟩
  have look : ∀ {y}, scope.names.lookup y = some .free → ∃ c, cenv.cells.lookup y = some c ∧ X.env.cells.lookup y = some c := fun {y} hl => by
    have hy : (y, NameKind.free) ∈ scope.names := PySem.mem_of_lookup hl
    obtain ⟨c', e'⟩ := mem_lookup (cells_acc (names := scope.names) (n := (s.heap.push { cls := .type "dict", data := .dict #[] }).objs.size) (cloFrom_has (cells := X.env.cells) (acc := []) hy))
    rw [← hcl] at e'
    refine ⟨c', e', ?_⟩
    rw [hcl] at e'
    rcases cells_mem (PySem.mem_of_lookup e') with hm | ⟨h1, _, _⟩
    · exact (cm hm).1
    · have := ok.uniq _ h1
      rw [hl] at this; cases this
  have okB : (X.blk s H scope cenv fp).Ok := by
    refine ⟨I.ok.mod, by show cenv.scope.kind = _; rw [hsc]; exact ok.kind, by show cenv.globals = _; rw [← hcenv]; exact I.ok.glob, by show cenv.builtins = _; rw [← hcenv]; exact I.ok.blt, by show s.heap.objs.size ≤ cenv.locals; rw [hL]; exact Nat.le_refl _,
      fun y z c e1 e2 => ?_, fun y hy => ?_, fun y c z e => ?_, I.ok.hd, I.ok.frames, .inl rfl, fun b hb => ⟨?_, fun y c e z => ?_⟩, I.bs, Nat.le_trans I.ok.bsz I.sz, fun b o e hb => ?_, fun b hb z => ?_, I.stack, I.stkFree⟩
    · have e1 : cenv.cells.lookup y = some c := e1
      have e2 : cenv.cells.lookup z = some c := e2
      rw [hcl] at e1 e2
      refine cells_inj (fun p hp => ?_) (fun y z c a b => I.ok.inj y z c (cm a).1 (cm b).1) (PySem.mem_of_lookup e1) (PySem.mem_of_lookup e2)
      rw [Heap.size_push]
      exact Nat.lt_succ_of_lt (cm (y := p.1) (c := p.2) hp).2
    · show ∃ c, cenv.cells.lookup y = some c
      have key : ∀ k, cenv.kindOf y = some k → (k = .cell ∨ k = .free) → ∃ c, cenv.cells.lookup y = some c := fun k hk hk' => by
        unfold Env.kindOf at hk
        rw [hsc] at hk
        obtain ⟨k', e, r⟩ := lookup_relS hk
        have : k' = .cell ∨ k' = .free := by
          rcases r with rfl | ⟨rfl, _⟩
          · exact hk'
          · exact .inr rfl
        rcases this with rfl | rfl
        · obtain ⟨c, hm⟩ := cells_has (n := (s.heap.push { cls := .type "dict", data := .dict #[] }).objs.size) (acc := cloFrom X.env.cells scope.names []) (PySem.mem_of_lookup e)
          obtain ⟨c', e'⟩ := mem_lookup hm
          exact ⟨c', by rw [hcl]; exact e'⟩
        · obtain ⟨c, h1, _⟩ := look e
          exact ⟨c, h1⟩
      rcases hy with hy | hy
      · exact key _ hy (.inl rfl)
      · exact key _ hy (.inr rfl)
    · have z : (scope.names.lookup y == some NameKind.cell) = true := z
      have z : scope.names.lookup y = some .cell := by simpa using z
      have e : cenv.cells.lookup y = some c := e
      rw [hcl] at e
      rcases cells_mem (PySem.mem_of_lookup e) with hm | ⟨_, h2, _⟩
      · rcases cloFrom_mem hm with hm | ⟨h1, _⟩
        · cases hm
        · have q := ok.uniq _ h1
          rw [z] at q; cases q
      · rw [Heap.size_push] at h2
        exact Nat.le_of_succ_le h2
    · show b ≠ cenv.locals
      rw [hL]; exact Nat.ne_of_lt (hfp b hb).2
    · have e : cenv.cells.lookup y = some c := e
      rcases mem e with ⟨h1, _⟩ | ⟨h1, _⟩
      · exact (hfp b hb).1.2.2.2.2.1 y c h1 z
      · have h2 : s.heap.objs.size + 1 ≤ b := by rw [← z]; exact h1
        exact absurd (Nat.lt_of_lt_of_le (hfp b hb).2 (Nat.le_of_succ_le h2)) (Nat.lt_irrefl _)
    · rcases (hfp b hb).1.2.2.2.1 with z | z
      · exact I.ok.noex b o e z
      · exact absurd (Nat.lt_of_lt_of_le (Heap.lt_size e) (Nat.le_trans I.ok.bsz z)) (Nat.lt_irrefl _)
    · rcases List.mem_cons.mp (I.stkSub b z) with z | z
      · exact (hfp b hb).1.2.1 z
      · exact (hfp b hb).1.2.2.1 z
  refine ⟨okB, rfl, I.bare, Un.kept kp, ⟨fun _ => none, ?_, fun i y av e1 e2 e3 => ?_⟩, fun y c e => ?_, ?_, fun y c e => ?_, fun p hp => ?_, I.hok.kept kp, by rw [wipe_length]; exact I.len⟩
  · show Heap.Ns _ cenv.locals _
    rw [hL]
    exact Heap.Ns.keeps (Heap.Ns.new ..) fun b o e => pushCells_keeps _ _ _ _ e
  · obtain ⟨e2, hne⟩ := wipe_some e2
    have hfr : scope.names.lookup y = some .free ∧ (cenv.kindOf y = some .cell ∨ cenv.kindOf y = some .free) := by
      have key : ∀ k, cenv.scope.names.lookup y = some k → k = .local ∨ k = .cell ∨ k = .free → scope.names.lookup y = some .free ∧ (cenv.kindOf y = some .cell ∨ cenv.kindOf y = some .free) := fun k hk hk' => by
        have hk0 := hk
        rw [hsc] at hk
        obtain ⟨k', e, r⟩ := lookup_relS hk
        have no : ¬ (k' = .local ∨ k' = .cell) := fun hh => by
          rcases ok.own _ (PySem.mem_of_lookup e) hh with e' | e'
          · obtain ⟨p, hp, hpy⟩ := List.mem_map.mp e'
            have e3 := ok.ix p hp
            have : p.1 = y := hpy
            rw [this] at e3
            exact hne (List.mem_map.mpr ⟨p, hp, nodup_ix hN e3 e1⟩)
          · exact e' (List.mem_of_getElem? e1)
        rcases r with rfl | ⟨rfl, rfl⟩
        · rcases hk' with rfl | rfl | rfl
          · exact absurd (.inl rfl) no
          · exact absurd (.inr rfl) no
          · exact ⟨e, .inr hk0⟩
        · exact ⟨e, .inl hk0⟩
      have e3 : Vis cenv.scope y := e3
      rcases e3 with e3 | e3 | e3
      · exact key _ e3 (.inl rfl)
      · exact key _ e3 (.inr (.inl rfl))
      · exact key _ e3 (.inr (.inr rfl))
    obtain ⟨m, hn, hl⟩ := I.loc
    have hvis : Vis X.env.scope y := (ok.free _ (PySem.mem_of_lookup hfr.1) rfl).elim (fun k => .inr (.inl k)) (fun k => .inr (.inr k))
    obtain ⟨w, r, q⟩ := hl i y av e1 e2 hvis
    refine ⟨w, r, .inr ⟨hfr.2, ?_⟩⟩
    obtain ⟨c, h1, h2⟩ := look hfr.1
    rcases q with ⟨k, _⟩ | ⟨_, c', e', z⟩
    · have k : X.env.scope.names.lookup y = some .local := k
      rcases ok.free _ (PySem.mem_of_lookup hfr.1) rfl with k' | k' <;> rw [show X.env.scope.names.lookup y = _ from k'] at k <;> cases k
    · rw [h2] at e'; cases e'
      exact ⟨c, h1, z.keeps kp⟩
  · have e : cenv.cells.lookup y = some c := e
    rcases mem e with ⟨h1, _⟩ | ⟨_, z⟩
    · obtain ⟨w, z⟩ := I.cell y c h1
      exact ⟨w, z.keeps kp⟩
    · exact ⟨_, z⟩
  · show H cenv.locals = none
    rw [hL]; exact I.hok.fresh (Nat.le_refl _)
  · have e : cenv.cells.lookup y = some c := e
    rcases mem e with ⟨h1, _⟩ | ⟨h1, _⟩
    · exact I.freeC y c h1
    · exact I.hok.fresh (Nat.le_of_succ_le h1)
  · exact absurd (show p ∈ ([] : List (Addr × Obj)) ++ [] from hp) (by simp)
theorem app_ok {E : Value → Shared → Prop} {D : Addr} {xs : List V} {y : V} {v : Value} {Q : Value → Shared → Prop} (I : Inv X pins σ H s) (hD : H D = some (.lst xs)) (hz : xs.length < sizeLine) (r : RelV y v)
    (h : ∀ s', Inv X pins σ (upd H D (.lst (xs ++ [y]))) s' → Q .none s') : wpAny (model X.prog X.w) X.A (call (.builtin "list.append") [.ref D, v]) Q E s := by
  obtain ⟨hz', its, n, ri, e⟩ := I.hok D _ hD
  have hl := ri.length
  refine append_at (hsz := by rw [List.size_toArray]; omega) e fun h' sb ho' => ?_
  refine h { s with heap := h' } (I.write (t' := s.toks) (by rw [hD]; trivial) (.inl rfl) (fun b u hb q => (sb.2 b hb).trans q) ⟨_, ho'⟩ ⟨by rw [List.length_append]; exact hz, its ++ [v], n + 1, ri.append (.cons r .nil), ?_⟩)
  rw [ho']
  simp
def PTs (X : Cx) (ifs : List Expr) (t : TT) : Prop :=
  ∀ (pins : List (Addr × Obj)) (s : Shared) (σ : St) (H : Hp) (Q : Bool → Hp → Prop), Inv X pins σ H s → t σ H Q →
    wpAny (model X.prog X.w) X.A (forIn ifs true fun c r => if r = true then do let ok ← isTrue c X.env (eval c X.env); pure (ForInStep.yield ok) else pure (ForInStep.yield r)) (TP X pins σ Q) X.xe s
theorem pts_one {c : Expr} {t : TT} (h : PT X c t) : PTs X [c] t := fun pins s σ H Q I hw => wpAny_tests_one (h pins s σ H Q I hw)
end
theorem thnF {α : Type} {t : Sem α} {Q Q' : α → Shared → Prop} {M : Model} {A : Around} {E : Value → Shared → Prop} {s : Shared} (h : wpAny M A t Q (fun _ _ => False) s) (hQ : ∀ a s, Q a s → Q' a s) : wpAny M A t Q' E s := wpAny_mono h hQ fun _ _ z => False.elim z
theorem compLoop_any {prog : Program} {w : World} {A : Around} {R : Result → Shared → Prop} {s : Shared} {elt target iter : Expr} {ifs : List Expr} {scope : Scope} {pos : Pos} {it acc : Value} {env : Env} (I : Nat → Shared → Prop)
    (turn : ∀ n s, I n s → wpAny (model prog w) A (pyNext it) (fun r s₁ => match r with
      | none => R (.ok .next) s₁
      | some v => wpAny (model prog w) A (letOwnedTupleGo target it v) (fun _ s₁' => wpAny (model prog w) A (assign target env v) (fun _ s₂ =>
          wpAny (model prog w) A (forIn ifs true fun c r => if r = true then do let ok ← isTrue c env (eval c env); pure (ForInStep.yield ok) else pure (ForInStep.yield r)) (fun ok s₃ =>
            if ok = true then wpAny (model prog w) A (eval elt env) (fun x s₄ =>
              wpAny (model prog w) A (call (.builtin "list.append") [acc, x]) (fun _ s₅ => ∃ m, m < n ∧ I m s₅) (notedBy (model prog w) A env fun e s' => R (.error e) s') s₄) (notedBy (model prog w) A env fun e s' => R (.error e) s') s₃
            else ∃ m, m < n ∧ I m s₃) (notedBy (model prog w) A env fun e s' => R (.error e) s') s₂) (notedBy (model prog w) A env fun e s' => R (.error e) s') s₁') (notedBy (model prog w) A env fun e s' => R (.error e) s') s₁) (notedBy (model prog w) A env fun e s' => R (.error e) s') s)
    (n : Nat) (h : I n s) :
    codeAny (model prog w) A (.compLoop (.ListComp elt [⟨target, iter, ifs, 0⟩] scope pos) 0 it acc env) R s := by
  refine codeAny_loop rfl I (fun n s hI => ?_) n h
  show wpAny _ A ((compTurn (.ListComp elt [⟨target, iter, ifs, 0⟩] scope pos) 0 it acc env).onRaise (fun x => do noteFrame x env; theTreesLotGoes x)) _ _ s
  refine wpAny_noted ?_
  rw [compTurn_list]
  refine wpAny_bind (wpAny_standAt (wpAny_bind (wpAny_mono (turn n s hI) (fun r s₁ h₁ => ?_) fun _ _ h' => h')))
  cases r with
  | none => exact wpAny_pure h₁
  | some v =>
    refine wpAny_bind (wpAny_mono h₁ (fun _ s₁' h₁' => ?_) fun _ _ h' => h')
    refine wpAny_bind (wpAny_mono h₁' (fun _ s₂ h₂ => wpAny_bind (wpAny_mono h₂ (fun ok s₃ h₃ => ?_) fun _ _ h' => h')) fun _ _ h' => h')
    cases ok with
    | false => exact wpAny_pure ⟨rfl, h₃⟩
    | true =>
      exact wpAny_bind (wpAny_bind (wpAny_mono h₃ (fun x s₄ h₄ => wpAny_bind (wpAny_mono h₄ (fun _ s₅ h₅ => wpAny_pure (wpAny_pure ⟨rfl, h₅⟩)) fun _ _ h' => h')) fun _ _ h' => h'))
section
variable {X : Cx}
def tLc (wi : TI) (g : TG) (tt : TT) (te : TE) (vs : List Nat) : TE := fun σ H Q => wi σ H fun J H1 => ∀ D, H1 D = none → ∃ W : Nat → Nat → Hp → Prop, (∃ m, W 0 m (upd H1 D (.lst []))) ∧ ∀ i m H, W i m H →
  (J.stop i H ∧ Q (.ref D) H) ∨ (J.go i H ∧ ∃ Nx : Hp → Prop, (∀ H', Nx H' → ∃ m', m' < m ∧ W (i + 1) m' H') ∧ ∀ x H', J.yld i H x H' → g x (wipe σ vs) H' fun σ2 H2 => wipe σ2 vs = wipe σ vs ∧ tt σ2 H2 fun b H3 =>
    if b = true then te σ2 H3 fun y H4 => ∃ acc, H4 D = some (.lst acc) ∧ acc.length < sizeLine ∧ Nx (upd H4 D (.lst (acc ++ [y]))) else Nx H3)
theorem lc_core {pins : List (Addr × Obj)} {s : Shared} {σ : St} {H : Hp} {Q : VK} {elt tg iter : Expr} {ifs : List Expr} {scope : Scope} {own : List (Str × Nat)} {pos pos' : Pos} {wi : TI} {g : TG} {tt : TT} {te : TE} {use : Option (Value → Sem Unit)} {Qf : Value → Shared → Prop}
    (hc : X.calm = true) (hN : X.N.Nodup) (I : Inv X pins σ H s) (hi : PI X tg iter wi) (ok : BlkOk X.N X.env.scope scope own)
    (hg : ∀ (s : Shared) (H : Hp) (C : Addr) (cl : List (Str × Addr)) (fp : List Addr), PG (X.blk s H scope (compEnvC scope cl C X.env) fp) tg g) (ht : ∀ (s : Shared) (H : Hp) (C : Addr) (cl : List (Str × Addr)) (fp : List Addr), PTs (X.blk s H scope (compEnvC scope cl C X.env) fp) ifs tt)
    (he : ∀ (s : Shared) (H : Hp) (C : Addr) (cl : List (Str × Addr)) (fp : List Addr), PE (X.blk s H scope (compEnvC scope cl C X.env) fp) elt te) (hs : ∀ x, foldedSetIterable iter X.env x = pure x)
    (h : tLc wi g tt te (own.map (·.2)) σ H Q)
    (hRR : ∀ D C s' m H', Inv X pins σ H' s' → Q (.ref D) H' → s'.heap.Ns C m → FpOk X pins H' C → compPost (model X.prog X.w) X.A X.xe use Qf (.ref D) C (.ok .next) s') :
    wpAny (model X.prog X.w) X.A (comprehension (.ListComp elt [⟨tg, iter, ifs, 0⟩] scope pos) scope X.env pos' (newList []) false (eval iter X.env) use) Qf X.xe s := by
  have hfree : ∀ y ∈ scope.names, y.2 = .free → ∃ c, X.env.cells.lookup y.1 = some c := fun y hy e => by
    rcases ok.free y hy e with k | k
    · exact I.ok.has _ (.inl k)
    · exact I.ok.has _ (.inr k)
  refine wpAny_comprehension_free (use := use) rfl hs (closure_ok hfree) ok.kind (fun y hy e => by rw [ok.uniq y hy, e])
    (thn (hi pins s σ H _ I h) fun xv s1 hx => thn hx fun itv s2 h2 => ?_)
  obtain ⟨it, fp, tn, J, H2, e, I2, T, st2, f2, q⟩ := h2
  subst e
  refine wpAny_newObj_type (newEnv_comp ?_) (by show 0 ≤ sizeLine; decide)
  generalize hD : s2.heap.objs.size = D
  have hDn : H2 D = none := I2.hok.fresh (Nat.le_of_eq hD)
  obtain ⟨W, ⟨m0, w0⟩, turn⟩ := q D hDn
  -- the new list
  generalize hs3 : ({ s2 with heap := s2.heap.push { cls := .type "list", data := .seq ([] : List Value).toArray } } : Shared) = s3
  have I3 : Inv X pins σ (upd H2 D (.lst [])) s3 := by
    rw [← hs3]
    refine I2.laid (t' := s2.toks) (fun b o e => Heap.get?_push_of_some _ e) (Nat.le_of_eq hD) ⟨Nat.zero_le _, [], 0, .nil, ?_⟩
    rw [← hD]
    exact Heap.get?_push_size _ rfl
  have h3 : s3.heap = s2.heap.push { cls := .type "list", data := .seq ([] : List Value).toArray } := by rw [← hs3]
  have sz : ∀ b ∈ fp, b < s2.heap.objs.size := fun b hb => by
    obtain ⟨o, e, _⟩ := T.obj _ _ st2 b hb
    exact Heap.lt_size e
  have f3 : ∀ b ∈ fp, FpOk X pins (upd H2 D (.lst [])) b ∧ b < s3.heap.objs.size := fun b hb => by
    have hlt := sz b hb
    refine ⟨⟨?_, (f2 b hb).2⟩, by rw [h3, Heap.size_push]; exact Nat.lt_succ_of_lt hlt⟩
    rw [upd_ne (by rw [← hD]; exact Nat.ne_of_lt hlt)]
    exact (f2 b hb).1
  have st3 : tn 0 s3.heap := T.keep _ _ _ st2 fun b _ o e => by rw [h3]; exact Heap.get?_push_of_some _ e
  have I4 := block_start I3 ok hN f3
  have pg := hg s3 (upd H2 D (.lst [])) s3.heap.objs.size (cellsFrom (s3.heap.objs.size + 1) scope.names (cloFrom X.env.cells scope.names [])) fp
  have pt := ht s3 (upd H2 D (.lst [])) s3.heap.objs.size (cellsFrom (s3.heap.objs.size + 1) scope.names (cloFrom X.env.cells scope.names [])) fp
  have pe := he s3 (upd H2 D (.lst [])) s3.heap.objs.size (cellsFrom (s3.heap.objs.size + 1) scope.names (cloFrom X.env.cells scope.names [])) fp
  show codeAny _ _ (.compStart (.ListComp elt [⟨tg, iter, ifs, 0⟩] scope pos) 0 (.ref it) (.ref D) (compEnvC scope (cellsFrom (s3.heap.objs.size + 1) scope.names (cloFrom X.env.cells scope.names [])) s3.heap.objs.size X.env)) (compPost (model X.prog X.w) X.A X.xe use Qf (.ref D) s3.heap.objs.size) { s3 with heap := pushCells (s3.heap.push { cls := .type "dict", data := .dict #[] }) scope.names }
  have nfp : ∀ b ∈ fp, (upd H2 D (.lst [])) b = none := fun b hb => (f3 b hb).1.1
  generalize hce : compEnvC scope (cellsFrom (s3.heap.objs.size + 1) scope.names (cloFrom X.env.cells scope.names [])) s3.heap.objs.size X.env = ce at I4 pg pt pe ⊢
  have cL : ce.locals = s3.heap.objs.size := by subst hce; rfl
  generalize hH3 : upd H2 D (.lst []) = H3 at I3 I4 pg pt pe w0 nfp f3
  generalize hs4 : ({ s3 with heap := pushCells (s3.heap.push { cls := .type "dict", data := .dict #[] }) scope.names } : Shared) = s4 at I4 ⊢
  have st4 : tn 0 s4.heap := T.keep _ _ _ st3 fun b _ o e => by rw [← hs4]; exact pushCells_keeps _ _ _ _ (Heap.get?_push_of_some _ e)
  have stat : ∀ {σ' : St} {H' : Hp} {s' : Shared}, Inv (X.blk s3 H3 scope ce fp) [] σ' H' s' → (∀ b ∈ fp, H' b = none) → ∀ b ∈ fp, FpOk (X.blk s3 H3 scope ce fp) [] H' b := fun {σ' H' s'} I' hn b hb =>
    ⟨hn b hb, (I'.ok.exf b hb).1, I'.ok.exfs b hb, .inl hb, fun x c e => (I'.ok.exf b hb).2 x c e, fun p hp => absurd (show p ∈ ([] : List (Addr × Obj)) ++ [] from hp) (by simp)⟩
  have loop : codeAny (model X.prog X.w) X.A (.compLoop (.ListComp elt [⟨tg, iter, ifs, 0⟩] scope pos) 0 (.ref it) (.ref D) ce) (compPost (model X.prog X.w) X.A X.xe use Qf (.ref D) s3.heap.objs.size) s4 := by
    refine compLoop_any (fun n s' => ∃ i H', Inv (X.blk s3 H3 scope ce fp) [] (wipe σ (own.map (·.2))) H' s' ∧ tn i s'.heap ∧ (∀ b ∈ fp, H' b = none) ∧ W i n H') ?_ m0 ⟨0, H3, I4, st4, nfp, w0⟩
    rintro n s5 ⟨i, H5, I5, st5, n5, w5⟩
    rcases turn i n H5 w5 with ⟨stop, qq⟩ | ⟨go, Nx, hNx, step⟩
    · have td := T.done (X.blk s3 H3 scope ce fp) rfl rfl rfl hc i [] s5 _ H5 (fun _ _ => False) I5 (stat I5 n5) st5 stop
      refine thnF td fun r s6 ⟨hr, I6⟩ => ?_
      subst hr
      -- back in the def's context
      have I7 : Inv X pins σ H5 s6 := I3.call' (ch := fp) I6.os I6.base I6.hok I6.bare fun b hb => ⟨(f3 b hb).1.2.2.2.1, (f3 b hb).1.2.1, (f3 b hb).1.2.2.2.2.1, (f3 b hb).1.2.2.2.2.2⟩
      have nC : H5 s3.heap.objs.size = none := by
        have z : H5 ce.locals = none := I6.free
        rw [cL] at z
        exact z
      obtain ⟨m, hn, _⟩ := I6.loc
      have hn : s6.heap.Ns ce.locals m := hn
      rw [cL] at hn
      exact hRR D s3.heap.objs.size s6 m H5 I7 qq hn (I3.fpOk (Nat.le_refl _) nC)
    · have ti := T.item (X.blk s3 H3 scope ce fp) rfl rfl rfl hc i [] s5 _ H5 (fun _ _ => False) I5 (stat I5 n5) st5 go
      refine thnF ti fun r s6 ⟨u, hr, h6⟩ => ?_
      subst hr
      refine thnF h6 fun _ s7 ⟨x, H7, I7, r7, y7, st7, n7⟩ => ?_
      have I7' := I7.pinned (stat I7 n7) (T.obj _ _ st7)
      refine thnF (pg _ s7 _ H7 x u _ I7' r7 (step x H7 y7)) fun _ s8 ⟨σ8, H8, I8, hw8, q8⟩ => ?_
      refine thnF (pt _ s8 σ8 H8 _ I8 q8) fun b s9 ⟨H9, I9, q9⟩ => ?_
      -- the turn's end
      have fin : ∀ {s' : Shared} {H' : Hp}, Inv (X.blk s3 H3 scope ce fp) ([] ++ pinsAt fp s7.heap) σ8 H' s' → Nx H' → ∃ m, m < n ∧ ∃ i H', Inv (X.blk s3 H3 scope ce fp) [] (wipe σ (own.map (·.2))) H' s' ∧ tn i s'.heap ∧ (∀ b ∈ fp, H' b = none) ∧ W i m H' := fun {s' H'} I' nx => by
        obtain ⟨m', hm, w'⟩ := hNx H' nx
        have pin' : ∀ b ∈ fp, ∀ o, s7.heap.get? b = some o → s'.heap.get? b = some o ∧ H' b = none := fun b hb o e =>
          let z := I'.pin (b, o) (List.mem_append_right _ (List.mem_append_right _ (mem_pinsAt hb e)))
          ⟨z.1, z.2.1⟩
        have hl : (wipe σ (own.map (·.2))).length = σ8.length := by rw [← hw8, wipe_length]
        refine ⟨m', hm, i + 1, H', (I'.unpinned (pins := [])).weak hl (fun j v e => ?_), T.keep _ _ _ st7 fun b hb o e => (pin' b hb o e).1, fun b hb => ?_, w'⟩
        · rw [← hw8] at e
          exact (wipe_some e).1
        · obtain ⟨o, e, _⟩ := T.obj _ _ st7 b hb
          exact (pin' b hb o e).2
      cases b with
      | false =>
        simp only [Bool.false_eq_true, if_false] at q9 ⊢
        exact fin I9 q9
      | true =>
        simp only [if_true] at q9 ⊢
        refine thnF (pe _ s9 σ8 H9 _ I9 q9) fun z s10 ⟨yv, H10, I10, r10, acc, hD10, hz10, nx⟩ => ?_
        exact app_ok (X := X.blk s3 H3 scope ce fp) I10 hD10 hz10 r10 fun s11 I11 => fin I11 nx
  exact codeAny_compStart_list loop (T.self X.A 0 _ _ _ st4 loop)
theorem pe_lc {elt tg iter : Expr} {ifs : List Expr} {scope : Scope} {own : List (Str × Nat)} {pos : Pos} {wi : TI} {g : TG} {tt : TT} {te : TE} (hc : X.calm = true) (hN : X.N.Nodup) (hi : PI X tg iter wi) (ok : BlkOk X.N X.env.scope scope own)
    (hg : ∀ (s : Shared) (H : Hp) (C : Addr) (cl : List (Str × Addr)) (fp : List Addr), PG (X.blk s H scope (compEnvC scope cl C X.env) fp) tg g) (ht : ∀ (s : Shared) (H : Hp) (C : Addr) (cl : List (Str × Addr)) (fp : List Addr), PTs (X.blk s H scope (compEnvC scope cl C X.env) fp) ifs tt)
    (he : ∀ (s : Shared) (H : Hp) (C : Addr) (cl : List (Str × Addr)) (fp : List Addr), PE (X.blk s H scope (compEnvC scope cl C X.env) fp) elt te) (hs : ∀ x, foldedSetIterable iter X.env x = pure x := by intro _; rfl) :
    PE X (.ListComp elt [⟨tg, iter, ifs, 0⟩] scope pos) (tLc wi g tt te (own.map (·.2))) := by
  intro pins s σ H Q I h
  rw [eval_ListComp]
  refine lc_core hc hN I hi ok hg ht he hs h fun D C s' m H' I' q hn f => ⟨m, hn, fun h'' sb => ?_⟩
  obtain ⟨f0, f1, f2, f3, f4, f5⟩ := f
  exact ⟨.ref D, H', I'.turned (t' := s'.toks) (fun b o hb e => (sb.2 b hb).trans e) f0 f1 f3 f4 f5, rfl, q⟩
end
def blkC (N : List Str) (sc scope : Scope) (own : List (Str × Nat)) : Bool :=
  (match scope.kind with | .function => true | _ => false) && (scope.names.all fun y => decide (scope.names.lookup y.1 = some y.2)) && (own.all fun p => decide (N[p.2]? = some p.1)) &&
    (scope.names.all fun y => match y.2 with
      | .free => (match sc.names.lookup y.1 with | some .cell => true | some .free => true | _ => false)
      | .local => decide (y.1 ∈ own.map (·.1)) || decide (y.1 ∉ N)
      | .cell => decide (y.1 ∈ own.map (·.1)) || decide (y.1 ∉ N)
      | _ => true)
theorem blkOk_by {N : List Str} {sc scope : Scope} {own : List (Str × Nat)} (h : blkC N sc scope own = true) : BlkOk N sc scope own := by
  unfold blkC at h
  simp only [Bool.and_eq_true, List.all_eq_true, decide_eq_true_eq] at h
  obtain ⟨⟨⟨h1, h2⟩, h3⟩, h4⟩ := h
  refine ⟨?_, h2, h3, fun y hy e => ?_, fun y hy e => ?_⟩
  · split at h1
    · assumption
    · cases h1
  · have q := h4 y hy
    simp only [e] at q
    split at q <;> first | exact .inl (by assumption) | exact .inr (by assumption) | cases q
  · have q := h4 y hy
    rcases e with e | e <;> (simp only [e, Bool.or_eq_true, decide_eq_true_eq] at q; exact q)
end L2
namespace L2
open PySem PySem.Spec PyProof.Rows
section
variable {prog : Program} {w : World} {A : Around} {R : Result → Shared → Prop} {s : Shared} {elt t0 i0 t1 i1 : Expr} {ifs0 ifs1 : List Expr} {scope : Scope} {pos : Pos} {it acc : Value} {env : Env}
end
section
variable {X : Cx}
end
end L2
namespace L2
open PySem PySem.Spec PyProof.Rows
section
variable {κ : Type} [DecidableEq κ]
def valV (kvs : List (κ × V)) (k : κ) : Option V := (kvs.find? fun kv => decide (kv.1 = k)).map (·.2)
def putK (kvs : List (κ × V)) (k : κ) (v : V) : List (κ × V) :=
  if (kvs.any fun kv => decide (kv.1 = k)) = true then kvs.map (fun kv => if kv.1 = k then (kv.1, v) else kv) else kvs ++ [(k, v)]
def dropK (kvs : List (κ × V)) (k : κ) : List (κ × V) := kvs.filter fun kv => decide (kv.1 ≠ k)
theorem valV_pos {p : κ × V} {r : List (κ × V)} {k : κ} (e : p.1 = k) : valV (p :: r) k = some p.2 := by simp [valV, List.find?_cons, e]
theorem valV_neg {p : κ × V} {r : List (κ × V)} {k : κ} (e : ¬ p.1 = k) : valV (p :: r) k = valV r k := by simp [valV, List.find?_cons, e]
theorem valV_any (k : κ) : ∀ kvs : List (κ × V), (kvs.any fun kv => decide (kv.1 = k)) = (valV kvs k).isSome
  | [] => rfl
  | p :: r => by
    rw [List.any_cons]
    by_cases e : p.1 = k
    · simp only [valV_pos e, decide_eq_true e, Bool.true_or, Option.isSome_some]
    · rw [valV_neg e, decide_eq_false e, Bool.false_or]; exact valV_any k r
theorem length_putK (kvs : List (κ × V)) (k : κ) (v : V) : (putK kvs k v).length ≤ kvs.length + 1 := by
  unfold putK
  split
  · rw [List.length_map]; omega
  · rw [List.length_append, List.length_cons, List.length_nil]; omega
theorem RelO.isSome_eq {o : Option V} {u : Option Value} (r : RelO o u) : o.isSome = u.isSome := by
  cases o with
  | none => cases u with
    | none => rfl
    | some _ => exact (show False from r).elim
  | some _ => cases u with
    | none => exact (show False from r).elim
    | some _ => rfl
theorem RelO.getD {o : Option V} {u : Option Value} {d : V} {d' : Value} (r : RelO o u) (rd : RelV d d') : RelV (o.getD d) (u.getD d') := by
  cases o with
  | none => cases u with
    | none => exact rd
    | some _ => exact (show False from r).elim
  | some _ => cases u with
    | none => exact (show False from r).elim
    | some _ => exact r
theorem KV.val {kvs : List (κ × V)} {vs : List (κ × Value)} (r : KV kvs vs) (k : κ) : RelO (valV kvs k) (valueAt vs k) := by
  unfold KV at r
  induction r with
  | nil => exact True.intro
  | @cons p q ps qs h t ih =>
    obtain ⟨h1, h2⟩ := h
    by_cases e : p.1 = k
    · have e' : q.1 = k := h1.symm.trans e
      have b : valueAt (q :: qs) k = some q.2 := by simp [valueAt, List.find?_cons, e']
      rw [valV_pos e, b]; exact h2
    · have e' : ¬ q.1 = k := fun z => e (h1.trans z)
      have b : valueAt (q :: qs) k = valueAt qs k := by simp [valueAt, List.find?_cons, e']
      rw [valV_neg e, b]; exact ih
theorem KV.any {kvs : List (κ × V)} {vs : List (κ × Value)} (r : KV kvs vs) (k : κ) : (kvs.any fun kv => decide (kv.1 = k)) = vs.any fun kv => decide (kv.1 = k) := by
  unfold KV at r
  induction r with
  | nil => rfl
  | cons h t ih => rw [List.any_cons, List.any_cons, ih, h.1]
theorem KV.repl {kvs : List (κ × V)} {vs : List (κ × Value)} (r : KV kvs vs) (k : κ) {y : V} {u : Value} (ry : RelV y u) :
    KV (kvs.map fun kv => if kv.1 = k then (kv.1, y) else kv) (vs.map fun kv => if kv.1 = k then (kv.1, u) else kv) := by
  unfold KV at r ⊢
  induction r with
  | nil => exact .nil
  | @cons p q ps qs h t ih =>
    rw [List.map_cons, List.map_cons]
    refine .cons ?_ ih
    obtain ⟨h1, h2⟩ := h
    by_cases e : p.1 = k
    · rw [if_pos e, if_pos (h1.symm.trans e)]; exact ⟨h1, ry⟩
    · rw [if_neg e, if_neg (fun z => e (h1.trans z))]; exact ⟨h1, h2⟩
theorem KV.put {kvs : List (κ × V)} {vs : List (κ × Value)} (r : KV kvs vs) (k : κ) {y : V} {u : Value} (ry : RelV y u) : KV (putK kvs k y) (stored vs k u) := by
  unfold putK stored
  rw [r.any k]
  by_cases e : (vs.any fun kv => decide (kv.1 = k)) = true
  · rw [if_pos e, if_pos e]; exact r.repl k ry
  · rw [if_neg e, if_neg e]; exact Paired.snoc r ⟨rfl, ry⟩
theorem KV.drop {kvs : List (κ × V)} {vs : List (κ × Value)} (r : KV kvs vs) (k : κ) : KV (dropK kvs k) (without vs k) := by
  unfold KV at r ⊢
  unfold dropK without
  induction r with
  | nil => exact .nil
  | @cons p q ps qs h t ih =>
    obtain ⟨h1, h2⟩ := h
    rw [List.filter_cons, List.filter_cons]
    by_cases e : p.1 = k
    · have a : ¬ decide (p.1 ≠ k) = true := by simp [e]
      have b : ¬ decide (q.1 ≠ k) = true := by simp [h1.symm.trans e]
      rw [if_neg a, if_neg b]; exact ih
    · have e' : ¬ q.1 = k := fun z => e (h1.trans z)
      have a : decide (p.1 ≠ k) = true := by simp [e]
      have b : decide (q.1 ≠ k) = true := by simp [e']
      rw [if_pos a, if_pos b]; exact .cons ⟨h1, h2⟩ ih
theorem KV.keys {kvs : List (κ × V)} {vs : List (κ × Value)} (r : KV kvs vs) : kvs.map (·.1) = vs.map (·.1) := by
  unfold KV at r
  induction r with
  | nil => rfl
  | cons h t ih => rw [List.map_cons, List.map_cons, ih, h.1]
theorem KV.length {kvs : List (κ × V)} {vs : List (κ × Value)} (r : KV kvs vs) : kvs.length = vs.length := Paired.length r
end
theorem kV_is {P : Program} {w : World} {k : Key} {u : Value} (r : RelV (kV k) u) : (mixKind P w).is k u = true := by
  cases k with
  | inl i => obtain ⟨t, e⟩ := (show ∃ t, u = Value.int i t from r); subst e; exact mixKind_int P w i t
  | inr x => obtain ⟨t, e⟩ := (show ∃ t, u = Value.str x t from r); subst e; exact mixKind_str P w x t
abbrev KT (H : Hp) : List (List Key × V) → List (List Key × Addr × Value) → Prop := Paired fun p q => p.1 = q.1 ∧ H q.2.1 = some (.tup (p.1.map kV)) ∧ RelV p.2 q.2.2
theorem KT.val {H : Hp} {kvs : List (List Key × V)} {xs : List (List Key × Addr × Value)} (r : KT H kvs xs) (k : List Key) : RelO (valV kvs k) ((atKey xs k).map (·.2)) := by
  induction r with
  | nil => exact True.intro
  | @cons p q ps qs h t ih =>
    obtain ⟨h1, _, h2⟩ := h
    by_cases e : p.1 = k
    · have e' : q.1 = k := h1.symm.trans e
      have b : atKey (q :: qs) k = some q.2 := by simp [atKey, List.find?_cons, e']
      rw [valV_pos e, b]; exact h2
    · have e' : ¬ q.1 = k := fun z => e (h1.trans z)
      have b : atKey (q :: qs) k = atKey qs k := by simp [atKey, List.find?_cons, e']
      rw [valV_neg e, b]; exact ih
theorem KT.repl {H : Hp} {kvs : List (List Key × V)} {xs : List (List Key × Addr × Value)} (r : KT H kvs xs) (k : List Key) {y : V} {u : Value} (ry : RelV y u) :
    KT H (kvs.map fun kv => if kv.1 = k then (kv.1, y) else kv) (xs.map (putAt k u)) := by
  induction r with
  | nil => exact .nil
  | @cons p q ps qs h t ih =>
    rw [List.map_cons, List.map_cons]
    refine .cons ?_ ih
    obtain ⟨h1, h2, h3⟩ := h
    unfold putAt
    by_cases e : p.1 = k
    · rw [if_pos e, if_pos (h1.symm.trans e)]; exact ⟨h1, h2, ry⟩
    · rw [if_neg e, if_neg (fun z => e (h1.trans z))]; exact ⟨h1, h2, h3⟩
theorem KT.put {H : Hp} {kvs : List (List Key × V)} {xs : List (List Key × Addr × Value)} (r : KT H kvs xs) (k : List Key) {b : Addr} {y : V} {u : Value} (hb : H b = some (.tup (k.map kV))) (ry : RelV y u) :
    KT H (putK kvs k y) (storedH xs k b u) := by
  have e : (kvs.any fun kv => decide (kv.1 = k)) = (atKey xs k).isSome := by
    rw [valV_any, (r.val k).isSome_eq, Option.isSome_map]
  unfold putK storedH
  rw [e]
  by_cases q : (atKey xs k).isSome = true
  · rw [if_pos q, if_pos q]; exact r.repl k ry
  · rw [if_neg q, if_neg q]; exact Paired.snoc r ⟨rfl, hb, ry⟩
theorem KT.keeps {H H' : Hp} {kvs : List (List Key × V)} {xs : List (List Key × Addr × Value)} (r : KT H kvs xs) (ht : ∀ b ys, H b = some (.tup ys) → H' b = some (.tup ys)) : KT H' kvs xs :=
  Paired.mapP r fun _ _ z => ⟨z.1, ht _ _ z.2.1, z.2.2⟩
section
variable {P : Program} {w : World} {H : Hp} {h : Heap} {a : Addr}
theorem rd_of {u : HO} (ok : HOk P w H h) (e : Rd H a u) : ObjOk P w H h a u := e.ok ok
theorem dk_rd {kvs : List (Key × V)} (ok : HOk P w H h) (e : Rd H a (.dK kvs)) : kvs.length ≤ sizeLine ∧ (a == sysModules) = false ∧ ∃ vs, KV kvs vs ∧ h.DictOf (mixKind P w) a vs :=
  show ObjOk P w H h a (.dK kvs) from rd_of ok e
theorem dk_of {kvs : List (Key × V)} (ok : HOk P w H h) (e : H a = some (.dK kvs)) : kvs.length ≤ sizeLine ∧ (a == sysModules) = false ∧ ∃ vs, KV kvs vs ∧ h.DictOf (mixKind P w) a vs := dk_rd ok (.inl e)
end
def DGet (H : Hp) (a : Addr) (y : V) (r : Option V) : Prop :=
  (∃ kvs k, Rd H a (.dK kvs) ∧ y = kV k ∧ r = valV kvs k) ∨ ∃ kvs k b, Rd H a (.dT kvs) ∧ y = .ref b ∧ H b = some (.tup (k.map kV)) ∧ r = valV kvs k
def DPut (H : Hp) (a : Addr) (y v : V) (H' : Hp) : Prop :=
  (∃ kvs k, H a = some (.dK kvs) ∧ y = kV k ∧ kvs.length < sizeLine ∧ H' = upd H a (.dK (putK kvs k v))) ∨
  ∃ kvs k b, H a = some (.dT kvs) ∧ y = .ref b ∧ H b = some (.tup (k.map kV)) ∧ kvs.length < sizeLine ∧ H' = upd H a (.dT (putK kvs k v))
theorem DGet.k {H : Hp} {a : Addr} {kvs : List (Key × V)} {k : Key} (e : H a = some (.dK kvs)) : DGet H a (kV k) (valV kvs k) := .inl ⟨kvs, k, .inl e, rfl, rfl⟩
theorem DGet.t {H : Hp} {a b : Addr} {kvs : List (List Key × V)} {k : List Key} (e : H a = some (.dT kvs)) (eb : H b = some (.tup (k.map kV))) : DGet H a (.ref b) (valV kvs k) := .inr ⟨kvs, k, b, .inl e, rfl, eb, rfl⟩
theorem DPut.k {H : Hp} {a : Addr} {kvs : List (Key × V)} {k : Key} {v : V} (e : H a = some (.dK kvs)) (hl : kvs.length < sizeLine) : DPut H a (kV k) v (upd H a (.dK (putK kvs k v))) := .inl ⟨kvs, k, e, rfl, hl, rfl⟩
theorem DPut.t {H : Hp} {a b : Addr} {kvs : List (List Key × V)} {k : List Key} {v : V} (e : H a = some (.dT kvs)) (eb : H b = some (.tup (k.map kV))) (hl : kvs.length < sizeLine) :
    DPut H a (.ref b) v (upd H a (.dT (putK kvs k v))) := .inr ⟨kvs, k, b, e, rfl, eb, hl, rfl⟩
section
variable {X : Cx} {pins : List (Addr × Obj)} {σ : St} {H : Hp} {s : Shared} {a : Addr} {y v : V} {u r : Value} {o : Option V} {A : Around} {E : Value → Shared → Prop}
theorem Inv.big (I : Inv X pins σ H s) : sysModules < s.heap.objs.size := by
  have h : mainGlobals < s.heap.objs.size := (I.mod.glob.keeps I.bk).lt
  exact Nat.lt_trans (by decide) h
theorem d_write {h' : Heap} {t' : Nat} {ob : HO} (I : Inv X pins σ H s) (mu : Mut (H a)) (hs : Heap.SameBut a s.heap h') (he : ∃ q, h'.get? a = some q) (new : ObjOk X.prog X.w (upd H a ob) h' a ob) :
    Inv X pins σ (upd H a ob) { s with heap := h', toks := t' } :=
  I.write (x := a) (e := a) mu (.inl rfl) (fun b q hb z => (hs.2 b hb).trans z) he new
theorem dk_new {P : Program} {w : World} {H' : Hp} {h' : Heap} {kvs : List (Key × V)} {vs : List (Key × Value)} (z : kvs.length ≤ sizeLine) (hd : (a == sysModules) = false) (rel : KV kvs vs) (dd : h'.DictOf (mixKind P w) a vs) :
    ObjOk P w H' h' a (.dK kvs) := ⟨z, hd, vs, rel, dd⟩
end
section
variable {X : Cx} {pins : List (Addr × Obj)} {σ : St} {H : Hp} {s : Shared} {a : Addr} {kvs : List (Key × V)} {k : Key} {u : Value} {A : Around} {E : Value → Shared → Prop}
end
section
variable {X : Cx} {o i e value : Expr} {pos pos' tpos : Pos} {td ty tv : TE}
end
theorem dk_empty {P : Program} {w : World} {H : Hp} (h : Heap) (hb : sysModules < h.objs.size) : ObjOk P w H (h.push { cls := .type "dict", data := .dict #[] }) h.objs.size (.dK []) :=
  ⟨Nat.zero_le _, beq_eq_false_iff_ne.mpr (Ne.symm (Nat.ne_of_lt hb)), [], .nil, Heap.DictOf.new h⟩
def tDNewK : TE := fun _ H Q => ∀ p, H p = none → Q (.ref p) (upd H p (.dK []))
section
variable {X : Cx} {pos : Pos}
theorem pe_dnewK : PE X (.Dict [] [] pos) tDNewK := fun pins s σ H Q I h =>
  wpAny_Dict_empty ⟨.ref s.heap.objs.size, _, I.laid (a := s.heap.objs.size) (o := .dK []) (t' := s.toks) (fun _ _ q => Heap.get?_push_of_some _ q) (Nat.le_refl _) (dk_empty s.heap I.big), rfl, h _ (I.hok.fresh (Nat.le_refl _))⟩
end
def tPairs : List (TE × TE) → St → Hp → (List (V × V) → Hp → Prop) → Prop
  | [], _, H, Q => Q [] H
  | (tk, tv) :: r, σ, H, Q => tk σ H fun x H1 => tv σ H1 fun y H2 => tPairs r σ H2 fun ps H3 => Q ((x, y) :: ps) H3
abbrev VV : List (V × V) → List (Value × Value) → Prop := Paired fun p q => RelV p.1 q.1 ∧ RelV p.2 q.2
def PPs (X : Cx) (pos : Pos) (keys : List (Option Expr)) (values : List Expr) (trs : List (TE × TE)) : Prop :=
  ∀ (pins : List (Addr × Obj)) (s : Shared) (σ : St) (H : Hp) (Q : List (V × V) → Hp → Prop), Inv X pins σ H s → tPairs trs σ H Q →
    wpAny (model X.prog X.w) X.A (evalPairs (pairTrees keys values X.env pos)) (fun vs s' => ∃ ps H', Inv X pins σ H' s' ∧ VV ps vs ∧ Q ps H') X.xe s
theorem pps_nil {X : Cx} {pos : Pos} : PPs X pos [] [] [] := fun pins s σ H Q I h => pairTrees_nil_walk ⟨[], H, I, .nil, h⟩
theorem pps_cons {X : Cx} {pos : Pos} {k v : Expr} {ks : List (Option Expr)} {vs : List Expr} {tk tv : TE} {trs : List (TE × TE)} (hk : PE X k tk) (hv : PE X v tv) (hr : PPs X pos ks vs trs) :
    PPs X pos (some k :: ks) (v :: vs) ((tk, tv) :: trs) := fun pins s σ H Q I h =>
  pairTrees_cons_walk (thn (hk pins s σ H _ I h) fun u s1 ⟨x, H1, I1, rx, q1⟩ => thn (hv pins s1 σ H1 _ I1 q1) fun w2 s2 ⟨y, H2, I2, ry, q2⟩ =>
    thn (hr pins s2 σ H2 _ I2 q2) fun ws s3 ⟨ps, H3, I3, rel, q3⟩ => ⟨(x, y) :: ps, H3, I3, .cons ⟨rx, ry⟩ rel, q3⟩)
def mergeK (kvs more : List (Key × V)) : List (Key × V) := more.foldl (fun acc kv => putK acc kv.1 kv.2) kvs
theorem KV.merge : ∀ {more : List (Key × V)} {rs : List (Key × Value)} {kvs : List (Key × V)} {vs : List (Key × Value)}, KV more rs → KV kvs vs → KV (mergeK kvs more) (merged vs rs) := by
  intro more rs kvs vs r
  unfold KV at r
  induction r generalizing kvs vs with
  | nil => intro q; exact q
  | @cons p q ps qs h t ih =>
    intro r0
    have e : KV (putK kvs p.1 p.2) (stored vs q.1 q.2) := by
      have := r0.put p.1 h.2
      rw [← h.1]; exact this
    exact ih e
theorem length_mergeK : ∀ (more kvs : List (Key × V)), (mergeK kvs more).length ≤ kvs.length + more.length
  | [], kvs => by show kvs.length ≤ kvs.length + 0; omega
  | p :: r, kvs => by
    have h1 := length_mergeK r (putK kvs p.1 p.2)
    have h2 := length_putK kvs p.1 p.2
    show (mergeK (putK kvs p.1 p.2) r).length ≤ _
    rw [List.length_cons]; omega
theorem carries_of {P : Program} {w : World} : ∀ {kvs : List (Key × V)} {ws : List (Value × Value)}, VV (kvs.map fun kv => (kV kv.1, kv.2)) ws → ∃ rs, Carries (mixKind P w) ws rs ∧ KV kvs rs
  | [], _, r => by rw [List.map_nil] at r; cases r; exact ⟨[], True.intro, .nil⟩
  | p :: kvs, _, r => by
    rw [List.map_cons] at r
    cases r with
    | @cons a b as bs h t =>
      obtain ⟨rs, c, q⟩ := carries_of (P := P) (w := w) t
      obtain ⟨b1, b2⟩ := b
      exact ⟨(p.1, b2) :: rs, ⟨kV_is h.1, rfl, c⟩, .cons ⟨rfl, h.2⟩ q⟩
def tDisp (trs : List (TE × TE)) : TE := fun σ H Q => ∀ p, H p = none → tPairs trs σ (upd H p (.dK [])) fun ps H2 => H2 p = some (.dK []) ∧ ∃ kvs : List (Key × V), ps = kvs.map (fun kv => (kV kv.1, kv.2)) ∧ kvs.length ≤ 15 ∧ Q (.ref p) (upd H2 p (.dK (mergeK [] kvs)))
theorem pe_disp {X : Cx} {pos : Pos} {keys : List (Option Expr)} {values : List Expr} {trs : List (TE × TE)} (h : PPs X pos keys values trs) (hall : keys.all (·.isSome) = true) (hl : keys.length = values.length) (h0 : keys ≠ [])
    (h15 : keys.length ≤ 15) : PE X (.Dict keys values pos) (tDisp trs) := by
  intro pins s σ H Q I q
  have hn := I.hok.fresh (Nat.le_refl s.heap.objs.size)
  have I1 := I.laid (a := s.heap.objs.size) (o := .dK []) (h' := s.heap.push { cls := .type "dict", data := .dict #[] }) (t' := s.toks) (fun _ _ q => Heap.get?_push_of_some _ q) (Nat.le_refl _) (dk_empty s.heap I.big)
  refine wpAny_Dict_walk (knd := mixKind X.prog X.w) hall hl h0 h15 (thn (h pins _ σ _ _ I1 (q _ hn)) fun ws s2 ⟨ps, H2, I2, rel, e, kvs, ep, lk, q2⟩ => ?_)
  subst ep
  obtain ⟨rs, c, rk⟩ := carries_of (P := X.prog) (w := X.w) rel
  obtain ⟨z, hd, vs0, r0, dd⟩ := dk_of I2.hok e
  cases r0
  refine ⟨rs, c, dd, fun h' dd' hs => ⟨.ref s.heap.objs.size, _, ?_, rfl, q2⟩⟩
  have hz : (mergeK [] kvs).length ≤ sizeLine := by
    have h1 := length_mergeK kvs []
    rw [List.length_nil] at h1
    rw [sizeLine_eq]; omega
  have he : ∃ q, h'.get? s.heap.objs.size = some q := let ⟨q, _, _, hq, _⟩ := dd'; ⟨q, hq⟩
  exact d_write I2 (by rw [e]; exact True.intro) hs he (dk_new hz hd (rk.merge .nil) dd')
structure M1 (X : Cx) (o : Expr) (m : Str) (apos : Pos) (e : Expr) (cpos : Pos) : Prop where
  base : attributeBase o m X.env (eval o X.env) = eval o X.env
  few : ((backTo cpos (starEach [e] X.env)).all (fun x => !x.1) && (backToKw cpos (keywordEach [] X.env)).all (fun x => x.1.isSome)
    && decide (([e] : List Expr).length + ([] : List Keyword).length + (if ([] : List Keyword).isEmpty then 0 else 1) < 30)) = true
  line : (apos.endLine == cpos.line) = true
  trees : backTo cpos (starEach [e] X.env) = [(false, eval e X.env)]
structure M2 (X : Cx) (o : Expr) (m : Str) (apos : Pos) (e f : Expr) (cpos : Pos) : Prop where
  base : attributeBase o m X.env (eval o X.env) = eval o X.env
  few : ((backTo cpos (starEach [e, f] X.env)).all (fun x => !x.1) && (backToKw cpos (keywordEach [] X.env)).all (fun x => x.1.isSome)
    && decide (([e, f] : List Expr).length + ([] : List Keyword).length + (if ([] : List Keyword).isEmpty then 0 else 1) < 30)) = true
  line : (apos.endLine == cpos.line) = true
  trees : backTo cpos (starEach [e, f] X.env) = [(false, eval e X.env), (false, eval f X.env)]
section
variable {X : Cx} {pins : List (Addr × Obj)} {σ : St} {H : Hp} {s : Shared} {a : Addr} {y d : V} {u r : Value} {o : Option V} {A : Around} {E : Value → Shared → Prop}
end
section
variable {X : Cx} {o e f : Expr} {apos cpos : Pos} {td ty tx : TE}
end
section
variable {X : Cx} {pins : List (Addr × Obj)} {σ : St} {H : Hp} {s : Shared} {a : Addr} {kvs : List (Key × V)} {A : Around} {E : Value → Shared → Prop}
end
section
variable {X : Cx} {pins : List (Addr × Obj)} {σ : St} {H : Hp} {s : Shared} {a : Addr} {y : V} {u : Value} {A : Around} {E : Value → Shared → Prop}
end
end L2
namespace L2
open PySem PySem.Spec PyProof.Rows
section
variable {prog : Program} {w : World} {A : Around} {E : Value → Shared → Prop}
end
section
variable {X : Cx}
end
end L2
namespace L2
open PySem PySem.Spec PyProof.Rows
section
variable {X : Cx} {pins : List (Addr × Obj)} {σ : St} {H : Hp} {s : Shared} {h' : Heap}
theorem Inv.lock {d : Addr} {u : HO} (I : Inv X pins σ H s) (h : H d = some u) (mu : Mut (some u)) : ∃ od, Inv X pins σ (upd H d (.frz od u)) s := by
  have x := I.hok d u h
  have ex : ∃ od, s.heap.get? d = some od := by
    cases u with
    | lst xs => obtain ⟨_, _, _, _, e⟩ := x; exact ⟨_, e⟩
    | dK kvs => obtain ⟨_, _, _, _, o, _, _, e, _⟩ := x; exact ⟨o, e⟩
    | dT kvs => obtain ⟨_, _, _, _, o, _, _, e, _⟩ := x; exact ⟨o, e⟩
    | set S n => obtain ⟨o, _, _, _, e, _⟩ := x; exact ⟨o, e⟩
    | ins C dx fs => obtain ⟨_, _, _, e, _⟩ := x; exact ⟨_, e⟩
    | ext φ => obtain ⟨_, ⟨_, e⟩, _⟩ := x; exact ⟨_, e⟩
    | _ => exact False.elim mu
  obtain ⟨od, e⟩ := ex
  have new : ObjOk X.prog X.w (upd H d (.frz od u)) s.heap d (.frz od u) := by
    refine ⟨e, x.stay (fun b v _ q => q) (fun b q => ?_) fun b xs q => ?_⟩
    · rw [upd_ne (fun z => by rw [z, h] at q; cases q; exact mu)]; exact q
    · rw [upd_ne (fun z => by rw [z, h] at q; cases q; exact mu)]; exact q
  exact ⟨od, I.write (x := d) (e := d) (t' := s.toks) (h' := s.heap) (by rw [h]; exact mu) (.inl rfl) (fun b v _ q => q) ⟨od, e⟩ new⟩
end
section
variable {X : Cx}
theorem pi_one {tg : Expr} {pins : List (Addr × Obj)} {σ : St} {H : Hp} {s : Shared} {R : It → Hp → Prop} {J : It} {tn : Nat → Heap → Prop} {tk : Nat} (I : Inv X pins σ H s) (o : Obj)
    (T : Turn X.prog X.w X.K tg J [s.heap.objs.size] s.heap.objs.size tn) (st : tn 0 (s.heap.push o)) (q : R J H) : PIE X pins σ tg R (.ref s.heap.objs.size) { s with heap := s.heap.push o, toks := tk } := by
  refine ⟨s.heap.objs.size, [s.heap.objs.size], tn, J, H, rfl, I.kept fun b ob e => Heap.get?_push_of_some _ e, T, st, fun b hb => ?_, q⟩
  have e : b = s.heap.objs.size := by simpa using hb
  subst e
  exact I.fpOk (Nat.le_refl _) (I.hok.fresh (Nat.le_refl _))
end
section
variable {X : Cx} {tg : Expr}
end
section
variable {X : Cx} {tg : Expr}
end
def Its (x : Str) : It := ⟨fun i _ => i < x.cps.size, fun i H v H' => H' = H ∧ ∃ c, x.cps[i]? = some c ∧ v = .str ⟨#[c]⟩, fun i _ => x.cps.size ≤ i⟩
theorem turn_str {P : Program} {w : World} {K : PySem.W.Frag} {tg : Expr} (it : Addr) (x : Str) (t : Tok) (ty : String) (hty : ty = "str_ascii_iterator" ∨ ty = "str_iterator") :
    Turn P w K tg (Its x) [it] it (fun i h => h.IsStrIter it ty x t i) where
  mem := by simp
  obj := fun i h st b hb => by
    have e : b = it := by simpa using hb
    subst e
    obtain ⟨o, e, c, d⟩ := st
    exact ⟨o, e, fun v z => by rw [d] at z; cases z⟩
  keep := fun i h h' st k => let ⟨o, ho, r⟩ := st; ⟨o, k it (by simp) o ho, r⟩
  item := by
    intro X hP hw hK hc i pins s σ H E I hf st hg
    subst hP hw hK
    obtain ⟨f0, f1, f2, f3, f4, f5⟩ := hf it (by simp)
    have W : Walks X.prog X.w X.A it [it] [it] x.cps.size (SignAt x) (fun i h => h.IsStrIter it ty x t i) := by
      rcases hty with e | e
      · rw [e]; exact Walks.strAscii (I.ok.hd hc) it x t
      · rw [e]; exact Walks.strWide (I.ok.hd hc) it x t
    have hno : ["enumerate", "zip", "dict_itemiterator", "dict_reverseitemiterator", "odict_iterator", "itertools.zip_longest", "itertools.pairwise"].contains ty = false := by
      rcases hty with e | e
      · rw [e]; decide
      · rw [e]; decide
    refine W.item i s _ _ hg st fun v h' tk hv st' kk => ?_
    obtain ⟨c, u, hcx, rfl⟩ := hv
    have I1 : Inv X pins σ H { s with heap := h', toks := tk } := I.turned (fun b o hb e => kk b o (by simpa using hb) e) f0 f1 f3 f4 f5
    obtain ⟨oi, e, cc, dd⟩ := id st'
    exact ⟨_, rfl, go_of (s := { s with heap := h', toks := tk }) e cc dd hno ⟨.str ⟨#[c]⟩, H, I1, ⟨u, rfl⟩, ⟨rfl, c, hcx, rfl⟩, st', fun b hb => (hf b hb).1⟩⟩
  done := by
    intro X hP hw hK hc i pins s σ H E I hf st hg
    subst hP hw hK
    obtain ⟨f0, f1, f2, f3, f4, f5⟩ := hf it (by simp)
    have hx : x.cps[i]? = none := Array.getElem?_eq_none hg
    rcases hty with e | e
    · rw [e] at st
      exact wpAny_pyNext_ascii_end (I.ok.hd hc) st hx fun h' eb => ⟨rfl, I.turned (t' := s.toks) (fun b o hb e => eb b o hb e) f0 f1 f3 f4 f5⟩
    · rw [e] at st
      exact wpAny_pyNext_wide_end (I.ok.hd hc) st hx fun h' eb => ⟨rfl, I.turned (t' := s.toks) (fun b o hb e => eb b o hb e) f0 f1 f3 f4 f5⟩
  self := fun A i s Q E st h => by
    rcases hty with e | e
    · rw [e] at st; exact wpAny_pyIter_striter_ascii st h
    · rw [e] at st; exact wpAny_pyIter_striter_wide st h
section
variable {prog : Program} {w : World} {A : Around} {E : Value → Shared → Prop} {s : Shared}
end
section
variable {X : Cx} {pins : List (Addr × Obj)} {σ : St} {H : Hp} {s : Shared} {d : Addr} {o : Obj}
end
section
variable {P : Program} {w : World} {K : PySem.W.Frag} {tg : Expr} {d : Addr} {o : Obj} {es : Array DictEntry} {ep : Nat}
end
section
variable {X : Cx} {tg e : Expr} {td : TE} {apos cpos : Pos}
end
end L2
section 
namespace Bits
open PySem PyProof.Rows
end Bits
end 
section 
namespace TL
open PySem PySem.Builtin PySem.Builtin.Str PySem.StrLaws
abbrev tl (x : Str) : List Nat := x.cps.toList
theorem len_tl (x : Str) : x.length = (tl x).length := by simp [tl, Str.length]
theorem tl_append (x y : Str) : tl (x ++ y) = tl x ++ tl y := by
  show (x ++ y).cps.toList = _
  rw [Str.cps_append, Array.toList_append]
def pre (S l : List Nat) : Bool := l.take S.length == S
def par (S : List Nat) : List Nat → List Nat → Option (List Nat × List Nat)
  | _, [] => none
  | acc, c :: r => if pre S (c :: r) = true then some (acc, (c :: r).drop S.length) else par S (acc ++ [c]) r
def joinL (S : List Nat) : List (List Nat) → List Nat
  | [] => []
  | [p] => p
  | p :: q :: r => p ++ (S ++ joinL S (q :: r))
theorem tl_join (y : Str) : ∀ parts : List Str, tl (Str.join y parts) = joinL (tl y) (parts.map tl)
  | [] => rfl
  | [_] => rfl
  | x :: z :: r => by
    show tl (x ++ y ++ Str.join y (z :: r)) = tl x ++ (tl y ++ joinL (tl y) ((z :: r).map tl))
    rw [tl_append, tl_append, tl_join y (z :: r), List.append_assoc]
theorem join_eq (y : Str) (parts : List Str) : Txt.join y parts = Str.join y parts := glued_eq_join y parts
def numL (n : Nat) : List Nat := (Nat.toDigits 10 n).map Char.toNat
theorem tl_num (n : Nat) : tl (Str.ofString (toString ((n : Nat) : Int))) = numL n := PySem.W.KIN.signs_num n
theorem digitChar_nat : ∀ d : Nat, d < 10 → (Nat.digitChar d).toNat = 48 + d := by decide
theorem numL_lt {n : Nat} (h : n < 10) : numL n = [48 + n] := by
  unfold numL
  rw [Nat.toDigits_of_lt_base h]
  show [(Nat.digitChar n).toNat] = _
  rw [digitChar_nat n h]
theorem numL_step {n : Nat} (h : 10 ≤ n) : numL n = numL (n / 10) ++ [48 + n % 10] := by
  have hm : n % 10 < 10 := Nat.mod_lt n (by decide)
  have t : Nat.toDigits 10 (n / 10) ++ Nat.toDigits 10 (n % 10) = Nat.toDigits 10 (10 * (n / 10) + n % 10) := Nat.toDigits_append_toDigits (by decide) (by omega) hm
  rw [Nat.div_add_mod] at t
  show (Nat.toDigits 10 n).map Char.toNat = _
  rw [← t, List.map_append, Nat.toDigits_of_lt_base hm]
  show (Nat.toDigits 10 (n / 10)).map Char.toNat ++ [(Nat.digitChar (n % 10)).toNat] = _
  rw [digitChar_nat _ hm] <;> rfl
theorem numL_digits (n : Nat) : NumText.AllDigits (numL n) := by
  induction n using Nat.strongRecOn with
  | _ n ih =>
    by_cases h : n < 10
    · rw [numL_lt h]
      intro c hc
      rw [List.mem_singleton.mp hc]
      omega
    · rw [numL_step (by omega)]
      intro c hc
      rcases List.mem_append.mp hc with hc | hc
      · exact ih (n / 10) (by omega) c hc
      · have hm : n % 10 < 10 := Nat.mod_lt n (by decide)
        rw [List.mem_singleton.mp hc]
        omega
theorem numL_len {n k : Nat} (hk : 0 < k) (h : n < 10 ^ k) : (numL n).length ≤ k := by
  have z := PyProof.Rows.toString_length_le (v := (n : Int)) (by omega) hk (by
    have e : ((10 : Int) ^ k) = ((10 ^ k : Nat) : Int) := by
      first
        | exact (Int.natCast_pow 10 k).symm
        | simp
    rw [e]
    first | exact Int.ofNat_lt.mpr h | omega)
  rw [len_tl, tl_num] at z
  exact z
end TL
end 
namespace L2
open PySem PySem.Spec PyProof.Rows
theorem notLong {n : Nat} (h : n ≤ 16777216) : Builtin.Str.tooLong n = false := by
  have e : (2 : Nat) ^ 24 = 16777216 := by decide
  unfold Builtin.Str.tooLong sizeLine
  exact decide_eq_false (by omega)
theorem vals_strs : ∀ l : List (Str × Tok), Vals ((l.map (·.1)).map V.str) (strValues l)
  | [] => .nil
  | p :: r => .cons ⟨p.2, rfl⟩ (vals_strs r)
section
variable {X : Cx} {pins : List (Addr × Obj)} {σ : St} {H : Hp} {s : Shared} {Q : VK}
end
section
variable {X : Cx}
theorem mt0 {id : String} {C : Str → Prop} {g : Str → V} (rule : ∀ (a : Str) (t : Tok) (s : Shared) (Q : Value → Shared → Prop), C a → (∀ (u : Value) (k : Nat), RelV (g a) u → Q u { s with toks := k }) →
    wpAny (model X.prog X.w) X.A (call (.builtin id) [.str a t]) Q X.xe s) : MtR X id (fun x xs H Q => ∃ a, x = .str a ∧ xs = [] ∧ C a ∧ Q (g a) H) := by
  intro pins s σ H x xs v us Q I rx rs h
  obtain ⟨a, rfl, rfl, hc, h⟩ := h
  obtain ⟨t, rfl⟩ := rx
  cases rs
  exact rule a t s _ hc fun u k r => ⟨g a, H, I.tok k, r, h⟩
theorem mt_upper : MtR X "str.upper" (fun x xs H Q => ∃ a, x = .str a ∧ xs = [] ∧ a.length ≤ 5592405 ∧ Q (.str (Txt.upper a)) H) :=
  mt0 (C := fun a => a.length ≤ 5592405) (g := fun a => .str (Txt.upper a)) fun a _ s _ hc h =>
    PySem.SC.upper (notLong (by have h1 : a.length ≤ 5592405 := hc; have := PyProof.Rows.len_upper a; omega)) (h _ (s.toks + 1) ⟨_, rfl⟩)
end
section
variable {X : Cx} {o e : Expr} {to te : TE}
def tM0 (r : V → List V → Hp → VK → Prop) (to : TE) : TE := fun σ H Q => to σ H fun x H1 => (∃ a, x = .str a) ∧ r x [] H1 Q
theorem pe_m0 {id : String} {name : Str} {apos pos : Pos} {r : V → List V → Hp → VK → Prop} (slot : Slot "str" name id) (ty : typeOf (.builtin id) = pure (.type "method_descriptor")) (rule : MtR X id r) (ho : PE X o to)
    (hbase : attributeBase o name X.env (eval o X.env) = eval o X.env := by rfl) (hline : (apos.endLine == pos.line) = true := by rfl) : PE X (.Call (.Attribute o name apos) [] [] pos) (tM0 r to) := by
  intro pins s σ H Q I h
  refine PySem.Call_method0 hbase hline (thn (ho pins s σ H _ I h) fun v s1 ⟨x, H1, I1, r1, q1⟩ => ?_)
  obtain ⟨⟨a, rfl⟩, q1⟩ := q1
  obtain ⟨t, rfl⟩ := _root_.id r1
  exact ⟨"str", _, F.plainAttrs_str, slot, ty, typeIs_str _ _ _, (fun _ e => nomatch e), Calls.callWith_builtin rfl (PySem.evalArgs_none (rule pins s1 σ H1 _ [] _ [] Q I1 r1 .nil q1))⟩
theorem pe_upper {apos pos : Pos} (ho : PE X o to) (hbase : attributeBase o "upper" X.env (eval o X.env) = eval o X.env := by rfl) (hline : (apos.endLine == pos.line) = true := by rfl) :
    PE X (.Call (.Attribute o "upper" apos) [] [] pos) (tM0 (fun x xs H Q => ∃ a, x = .str a ∧ xs = [] ∧ a.length ≤ 5592405 ∧ Q (.str (Txt.upper a)) H) to) :=
  pe_m0 F.slot_str_upper F.type_str_upper mt_upper ho hbase hline
end
end L2
namespace L2
open PySem PySem.Spec PyProof.Rows
section
variable {X : Cx}
end
theorem IsPart.raw {v : Value} {o : Option Int} (p : IsPart v o) : ∃ l : Option (Int × Tok), v = partValue l ∧ l.map (·.1) = o := by
  cases p with
  | none => exact ⟨none, rfl, rfl⟩
  | int i t => exact ⟨some (i, t), rfl, rfl⟩
def clipS (n d : Nat) : Option Int → Int
  | none => (d : Int)
  | some i => max 0 (min (if i < 0 then i + (n : Int) else i) (n : Int))
theorem clipS_eq (n d : Nat) (o : Option Int) : clipS n d o = ((HT.sIx n d o : Nat) : Int) := by
  cases o with
  | none => rfl
  | some v =>
    show max (0 : Int) (min (if v < 0 then v + (n : Int) else v) (n : Int)) = (((if v < 0 then (v + (n : Int)).toNat else min v.toNat n) : Nat) : Int)
    by_cases hv : v < 0
    · simp only [if_pos hv]
      omega
    · simp only [if_neg hv]
      omega
theorem sidx_clip (a b : Option Int) (n : Nat) : Builtin.Str.strSliceIndices a b 1 n = sliceRange (clipS n 0 a) (clipS n n b) 1 := by
  have h1 : ((1 : Int) > 0) = True := by simp
  cases a <;> cases b <;> first
    | rfl
    | (simp only [Builtin.Str.strSliceIndices, clipS, h1, if_true]; rfl)
    | simp [Builtin.Str.strSliceIndices, clipS]
theorem sidx (a b : Option Int) (n : Nat) : Builtin.Str.strSliceIndices a b 1 n = (List.range (HT.sIx n n b - HT.sIx n 0 a)).map (fun k => HT.sIx n 0 a + k) := by
  rw [sidx_clip, clipS_eq, clipS_eq]
  generalize HT.sIx n 0 a = p
  generalize HT.sIx n n b = q
  simp only [sliceRange, show ((1 : Int) > 0) = True from by simp, if_true]
  by_cases hlt : (p : Int) < q
  · have e3 : (((q : Int) - p + 1 - 1) / 1).toNat = q - p := by first | omega | (simp; done) | (simp; omega)
    simp only [hlt, if_true, e3]
    refine List.map_congr_left fun k _ => ?_
    omega
  · have : q - p = 0 := by omega
    simp [hlt, this]
def cutS (z : Str) (lo hi : Option Int) : Str :=
  ⟨((z.cps.toList.drop (HT.sIx z.length 0 lo)).take (HT.sIx z.length z.length hi - HT.sIx z.length 0 lo)).toArray⟩
theorem sliceText_cut (z : Str) (lo hi : Option Int) : PySem.StrLaws.sliceText z lo hi = cutS z lo hi := by
  have h1 : HT.sIx z.length 0 lo ≤ z.length := HT.sIx_le _ _ (Nat.zero_le _) _
  have h2 : HT.sIx z.length z.length hi ≤ z.length := HT.sIx_le _ _ (Nat.le_refl _) _
  have hp : HT.sIx z.length 0 lo ≤ max (HT.sIx z.length 0 lo) (HT.sIx z.length z.length hi) := Nat.le_max_left _ _
  have hq : max (HT.sIx z.length 0 lo) (HT.sIx z.length z.length hi) ≤ z.length := Nat.max_le.mpr ⟨h1, h2⟩
  have hd : max (HT.sIx z.length 0 lo) (HT.sIx z.length z.length hi) - HT.sIx z.length 0 lo = HT.sIx z.length z.length hi - HT.sIx z.length 0 lo := by omega
  have e : Builtin.Str.strSliceIndices lo hi 1 z.length =
      Builtin.Str.strSliceIndices (some ((HT.sIx z.length 0 lo : Nat) : Int)) (some ((max (HT.sIx z.length 0 lo) (HT.sIx z.length z.length hi) : Nat) : Int)) 1 z.length := by
    rw [PySem.StrLaws.strSliceIndices_plain hp hq, hd, sidx]
  have e2 : PySem.StrLaws.sliceText z lo hi =
      PySem.StrLaws.sliceText z (some ((HT.sIx z.length 0 lo : Nat) : Int)) (some ((max (HT.sIx z.length 0 lo) (HT.sIx z.length z.length hi) : Nat) : Int)) := by
    unfold PySem.StrLaws.sliceText
    rw [e]
  rw [e2, PySem.StrLaws.sliceText_nat z hp hq, hd]
  rfl
theorem cutS_length (z : Str) (lo hi : Option Int) : (cutS z lo hi).length ≤ z.length := by
  show (((z.cps.toList.drop (HT.sIx z.length 0 lo)).take (HT.sIx z.length z.length hi - HT.sIx z.length 0 lo)).toArray).size ≤ z.cps.size
  rw [List.size_toArray, List.length_take, List.length_drop, Array.length_toList]
  omega
def rSlS : V → Option Int → Option Int → Hp → VK → Prop := fun x lo hi H Q => ∃ z, x = .str z ∧ z.length ≤ sizeLine ∧ Q (.str (cutS z lo hi)) H
theorem sl_str {X : Cx} : SlR X rSlS := by
  intro pins s σ H x v vl vu lo hi sl Q I rx hs pl pu h
  obtain ⟨z, rfl, hz, q⟩ := h
  obtain ⟨t, rfl⟩ := rx
  obtain ⟨os, hos, hcs, hds⟩ := hs
  obtain ⟨l, rfl, rfl⟩ := IsPart.raw pl
  obtain ⟨u, rfl, rfl⟩ := IsPart.raw pu
  refine ⟨"str", _, F.slot_str_getitem.lookup, typeIs_str _ _ _, ?_⟩
  refine wpAny_getItem_str_slice (l := l) (u := u) (st := none) ⟨os, hos, hcs, hds⟩ rfl ?_
  have hl : (PySem.StrLaws.sliceText z (l.map (·.1)) (u.map (·.1))).length ≤ sizeLine := by
    rw [sliceText_cut]
    exact Nat.le_trans (cutS_length z _ _) hz
  rw [← sliceText_cut] at q
  unfold PySem.StrLaws.sliceText at q hl
  show Made.post (if ((1 : Int) == 1 && (Builtin.Str.strSliceIndices (l.map (·.1)) (u.map (·.1)) 1 z.length).length == z.length) = true then Made.val (.str z t)
    else Made.str ⟨((Builtin.Str.strSliceIndices (l.map (·.1)) (u.map (·.1)) 1 z.length).filterMap (z.cps[·]?)).toArray⟩) (EP X pins σ Q) s
  by_cases c : ((1 : Int) == 1 && (Builtin.Str.strSliceIndices (l.map (·.1)) (u.map (·.1)) 1 z.length).length == z.length) = true
  · rw [if_pos c] at q ⊢
    exact ⟨.str z, H, I, ⟨t, rfl⟩, q⟩
  · rw [if_neg c] at q hl ⊢
    exact ⟨hl, .str _, H, I.tok _, ⟨_, rfl⟩, q⟩
end L2
namespace Att
open PySem PySem.W PySem.Calls PyProof.Rows
theorem ints_of_wellAll {P : Params} {h : Heap} : ∀ (ns : List Int) (vs : List Value), WellAll P h vs (ns.map WData.int) → IntsAre vs ns := by
  intro ns
  induction ns with
  | nil =>
    intro vs w
    rw [List.map_nil] at w
    cases w
    exact .nil
  | cons n ns ih =>
    intro vs w
    rw [List.map_cons] at w
    cases w with
    | cons a b =>
      cases a
      exact .cons _ _ (ih _ b)
theorem script_of {l : OpenLaw} {n : Nat} (hn : l.most = some n) {P : Params} {h : Heap} {args : List WData} {vals : List Value}
    (hpre : l.row.toRowW.claim.pre args = true) (hwl : WellAll P h vals args) :
    ∃ a vs ns, vals = [Value.ref a] ∧ args = [WData.list (ns.map WData.int)] ∧ h.get? a = some { cls := .type "list", data := .seq vs.toArray } ∧ IntsAre vs ns ∧ ns.length ≤ n := by
  have hsh : WShape.hasAll [] args [.list .int] = true := (pre_splitW hpre).1
  have hc : l.pre.holds [] { args := args } = true := (pre_splitW hpre).2
  obtain ⟨d, r, rfl, h1, h2⟩ := hasAllW_cons hsh
  obtain rfl := hasAllW_nil h2
  obtain ⟨xs, rfl, h3⟩ := hasW_list h1
  obtain ⟨ns, rfl⟩ := items_int h3
  have hlen : ns.length ≤ n := by
    unfold OpenLaw.pre at hc
    have h4 : (WTm.not (.lt (.lit (.int (n : Int))) (.len (.arg 0)))).holds [] { args := [.list (ns.map .int)] } = true := by
      have h4 := (holds_andW hc).1
      rw [hn] at h4
      exact h4
    have h5 := condW_of h4 (w_not (w_lt w_lit (w_len_list (w_arg rfl))))
    rw [List.length_map] at h5
    refine Nat.le_of_not_lt fun q => ?_
    have q' : (n : Int) < ((ns.length : Nat) : Int) := by omega
    first
      | (rw [decide_eq_true q'] at h5; exact absurd h5 (by decide))
      | (simp at h5; omega)
  cases hwl with
  | cons w1 w2 =>
    cases w2
    cases w1 with
    | list ho hall => exact ⟨_, _, ns, rfl, rfl, ho, ints_of_wellAll ns _ hall, hlen⟩
theorem post_true (l : OpenLaw) (args : List WData) : l.row.toRowW.claim.post args (.bool true) args = true :=
  postW_of (r := l.row.toRowW) (X := (true == true))
    (show WShape.has [] (.bool true) .bool = true by first | rfl | decide | simp [WShape.has, WShape.arms, WShape.armsAll])
    (show (WTm.eq .res (.lit (.bool true))).value [] { args := args, res := some (.bool true), after := args } = some (.bool (true == true)) from w_eq_bool (w_res rfl) w_lit) rfl
theorem attach_call {l : OpenLaw} {n : Nat} {q : Program} {loose : List Str} {XP : (Str → Option Value) → Heap → Prop} {YP : World → Heap → Prop} {d : DefRec}
    (hn : l.most = some n) (hdf : d.params.defaults = [])
    (call : ∀ (w : World) (s₀ s₁ : Shared) (mg mb : Str → Option Value) (fa : Addr) (o : Obj) (pm cd doc : Value) (a : Addr) (vs : List Value) (ns : List Int),
      Ground q loose [] XP w s₀ mg mb s₁.heap → YP w s₁.heap →
      s₁.heap.get? fa = some o → o.data = .func (docDef d.name d.params d.body d.scope pm cd doc) → s₁.heap.CodeRec cd d.name → mg d.name = some (.ref fa) →
      s₁.heap.get? a = some { cls := .type "list", data := .seq vs.toArray } → IntsAre vs ns → ns.length ≤ n → s₁.gens = #[] →
      codeAny (model l.prog w) callerA (.call (.ref fa) ⟨[.ref a], []⟩) (fun r s' => r = .ok (.ret (.bool true)) ∧ OldK s₁.heap s'.heap ∧ s'.os = s₁.os ∧ AllBare s'.gens) s₁) :
    WalkO q loose XP YP l.row.toRowW d [] (fun f vs => PySem.call f vs) := by
  intro w s₀ s₁ mg mb G Y fa o pm cd doc dV kV ho hd hcd hD hmg hg args vals as hpre hlay hrd hwl hlo
  obtain rfl : dV = .none := Dflts.none hD hdf
  obtain rfl : kV = .none := Dflts.noKw hD
  obtain ⟨a, vs, ns, rfl, rfl, hobj, hints, hlen⟩ := script_of hn hpre hwl
  refine enter_call (codeAny_mono (call w s₀ s₁ mg mb fa o pm cd doc a vs ns G Y ho (fd_plain hd) hcd hmg hobj hints hlen hg) fun r s' hq => ?_)
  obtain ⟨rfl, h2, h3, h4⟩ := hq
  exact ⟨.inl ⟨.bool true, .bool true, [], rfl, fun _ => rfl, .bool true, post_true l _, fun _ => ⟨List.Pairwise.nil, fun _ hm => (nomatch hm)⟩⟩, h2, h3, h4⟩
section
variable {prog : Program} {w : World} {A : Around} {E : Value → Shared → Prop} {s : Shared} {K : Frag}
end
end Att
namespace L2
open PySem PySem.Spec PyProof.Rows
theorem vals_ints : ∀ {vs : List Value} {ns : List Int}, IntsAre vs ns → Vals (ns.map V.int) vs
  | _, _, .nil => .nil
  | _, _, .cons n t h => .cons ⟨t, rfl⟩ (vals_ints h)
end L2
namespace L2
open PySem PySem.Spec PyProof.Rows
abbrev KOf {K : PySem.W.Frag} {h : Heap} (_ : K.In h) : PySem.W.Frag := K
end L2
namespace L2
open PySem PySem.Spec PyProof.Rows
def defArgs (s : Stmt) : Arguments := match s with
  | .FunctionDef _ a _ _ _ _ _ _ _ _ => a
  | _ => { posonlyargs := [], args := [], vararg := none, kwonlyargs := [], kw_defaults := [], kwarg := none, defaults := [] }
def defBody (s : Stmt) : List Stmt := match s with
  | .FunctionDef _ _ b _ _ _ _ _ _ _ => b
  | _ => []
def defScope (s : Stmt) : Scope := match s with
  | .FunctionDef _ _ _ _ _ _ sc _ _ _ => sc
  | _ => { kind := .function, names := [], isGenerator := false, isCoroutine := false }
abbrev CX0 : CXT := fun _ _ _ _ _ _ => False
abbrev E0 : XK := fun _ _ _ => False
theorem pass0 {X : Cx} : Passes CX0 X E0 := fun _ _ _ _ _ _ _ h => h.elim
structure Fun (K : PySem.W.Frag) (x qual : Str) (st : Stmt) (f : Addr) (fd : FuncData) : Prop where
  ex : ∃ (oc : Value) (od : Option Addr) (kV doc pm : Value) (an : Option Addr) (cdv ct : Value) (osl : Array (Option Value)),
    fd = PySem.W.fnOf x qual (defArgs st) (defBody st) (defScope st) .none kV doc pm an cdv ct ∧ K.lookup f = some ⟨oc, od, .func fd, osl⟩ ∧ PySem.W.codeIn K cdv qual = true
  kp : PySem.W.keepIn K (.ref f) = true
section
variable {P : Program} {w : World} {K : PySem.W.Frag} {mg : Str → Option Value} {base : Heap}
theorem Fun.ok {x qual : Str} {st : Stmt} {f : Addr} {fd : FuncData} {N ps : List Str} {k : Nat} {sp : Sp} (F : Fun K x qual st f fd) (S : FnScope N ps (defScope st)) (len : ∀ vs H Q E, sp vs H Q E → vs.length = ps.length)
    (hbody : ∀ (cdv : Value) (A : Around) (outer : List Env) (s : Shared) (H : Hp) (vs : List V) (Q : VK) (E : XK), Room k (A.deeper (envOfC qual (defScope st) s.heap.objs.size f cdv)) → sp vs H Q E →
      ∃ t, PSs (cxOf CX0 P w K mg base N qual (defScope st) f cdv A outer s H E).nox (defBody st) t ∧ t { nx := fun _ H' => Q .non H', rt := Q } (start N vs) H) : FnOk P w K mg base CX0 (k + 1) f fd ps sp := by
  obtain ⟨oc, od, kV, doc, pm, an, cdv, ct, osl, rfl, lk, hcd⟩ := F.ex
  refine fn_of lk hcd S len fun A outer s H vs Q E hr hsp => ?_
  obtain ⟨t, h, q⟩ := hbody cdv A outer s H vs Q E hr hsp
  exact ⟨t, h.nox, q⟩
theorem Fun.binds {x qual : Str} {st : Stmt} {f : Addr} {fd : FuncData} {ps : List Str} (F : Fun K x qual st f fd)
    (h : ∀ (kV doc pm : Value) (an : Option Addr) (cdv ct : Value) (us : List Value), us.length = ps.length → bindArgs (PySem.W.fnOf x qual (defArgs st) (defBody st) (defScope st) .none kV doc pm an cdv ct) ⟨us, []⟩ = pure (ps.zip us)) : Binds K fd ps [] := by
  obtain ⟨oc, od, kV, doc, pm, an, cdv, ct, osl, rfl, lk, hcd⟩ := F.ex
  exact .all (h kV doc pm an cdv ct)
theorem fun_mk {x qual : Str} {st : Stmt} {f : Addr} {oc : Value} {od an : Option Addr} {osl : Array (Option Value)} {kV doc pm cdv ct : Value} (l : K.lookup f = some ⟨oc, od, .func (PySem.W.fnOf x qual (defArgs st) (defBody st) (defScope st) .none kV doc pm an cdv ct), osl⟩)
    (c : PySem.W.codeIn K cdv qual = true) (k : PySem.W.keepIn K (.ref f) = true) : Fun K x qual st f (PySem.W.fnOf x qual (defArgs st) (defBody st) (defScope st) .none kV doc pm an cdv ct) := ⟨⟨oc, od, kV, doc, pm, an, cdv, ct, osl, rfl, l, c⟩, k⟩
end
section
variable {X : Cx}
theorem pv (i : Nat) {x : Str} {pos : Pos} (hN : X.N[i]? = some x := by rfl) (hv : Vis X.env.scope x := by first | exact Or.inl rfl | exact Or.inr (Or.inl rfl) | exact Or.inr (Or.inr rfl)) (hd : (x == ("__debug__" : Str)) = false := by decide)
    (hcd : (x == ("__classdict__" : Str)) = false := by decide) : PE X (.Name x pos) (tVar i) := pe_var hN hv hd hcd
end
def Same (H H' : Hp) : Prop := ∀ b o, H b = some o → H' b = some o
theorem Same.refl (H : Hp) : Same H H := fun _ _ h => h
theorem Same.trans {H H1 H2 : Hp} (a : Same H H1) (b : Same H1 H2) : Same H H2 := fun c o h => b c o (a c o h)
theorem Same.free {H H' : Hp} (e : Same H H') {l : Addr} (h : H' l = Option.none) : H l = Option.none := by
  cases q : H l with
  | none => rfl
  | some o =>
    rw [e l o q] at h
    cases h
theorem Same.seq {K : PySem.W.Frag} {H H' : Hp} {a : Addr} {xs : List V} (e : Same H H') (h : SqL K H a xs) : SqL K H' a xs := by
  rcases h with (h | ⟨o, h⟩) | h
  · exact .inl (.inl (e _ _ h))
  · exact .inl (.inr ⟨o, e _ _ h⟩)
  · exact .inr h
section
variable {κ : Type} [DecidableEq κ]
end
theorem Same.made {H H1 : Hp} {x dx C : Addr} (nx : H x = Option.none) (nd : H dx = Option.none) (k : ∀ b o, (upd (upd H dx (.own x)) x (.ins C dx [])) b = some o → b ≠ x → H1 b = some o) : Same H H1 := fun b o e =>
  k b o (by rw [upd_ne (ne_of_none e nx), upd_ne (ne_of_none e nd)]; exact e) (ne_of_none e nx)
end L2
namespace L2.Ev
open PySem PySem.Spec PyProof.Rows
inductive W where
  | p (d : PyData)
  | r (n : Nat)
  | t (n : String)
  | s (xs : List PyData)
  | u (ns : List Nat)
  | q (n j : Nat)
inductive Sub where
  | d (x : PyData)
  | l (j : Nat) (xs : List PyData)
  | k (j : Nat) (kvs : List (Key × PyData))
def Sub.js : Sub → List Nat
  | .d _ => []
  | .l j _ => [j]
  | .k j _ => [j]
def jsOf (ss : List Sub) : List Nat := ss.flatMap Sub.js
inductive Cell where
  | lst (xs : List PyData)
  | dk (kvs : List (Key × PyData))
  | lw (ws : List W)
  | dn (kvs : List (Key × Sub))
  | ln (xs : List Sub)
  | dt (kvs : List (List Key × PyData))
  | zk (kvs : List (Key × PyData))
  | zn (kvs : List (Key × Sub))
  | zt (kvs : List (List Key × PyData))
abbrev Mu := List Cell
abbrev Rho := List (Option W)
abbrev WK := W → Mu → Prop
abbrev SE := Rho → Mu → WK → Prop
abbrev ST := Rho → Mu → (Bool → Mu → Prop) → Prop
abbrev SA := Rho → Mu → (List W → Mu → Prop) → Prop
structure Fin where
  nx : Rho → Mu → Prop
  rt : WK
  bk : Rho → Mu → Prop := fun _ _ => False
  ct : Rho → Mu → Prop := fun _ _ => False
abbrev SS := Fin → Rho → Mu → Prop
structure Cs where
  hid : List Addr
  as : List Addr
  own : List (Addr × Nat)
def Cs.ao (c : Cs) : List Addr := c.as ++ c.own.map (·.1)
instance : Membership Addr Cs := ⟨fun c a => a ∈ c.hid ++ c.ao⟩
theorem Cs.mem_iff {c : Cs} {a : Addr} : a ∈ c ↔ a ∈ c.hid ∨ a ∈ c.ao := List.mem_append
theorem Cs.ao_iff {c : Cs} {a : Addr} : a ∈ c.ao ↔ a ∈ c.as ∨ a ∈ c.own.map (·.1) := List.mem_append
theorem Cs.ao_as {c : Cs} {a : Addr} (h : a ∈ c.as) : a ∈ c.ao := List.mem_append_left _ h
theorem Cs.ao_own {c : Cs} {a : Addr} {j n : Nat} (h : c.own[j]? = some (a, n)) : a ∈ c.ao := List.mem_append_right _ (List.mem_map.mpr ⟨_, List.mem_of_getElem? h, rfl⟩)
def nil : Hp := fun _ => none
def TzT (K : PySem.W.Frag) (as : Cs) (H : Hp) (a : Addr) (xs : List V) : Prop := (a ∉ as ∧ Rd H a (.tup xs)) ∨ SqT K nil a xs
def TzL (K : PySem.W.Frag) (as : Cs) (H : Hp) (a : Addr) (xs : List V) : Prop := a ∉ as ∧ Rd H a (.lst xs)
def KeptL (K : PySem.W.Frag) (a : Addr) : Prop := ∃ its n, K.lookup a = some ⟨.type "list", none, .seq its n, #[]⟩
def SzL (K : PySem.W.Frag) (as : Cs) (H : Hp) (a : Addr) (xs : List V) : Prop := (a ∉ as ∧ Rd H a (.lst xs)) ∨ (SqL K nil a xs ∧ KeptL K a)
theorem Rd.nil {a : Addr} {u : HO} : ¬ Rd nil a u := by
  rintro (h | ⟨o, h⟩) <;> cases h
theorem TzT.sq {K : PySem.W.Frag} {as : Cs} {H : Hp} {a : Addr} {xs : List V} (h : TzT K as H a xs) : SqT K H a xs := by
  rcases h with ⟨_, h⟩ | h
  · exact .inl h
  · rcases h with h | h
    · exact absurd h Rd.nil
    · exact .inr h
theorem SzL.sq {K : PySem.W.Frag} {as : Cs} {H : Hp} {a : Addr} {xs : List V} (h : SzL K as H a xs) : SqL K H a xs := by
  rcases h with ⟨_, h⟩ | ⟨h, _⟩
  · exact .inl h
  · rcases h with h | h
    · exact absurd h Rd.nil
    · exact .inr h
theorem TzL.sq {K : PySem.W.Frag} {as : Cs} {H : Hp} {a : Addr} {xs : List V} (h : TzL K as H a xs) : SqL K H a xs := .inl h.2
def Fz (H : Hp) (a : Addr) (u : HO) : Prop := ∃ o, H a = some (.frz o u)
theorem Fz.rd {H : Hp} {a : Addr} {u : HO} (h : Fz H a u) : Rd H a u := .inr h
mutual
inductive Dz (K : PySem.W.Frag) (as : Cs) (H : Hp) : V → PyData → Prop
  | non : Dz K as H .non .none
  | bl (b : Bool) : Dz K as H (.bl b) (.bool b)
  | int (i : Int) : Dz K as H (.int i) (.int i)
  | str (x : Str) : Dz K as H (.str x) (.str x)
  | lst {a : Addr} {xs : List V} {ds : List PyData} : TzL K as H a xs → DzAll K as H xs ds → Dz K as H (.ref a) (.list ds)
  | tup {a : Addr} {xs : List V} {ds : List PyData} : TzT K as H a xs → DzAll K as H xs ds → Dz K as H (.ref a) (.tuple ds)
  | dct {a : Addr} {us : List (Key × V)} {kvs : List (PyData × PyData)} : a ∉ as → Fz H a (.dK us) → us.map (fun u => keyD u.1) = kvs.map (·.1) → DzAll K as H (us.map (·.2)) (kvs.map (·.2)) → Dz K as H (.ref a) (.dict kvs)
inductive DzAll (K : PySem.W.Frag) (as : Cs) (H : Hp) : List V → List PyData → Prop
  | nil : DzAll K as H [] []
  | cons {v : V} {vs : List V} {d : PyData} {ds : List PyData} : Dz K as H v d → DzAll K as H vs ds → DzAll K as H (v :: vs) (d :: ds)
end
def nt (o : HO) : Prop := ∀ ps, o ≠ .tbl ps
theorem nt_tup {xs : List V} : nt (.tup xs) := fun _ e => nomatch e
theorem nt_lst {xs : List V} : nt (.lst xs) := fun _ e => nomatch e
theorem nt_dK {us : List (Key × V)} : nt (.dK us) := fun _ e => nomatch e
theorem nt_frz {o : Obj} {u : HO} : nt (.frz o u) := fun _ e => nomatch e
def genNames : List Str := ["is_figures", "is_row_of", "is_net", "floors_hold", "rows_hold", "none_is_missing", "are_steps", "wait_paper_holds", "way_holds", "spread_holds", "ways_hold", "is_rising_below", "can_part", "most_apart", "way_shuns"]
def tabOf (o : Obj) : Option Addr := match o.cls, o.data with
  | Value.type "code", Data.fields vs => (match vs.toList with
    | _ :: Value.str n _ :: _ => if genNames.contains n = true then (match vs[11]? with | some (Value.ref P) => some P | _ => none) else none
    | _ => none)
  | _, _ => none
def IsTab (K : PySem.W.Frag) (P : Addr) : Prop := ∃ c o, K.lookup c = some o ∧ tabOf o = some P
structure Stp (as : Cs) (H : Hp) (as' : Cs) (H' : Hp) : Prop where
  hid : as'.hid = as.hid
  pre : ∃ t, as'.as = as.as ++ t
  keep : ∀ a o, nt o → H a = some o → a ∉ as.ao → a ∉ as'.ao ∧ H' a = some o
  preo : ∃ t, as'.own = as.own ++ t
  frz : ∀ a o u, H a = some (.frz o u) → H' a = some (.frz o u)
theorem Stp.refl (as : Cs) (H : Hp) : Stp as H as H := ⟨rfl, ⟨[], by simp⟩, fun _ _ _ h n => ⟨n, h⟩, ⟨[], by simp⟩, fun _ _ _ e => e⟩
theorem Stp.trans {as as' as'' : Cs} {H H' H'' : Hp} (h : Stp as H as' H') (k : Stp as' H' as'' H'') : Stp as H as'' H'' := by
  obtain ⟨t, e⟩ := h.pre
  obtain ⟨u, e'⟩ := k.pre
  obtain ⟨t2, e2⟩ := h.preo
  obtain ⟨u2, e2'⟩ := k.preo
  refine ⟨k.hid.trans h.hid, ⟨t ++ u, by rw [e', e, List.append_assoc]⟩, fun a o w q n => ?_, ⟨t2 ++ u2, by rw [e2', e2, List.append_assoc]⟩, fun a o u e => k.frz a o u (h.frz a o u e)⟩
  obtain ⟨n1, q1⟩ := h.keep a o w q n
  exact k.keep a o w q1 n1
theorem Stp.ownAt {as as' : Cs} {H H' : Hp} (h : Stp as H as' H') {j : Nat} {p : Addr × Nat} (e : as.own[j]? = some p) : as'.own[j]? = some p := by
  obtain ⟨t, e'⟩ := h.preo
  rw [e', List.getElem?_append_left (List.getElem?_eq_some_iff.mp e).1]; exact e
theorem Stp.rd {as as' : Cs} {H H' : Hp} (h : Stp as H as' H') {a : Addr} {u : HO} (w : nt u) (n : a ∉ as) (r : Rd H a u) : a ∉ as' ∧ Rd H' a u := by
  have n1 : a ∉ as.hid ∧ a ∉ as.ao := ⟨fun z => n (Cs.mem_iff.mpr (.inl z)), fun z => n (Cs.mem_iff.mpr (.inr z))⟩
  have fin : a ∉ as'.ao → a ∉ as' := fun z q => (Cs.mem_iff.mp q).elim (fun q => n1.1 (by rw [← h.hid]; exact q)) z
  rcases r with r | ⟨o, r⟩
  · exact ⟨fin (h.keep _ _ w r n1.2).1, .inl (h.keep _ _ w r n1.2).2⟩
  · exact ⟨fin (h.keep _ _ nt_frz r n1.2).1, .inr ⟨o, (h.keep _ _ nt_frz r n1.2).2⟩⟩
theorem Stp.fz {as as' : Cs} {H H' : Hp} (h : Stp as H as' H') {a : Addr} {u : HO} (n : a ∉ as) (r : Fz H a u) : a ∉ as' ∧ Fz H' a u := by
  obtain ⟨o, r⟩ := r
  have n1 : a ∉ as.hid ∧ a ∉ as.ao := ⟨fun z => n (Cs.mem_iff.mpr (.inl z)), fun z => n (Cs.mem_iff.mpr (.inr z))⟩
  obtain ⟨q1, q2⟩ := h.keep _ _ nt_frz r n1.2
  exact ⟨fun z => (Cs.mem_iff.mp z).elim (fun q => n1.1 (by rw [← h.hid]; exact q)) q1, ⟨o, q2⟩⟩
theorem TzT.mono {K : PySem.W.Frag} {as as' : Cs} {H H' : Hp} {a : Addr} {xs : List V} (s : Stp as H as' H') (h : TzT K as H a xs) : TzT K as' H' a xs := by
  rcases h with ⟨n, h⟩ | h
  · exact .inl (s.rd nt_tup n h)
  · exact .inr h
theorem SzL.mono {K : PySem.W.Frag} {as as' : Cs} {H H' : Hp} {a : Addr} {xs : List V} (s : Stp as H as' H') (h : SzL K as H a xs) : SzL K as' H' a xs := by
  rcases h with ⟨n, h⟩ | h
  · exact .inl (s.rd nt_lst n h)
  · exact .inr h
theorem TzL.mono {K : PySem.W.Frag} {as as' : Cs} {H H' : Hp} {a : Addr} {xs : List V} (s : Stp as H as' H') (h : TzL K as H a xs) : TzL K as' H' a xs := s.rd nt_lst h.1 h.2
mutual
theorem Dz.mono {K : PySem.W.Frag} {as as' : Cs} {H H' : Hp} (s : Stp as H as' H') : ∀ {v : V} {d : PyData}, Dz K as H v d → Dz K as' H' v d
  | _, _, .non => .non
  | _, _, .bl b => .bl b
  | _, _, .int i => .int i
  | _, _, .str x => .str x
  | _, _, .lst t a => .lst (t.mono s) (DzAll.mono s a)
  | _, _, .tup t a => .tup (t.mono s) (DzAll.mono s a)
  | _, _, .dct n r k a => .dct (s.fz n r).1 (s.fz n r).2 k (DzAll.mono s a)
theorem DzAll.mono {K : PySem.W.Frag} {as as' : Cs} {H H' : Hp} (s : Stp as H as' H') : ∀ {vs : List V} {ds : List PyData}, DzAll K as H vs ds → DzAll K as' H' vs ds
  | _, _, .nil => .nil
  | _, _, .cons h t => .cons (Dz.mono s h) (DzAll.mono s t)
end
mutual
theorem Dz.dp {K : PySem.W.Frag} {as : Cs} {H : Hp} : ∀ {v : V} {d : PyData}, Dz K as H v d → Dp K H v d
  | _, _, .non => .non
  | _, _, .bl b => .bl b
  | _, _, .int i => .int i
  | _, _, .str x => .str x
  | _, _, .lst t a => .lst t.sq (DzAll.dp a)
  | _, _, .tup t a => .tup t.sq (DzAll.dp a)
  | _, _, .dct n r k a => .dct r.rd k (DzAll.dp a)
theorem DzAll.dp {K : PySem.W.Frag} {as : Cs} {H : Hp} : ∀ {vs : List V} {ds : List PyData}, DzAll K as H vs ds → DpAll K H vs ds
  | _, _, .nil => .nil
  | _, _, .cons h t => .cons (Dz.dp h) (DzAll.dp t)
end
section
variable {K : PySem.W.Frag} {as : Cs} {H : Hp}
theorem DzAll.length {vs : List V} {ds : List PyData} (h : DzAll K as H vs ds) : vs.length = ds.length := by
  induction ds generalizing vs with
  | nil => cases h; rfl
  | cons d ds ih => cases h with | cons _ t => simp [ih t]
theorem DzAll.get {vs : List V} {ds : List PyData} (h : DzAll K as H vs ds) {i : Nat} {d : PyData} (e : ds[i]? = some d) : ∃ v, vs[i]? = some v ∧ Dz K as H v d := by
  induction ds generalizing vs i with
  | nil => simp at e
  | cons x ds ih =>
    cases h with
    | cons h t =>
      cases i with
      | zero => simp at e; subst e; exact ⟨_, rfl, h⟩
      | succ i => obtain ⟨v, a, b⟩ := ih t (i := i) (by simpa using e); exact ⟨v, by simpa using a, b⟩
theorem DzAll.getV {vs : List V} {ds : List PyData} (h : DzAll K as H vs ds) {i : Nat} {v : V} (e : vs[i]? = some v) : ∃ d, ds[i]? = some d ∧ Dz K as H v d := by
  induction ds generalizing vs i with
  | nil => cases h; simp at e
  | cons x ds ih =>
    cases h with
    | cons h t =>
      cases i with
      | zero => simp at e; subst e; exact ⟨_, rfl, h⟩
      | succ i => obtain ⟨v, a, b⟩ := ih t (i := i) (by simpa using e); exact ⟨v, by simpa using a, b⟩
theorem DzAll.append {vs ws : List V} {ds es : List PyData} (h : DzAll K as H vs ds) (k : DzAll K as H ws es) : DzAll K as H (vs ++ ws) (ds ++ es) := by
  induction ds generalizing vs with
  | nil => cases h; exact k
  | cons d ds ih => cases h with | cons h t => exact .cons h (ih t)
theorem DzAll.set {vs : List V} {ds : List PyData} {v : V} {d : PyData} (h : DzAll K as H vs ds) (k : Dz K as H v d) (i : Nat) : DzAll K as H (vs.set i v) (ds.set i d) := by
  induction ds generalizing vs i with
  | nil => cases h; exact .nil
  | cons x ds ih =>
    cases h with
    | cons h t =>
      cases i with
      | zero => exact .cons k t
      | succ i => exact .cons h (ih t i)
theorem DzAll.drop {vs : List V} {ds : List PyData} (h : DzAll K as H vs ds) (n : Nat) : DzAll K as H (vs.drop n) (ds.drop n) := by
  induction n generalizing vs ds with
  | zero => simpa using h
  | succ n ih =>
    cases ds with
    | nil => cases h; exact .nil
    | cons d ds => cases h with | cons h t => simpa using ih t
theorem DzAll.take {vs : List V} {ds : List PyData} (h : DzAll K as H vs ds) (n : Nat) : DzAll K as H (vs.take n) (ds.take n) := by
  induction n generalizing vs ds with
  | zero => simpa using DzAll.nil
  | succ n ih =>
    cases ds with
    | nil => cases h; exact .nil
    | cons d ds => cases h with | cons h t => simpa using DzAll.cons h (ih t)
theorem DzAll.reverse {vs : List V} {ds : List PyData} (h : DzAll K as H vs ds) : DzAll K as H vs.reverse ds.reverse := by
  induction ds generalizing vs with
  | nil => cases h; exact .nil
  | cons d ds ih => cases h with | cons h t => simp only [List.reverse_cons]; exact (ih t).append (.cons h .nil)
end
inductive Cells (as : Cs) : List Nat → List V → Prop
  | nil : Cells as [] []
  | cons {n : Nat} {a : Addr} {ns : List Nat} {vs : List V} : as.as[n]? = some a → Cells as ns vs → Cells as (n :: ns) (.ref a :: vs)
theorem Cells.mono {as as' : Cs} {H H' : Hp} (s : Stp as H as' H') {ns : List Nat} {vs : List V} (h : Cells as ns vs) : Cells as' ns vs := by
  induction h with
  | nil => exact .nil
  | cons e _ ih =>
    obtain ⟨t, e'⟩ := s.pre
    exact .cons (by rw [e', List.getElem?_append_left (List.getElem?_eq_some_iff.mp e).1]; exact e) ih
theorem Cells.at {as as' : Cs} {ns : List Nat} {vs : List V} (h : Cells as ns vs) (k : ∀ n ∈ ns, ∀ a, as.as[n]? = some a → as'.as[n]? = some a) : Cells as' ns vs := by
  induction h with
  | nil => exact .nil
  | cons e _ ih => exact .cons (k _ (by simp) _ e) (ih fun n hn => k n (by simp [hn]))
def Rel (K : PySem.W.Frag) (as : Cs) (H : Hp) : W → V → Prop
  | .p d, v => Dz K as H v d
  | .r n, v => ∃ a, v = .ref a ∧ as.as[n]? = some a
  | .t n, v => v = .ty n
  | .s ds, v => ∃ a vs, v = .ref a ∧ SzL K as H a vs ∧ DzAll K as H vs ds
  | .u ns, v => ∃ a vs, v = .ref a ∧ a ∉ as ∧ Rd H a (.tup vs) ∧ Cells as ns vs
  | .q n j, v => ∃ b, v = .ref b ∧ as.own[j]? = some (b, n)
theorem Rel.mono {K : PySem.W.Frag} {as as' : Cs} {H H' : Hp} (s : Stp as H as' H') {w : W} {v : V} (h : Rel K as H w v) : Rel K as' H' w v := by
  cases w with
  | p d => exact Dz.mono s h
  | r n =>
    obtain ⟨a, e, q⟩ := h
    obtain ⟨t, e'⟩ := s.pre
    refine ⟨a, e, ?_⟩
    rw [e', List.getElem?_append_left (List.getElem?_eq_some_iff.mp q).1]
    exact q
  | t n => exact h
  | s ds => obtain ⟨a, vs, e, h1, h2⟩ := h; exact ⟨a, vs, e, h1.mono s, h2.mono s⟩
  | u ns => obtain ⟨a, vs, e, h1, h2, h3⟩ := h; exact ⟨a, vs, e, (s.rd nt_tup h1 h2).1, (s.rd nt_tup h1 h2).2, h3.mono s⟩
  | q n j => obtain ⟨b, e, q⟩ := h; exact ⟨b, e, s.ownAt q⟩
inductive Rels (K : PySem.W.Frag) (as : Cs) (H : Hp) : List W → List V → Prop
  | nil : Rels K as H [] []
  | cons {w ws v vs} : Rel K as H w v → Rels K as H ws vs → Rels K as H (w :: ws) (v :: vs)
theorem Rels.mono {K : PySem.W.Frag} {as as' : Cs} {H H' : Hp} (s : Stp as H as' H') {ws : List W} {vs : List V} (h : Rels K as H ws vs) : Rels K as' H' ws vs := by
  induction h with
  | nil => exact .nil
  | cons h _ ih => exact .cons (h.mono s) ih
def refOk (m : Nat) : W → Prop
  | .r k => k < m
  | .u ns => ∀ k ∈ ns, k < m
  | _ => True
def SubOk (K : PySem.W.Frag) (as : Cs) (H : Hp) (n : Nat) (v : V) : Sub → Prop
  | .d x => Dz K as H v x
  | .l j xs => ∃ b vs, v = .ref b ∧ as.own[j]? = some (b, n) ∧ H b = some (.lst vs) ∧ DzAll K as H vs xs
  | .k j kvs => ∃ (b : Addr) (us : List (Key × V)), v = .ref b ∧ as.own[j]? = some (b, n) ∧ H b = some (.dK us) ∧ us.map (·.1) = kvs.map (·.1) ∧ DzAll K as H (us.map (·.2)) (kvs.map (·.2))
inductive SubsOk (K : PySem.W.Frag) (as : Cs) (H : Hp) (n : Nat) : List V → List Sub → Prop
  | nil : SubsOk K as H n [] []
  | cons {v : V} {vs : List V} {s : Sub} {ss : List Sub} : SubOk K as H n v s → SubsOk K as H n vs ss → SubsOk K as H n (v :: vs) (s :: ss)
theorem SubOk.mono {K : PySem.W.Frag} {as as' : Cs} {H H' : Hp} {n : Nat} {v : V} (s : Stp as H as' H') (eo : ∀ (j : Nat) (b : Addr), as.own[j]? = some (b, n) → H' b = H b) {u : Sub} (h : SubOk K as H n v u) : SubOk K as' H' n v u := by
  cases u with
  | d x => exact Dz.mono s h
  | l j xs => obtain ⟨b, vs, e, q, h1, h2⟩ := h; exact ⟨b, vs, e, s.ownAt q, (eo _ _ q).trans h1, h2.mono s⟩
  | k j xs => obtain ⟨b, vs, e, q, h1, h3, h2⟩ := h; exact ⟨b, vs, e, s.ownAt q, (eo _ _ q).trans h1, h3, h2.mono s⟩
theorem SubsOk.mono {K : PySem.W.Frag} {as as' : Cs} {H H' : Hp} {n : Nat} (s : Stp as H as' H') (eo : ∀ (j : Nat) (b : Addr), as.own[j]? = some (b, n) → H' b = H b) {vs : List V} {us : List Sub} (h : SubsOk K as H n vs us) : SubsOk K as' H' n vs us := by
  induction h with
  | nil => exact .nil
  | cons h _ ih => exact .cons (h.mono s eo) ih
def Cok (K : PySem.W.Frag) (as : Cs) (H : Hp) (n : Nat) (a : Addr) : Cell → Prop
  | .lst ds => ∃ vs, H a = some (.lst vs) ∧ DzAll K as H vs ds
  | .dk kvs => ∃ us : List (Key × V), H a = some (.dK us) ∧ us.map (·.1) = kvs.map (·.1) ∧ DzAll K as H (us.map (·.2)) (kvs.map (·.2))
  | .lw ws => ∃ vs, H a = some (.lst vs) ∧ Rels K as H ws vs ∧ ∀ w ∈ ws, refOk n w
  | .dn kvs => ∃ us : List (Key × V), H a = some (.dK us) ∧ us.map (·.1) = kvs.map (·.1) ∧ SubsOk K as H n (us.map (·.2)) (kvs.map (·.2)) ∧ (jsOf (kvs.map (·.2))).Nodup
  | .ln xs => ∃ vs, H a = some (.lst vs) ∧ SubsOk K as H n vs xs ∧ (jsOf xs).Nodup
  | .dt kvs => ∃ us : List (List Key × V), H a = some (.dT us) ∧ us.map (·.1) = kvs.map (·.1) ∧ DzAll K as H (us.map (·.2)) (kvs.map (·.2))
  | .zk kvs => ∃ us : List (Key × V), Fz H a (.dK us) ∧ us.map (·.1) = kvs.map (·.1) ∧ DzAll K as H (us.map (·.2)) (kvs.map (·.2))
  | .zn kvs => ∃ us : List (Key × V), Fz H a (.dK us) ∧ us.map (·.1) = kvs.map (·.1) ∧ SubsOk K as H n (us.map (·.2)) (kvs.map (·.2)) ∧ (jsOf (kvs.map (·.2))).Nodup
  | .zt kvs => ∃ us : List (List Key × V), Fz H a (.dT us) ∧ us.map (·.1) = kvs.map (·.1) ∧ DzAll K as H (us.map (·.2)) (kvs.map (·.2))
def OwnOk (x : Option HO) : Prop := (∃ xs, x = some (.lst xs)) ∨ ∃ us, x = some (.dK us)
theorem OwnOk.some {x : Option HO} (h : OwnOk x) : ∃ o, x = some o ∧ nt o := by
  rcases h with ⟨xs, e⟩ | ⟨us, e⟩
  · exact ⟨_, e, nt_lst⟩
  · exact ⟨_, e, nt_dK⟩
def HidOk (x : Option HO) : Prop := (∃ xs, x = some (.lst xs)) ∨ ∃ φ, x = some (.ext φ)
theorem HidOk.some {x : Option HO} (h : HidOk x) : ∃ o, x = some o ∧ nt o ∧ ∀ ys, o ≠ .tup ys := by
  rcases h with ⟨xs, e⟩ | ⟨us, e⟩
  · exact ⟨_, e, nt_lst, fun _ z => nomatch z⟩
  · exact ⟨_, e, (fun _ z => nomatch z), fun _ z => nomatch z⟩
structure SimH (K : PySem.W.Frag) (as : Cs) (μ : Mu) (H : Hp) : Prop where
  nd : (as.hid ++ as.ao).Nodup
  len : as.as.length = μ.length
  hide : ∀ a ∈ as.hid, HidOk (H a)
  tab : ∀ P, IsTab K P → ∃ ps, H P = some (.tbl ps) ∧ TriplesOk ps.toList
  cell : ∀ (n : Nat) (a : Addr) (c : Cell), as.as[n]? = some a → μ[n]? = some c → Cok K as H n a c
  ownd : ∀ p ∈ as.own, OwnOk (H p.1)
theorem SimH.ndA {K : PySem.W.Frag} {as : Cs} {μ : Mu} {H : Hp} (S : SimH K as μ H) : as.as.Nodup := (List.nodup_append.mp (List.nodup_append.mp S.nd).2.1).1
theorem SimH.ndO {K : PySem.W.Frag} {as : Cs} {μ : Mu} {H : Hp} (S : SimH K as μ H) : (as.own.map (·.1)).Nodup := (List.nodup_append.mp (List.nodup_append.mp S.nd).2.1).2.1
theorem SimH.ne_own {K : PySem.W.Frag} {as : Cs} {μ : Mu} {H : Hp} (S : SimH K as μ H) {a b : Addr} {j n : Nat} (ha : a ∈ as.as) (hb : as.own[j]? = some (b, n)) : b ≠ a := fun e =>
  (List.nodup_append.mp (List.nodup_append.mp S.nd).2.1).2.2 a ha b (List.mem_map.mpr ⟨_, List.mem_of_getElem? hb, rfl⟩) e.symm
theorem SimH.own_inj {K : PySem.W.Frag} {as : Cs} {μ : Mu} {H : Hp} (S : SimH K as μ H) {b : Addr} {j j' n n' : Nat} (h : as.own[j]? = some (b, n)) (h' : as.own[j']? = some (b, n')) : j = j' := by
  have l1 := List.getElem?_eq_some_iff.mp h
  have l2 := List.getElem?_eq_some_iff.mp h'
  refine (List.getElem_inj (xs := as.own.map (·.1)) (h₀ := by simpa using l1.1) (h₁ := by simpa using l2.1) S.ndO).mp ?_
  rw [List.getElem_map, List.getElem_map, l1.2, l2.2]
theorem SimH.own_some {K : PySem.W.Frag} {as : Cs} {μ : Mu} {H : Hp} (S : SimH K as μ H) {b : Addr} {j n : Nat} (h : as.own[j]? = some (b, n)) : ∃ o, H b = some o ∧ nt o := (S.ownd (b, n) (List.mem_of_getElem? h)).some
theorem SimH.get {K : PySem.W.Frag} {as : Cs} {μ : Mu} {H : Hp} (S : SimH K as μ H) {n : Nat} {c : Cell} (e : μ[n]? = some c) : ∃ a, as.as[n]? = some a ∧ Cok K as H n a c := by
  have h := (List.getElem?_eq_some_iff.mp e).1
  have h2 : n < as.as.length := by rw [S.len]; exact h
  exact ⟨as.as[n], List.getElem?_eq_getElem h2, S.cell n _ c (List.getElem?_eq_getElem h2) e⟩
theorem SimH.mem {K : PySem.W.Frag} {as : Cs} {μ : Mu} {H : Hp} (S : SimH K as μ H) {a : Addr} (h : a ∈ as.as) : ∃ o, H a = some o := by
  obtain ⟨n, hn, e⟩ := List.getElem_of_mem h
  have h2 : n < μ.length := by rw [← S.len]; exact hn
  have q := S.cell n a μ[n] (by rw [List.getElem?_eq_getElem hn, e]) (List.getElem?_eq_getElem h2)
  cases c : μ[n] with
  | lst ds => rw [c] at q; obtain ⟨vs, e, _⟩ := q; exact ⟨_, e⟩
  | dk ds => rw [c] at q; obtain ⟨vs, e, _⟩ := q; exact ⟨_, e⟩
  | lw ds => rw [c] at q; obtain ⟨vs, e, _⟩ := q; exact ⟨_, e⟩
  | dn ds => rw [c] at q; obtain ⟨vs, e, _⟩ := q; exact ⟨_, e⟩
  | ln ds => rw [c] at q; obtain ⟨vs, e, _⟩ := q; exact ⟨_, e⟩
  | dt ds => rw [c] at q; obtain ⟨vs, e, _⟩ := q; exact ⟨_, e⟩
  | zk ds => rw [c] at q; obtain ⟨vs, ⟨o, e⟩, _⟩ := q; exact ⟨_, e⟩
  | zn ds => rw [c] at q; obtain ⟨vs, ⟨o, e⟩, _⟩ := q; exact ⟨_, e⟩
  | zt ds => rw [c] at q; obtain ⟨vs, ⟨o, e⟩, _⟩ := q; exact ⟨_, e⟩
theorem SimH.memN {K : PySem.W.Frag} {as : Cs} {μ : Mu} {H : Hp} (S : SimH K as μ H) {a : Addr} (h : a ∈ as.as) : ∃ o, H a = some o ∧ nt o := by
  obtain ⟨n, hn, e⟩ := List.getElem_of_mem h
  have h2 : n < μ.length := by rw [← S.len]; exact hn
  have q := S.cell n a μ[n] (by rw [List.getElem?_eq_getElem hn, e]) (List.getElem?_eq_getElem h2)
  cases c : μ[n] with
  | lst ds => rw [c] at q; obtain ⟨vs, e, _⟩ := q; exact ⟨_, e, nt_lst⟩
  | dk ds => rw [c] at q; obtain ⟨vs, e, _⟩ := q; exact ⟨_, e, fun _ z => nomatch z⟩
  | lw ds => rw [c] at q; obtain ⟨vs, e, _⟩ := q; exact ⟨_, e, nt_lst⟩
  | dn ds => rw [c] at q; obtain ⟨vs, e, _⟩ := q; exact ⟨_, e, fun _ z => nomatch z⟩
  | ln ds => rw [c] at q; obtain ⟨vs, e, _⟩ := q; exact ⟨_, e, nt_lst⟩
  | dt ds => rw [c] at q; obtain ⟨vs, e, _⟩ := q; exact ⟨_, e, fun _ z => nomatch z⟩
  | zk ds => rw [c] at q; obtain ⟨vs, ⟨o, e⟩, _⟩ := q; exact ⟨_, e, fun _ z => nomatch z⟩
  | zn ds => rw [c] at q; obtain ⟨vs, ⟨o, e⟩, _⟩ := q; exact ⟨_, e, fun _ z => nomatch z⟩
  | zt ds => rw [c] at q; obtain ⟨vs, ⟨o, e⟩, _⟩ := q; exact ⟨_, e, fun _ z => nomatch z⟩
theorem SimH.tabUpd {K : PySem.W.Frag} {as : Cs} {μ : Mu} {H : Hp} (S : SimH K as μ H) {p : Addr} {o : HO} (hp : ∀ ps, H p ≠ some (.tbl ps)) : ∀ P, IsTab K P → ∃ ps, upd H p o P = some (.tbl ps) ∧ TriplesOk ps.toList := fun P hP => by
  obtain ⟨ps, e, t⟩ := S.tab P hP
  exact ⟨ps, by rw [upd_ne (fun z => hp ps (by rw [← z]; exact e))]; exact e, t⟩
theorem SimH.fresh {K : PySem.W.Frag} {as : Cs} {μ : Mu} {H : Hp} (S : SimH K as μ H) {p : Addr} (hp : H p = none) : p ∉ as := fun h => by
  rcases Cs.mem_iff.mp h with h | h
  · obtain ⟨o, e, _⟩ := (S.hide p h).some
    rw [hp] at e; cases e
  · rcases Cs.ao_iff.mp h with h | h
    · obtain ⟨o, e⟩ := S.mem h
      rw [hp] at e; cases e
    · obtain ⟨x, hx, rfl⟩ := List.mem_map.mp h
      obtain ⟨o, e, _⟩ := (S.ownd x hx).some
      rw [hp] at e; cases e
theorem Stp.lay (as : Cs) {H : Hp} {p : Addr} (hp : H p = none) (o : HO) : Stp as H as (upd H p o) :=
  ⟨rfl, ⟨[], by simp⟩, fun a u _ h n => ⟨n, by rw [upd_ne (ne_of_none h hp)]; exact h⟩, ⟨[], by simp⟩, fun a u v h => by rw [upd_ne (ne_of_none h hp)]; exact h⟩
theorem Cok.mono {K : PySem.W.Frag} {as as' : Cs} {H H' : Hp} {n : Nat} {a : Addr} (s : Stp as H as' H') (e : H' a = H a) (eo : ∀ (j : Nat) (b : Addr), as.own[j]? = some (b, n) → H' b = H b) {c : Cell} (h : Cok K as H n a c) : Cok K as' H' n a c := by
  cases c with
  | lst ds => obtain ⟨vs, h1, h2⟩ := h; exact ⟨vs, e.trans h1, h2.mono s⟩
  | dk ds => obtain ⟨vs, h1, h2, h3⟩ := h; exact ⟨vs, e.trans h1, h2, h3.mono s⟩
  | lw ds => obtain ⟨vs, h1, h2, h3⟩ := h; exact ⟨vs, e.trans h1, h2.mono s, h3⟩
  | dn ds => obtain ⟨vs, h1, h2, h3, h4⟩ := h; exact ⟨vs, e.trans h1, h2, h3.mono s eo, h4⟩
  | ln ds => obtain ⟨vs, h1, h2, h3⟩ := h; exact ⟨vs, e.trans h1, h2.mono s eo, h3⟩
  | dt ds => obtain ⟨vs, h1, h2, h3⟩ := h; exact ⟨vs, e.trans h1, h2, h3.mono s⟩
  | zk ds => obtain ⟨vs, ⟨o, h1⟩, h2, h3⟩ := h; exact ⟨vs, ⟨o, e.trans h1⟩, h2, h3.mono s⟩
  | zn ds => obtain ⟨vs, ⟨o, h1⟩, h2, h3, h4⟩ := h; exact ⟨vs, ⟨o, e.trans h1⟩, h2, h3.mono s eo, h4⟩
  | zt ds => obtain ⟨vs, ⟨o, h1⟩, h2, h3⟩ := h; exact ⟨vs, ⟨o, e.trans h1⟩, h2, h3.mono s⟩
theorem SimH.lay {K : PySem.W.Frag} {as : Cs} {μ : Mu} {H : Hp} (S : SimH K as μ H) {p : Addr} (hp : H p = none) (o : HO) : SimH K as μ (upd H p o) := by
  refine ⟨S.nd, S.len, fun a h => ?_, S.tabUpd (fun ps z => by rw [hp] at z; cases z), fun n a c h1 h2 => (S.cell n a c h1 h2).mono (Stp.lay as hp o) ?_ ?_, fun p h => ?_⟩
  · obtain ⟨o', e, _⟩ := (S.hide a h).some
    rw [upd_ne (ne_of_none e hp)]; exact S.hide a h
  · obtain ⟨o', e⟩ := S.mem (List.mem_of_getElem? h1)
    exact upd_ne (ne_of_none e hp)
  · intro j b hb
    obtain ⟨o', e, _⟩ := S.own_some hb
    exact upd_ne (ne_of_none e hp)
  · obtain ⟨o', e, w⟩ := (S.ownd p h).some
    rw [upd_ne (ne_of_none e hp)]; exact S.ownd p h
abbrev Cs.add (as : Cs) (p : Addr) : Cs := ⟨as.hid, as.as ++ [p], as.own⟩
theorem Cs.add_ao {as : Cs} {p a : Addr} : a ∈ (as.add p).ao ↔ a ∈ as.ao ∨ a = p := by
  simp only [Cs.ao, List.mem_append, List.mem_singleton]
  exact ⟨fun h => h.elim (fun h => h.elim (fun h => .inl (.inl h)) .inr) fun h => .inl (.inr h), fun h => h.elim (fun h => h.elim (fun h => .inl (.inl h)) .inr) fun h => .inl (.inr h)⟩
theorem Cs.add_nd {as : Cs} {p : Addr} (h : (as.hid ++ as.ao).Nodup) (n : p ∉ as) : ((as.add p).hid ++ (as.add p).ao).Nodup := by
  have n : p ∉ as.hid ++ as.ao := n
  have e : (p :: (as.hid ++ as.ao)).Nodup := List.nodup_cons.mpr ⟨n, h⟩
  refine (List.Perm.nodup_iff ?_).mp e
  show (p :: (as.hid ++ (as.as ++ as.own.map (·.1)))).Perm (as.hid ++ ((as.as ++ [p]) ++ as.own.map (·.1)))
  refine (List.perm_middle (a := p) (l₁ := as.hid) (l₂ := as.as ++ as.own.map (·.1))).symm.trans (List.Perm.append_left _ ?_)
  rw [List.append_assoc]
  exact (List.perm_middle (a := p) (l₁ := as.as) (l₂ := as.own.map (·.1))).symm
theorem Stp.cell (as : Cs) {H : Hp} {p : Addr} (hp : H p = none) (o : HO) : Stp as H (as.add p) (upd H p o) := by
  refine ⟨rfl, ⟨[p], rfl⟩, fun a u _ h n => ⟨?_, by rw [upd_ne (ne_of_none h hp)]; exact h⟩, ⟨[], by simp⟩, fun a u v h => by rw [upd_ne (ne_of_none h hp)]; exact h⟩
  rw [Cs.add_ao, not_or]
  exact ⟨n, ne_of_none h hp⟩
theorem SimH.newCell {K : PySem.W.Frag} {as : Cs} {μ : Mu} {H : Hp} (S : SimH K as μ H) {p : Addr} (hp : H p = none) (o : HO) (c : Cell) (h : Cok K (as.add p) (upd H p o) μ.length p c) : SimH K (as.add p) (μ ++ [c]) (upd H p o) := by
  have eo : ∀ (n j : Nat) (b : Addr), as.own[j]? = some (b, n) → upd H p o b = H b := fun n j b hb => by
    obtain ⟨o', e, _⟩ := S.own_some hb
    exact upd_ne (ne_of_none e hp)
  refine ⟨?_, by simp [S.len], fun a h => ?_, S.tabUpd (fun ps z => by rw [hp] at z; cases z), fun n a c' h1 h2 => ?_, fun x h => ?_⟩
  · exact Cs.add_nd S.nd (S.fresh hp)
  · obtain ⟨o', e, _⟩ := (S.hide a h).some
    rw [upd_ne (ne_of_none e hp)]; exact S.hide a h
  · have h1 : (as.as ++ [p])[n]? = some a := h1
    by_cases hn : n < as.as.length
    · rw [List.getElem?_append_left hn] at h1
      rw [List.getElem?_append_left (by rw [← S.len]; exact hn)] at h2
      obtain ⟨o', e⟩ := S.mem (List.mem_of_getElem? h1)
      exact (S.cell n a c' h1 h2).mono (Stp.cell as hp o) (upd_ne (ne_of_none e hp)) (eo n)
    · rw [List.getElem?_append_right (by omega)] at h1
      rw [List.getElem?_append_right (by rw [← S.len]; omega)] at h2
      have : n - as.as.length = 0 := by
        have := (List.getElem?_eq_some_iff.mp h1).1
        simp at this; omega
      have en : n = μ.length := by have := S.len; omega
      rw [this] at h1
      rw [← S.len, this] at h2
      simp at h1 h2
      subst h1 h2
      rw [en]
      exact h
  · obtain ⟨o', e, w⟩ := (S.ownd x h).some
    rw [upd_ne (ne_of_none e hp)]; exact S.ownd x h
def nfz (x : Option HO) : Prop := ∀ o u, x ≠ some (.frz o u)
theorem nf_lst {x : Option HO} {xs : List V} (e : x = some (.lst xs)) : nfz x := fun _ _ z => by rw [e] at z; cases z
theorem nf_dK {x : Option HO} {us : List (Key × V)} (e : x = some (.dK us)) : nfz x := fun _ _ z => by rw [e] at z; cases z
theorem nf_dT {x : Option HO} {us : List (List Key × V)} (e : x = some (.dT us)) : nfz x := fun _ _ z => by rw [e] at z; cases z
theorem Stp.write {as : Cs} {H : Hp} {a : Addr} (h : a ∈ as.as) (o : HO) (nf : nfz (H a) := by first | exact nf_lst (by assumption) | exact nf_dK (by assumption) | exact nf_dT (by assumption)) : Stp as H as (upd H a o) :=
  ⟨rfl, ⟨[], by simp⟩, fun b u _ q n => ⟨n, by rw [upd_ne (fun e => n (by rw [e]; exact Cs.ao_as h))]; exact q⟩, ⟨[], by simp⟩, fun b u v q => by rw [upd_ne (fun e => nf u v (by rw [← e]; exact q))]; exact q⟩
theorem SimH.write {K : PySem.W.Frag} {as : Cs} {μ : Mu} {H : Hp} (S : SimH K as μ H) {n : Nat} {a : Addr} (ha : as.as[n]? = some a) (o : HO) (c : Cell) (h : Cok K as (upd H a o) n a c) (nf : nfz (H a) := by first | exact nf_lst (by assumption) | exact nf_dK (by assumption) | exact nf_dT (by assumption)) : SimH K as (μ.set n c) (upd H a o) := by
  have hm := List.mem_of_getElem? ha
  have nd2 : as.as.Nodup := S.ndA
  refine ⟨S.nd, by simp [S.len], fun b hb => ?_, S.tabUpd (fun ps z => by obtain ⟨o', e', no⟩ := S.memN hm; rw [z] at e'; cases e'; exact no ps rfl), fun m b c' h1 h2 => ?_, fun x h => ?_⟩
  rotate_left 2
  · obtain ⟨i, hi, ei⟩ := List.getElem_of_mem h
    rw [upd_ne (S.ne_own (n := x.2) hm (List.getElem?_eq_some_iff.mpr ⟨hi, ei⟩))]; exact S.ownd x h
  · rw [upd_ne (fun z => (List.nodup_append.mp S.nd).2.2 b hb a (Cs.ao_as hm) z)]; exact S.hide b hb
  · by_cases e : n = m
    · subst e
      rw [ha] at h1
      cases h1
      have hl : n < μ.length := by rw [← S.len]; exact (List.getElem?_eq_some_iff.mp ha).1
      rw [List.getElem?_set_self hl] at h2
      cases h2
      exact h
    · rw [List.getElem?_set_ne e] at h2
      refine (S.cell m b c' h1 h2).mono (Stp.write hm o nf) (upd_ne fun z => e ?_) (fun j b' hb => upd_ne (S.ne_own hm hb))
      subst z
      have l1 := (List.getElem?_eq_some_iff.mp ha)
      have l2 := (List.getElem?_eq_some_iff.mp h1)
      exact (List.getElem_inj (h₀ := l1.1) (h₁ := l2.1) nd2).mp (l1.2.trans l2.2.symm)
def EnvOk (K : PySem.W.Frag) (as : Cs) (H : Hp) (ρ : Rho) (σ : St) : Prop := ρ.length = σ.length ∧ ∀ (i : Nat) (w : W), ρ[i]? = some (some w) → ∃ v, σ[i]? = some (some v) ∧ Rel K as H w v
theorem EnvOk.mono {K : PySem.W.Frag} {as as' : Cs} {H H' : Hp} {ρ : Rho} {σ : St} (s : Stp as H as' H') (h : EnvOk K as H ρ σ) : EnvOk K as' H' ρ σ :=
  ⟨h.1, fun i w e => let ⟨v, h1, h2⟩ := h.2 i w e; ⟨v, h1, h2.mono s⟩⟩
theorem EnvOk.set {K : PySem.W.Frag} {as : Cs} {H : Hp} {ρ : Rho} {σ : St} (h : EnvOk K as H ρ σ) {w : W} {v : V} (r : Rel K as H w v) (i : Nat) : EnvOk K as H (ρ.set i (some w)) (σ.set i (some v)) := by
  refine ⟨by simp [h.1], fun j w' e => ?_⟩
  by_cases hij : i = j
  · subst hij
    by_cases hl : i < ρ.length
    · rw [List.getElem?_set_self hl] at e
      cases e
      exact ⟨v, List.getElem?_set_self (by rw [← h.1]; exact hl), r⟩
    · rw [List.getElem?_eq_none (by simpa using hl)] at e; cases e
  · rw [List.getElem?_set_ne hij] at e ⊢
    exact h.2 j w' e
def Aft (K : PySem.W.Frag) (as : Cs) (H : Hp) (Q0 : WK) (Q : VK) : Prop := ∀ w μ' as' v H', Q0 w μ' → Stp as H as' H' → SimH K as' μ' H' → Rel K as' H' w v → Q v H'
def rdE (K : PySem.W.Frag) (f : SE) : TE := fun σ H Q => ∃ as ρ μ Q0, SimH K as μ H ∧ EnvOk K as H ρ σ ∧ f ρ μ Q0 ∧ Aft K as H Q0 Q
def rdT (K : PySem.W.Frag) (f : ST) : TT := fun σ H Q => ∃ as ρ μ Q0, SimH K as μ H ∧ EnvOk K as H ρ σ ∧ f ρ μ Q0 ∧ ∀ b μ' as' H', Q0 b μ' → Stp as H as' H' → SimH K as' μ' H' → Q b H'
theorem Rels.length {K : PySem.W.Frag} {as : Cs} {H : Hp} {ws : List W} {vs : List V} (h : Rels K as H ws vs) : ws.length = vs.length := by
  induction h with
  | nil => rfl
  | cons _ _ ih => simp [ih]
def rdA (K : PySem.W.Frag) (f : SA) : TA := fun σ H Q => ∃ as ρ μ Q0, SimH K as μ H ∧ EnvOk K as H ρ σ ∧ f ρ μ Q0 ∧ ∀ ws μ' as' vs H', Q0 ws μ' → Stp as H as' H' → SimH K as' μ' H' → Rels K as' H' ws vs → Q vs H'
def FinOk (K : PySem.W.Frag) (as : Cs) (H : Hp) (F : Fin) (D : Ends) : Prop :=
  (∀ ρ' μ' as' σ' H', F.nx ρ' μ' → Stp as H as' H' → SimH K as' μ' H' → EnvOk K as' H' ρ' σ' → D.nx σ' H') ∧
  (∀ w μ' as' v H', F.rt w μ' → Stp as H as' H' → SimH K as' μ' H' → Rel K as' H' w v → D.rt v H') ∧
  (∀ ρ' μ' as' σ' H', F.bk ρ' μ' → Stp as H as' H' → SimH K as' μ' H' → EnvOk K as' H' ρ' σ' → D.bk σ' H') ∧
  (∀ ρ' μ' as' σ' H', F.ct ρ' μ' → Stp as H as' H' → SimH K as' μ' H' → EnvOk K as' H' ρ' σ' → D.ct σ' H')
def rdS (K : PySem.W.Frag) (f : SS) : TS := fun D σ H => ∃ as ρ μ F, SimH K as μ H ∧ EnvOk K as H ρ σ ∧ f F ρ μ ∧ FinOk K as H F D
theorem FinOk.mono {K : PySem.W.Frag} {as as1 : Cs} {H H1 : Hp} {F : Fin} {D : Ends} (h : FinOk K as H F D) (s : Stp as H as1 H1) : FinOk K as1 H1 F D :=
  ⟨fun _ _ _ _ _ q t => h.1 _ _ _ _ _ q (s.trans t), fun _ _ _ _ _ q t => h.2.1 _ _ _ _ _ q (s.trans t), fun _ _ _ _ _ q t => h.2.2.1 _ _ _ _ _ q (s.trans t), fun _ _ _ _ _ q t => h.2.2.2 _ _ _ _ _ q (s.trans t)⟩
structure GE (X : Cx) (e : Expr) (f : SE) : Prop where go : PE X e (rdE X.K f)
structure GT (X : Cx) (e : Expr) (f : ST) : Prop where go : PT X e (rdT X.K f)
structure GW (X : Cx) (e : Expr) (f : ST) : Prop where go : PW X e (rdT X.K f)
structure GA (X : Cx) (es : List Expr) (f : SA) : Prop where go : PA X es (rdA X.K f)
structure GS (X : Cx) (st : Stmt) (f : SS) : Prop where go : PS X st (rdS X.K f)
structure GB (X : Cx) (st : List Stmt) (f : SS) : Prop where go : PSs X st (rdS X.K f)
end L2.Ev
namespace L2.Ev
open PySem PySem.Spec PyProof.Rows
theorem PE_imp {X : Cx} {e : Expr} {t t' : TE} (h : PE X e t) (k : ∀ σ H Q, t' σ H Q → t σ H Q) : PE X e t' := fun pins s σ H Q I q => h pins s σ H Q I (k σ H Q q)
theorem PT_imp {X : Cx} {e : Expr} {t t' : TT} (h : PT X e t) (k : ∀ σ H Q, t' σ H Q → t σ H Q) : PT X e t' := fun pins s σ H Q I q => h pins s σ H Q I (k σ H Q q)
theorem PW_imp {X : Cx} {e : Expr} {t t' : TT} (h : PW X e t) (k : ∀ σ H Q, t' σ H Q → t σ H Q) : PW X e t' := fun wh pins s σ H Q I q => h wh pins s σ H Q I (k σ H Q q)
theorem PA_imp {X : Cx} {e : List Expr} {t t' : TA} (h : PA X e t) (k : ∀ σ H Q, t' σ H Q → t σ H Q) : PA X e t' := fun pos pins s σ H Q I q => h pos pins s σ H Q I (k σ H Q q)
theorem PS_imp {X : Cx} {e : Stmt} {t t' : TS} (h : PS X e t) (k : ∀ D σ H, t' D σ H → t D σ H) : PS X e t' := fun pins s σ H D I q => h pins s σ H D I (k D σ H q)
theorem PSs_imp {X : Cx} {e : List Stmt} {t t' : TS} (h : PSs X e t) (k : ∀ D σ H, t' D σ H → t D σ H) : PSs X e t' := fun pins s σ H D I q => h pins s σ H D I (k D σ H q)
section
variable {K : PySem.W.Frag} {as : Cs} {μ : Mu} {H : Hp} {Q0 : WK} {Q : VK}
theorem Aft.mono {as1 : Cs} {H1 : Hp} (A : Aft K as H Q0 Q) (s : Stp as H as1 H1) : Aft K as1 H1 Q0 Q := fun w μ' as' v H' q s' S r => A w μ' as' v H' q (s.trans s') S r
theorem Aft.now (A : Aft K as H Q0 Q) (S : SimH K as μ H) {w : W} {v : V} (q : Q0 w μ) (r : Rel K as H w v) : Q v H := A w μ as v H q (Stp.refl _ _) S r
theorem Aft.tup (A : Aft K as H Q0 Q) (S : SimH K as μ H) {vs : List V} {ds : List PyData} (d : DzAll K as H vs ds) (q : Q0 (.p (.tuple ds)) μ) : ∀ p, H p = none → Q (.ref p) (upd H p (.tup vs)) := fun p hp =>
  A _ μ as _ _ q (Stp.lay as hp _) (S.lay hp _) (Dz.tup (.inl ⟨S.fresh hp, .inl upd_same⟩) (d.mono (Stp.lay as hp _)))
theorem Aft.lst (A : Aft K as H Q0 Q) (S : SimH K as μ H) {vs : List V} {ds : List PyData} (d : DzAll K as H vs ds) (q : Q0 (.p (.list ds)) μ) : ∀ p, H p = none → Q (.ref p) (upd H p (.lst vs)) := fun p hp =>
  A _ μ as _ _ q (Stp.lay as hp _) (S.lay hp _) (Dz.lst ⟨S.fresh hp, .inl upd_same⟩ (d.mono (Stp.lay as hp _)))
theorem Aft.new (A : Aft K as H Q0 Q) (S : SimH K as μ H) {vs : List V} {ds : List PyData} (d : DzAll K as H vs ds) (q : Q0 (.r μ.length) (μ ++ [.lst ds])) : ∀ p, H p = none → Q (.ref p) (upd H p (.lst vs)) := fun p hp =>
  A _ _ (as.add p) _ _ q (Stp.cell as hp _) (S.newCell hp _ _ ⟨vs, upd_same, d.mono (Stp.cell as hp _)⟩) ⟨p, rfl, by rw [← S.len]; simp⟩
end
def wVar (i : Nat) : SE := fun ρ μ Q => match ρ[i]? with | some (some w) => Q w μ | _ => False
def wC (d : PyData) : SE := fun _ μ Q => Q (.p d) μ
section
variable {X : Cx} {pos : Pos}
theorem ge_var {i : Nat} {x : Str} (h : PE X (.Name x pos) (tVar i)) : GE X (.Name x pos) (wVar i) := ⟨PE_imp h fun σ H Q ⟨as, ρ, μ, Q0, S, E, h, A⟩ => by
  unfold wVar at h
  split at h
  · rename_i w e
    obtain ⟨v, h1, h2⟩ := E.2 i w e
    exact ⟨v, h1, A.now S h h2⟩
  · exact h.elim⟩
theorem ge_int {i j} : GE X (.Constant (.int i) j pos) (wC (.int i)) := ⟨PE_imp pe_int fun σ H Q ⟨as, ρ, μ, Q0, S, E, h, A⟩ => A.now S h (Dz.int i)⟩
theorem ge_bl {b j} : GE X (.Constant (.bool b) j pos) (wC (.bool b)) := ⟨PE_imp pe_bl fun σ H Q ⟨as, ρ, μ, Q0, S, E, h, A⟩ => A.now S h (Dz.bl b)⟩
theorem ge_non {j} : GE X (.Constant .none j pos) (wC .none) := ⟨PE_imp pe_non fun σ H Q ⟨as, ρ, μ, Q0, S, E, h, A⟩ => A.now S h Dz.non⟩
theorem ge_str {x j} : GE X (.Constant (.str x) j pos) (wC (.str x)) := ⟨PE_imp pe_str fun σ H Q ⟨as, ρ, μ, Q0, S, E, h, A⟩ => A.now S h (Dz.str x)⟩
end
abbrev O2 := W → W → Mu → WK → Prop
def rdO (K : PySem.W.Frag) (o : O2) : R2 := fun x y H Q => ∃ as μ w1 w2 Q0, SimH K as μ H ∧ Rel K as H w1 x ∧ Rel K as H w2 y ∧ o w1 w2 μ Q0 ∧ Aft K as H Q0 Q
structure GO (X : Cx) (f : Value → Value → Sem Value) (o : O2) : Prop where go : OpR X f (rdO X.K o)
theorem OpR_imp {X : Cx} {f : Value → Value → Sem Value} {r r' : R2} (h : OpR X f r) (k : ∀ x y H Q, r' x y H Q → r x y H Q) : OpR X f r' := fun pins s σ H x y v u Q I rx ry q => h pins s σ H x y v u Q I rx ry (k x y H Q q)
def wOp (o : O2) (fa fb : SE) : SE := fun ρ μ Q => fa ρ μ fun x μ1 => fb ρ μ1 fun y μ2 => o x y μ2 Q
theorem rdE_op {K : PySem.W.Frag} {o : O2} {fa fb : SE} {σ : St} {H : Hp} {Q : VK} (h : rdE K (wOp o fa fb) σ H Q) : tOp (rdO K o) (rdE K fa) (rdE K fb) σ H Q := by
  obtain ⟨as, ρ, μ, Q0, S, E, h, A⟩ := h
  exact ⟨as, ρ, μ, _, S, E, h, fun w1 μ1 as1 v1 H1 q1 s1 S1 r1 => ⟨as1, ρ, μ1, _, S1, E.mono s1, q1, fun w2 μ2 as2 v2 H2 q2 s2 S2 r2 => ⟨as2, μ2, w1, w2, Q0, S2, r1.mono s2, r2, q2, (A.mono s1).mono s2⟩⟩⟩
section
variable {X : Cx} {pos : Pos} {a b c : Expr} {fa fb fc : SE} {o o' : O2}
theorem ge_op {op : Operator} (ho : GO X (binaryOp op) o) (ha : GE X a fa) (hb : GE X b fb) : GE X (.BinOp a op b pos) (wOp o fa fb) := ⟨PE_imp (pe_op ho.go ha.go hb.go) fun _ _ _ h => rdE_op h⟩
theorem ge_cmp {op : CmpOp} (ho : GO X (compareOp op) o) (ha : GE X a fa) (hb : GE X b fb) (hm : behindInMarks op b = false) : GE X (.Compare a [op] [b] pos) (wOp o fa fb) := ⟨PE_imp (pe_cmpR ho.go ha.go hb.go hm) fun _ _ _ h => rdE_op h⟩
end
def wTest (f : SE) : ST := fun ρ μ Q => f ρ μ fun x μ1 => match x with | .p (.bool b) => Q b μ1 | _ => False
theorem rdT_test {K : PySem.W.Frag} {f : SE} {σ : St} {H : Hp} {Q : Bool → Hp → Prop} (h : rdT K (wTest f) σ H Q) : rdE K f σ H fun x H' => ∃ k, x = .bl k ∧ Q k H' := by
  obtain ⟨as, ρ, μ, Q0, S, E, h, A⟩ := h
  refine ⟨as, ρ, μ, _, S, E, h, fun w μ1 as1 v H1 q s S1 r => ?_⟩
  split at q
  · cases r
    exact ⟨_, rfl, A _ _ _ _ q s S1⟩
  · exact q.elim
section
variable {X : Cx} {pos : Pos} {a b c e : Expr} {fa fb fc f : SE} {o o' : O2} {t u : ST} {rest : List Expr}
theorem gt_cmp {op : CmpOp} (ho : GO X (compareOp op) o) (ha : GE X a fa) (hb : GE X b fb) (hm : behindInMarks op b = false) : GT X (.Compare a [op] [b] pos) (wTest (wOp o fa fb)) :=
  ⟨PT_imp (pt_cmpR ho.go ha.go hb.go hm) fun σ H Q h => rdE_op (rdT_test h)⟩
def wChain (o o' : O2) (fa fb fc : SE) : SE := fun ρ μ Q => fa ρ μ fun x μ1 => fb ρ μ1 fun y μ2 => o x y μ2 fun z μ3 => match z with
  | .p (.bool k) => if k = true then fc ρ μ3 fun w' μ4 => o' y w' μ4 Q else Q (.p (.bool false)) μ3
  | _ => False
theorem rdE_chain {K : PySem.W.Frag} {σ : St} {H : Hp} {Q : VK} (h : rdE K (wChain o o' fa fb fc) σ H Q) : tChain (rdO K o) (rdO K o') (rdE K fa) (rdE K fb) (rdE K fc) σ H Q := by
  obtain ⟨as, ρ, μ, Q0, S, E, h, A⟩ := h
  refine ⟨as, ρ, μ, _, S, E, h, fun w1 μ1 as1 v1 H1 q1 s1 S1 r1 => ⟨as1, ρ, μ1, _, S1, E.mono s1, q1, fun w2 μ2 as2 v2 H2 q2 s2 S2 r2 => ⟨as2, μ2, w1, w2, _, S2, r1.mono s2, r2, q2, fun w3 μ3 as3 v3 H3 q3 s3 S3 r3 => ?_⟩⟩⟩
  split at q3
  · rename_i k
    cases r3
    refine ⟨k, rfl, ?_⟩
    cases k with
    | true =>
      rw [if_pos rfl] at q3 ⊢
      exact ⟨as3, ρ, μ3, _, S3, (E.mono s1).mono (s2.trans s3), q3, fun w4 μ4 as4 v4 H4 q4 s4 S4 r4 => ⟨as4, μ4, w2, w4, Q0, S4, r2.mono (s3.trans s4), r4, q4, (A.mono s1).mono (s2.trans (s3.trans s4))⟩⟩
    | false =>
      rw [if_neg Bool.false_ne_true] at q3 ⊢
      exact A _ _ _ _ _ q3 (s1.trans (s2.trans s3)) S3 (Dz.bl false)
  · exact q3.elim
theorem ge_chain {op op' : CmpOp} (ho : GO X (compareOp op) o) (ho' : GO X (compareOp op') o') (ha : GE X a fa) (hb : GE X b fb) (hc : GE X c fc)
    (hm : lastMarks [op, op'] [b, c] = false := by with_unfolding_all rfl) : GE X (.Compare a [op, op'] [b, c] pos) (wChain o o' fa fb fc) := ⟨PE_imp (pe_chain ho.go ho'.go ha.go hb.go hc.go hm) fun _ _ _ h => rdE_chain h⟩
theorem gt_val (h : GE X e f) (he : ∀ whole, isTrue e X.env whole = (do let v ← whole; standAt e.pos; holding [v] (truthy v)) := by intro _; rfl) : GT X e (wTest f) :=
  ⟨PT_imp (pt_val h.go he) fun σ H Q h => rdT_test h⟩
def wAnd (t u : ST) : ST := fun ρ μ Q => t ρ μ fun c μ1 => if c = true then u ρ μ1 Q else Q false μ1
def wOr (t u : ST) : ST := fun ρ μ Q => t ρ μ fun c μ1 => if c = true then Q true μ1 else u ρ μ1 Q
def wNot (t : ST) : ST := fun ρ μ Q => t ρ μ fun c μ1 => Q (!c) μ1
theorem gw_and1 (ha : GT X a t) : GW X (.BoolOp .And [a] pos) t := ⟨pw_and1 ha.go⟩
theorem gw_or1 (ha : GT X a t) : GW X (.BoolOp .Or [a] pos) t := ⟨pw_or1 ha.go⟩
theorem gw_and (ha : GT X a t) (hb : GW X (.BoolOp .And (b :: rest) pos) u) : GW X (.BoolOp .And (a :: b :: rest) pos) (wAnd t u) := ⟨PW_imp (pw_and ha.go hb.go) fun σ H Q ⟨as, ρ, μ, Q0, S, E, h, A⟩ =>
  ⟨as, ρ, μ, _, S, E, h, fun c μ1 as1 H1 q1 s1 S1 => by
    cases c with
    | true => exact ⟨as1, ρ, μ1, Q0, S1, E.mono s1, q1, fun b μ' as' H' q s' S' => A b μ' as' H' q (s1.trans s') S'⟩
    | false => exact A _ _ _ _ q1 s1 S1⟩⟩
theorem gw_or (ha : GT X a t) (hb : GW X (.BoolOp .Or (b :: rest) pos) u) : GW X (.BoolOp .Or (a :: b :: rest) pos) (wOr t u) := ⟨PW_imp (pw_or ha.go hb.go) fun σ H Q ⟨as, ρ, μ, Q0, S, E, h, A⟩ =>
  ⟨as, ρ, μ, _, S, E, h, fun c μ1 as1 H1 q1 s1 S1 => by
    cases c with
    | false => exact ⟨as1, ρ, μ1, Q0, S1, E.mono s1, q1, fun b μ' as' H' q s' S' => A b μ' as' H' q (s1.trans s') S'⟩
    | true => exact A _ _ _ _ q1 s1 S1⟩⟩
theorem GW.gt (h : GW X e t) : GT X e t := ⟨h.go.pt⟩
theorem gt_not (ha : GT X a t) : GT X (.UnaryOp .Not a pos) (wNot t) := ⟨PT_imp (pt_not ha.go) fun σ H Q ⟨as, ρ, μ, Q0, S, E, h, A⟩ => ⟨as, ρ, μ, _, S, E, h, fun c μ1 as1 H1 q1 s1 S1 => A _ _ _ _ q1 s1 S1⟩⟩
def wAndV (fa fb : SE) : SE := fun ρ μ Q => fa ρ μ fun x μ1 => match x with | .p (.bool c) => if c = true then fb ρ μ1 Q else Q (.p (.bool false)) μ1 | _ => False
def wOrV (fa fb : SE) : SE := fun ρ μ Q => fa ρ μ fun x μ1 => match x with | .p (.bool c) => if c = true then Q (.p (.bool true)) μ1 else fb ρ μ1 Q | _ => False
def wNotV (fa : SE) : SE := fun ρ μ Q => fa ρ μ fun x μ1 => match x with | .p (.bool c) => Q (.p (.bool (!c))) μ1 | _ => False
theorem ge_one {op} (h : GE X a f) : GE X (.BoolOp op [a] pos) f := ⟨pe_one h.go⟩
theorem ge_and (ha : GE X a fa) (hb : GE X (.BoolOp .And (b :: rest) pos) fb) : GE X (.BoolOp .And (a :: b :: rest) pos) (wAndV fa fb) := ⟨PE_imp (pe_and ha.go hb.go) fun σ H Q ⟨as, ρ, μ, Q0, S, E, h, A⟩ =>
  ⟨as, ρ, μ, _, S, E, h, fun w μ1 as1 v H1 q1 s1 S1 r1 => by
    split at q1
    · rename_i c
      cases r1
      refine ⟨c, rfl, ?_⟩
      cases c with
      | true => exact ⟨as1, ρ, μ1, Q0, S1, E.mono s1, q1, A.mono s1⟩
      | false => exact A _ _ _ _ _ q1 s1 S1 (Dz.bl false)
    · exact q1.elim⟩⟩
theorem ge_not (ha : GE X a fa) : GE X (.UnaryOp .Not a pos) (wNotV fa) := ⟨PE_imp (pe_not ha.go) fun σ H Q ⟨as, ρ, μ, Q0, S, E, h, A⟩ =>
  ⟨as, ρ, μ, _, S, E, h, fun w μ1 as1 v H1 q1 s1 S1 r1 => by
    split at q1
    · rename_i c
      cases r1
      exact ⟨c, rfl, A _ _ _ _ _ q1 s1 S1 (Dz.bl _)⟩
    · exact q1.elim⟩⟩
def wIf (t : ST) (fa fb : SE) : SE := fun ρ μ Q => t ρ μ fun c μ1 => if c = true then fa ρ μ1 Q else fb ρ μ1 Q
end
def oI (C : Int → Int → Prop) (g : Int → Int → PyData) : O2
  | .p (.int i), .p (.int j), μ, Q => C i j ∧ Q (.p (g i j)) μ
  | _, _, _, _ => False
def oI0 (g : Int → Int → PyData) : O2
  | .p (.int i), .p (.int j), μ, Q => Q (.p (g i j)) μ
  | _, _, _, _ => False
section
variable {X : Cx} {f : Value → Value → Sem Value}
theorem GO.i {C : Int → Int → Prop} {g : Int → Int → PyData} {gv : Int → Int → V} (h : OpR X f (rI C gv)) (k : ∀ i j K as H, Dz K as H (gv i j) (g i j)) : GO X f (oI C g) := ⟨OpR_imp h fun x y H Q ⟨as, μ, w1, w2, Q0, S, r1, r2, q, A⟩ => by
  unfold oI at q
  split at q
  · cases r1
    cases r2
    exact ⟨_, _, rfl, rfl, q.1, A.now S q.2 (k _ _ _ _ _)⟩
  · exact q.elim⟩
theorem GO.i0 {g : Int → Int → PyData} {gv : Int → Int → V} (h : OpR X f (rI0 gv)) (k : ∀ i j K as H, Dz K as H (gv i j) (g i j)) : GO X f (oI0 g) := ⟨OpR_imp h fun x y H Q ⟨as, μ, w1, w2, Q0, S, r1, r2, q, A⟩ => by
  unfold oI0 at q
  split at q
  · cases r1
    cases r2
    exact ⟨_, _, rfl, rfl, A.now S q (k _ _ _ _ _)⟩
  · exact q.elim⟩
end
abbrev oSub : O2 := oI0 fun i j => .int (i - j)
abbrev oMul : O2 := oI CMul fun i j => .int (i * j)
abbrev oDiv : O2 := oI CDiv fun i j => .int (i / j)
abbrev oMod : O2 := oI (fun _ j => 0 < j) fun i j => .int (i % j)
abbrev oPow : O2 := oI CPow fun i j => .int (i ^ j.toNat)
abbrev oLt : O2 := oI0 fun i j => .bool (decide (i < j))
abbrev oLe : O2 := oI0 fun i j => .bool (decide (i ≤ j))
abbrev oGt : O2 := oI0 fun i j => .bool (decide (j < i))
abbrev oGe : O2 := oI0 fun i j => .bool (decide (j ≤ i))
section
variable {X : Cx}
theorem go_sub : GO X (binaryOp .Sub) oSub := .i0 op_sub fun _ _ _ _ _ => .int _
theorem go_mul : GO X (binaryOp .Mult) oMul := .i op_mul fun _ _ _ _ _ => .int _
theorem go_div : GO X (binaryOp .FloorDiv) oDiv := .i op_fdiv fun _ _ _ _ _ => .int _
theorem go_mod : GO X (binaryOp .Mod) oMod := .i op_mod fun _ _ _ _ _ => .int _
theorem go_pow : GO X (binaryOp .Pow) oPow := .i op_pow fun _ _ _ _ _ => .int _
theorem go_lt : GO X (compareOp .Lt) oLt := .i0 op_lt fun _ _ _ _ _ => .bl _
theorem go_le : GO X (compareOp .LtE) oLe := .i0 op_le fun _ _ _ _ _ => .bl _
theorem go_gt : GO X (compareOp .Gt) oGt := .i0 op_gt fun _ _ _ _ _ => .bl _
theorem go_ge : GO X (compareOp .GtE) oGe := .i0 op_ge fun _ _ _ _ _ => .bl _
end
def Cell.subs : Cell → List Sub
  | .dn kvs => kvs.map (·.2)
  | .zn kvs => kvs.map (·.2)
  | .ln xs => xs
  | _ => []
def Sub.isJ (j : Nat) : Sub → Bool
  | .l i _ => i == j
  | .k i _ => i == j
  | _ => false
def subAt (μ : Mu) (n j : Nat) : Option Sub := match μ[n]? with
  | some c => c.subs.find? (Sub.isJ j)
  | none => none
theorem SubsOk.at {K : PySem.W.Frag} {as : Cs} {H : Hp} {n : Nat} {vs : List V} {us : List Sub} (h : SubsOk K as H n vs us) {u : Sub} (m : u ∈ us) : ∃ v, SubOk K as H n v u := by
  induction h with
  | nil => cases m
  | cons h _ ih =>
    rcases List.mem_cons.mp m with rfl | m
    · exact ⟨_, h⟩
    · exact ih m
theorem subAt_ok {K : PySem.W.Frag} {as : Cs} {μ : Mu} {H : Hp} (S : SimH K as μ H) {n j : Nat} {u : Sub} (e : subAt μ n j = some u) {b : Addr} (hb : as.own[j]? = some (b, n)) : u.isJ j = true ∧ SubOk K as H n (.ref b) u := by
  unfold subAt at e
  split at e
  · rename_i c hc
    obtain ⟨a, ha, ck⟩ := S.get hc
    have hj := List.find?_some e
    refine ⟨hj, ?_⟩
    have hm := List.mem_of_find?_eq_some e
    obtain ⟨v, hv⟩ : ∃ v, SubOk K as H n v u := by
      cases c with
      | dn kvs => obtain ⟨us, _, _, h, _⟩ := ck; exact h.at hm
      | zn kvs => obtain ⟨us, _, _, h, _⟩ := ck; exact h.at hm
      | ln xs => obtain ⟨us, _, h, _⟩ := ck; exact h.at hm
      | _ => cases hm
    cases u with
    | d x => simp [Sub.isJ] at hj
    | l i xs =>
      have hj : i = j := by simpa [Sub.isJ] using hj
      subst hj
      obtain ⟨b', vs, rfl, q, h⟩ := hv
      rw [hb] at q; cases q
      exact ⟨b, vs, rfl, hb, h⟩
    | k i xs =>
      have hj : i = j := by simpa [Sub.isJ] using hj
      subst hj
      obtain ⟨b', vs, rfl, q, h⟩ := hv
      rw [hb] at q; cases q
      exact ⟨b, vs, rfl, hb, h⟩
  · cases e
def lsOf (μ : Mu) : W → Option (List PyData)
  | .p (.list xs) => some xs
  | .r n => match μ[n]? with | some (.lst xs) => some xs | _ => none
  | .q n j => match subAt μ n j with | some (.l _ xs) => some xs | _ => none
  | _ => none
def daOf (μ : Mu) : W → Option PyData
  | .t _ => none
  | .s _ => none
  | .u _ => none
  | .q n j => match subAt μ n j with | some (.l _ xs) => some (.list xs) | _ => none
  | .p d => some d
  | .r n => match μ[n]? with | some (.lst xs) => some (.list xs) | _ => none
section
variable {K : PySem.W.Frag} {as : Cs} {μ : Mu} {H : Hp}
theorem lsOf_sq (S : SimH K as μ H) {w : W} {v : V} {ds : List PyData} (r : Rel K as H w v) (e : lsOf μ w = some ds) : ∃ a vs, v = .ref a ∧ Rd H a (.lst vs) ∧ DzAll K as H vs ds := by
  cases w with
  | p d =>
    cases d with
    | list xs =>
      cases e
      cases r with
      | lst t h => exact ⟨_, _, rfl, t.2, h⟩
    | _ => cases e
  | r n =>
    obtain ⟨a, rfl, ha⟩ := r
    simp only [lsOf] at e
    split at e
    · rename_i c hc
      cases e
      obtain ⟨vs, h1, h2⟩ := S.cell n a _ ha hc
      exact ⟨a, vs, rfl, .inl h1, h2⟩
    · cases e
  | t n => cases e
  | s ds => cases e
  | u ds => cases e
  | q n j =>
    obtain ⟨b, rfl, hb⟩ := r
    simp only [lsOf] at e
    split at e
    · rename_i i xs hu
      cases e
      obtain ⟨_, b', vs, eb, _, h1, h2⟩ := subAt_ok S hu hb
      cases eb
      exact ⟨b, vs, rfl, .inl h1, h2⟩
    · cases e
def rlOf (μ : Mu) : W → Option (List PyData)
  | .s xs => some xs
  | w => lsOf μ w
theorem rlOf_sq (S : SimH K as μ H) {w : W} {v : V} {ds : List PyData} (r : Rel K as H w v) (e : rlOf μ w = some ds) : ∃ a vs, v = .ref a ∧ SqL K H a vs ∧ DzAll K as H vs ds := by
  cases w with
  | s xs => cases e; obtain ⟨a, vs, e, h1, h2⟩ := r; exact ⟨a, vs, e, h1.sq, h2⟩
  | p d => obtain ⟨a, vs, e, h1, h2⟩ := lsOf_sq S r (show lsOf μ (.p d) = some ds from e); exact ⟨a, vs, e, .inl h1, h2⟩
  | r n => obtain ⟨a, vs, e, h1, h2⟩ := lsOf_sq S r (show lsOf μ (.r n) = some ds from e); exact ⟨a, vs, e, .inl h1, h2⟩
  | t n => cases e
  | u n => cases e
  | q n j => obtain ⟨a, vs, e, h1, h2⟩ := lsOf_sq S r (show lsOf μ (.q n j) = some ds from e); exact ⟨a, vs, e, .inl h1, h2⟩
theorem daOf_dp (S : SimH K as μ H) {w : W} {v : V} {d : PyData} (r : Rel K as H w v) (e : daOf μ w = some d) : Dp K H v d := by
  cases w with
  | p d => cases e; exact Dz.dp r
  | r n =>
    obtain ⟨a, rfl, ha⟩ := r
    simp only [daOf] at e
    split at e
    · rename_i c hc
      cases e
      obtain ⟨vs, h1, h2⟩ := S.cell n a _ ha hc
      exact .lst (.of h1) h2.dp
    · cases e
  | t n => cases e
  | s ds => cases e
  | u ds => cases e
  | q n j =>
    obtain ⟨b, rfl, hb⟩ := r
    simp only [daOf] at e
    split at e
    · rename_i i xs hu
      cases e
      obtain ⟨_, b', vs, eb, _, h1, h2⟩ := subAt_ok S hu hb
      cases eb
      exact .lst (.of h1) h2.dp
    · cases e
end
def oEq : O2 := fun x y μ Q => match daOf μ x, daOf μ y with
  | some d, some e => SeqAt.shaped d = true ∧ SeqAt.shaped e = true ∧ Q (.p (.bool (PyData.eqv d e))) μ
  | _, _ => False
def oNe : O2 := fun x y μ Q => match daOf μ x, daOf μ y with
  | some d, some e => SeqAt.shaped d = true ∧ SeqAt.shaped e = true ∧ Q (.p (.bool (!PyData.eqv d e))) μ
  | _, _ => False
section
variable {X : Cx}
theorem go_eq (hu : X.A.units + 64 < cLine) : GO X (compareOp .Eq) oEq := ⟨OpR_imp (op_eqD hu) fun x y H Q ⟨as, μ, w1, w2, Q0, S, r1, r2, q, A⟩ => by
  unfold oEq at q
  split at q
  · rename_i d e h1 h2
    exact ⟨d, e, daOf_dp S r1 h1, daOf_dp S r2 h2, q.1, q.2.1, A.now S q.2.2 (Dz.bl _)⟩
  · exact q.elim⟩
theorem go_ne (hu : X.A.units + 64 < cLine) : GO X (compareOp .NotEq) oNe := ⟨OpR_imp (op_neD hu) fun x y H Q ⟨as, μ, w1, w2, Q0, S, r1, r2, q, A⟩ => by
  unfold oNe at q
  split at q
  · rename_i d e h1 h2
    exact ⟨d, e, daOf_dp S r1 h1, daOf_dp S r2 h2, q.1, q.2.1, A.now S q.2.2 (Dz.bl _)⟩
  · exact q.elim⟩
def isNo : W → Bool
  | .p .none => true
  | _ => false
theorem isN_iff {K : PySem.W.Frag} {as : Cs} {H : Hp} {w : W} {v : V} (r : Rel K as H w v) : decide (v = .non) = isNo w := by
  cases w with
  | p d => cases r <;> simp [isNo]
  | r n => obtain ⟨a, rfl, _⟩ := r; simp [isNo]
  | t n => have e : v = .ty n := r; subst e; simp [isNo]
  | s ds => obtain ⟨a, vs, rfl, _⟩ := r; simp [isNo]
  | u ds => obtain ⟨a, vs, rfl, _⟩ := r; simp [isNo]
  | q n j => obtain ⟨a, rfl, _⟩ := r; simp [isNo]
end
end L2.Ev
namespace L2.Ev
open PySem PySem.Spec PyProof.Rows
theorem op_catT2 {X : Cx} : OpR X (binaryOp .Add) (fun x y H Q => ∃ a b xs ys, x = .ref a ∧ y = .ref b ∧ SqT X.K H a xs ∧ SqT X.K H b ys ∧ xs.length + ys.length ≤ sizeLine ∧
    (xs = [] → Q (.ref b) H) ∧ (xs ≠ [] → ys = [] → Q (.ref a) H) ∧ (xs ≠ [] → ys ≠ [] → ∀ p, H p = none → Q (.ref p) (upd H p (.tup (xs ++ ys))))) := by
  intro pins s σ H x y v u Q I rx ry h
  obtain ⟨a, b, xs, ys, rfl, rfl, ha, hb, hz, q0, q1, q2⟩ := h
  cases rx
  cases ry
  obtain ⟨its, r1, p1, _⟩ := I.tuple ha
  obtain ⟨its2, r2, p2, _⟩ := I.tuple hb
  obtain ⟨⟨cls, dd, data, sl⟩, ho, hc, n, hd⟩ := id p1
  obtain ⟨⟨cls2, dd2, data2, sl2⟩, ho2, hc2, n2, hd2⟩ := id p2
  simp only at hc hd hc2 hd2
  subst hc hd hc2 hd2
  by_cases hv : its = []
  · exact concat_meets ⟨_, ho, rfl⟩ ⟨_, ho2, rfl⟩ noFill_tuple_add seq_tuple_add PySem.F.slot_tuple_add PySem.F.entry_tuple_add (PySem.F.args_tuple_add_2 _ _)
      (tuple_addW0 a b its.toArray its2.toArray n n2 dd dd2 sl sl2 (by simp [hv])) ⟨ho, ho2, ⟨.ref b, H, I, rfl, q0 (r1.nil_iff.mp hv)⟩⟩
  · refine HT.cat_tup p1 p2 hv (fun z => ⟨.ref a, H, I, rfl, q1 (fun w => hv (r1.nil_iff.mpr w)) (r2.nil_iff.mp z)⟩) (fun z => ?_) (by rw [← r1.length, ← r2.length]; exact hz)
    refine ⟨.ref s.heap.objs.size, _, I.laid (t' := s.toks) (o := .tup (xs ++ ys)) (fun b ob q => Heap.get?_push_of_some _ q) (Nat.le_refl _) ?_, rfl, q2 (fun w => hv (r1.nil_iff.mpr w)) (fun w => z (r2.nil_iff.mpr w)) _ (I.hok.fresh (Nat.le_refl _))⟩
    exact ⟨by rw [List.length_append]; exact hz, _, r1.append r2, IsTup.new _ _⟩
theorem op_catL {X : Cx} : OpR X (binaryOp .Add) (fun x y H Q => ∃ l b xs zs, x = .ref l ∧ y = .ref b ∧ Rd H l (.lst xs) ∧ Rd H b (.lst zs) ∧ xs.length + zs.length ≤ sizeLine ∧ ∀ p, H p = none → Q (.ref p) (upd H p (.lst (xs ++ zs)))) := by
  intro pins s σ H x y v u Q I rx ry h
  obtain ⟨l, b, xs, zs, rfl, rfl, hH, hB, hz, q⟩ := h
  cases rx
  cases ry
  obtain ⟨z, its, n, r, e⟩ := hH.ok I.hok
  obtain ⟨z2, its2, n2, r2, e2⟩ := hB.ok I.hok
  have hl := r.length
  have hl2 := r2.length
  refine PySem.P.add_list e e2 ?_ (by rw [List.size_toArray, List.size_toArray]; omega)
  have ea : its.toArray ++ its2.toArray = (its ++ its2).toArray := by simp
  rw [ea]
  exact ⟨.ref _, _, I.lnew (t' := s.toks) (r.append r2) (by rw [List.length_append]; omega), rfl, q _ I.fresh⟩
def oAdd : O2 := fun x y μ Q => match x, y with
  | .p (.int i), .p (.int j) => Q (.p (.int (i + j))) μ
  | .p (.str a), .p (.str b) => a.length + b.length ≤ sizeLine ∧ Q (.p (.str (a ++ b))) μ
  | .p (.tuple a), .p (.tuple b) => a.length + b.length ≤ sizeLine ∧ Q (.p (.tuple (a ++ b))) μ
  | x, y => match lsOf μ x, lsOf μ y with
    | some a, some b => a.length + b.length ≤ sizeLine ∧ Q (.p (.list (a ++ b))) μ
    | _, _ => False
theorem go_add {X : Cx} : GO X (binaryOp .Add) oAdd := ⟨OpR_imp (op_add.or (op_add_str.or (op_catT2.or op_catL))) fun x y H Q ⟨as, μ, w1, w2, Q0, S, r1, r2, q, A⟩ => by
  unfold oAdd at q
  split at q
  · cases r1; cases r2
    exact .inl ⟨_, _, rfl, rfl, A.now S q (Dz.int _)⟩
  · cases r1; cases r2
    exact .inr (.inl ⟨_, _, rfl, rfl, q.1, A.now S q.2 (Dz.str _)⟩)
  · cases r1 with
    | tup t1 d1 =>
      cases r2 with
      | tup t2 d2 =>
        refine .inr (.inr (.inl ⟨_, _, _, _, rfl, rfl, t1.sq, t2.sq, by rw [d1.length, d2.length]; exact q.1, fun e => ?_, fun _ e => ?_, fun _ _ => A.tup S (d1.append d2) q.2⟩))
        · subst e
          cases d1
          exact A.now S q.2 (Dz.tup t2 d2)
        · subst e
          cases d2
          exact A.now S q.2 (by rw [List.append_nil]; exact Dz.tup t1 d1)
  · split at q
    · rename_i a b h1 h2
      obtain ⟨l1, v1, rfl, s1, d1⟩ := lsOf_sq S r1 h1
      obtain ⟨l2, v2, rfl, s2, d2⟩ := lsOf_sq S r2 h2
      exact .inr (.inr (.inr ⟨_, _, _, _, rfl, rfl, s1, s2, by rw [d1.length, d2.length]; exact q.1, A.lst S (d1.append d2) q.2⟩))
    · exact q.elim⟩
def oIx : O2 := fun x y μ Q => match x, y with
  | .p (.tuple xs), .p (.int i) => match atI xs i with | some d => Q (.p d) μ | none => False
  | .p (.str z), .p (.int i) => z.length ≤ sizeLine ∧ match atI z.cps.toList i with | some c => Q (.p (.str ⟨#[c]⟩)) μ | none => False
  | x, .p (.int i) => match rlOf μ x with
    | some xs => match atI xs i with | some d => Q (.p d) μ | none => False
    | none => False
  | _, _ => False
theorem atI_dz {K : PySem.W.Frag} {as : Cs} {H : Hp} {vs : List V} {ds : List PyData} (h : DzAll K as H vs ds) {i : Int} {d : PyData} (e : atI ds i = some d) : ∃ v, atI vs i = some v ∧ Dz K as H v d := by
  unfold atI at e ⊢
  rw [h.length]
  cases q : ixN ds.length i with
  | none => rw [q] at e; cases e
  | some j => rw [q] at e; exact h.get e
structure GI (X : Cx) (o : O2) : Prop where go : IxR X (rdO X.K o)
theorem gi_ix {X : Cx} : GI X oIx := ⟨by
  have base := ix_seq (X := X)
  intro value slice pins s σ H x y v u Q I rx ry h hs
  refine base value slice pins s σ H x y v u Q I rx ry ?_ hs
  obtain ⟨as, μ, w1, w2, Q0, S, r1, r2, q, A⟩ := h
  unfold oIx at q
  split at q
  · split at q
    · rename_i xs i _ d e
      cases r2
      cases r1 with
      | tup t1 d1 =>
        obtain ⟨v', h1, h2⟩ := atI_dz d1 e
        exact .inr (.inl ⟨_, _, _, v', rfl, rfl, t1.sq, h1, A.now S q h2⟩)
    · exact q.elim
  · obtain ⟨q1, q⟩ := q
    split at q
    · rename_i z i _ c e
      cases r2
      cases r1
      exact .inr (.inr ⟨_, _, _, rfl, rfl, q1, e, A.now S q (Dz.str _)⟩)
    · exact q.elim
  · split at q
    · rename_i xs e
      split at q
      · rename_i d e2
        cases r2
        obtain ⟨l1, v1, rfl, s1, d1⟩ := rlOf_sq S r1 e
        obtain ⟨v', h1, h2⟩ := atI_dz d1 e2
        exact .inl ⟨_, _, _, v', rfl, rfl, s1, h1, A.now S q h2⟩
      · exact q.elim
    · exact q.elim
  · exact q.elim⟩
section
variable {X : Cx} {pos p2 : Pos} {a b : Expr} {fa fb : SE} {o : O2}
theorem ge_ix (ho : GI X o) (ha : GE X a fa) (hb : GE X b fb) (hs : PlainIx b) : GE X (.Subscript a b pos) (wOp o fa fb) := ⟨PE_imp (pe_ix ho.go ha.go hb.go hs) fun _ _ _ h => rdE_op h⟩
end
def cut {α : Type} (xs : List α) (lo hi : Option Int) : List α := (xs.drop (HT.sIx xs.length 0 lo)).take (HT.sIx xs.length xs.length hi - HT.sIx xs.length 0 lo)
theorem cut_whole {α : Type} (xs : List α) {lo hi : Option Int} (h1 : HT.sIx xs.length 0 lo = 0) (h2 : HT.sIx xs.length xs.length hi = xs.length) : cut xs lo hi = xs := by
  unfold cut
  rw [h1, h2]
  simp
theorem cut_dz {K : PySem.W.Frag} {as : Cs} {H : Hp} {vs : List V} {ds : List PyData} (h : DzAll K as H vs ds) (lo hi : Option Int) : DzAll K as H (cutV vs lo hi) (cut ds lo hi) := by
  unfold cut cutV
  rw [h.length]
  exact (h.drop _).take _
theorem getItem_tuple_all {prog : Program} {w : World} {A : Around} {E : Value → Shared → Prop} {s : Shared} {t sl : Addr} {items : Array Value} {vl vu : Value} {lo hi : Option Int} {Q : Value → Shared → Prop} (ht : IsTup s.heap t items) (hs : s.heap.IsSliceOf sl vl vu .none) (pl : IsPart vl lo) (pu : IsPart vu hi)
    (hw : HT.sIx items.size 0 lo = 0 ∧ HT.sIx items.size items.size hi = items.size)
    (h : Q (.ref t) s) : wpAny (model prog w) A (getItem (.ref t) (.ref sl)) Q E s := by
  obtain ⟨os, hos, hcs, hds⟩ := id hs
  have hTs : s.TypeIs (.ref sl) "slice" := ⟨os, hos, hcs⟩
  unfold getItem
  try with_reducible refine wpAny_holding ?_
  first | refine wpAny_bind (wpAny_pure ?_) | skip
  refine wpAny_bind (wpAny_sequenceKey ht.typeIs (by decide) ?_)
  refine wpAny_bind (wpAny_callSpecial?_slot (name := Str.ofString "__getitem__") ht.typeIs PyProof.Rows.slot_tuple_getitem
    (wpAny_call_entry PyProof.Rows.slot_tuple_getitem ht.typeIs entry_tuple_getitem ?_ (args_tuple_getitem _ _)))
  show wpAny _ _ (Builtin.Tuple.tupleItemsOf (.ref t) >>= _) _ _ s
  refine wpAny_bind (tupleItemsOf_ ht ?_)
  refine wpAny_bind (wpAny_typeOf hTs ?_)
  rw [if_pos (by decide)]
  refine wpAny_bind (HT.sliceApplied_gen hs pl pu ?_)
  show wpAny _ _ (if (((HT.sIx items.size 0 lo : Nat) : Int) == 0 && (1 : Int) == 1 && (HT.sIx items.size items.size hi - HT.sIx items.size 0 lo) == items.size) = true then _ else _) _ _ s
  rw [if_pos (by rw [hw.1, hw.2]; simp)]
  refine wpAny_bind (m := Builtin.Tuple.tupleIsExact (.ref t)) (wpAny_bind (m := typeOf (.ref t)) (wpAny_typeOf ht.typeIs (wpAny_pure ?_)))
  rw [if_pos (by decide)]
  exact wpAny_bind (wpAny_rule (wpAny_pure ⟨_, rfl, wpAny_pure h⟩))
theorem sl_tupA {X : Cx} : SlR X (fun x lo hi H Q => ∃ a xs, x = .ref a ∧ SqT X.K H a xs ∧ (HT.sIx xs.length 0 lo = 0 ∧ HT.sIx xs.length xs.length hi = xs.length) ∧ Q (.ref a) H) := by
  intro pins s σ H x v vl vu lo hi sl Q I rx hs pl pu h
  obtain ⟨a, xs, rfl, hx, hw, q⟩ := h
  cases rx
  obtain ⟨its, r, ht, hz⟩ := I.tuple hx
  have hlen : its.toArray.size = xs.length := by rw [List.size_toArray]; exact r.length.symm
  refine ⟨"tuple", _, PyProof.Rows.slot_tuple_getitem.lookup, ht.typeIs, ?_⟩
  exact getItem_tuple_all ht hs pl pu (by rw [hlen]; exact hw) ⟨.ref a, H, I, rfl, q⟩
abbrev O3 := W → Option Int → Option Int → Mu → WK → Prop
def oSl : O3 := fun x lo hi μ Q => match x with
  | .p (.tuple xs) => Q (.p (.tuple (cut xs lo hi))) μ
  | .p (.str z) => z.length ≤ sizeLine ∧ Q (.p (.str (cutS z lo hi))) μ
  | x => match rlOf μ x with
    | some xs => Q (.p (.list (cut xs lo hi))) μ
    | none => False
def rdSl (K : PySem.W.Frag) (o : O3) : V → Option Int → Option Int → Hp → VK → Prop := fun x lo hi H Q => ∃ as μ w Q0, SimH K as μ H ∧ Rel K as H w x ∧ o w lo hi μ Q0 ∧ Aft K as H Q0 Q
structure GL (X : Cx) (o : O3) : Prop where go : SlR X (rdSl X.K o)
theorem gl_sl {X : Cx} : GL X oSl := ⟨by
  have base := ((sl_tup (X := X)).or sl_tupA).or (sl_list.or sl_str)
  intro pins s σ H x v vl vu lo hi sl Q I rx hs pl pu h
  refine base pins s σ H x v vl vu lo hi sl Q I rx hs pl pu ?_
  obtain ⟨as, μ, w, Q0, S, r1, q, A⟩ := h
  unfold oSl at q
  split at q
  · rename_i xs
    cases r1 with
    | tup t1 d1 =>
      refine .inl ?_
      rename_i a vs
      by_cases hw : HT.sIx vs.length 0 lo = 0 ∧ HT.sIx vs.length vs.length hi = vs.length
      · refine .inr ⟨_, _, rfl, t1.sq, hw, A.now S q ?_⟩
        rw [cut_whole xs (by rw [← d1.length]; exact hw.1) (by rw [← d1.length]; exact hw.2)]
        exact Dz.tup t1 d1
      · exact .inl ⟨_, _, rfl, t1.sq, hw, A.tup S (cut_dz d1 lo hi) q⟩
  · cases r1
    exact .inr (.inr ⟨_, rfl, q.1, A.now S q.2 (Dz.str _)⟩)
  · split at q
    · rename_i xs e
      obtain ⟨l1, v1, rfl, s1, d1⟩ := rlOf_sq S r1 e
      exact .inr (.inl ⟨_, _, rfl, s1, A.lst S (cut_dz d1 lo hi) q⟩)
    · exact q.elim⟩
abbrev SO := Rho → Mu → (Option Int → Mu → Prop) → Prop
def rdP (K : PySem.W.Frag) (f : SO) : TO := fun σ H Q => ∃ as ρ μ Q0, SimH K as μ H ∧ EnvOk K as H ρ σ ∧ f ρ μ Q0 ∧ ∀ o μ' as' H', Q0 o μ' → Stp as H as' H' → SimH K as' μ' H' → Q o H'
structure GP (X : Cx) (e : Option Expr) (f : SO) : Prop where go : PO X e (rdP X.K f)
def wNoP : SO := fun _ μ Q => Q none μ
def wP (f : SE) : SO := fun ρ μ Q => f ρ μ fun x μ1 => match x with | .p (.int i) => Q (some i) μ1 | _ => False
def wSl (o : O3) (fe : SE) (fl fh : SO) : SE := fun ρ μ Q => fe ρ μ fun x μ1 => fl ρ μ1 fun lo μ2 => fh ρ μ2 fun hi μ3 => o x lo hi μ3 Q
section
variable {X : Cx} {pos p2 : Pos} {e : Expr} {lo hi : Option Expr} {f : SE} {fl fh : SO} {o : O3}
theorem gp_none : GP X none wNoP := ⟨fun pins s σ H Q I ⟨as, ρ, μ, Q0, S, E, h, A⟩ => po_none pins s σ H Q I (A _ _ _ _ h (Stp.refl _ _) S)⟩
theorem gp_some (he : GE X e f) : GP X (some e) (wP f) := ⟨fun pins s σ H Q I ⟨as, ρ, μ, Q0, S, E, h, A⟩ => po_some he.go pins s σ H Q I ⟨as, ρ, μ, _, S, E, h, fun w μ1 as1 v H1 q s1 S1 r => by
  split at q
  · cases r
    exact ⟨_, rfl, A _ _ _ _ q s1 S1⟩
  · exact q.elim⟩⟩
theorem ge_sl (ho : GL X o) (he : GE X e f) (hl : GP X lo fl) (hu : GP X hi fh) : GE X (.Subscript e (.Slice lo hi none p2) pos) (wSl o f fl fh) := ⟨PE_imp (pe_slice ho.go he.go hl.go hu.go) fun σ H Q ⟨as, ρ, μ, Q0, S, E, h, A⟩ =>
  ⟨as, ρ, μ, _, S, E, h, fun w μ1 as1 v H1 q1 s1 S1 r1 => ⟨as1, ρ, μ1, _, S1, E.mono s1, q1, fun l μ2 as2 H2 q2 s2 S2 => ⟨as2, ρ, μ2, _, S2, (E.mono s1).mono s2, q2, fun u μ3 as3 H3 q3 s3 S3 =>
    ⟨as3, μ3, w, Q0, S3, r1.mono (s2.trans s3), q3, (A.mono s1).mono (s2.trans s3)⟩⟩⟩⟩⟩
end
def aNil : SA := fun _ μ Q => Q [] μ
def aCons (f : SE) (g : SA) : SA := fun ρ μ Q => f ρ μ fun x μ1 => g ρ μ1 fun xs μ2 => Q (x :: xs) μ2
def pdOf : List W → Option (List PyData)
  | [] => some []
  | .p d :: r => (pdOf r).map (d :: ·)
  | _ :: _ => none
theorem pdOf_dz {K : PySem.W.Frag} {as : Cs} {H : Hp} : ∀ {ws : List W} {vs : List V} {ds : List PyData}, Rels K as H ws vs → pdOf ws = some ds → DzAll K as H vs ds
  | [], _, _, .nil, e => by cases e; exact .nil
  | .p d :: r, _, _, .cons h t, e => by
    simp only [pdOf, Option.map_eq_some_iff] at e
    obtain ⟨ds, e1, rfl⟩ := e
    exact .cons h (pdOf_dz t e1)
  | .r _ :: _, _, _, .cons h t, e => by cases e
  | .t _ :: _, _, _, .cons h t, e => by cases e
  | .s _ :: _, _, _, .cons h t, e => by cases e
  | .q _ _ :: _, _, _, .cons h t, e => by cases e
def wTup (f : SA) : SE := fun ρ μ Q => f ρ μ fun ws μ1 => match pdOf ws with | some ds => ds.length ≤ sizeLine ∧ Q (.p (.tuple ds)) μ1 | none => False
def wLst (f : SA) : SE := fun ρ μ Q => f ρ μ fun ws μ1 => match pdOf ws with | some ds => ds.length ≤ sizeLine ∧ Q (.p (.list ds)) μ1 | none => False
def wNew (f : SA) : SE := fun ρ μ Q => f ρ μ fun ws μ1 => match pdOf ws with | some ds => ds.length ≤ sizeLine ∧ Q (.r μ1.length) (μ1 ++ [.lst ds]) | none => False
section
variable {X : Cx} {pos : Pos} {e : Expr} {es : List Expr} {f : SE} {g : SA}
theorem ga_nil : GA X [] aNil := ⟨PA_imp pa_nil fun σ H Q ⟨as, ρ, μ, Q0, S, E, h, A⟩ => A _ _ _ _ _ h (Stp.refl _ _) S .nil⟩
theorem ga_cons (ha : GE X e f) (hr : GA X es g) (hs : starEach (e :: es) X.env = (false, eval e X.env) :: starEach es X.env := by rfl) : GA X (e :: es) (aCons f g) := ⟨PA_imp (pa_cons ha.go hr.go hs) fun σ H Q ⟨as, ρ, μ, Q0, S, E, h, A⟩ =>
  ⟨as, ρ, μ, _, S, E, h, fun w μ1 as1 v H1 q1 s1 S1 r1 => ⟨as1, ρ, μ1, _, S1, E.mono s1, q1, fun ws μ2 as2 vs H2 q2 s2 S2 r2 => A _ _ _ _ _ q2 (s1.trans s2) S2 (.cons (r1.mono s2) r2)⟩⟩⟩
theorem ge_tup {x1} (h : GA X es g) : GE X (.Tuple es x1 pos) (wTup g) := ⟨PE_imp (pe_tup h.go) fun σ H Q ⟨as, ρ, μ, Q0, S, E, h, A⟩ =>
  ⟨as, ρ, μ, _, S, E, h, fun ws μ1 as1 vs H1 q1 s1 S1 r1 => by
    split at q1
    · rename_i ds e
      have d := pdOf_dz r1 e
      exact ⟨by rw [d.length]; exact q1.1, (A.mono s1).tup S1 d q1.2⟩
    · exact q1.elim⟩⟩
theorem ge_lst (h : GA X es g) : GE X (.List es pos) (wLst g) := ⟨PE_imp (pe_lst h.go) fun σ H Q ⟨as, ρ, μ, Q0, S, E, h, A⟩ =>
  ⟨as, ρ, μ, _, S, E, h, fun ws μ1 as1 vs H1 q1 s1 S1 r1 => by
    split at q1
    · rename_i ds e
      have d := pdOf_dz r1 e
      exact ⟨by rw [d.length]; exact q1.1, (A.mono s1).lst S1 d q1.2⟩
    · exact q1.elim⟩⟩
theorem ge_new (h : GA X es g) : GE X (.List es pos) (wNew g) := ⟨PE_imp (pe_lst h.go) fun σ H Q ⟨as, ρ, μ, Q0, S, E, h, A⟩ =>
  ⟨as, ρ, μ, _, S, E, h, fun ws μ1 as1 vs H1 q1 s1 S1 r1 => by
    split at q1
    · rename_i ds e
      have d := pdOf_dz r1 e
      exact ⟨by rw [d.length]; exact q1.1, (A.mono s1).new S1 d q1.2⟩
    · exact q1.elim⟩⟩
end
abbrev SpW := List W → Mu → WK → Prop
def rdSp (K : PySem.W.Frag) (sp : SpW) : Sp := fun vs H Q _ => ∃ as μ ws Q0, SimH K as μ H ∧ Rels K as H ws vs ∧ sp ws μ Q0 ∧ Aft K as H Q0 Q
def rdC (K : PySem.W.Frag) (sp : SpW) : List V → Hp → VK → Prop := fun vs H Q => ∃ as μ ws Q0, SimH K as μ H ∧ Rels K as H ws vs ∧ sp ws μ Q0 ∧ Aft K as H Q0 Q
def wCall (sp : SpW) (g : SA) : SE := fun ρ μ Q => g ρ μ fun ws μ1 => sp ws μ1 Q
structure GC (X : Cx) (f : Value) (sp : SpW) : Prop where go : CallR X f (rdC X.K sp)
theorem CallR_imp {X : Cx} {f : Value} {r r' : List V → Hp → VK → Prop} (h : CallR X f r) (k : ∀ vs H Q, r' vs H Q → r vs H Q) : CallR X f r' := fun pins s σ H xs us Q I rx q => h pins s σ H xs us Q I rx (k xs H Q q)
section
variable {X : Cx} {CX : CXT} {k : Nat} {f : Addr} {fd : FuncData} {ps : List Str} {sp : SpW} {x : Str} {p pos : Pos} {e : Expr} {es : List Expr} {g : SA} {E : XK} {id T : String}
theorem ge_call (F : FnOk X.prog X.w X.K X.mg X.base CX k f fd ps (rdSp X.K sp)) (hr : Room k X.A) (hg : Gl X x) (hm : X.mg x = some (.ref f)) (hk : PySem.W.keepIn X.K (.ref f) = true) (hb : Binds X.K fd ps []) (hx : Passes CX X E)
    (ha : GA X (e :: es) g) (hdb : (x == ("__debug__" : Str)) = false := by decide) (he : starEach (e :: es) X.env = (false, eval e X.env) :: starEach es X.env := by rfl) (hpl : (backTo pos (starEach es X.env)).any (·.1) = false := by rfl) :
    GE X (.Call (.Name x p) (e :: es) [] pos) (wCall sp g) := ⟨PE_imp (pe_call F hr hg hm hk hb .nil hx ha.go hdb he hpl) fun σ H Q ⟨as, ρ, μ, Q0, S, En, h, A⟩ =>
  ⟨as, ρ, μ, _, S, En, h, fun ws μ1 as1 vs H1 q1 s1 S1 r1 => ⟨as1, μ1, ws, Q0, S1, by rw [List.append_nil]; exact r1, q1, A.mono s1⟩⟩⟩
theorem ge_callB (hc : GC X (.builtin id) sp) (hg : Gl X x) (hm : X.mg x = none) (hv : bootBuiltins x = some (.builtin id)) (ha : GA X (e :: es) g) (hn : x ≠ "__name__" := by decide) (hdb : (x == ("__debug__" : Str)) = false := by decide)
    (he : starEach (e :: es) X.env = (false, eval e X.env) :: starEach es X.env := by rfl) (hpl : (backTo pos (starEach es X.env)).any (·.1) = false := by rfl) : GE X (.Call (.Name x p) (e :: es) [] pos) (wCall sp g) := ⟨PE_imp (pe_callB hc.go hg hm hv ha.go hn hdb he hpl) fun σ H Q ⟨as, ρ, μ, Q0, S, En, h, A⟩ =>
  ⟨as, ρ, μ, _, S, En, h, fun ws μ1 as1 vs H1 q1 s1 S1 r1 => ⟨as1, μ1, ws, Q0, S1, r1, q1, A.mono s1⟩⟩⟩
theorem ge_callTy (hc : GC X (.type T) sp) (hg : Gl X x) (hm : X.mg x = none) (hv : bootBuiltins x = some (.type T)) (ha : GA X (e :: es) g) (hn : x ≠ "__name__" := by decide) (hdb : (x == ("__debug__" : Str)) = false := by decide)
    (he : starEach (e :: es) X.env = (false, eval e X.env) :: starEach es X.env := by rfl) (hpl : (backTo pos (starEach es X.env)).any (·.1) = false := by rfl) : GE X (.Call (.Name x p) (e :: es) [] pos) (wCall sp g) := ⟨PE_imp (pe_callTy hc.go hg hm hv ha.go hn hdb he hpl) fun σ H Q ⟨as, ρ, μ, Q0, S, En, h, A⟩ =>
  ⟨as, ρ, μ, _, S, En, h, fun ws μ1 as1 vs H1 q1 s1 S1 r1 => ⟨as1, μ1, ws, Q0, S1, r1, q1, A.mono s1⟩⟩⟩
def wTy (T : String) : SE := fun _ μ Q => Q (.t T) μ
theorem ge_ty (hg : Gl X x) (hm : X.mg x = none) (hv : bootBuiltins x = some (.type T)) (hn : x ≠ "__name__" := by decide) (hdb : (x == ("__debug__" : Str)) = false := by decide) : GE X (.Name x pos) (wTy T) :=
  ⟨PE_imp (pe_bltn (v := .ty T) hg hm hv rfl hn hdb) fun σ H Q ⟨as, ρ, μ, Q0, S, En, h, A⟩ => A.now S h rfl⟩
end
end L2.Ev
namespace L2.Ev
open PySem PySem.Spec PyProof.Rows
def sNext : SS := fun F ρ μ => F.nx ρ μ
def sSeq (t u : SS) : SS := fun F ρ μ => t { F with nx := u F } ρ μ
def sDrop (f : SE) : SS := fun F ρ μ => f ρ μ fun _ μ1 => F.nx ρ μ1
def sRet (f : SE) : SS := fun F ρ μ => f ρ μ F.rt
def sRetN : SS := fun F _ μ => F.rt (.p .none) μ
def sIf (c : ST) (t u : SS) : SS := fun F ρ μ => c ρ μ fun b μ1 => if b = true then t F ρ μ1 else u F ρ μ1
section
variable {X : Cx} {st : Stmt} {rest : List Stmt} {t u : SS} {e : Expr} {f : SE} {pos : Pos}
theorem gb_nil : GB X [] sNext := ⟨PSs_imp pss_nil fun D σ H ⟨as, ρ, μ, F, S, E, h, A⟩ => A.1 _ _ _ _ _ h (Stp.refl _ _) S E⟩
theorem gb_cons (h1 : GS X st t) (h2 : GB X rest u) : GB X (st :: rest) (sSeq t u) := ⟨PSs_imp (pss_cons h1.go h2.go) fun D σ H ⟨as, ρ, μ, F, S, E, h, A⟩ =>
  ⟨as, ρ, μ, _, S, E, h, fun ρ1 μ1 as1 σ1 H1 q1 s1 S1 E1 => ⟨as1, ρ1, μ1, F, S1, E1, q1, A.mono s1⟩, A.2.1, A.2.2.1, A.2.2.2⟩⟩
theorem gb_one (h1 : GS X st t) : GB X [st] t := ⟨pss_one h1.go⟩
theorem gs_expr (he : GE X e f) (hs : swapsWith e none pos.line X.env = pure false := by rfl) : GS X (.Expr e pos) (sDrop f) := ⟨PS_imp (ps_expr he.go hs) fun D σ H ⟨as, ρ, μ, F, S, E, h, A⟩ =>
  ⟨as, ρ, μ, _, S, E, h, fun w μ1 as1 v H1 q1 s1 S1 r1 => A.1 _ _ _ _ _ q1 s1 S1 (E.mono s1)⟩⟩
theorem gs_ret (he : GE X e f) : GS X (.Return (some e) pos) (sRet f) := ⟨PS_imp (ps_ret he.go) fun D σ H ⟨as, ρ, μ, F, S, E, h, A⟩ =>
  ⟨as, ρ, μ, _, S, E, h, fun w μ1 as1 v H1 q1 s1 S1 r1 => A.2.1 _ _ _ _ _ q1 s1 S1 r1⟩⟩
theorem gs_if {c : Expr} {a b : List Stmt} {tc : ST} (hc : GT X c tc) (ha : GB X a t) (hb : GB X b u) : GS X (.If c a b pos) (sIf tc t u) := ⟨PS_imp (ps_if hc.go ha.go hb.go) fun D σ H ⟨as, ρ, μ, F, S, E, h, A⟩ =>
  ⟨as, ρ, μ, _, S, E, h, fun d μ1 as1 H1 q1 s1 S1 => by
    cases d with
    | true => exact ⟨as1, ρ, μ1, F, S1, E.mono s1, q1, A.mono s1⟩
    | false => exact ⟨as1, ρ, μ1, F, S1, E.mono s1, q1, A.mono s1⟩⟩⟩
end
abbrev SG := W → Rho → Mu → (Rho → Mu → Prop) → Prop
abbrev SGs := List PyData → Rho → Mu → (Rho → Mu → Prop) → Prop
def rdG (K : PySem.W.Frag) (g : SG) : TG := fun v σ H Q => ∃ as ρ μ w Q0, SimH K as μ H ∧ EnvOk K as H ρ σ ∧ Rel K as H w v ∧ g w ρ μ Q0 ∧ ∀ ρ' μ' as' σ' H', Q0 ρ' μ' → Stp as H as' H' → SimH K as' μ' H' → EnvOk K as' H' ρ' σ' → Q σ' H'
def rdGs (K : PySem.W.Frag) (g : SGs) : TGs := fun vs σ H Q => ∃ as ρ μ ds Q0, SimH K as μ H ∧ EnvOk K as H ρ σ ∧ DzAll K as H vs ds ∧ g ds ρ μ Q0 ∧ ∀ ρ' μ' as' σ' H', Q0 ρ' μ' → Stp as H as' H' → SimH K as' μ' H' → EnvOk K as' H' ρ' σ' → Q σ' H'
structure GG (X : Cx) (e : Expr) (g : SG) : Prop where go : PG X e (rdG X.K g)
structure GGs (X : Cx) (es : List Expr) (g : SGs) : Prop where go : PGs X es (rdGs X.K g)
theorem PG_imp {X : Cx} {e : Expr} {t t' : TG} (h : PG X e t) (k : ∀ v σ H Q, t' v σ H Q → t v σ H Q) : PG X e t' := fun pins s σ H v u Q I r q => h pins s σ H v u Q I r (k v σ H Q q)
theorem PGs_imp {X : Cx} {e : List Expr} {t t' : TGs} (h : PGs X e t) (k : ∀ v σ H Q, t' v σ H Q → t v σ H Q) : PGs X e t' := fun pins s σ H v u Q I r q => h pins s σ H v u Q I r (k v σ H Q q)
def nName (i : Nat) : SG := fun w ρ μ Q => Q (ρ.set i (some w)) μ
def nNil : SGs := fun ds ρ μ Q => match ds with | [] => Q ρ μ | _ => False
def nCons (g : SG) (h : SGs) : SGs := fun ds ρ μ Q => match ds with | d :: r => g (.p d) ρ μ fun ρ1 μ1 => h r ρ1 μ1 Q | _ => False
def nTup (n : Nat) (h : SGs) : SG := fun w ρ μ Q => match w with | .p (.tuple ds) => ds.length = n ∧ h ds ρ μ Q | _ => False
section
variable {X : Cx} {pos : Pos} {e : Expr} {es : List Expr} {g : SG} {h : SGs} {f : SE}
theorem gg_name {i : Nat} {x : Str} (hp : PG X (.Name x pos) (gName i)) : GG X (.Name x pos) (nName i) := ⟨PG_imp hp fun v σ H Q ⟨as, ρ, μ, w, Q0, S, E, r, q, A⟩ => A _ _ _ _ _ q (Stp.refl _ _) S (E.set r i)⟩
theorem ggs_nil : GGs X [] nNil := ⟨PGs_imp pgs_nil fun v σ H Q ⟨as, ρ, μ, ds, Q0, S, E, r, q, A⟩ => by
  unfold nNil at q
  split at q
  · cases r
    exact ⟨rfl, A _ _ _ _ _ q (Stp.refl _ _) S E⟩
  · exact q.elim⟩
theorem ggs_cons (h1 : GG X e g) (h2 : GGs X es h) (hs : (assignEach (e :: es) X.env).map (·.2) = assign e X.env :: (assignEach es X.env).map (·.2) := by rfl) : GGs X (e :: es) (nCons g h) := ⟨PGs_imp (pgs_cons h1.go h2.go hs) fun v σ H Q ⟨as, ρ, μ, ds, Q0, S, E, r, q, A⟩ => by
  unfold nCons at q
  split at q
  · cases r with
    | cons r1 r2 =>
      exact ⟨_, _, rfl, as, ρ, μ, .p _, _, S, E, r1, q, fun ρ1 μ1 as1 σ1 H1 q1 s1 S1 E1 => ⟨as1, ρ1, μ1, _, Q0, S1, E1, r2.mono s1, q1, fun ρ' μ' as' σ' H' q' s' => A ρ' μ' as' σ' H' q' (s1.trans s')⟩⟩
  · exact q.elim⟩
theorem gg_tup {k : Nat} {n : Nat} (hc : X.calm = true) (hh : GGs X es h) (hn : (assignEach es X.env).length = n := by rfl) (hst : (assignEach es X.env).findIdx? (·.1) = none := by rfl) : GG X (.Tuple es k pos) (nTup n h) := ⟨PG_imp (pg_tup hc hh.go hn hst) fun v σ H Q ⟨as, ρ, μ, w, Q0, S, E, r, q, A⟩ => by
  unfold nTup at q
  split at q
  · cases r with
    | tup t d => exact ⟨_, _, rfl, t.sq, by rw [d.length]; exact q.1, as, ρ, μ, _, Q0, S, E, d, q.2, A⟩
  · exact q.elim⟩
def sAsg (f : SE) (g : SG) : SS := fun F ρ μ => f ρ μ fun x μ1 => g x ρ μ1 F.nx
theorem rdS_asg {K : PySem.W.Frag} {D : Ends} {σ : St} {H : Hp} (h : rdS K (sAsg f g) D σ H) : tAsg (rdE K f) (rdG K g) D σ H := by
  obtain ⟨as, ρ, μ, F, S, E, h, A⟩ := h
  exact ⟨as, ρ, μ, _, S, E, h, fun w μ1 as1 v H1 q1 s1 S1 r1 => ⟨as1, ρ, μ1, w, _, S1, E.mono s1, r1, q1, fun ρ' μ' as' σ' H' q' s' => A.1 ρ' μ' as' σ' H' q' (s1.trans s')⟩⟩
theorem gs_asg {tg : Expr} (he : GE X e f) (hg : GG X tg g) (hs : swapsWithSole [tg] e pos.line X.env = pure false := by rfl) (hw : swappedStores [tg] e X.env = pure none := by rfl)
    (h1 : (assignEach [tg] X.env).map (·.2) = [assign tg X.env] := by rfl) : GS X (.Assign [tg] e pos) (sAsg f g) := ⟨PS_imp (ps_asg he.go hg.go hs hw h1) fun D σ H h => rdS_asg h⟩
def sSet (i : Nat) (f : SE) : SS := fun F ρ μ => f ρ μ fun x μ1 => F.nx (ρ.set i (some x)) μ1
theorem rdS_set {K : PySem.W.Frag} {i : Nat} {D : Ends} {σ : St} {H : Hp} (h : rdS K (sSet i f) D σ H) : tAsg (rdE K f) (gName i) D σ H := by
  obtain ⟨as, ρ, μ, F, S, E, h, A⟩ := h
  exact ⟨as, ρ, μ, _, S, E, h, fun w μ1 as1 v H1 q1 s1 S1 r1 => A.1 _ _ _ _ _ q1 s1 S1 ((E.mono s1).set r1 i)⟩
theorem gs_set {i : Nat} {x : Str} {pos' : Pos} (hN : X.N.Nodup) (hi : X.N[i]? = some x) (hx : Loc X.env.scope x) (he : GE X e f) (hs : swapsWith e (some (.Name x pos')) pos.line X.env = pure false := by rfl) (hf : X.fn x = true ∨ X.env.scope.names.lookup x = some .local := by first | exact .inl rfl | exact .inr rfl | assumption) :
    GS X (.Assign [.Name x pos'] e pos) (sSet i f) := ⟨PS_imp (ps_set hN hi hx he.go hs hf) fun D σ H h => rdS_set h⟩
end
abbrev O3S := W → W → W → Mu → (Mu → Prop) → Prop
def oSet : O3S := fun o i v μ Q => match o, i, v with
  | .r n, .p (.int k), .p d => match μ[n]? with
    | some (.lst xs) => match ixN xs.length k with | some j => Q (μ.set n (.lst (xs.set j d))) | none => False
    | _ => False
  | _, _, _ => False
def nSub (fo fi : SE) : SG := fun w ρ μ Q => fo ρ μ fun o μ1 => fi ρ μ1 fun i μ2 => oSet o i w μ2 fun μ3 => Q ρ μ3
section
variable {X : Cx} {pos : Pos} {o i : Expr} {fo fi : SE}
theorem gg_sub (ho : GE X o fo) (hi : GE X i fi) (ha : ∀ v, assign (.Subscript o i pos) X.env v = (do
      let ov ← holding [v] (eval o X.env)
      let iv ← holding [v, ov] (eval i X.env)
      standAt pos
      holding [v, ov, iv] (setItem ov iv v)
      release [v, ov, iv] []) := by intro _; rfl) : GG X (.Subscript o i pos) (nSub fo fi) := ⟨PG_imp (pg_sub ho.go hi.go set_list ha) fun v σ H Q ⟨as, ρ, μ, w, Q0, S, E, r, q, A⟩ =>
  ⟨as, ρ, μ, _, S, E, q, fun w1 μ1 as1 v1 H1 q1 s1 S1 r1 => ⟨as1, ρ, μ1, _, S1, E.mono s1, q1, fun w2 μ2 as2 v2 H2 q2 s2 S2 r2 => by
    unfold oSet at q2
    split at q2
    · rename_i n k d
      split at q2
      · rename_i xs hc
        split at q2
        · rename_i j hj
          have r1' := r1.mono s2
          obtain ⟨a, rfl, ha⟩ := r1'
          cases r2
          obtain ⟨vs, h1, h2⟩ := S2.cell n a _ ha hc
          have rv : Dz X.K as2 H2 v d := (r.mono s1).mono s2
          have hm := List.mem_of_getElem? ha
          refine ⟨a, vs, k, j, rfl, rfl, h1, by rw [h2.length]; exact hj, A _ _ as2 _ _ q2 (s1.trans (s2.trans (Stp.write hm _))) (S2.write ha _ _ ⟨_, upd_same, (h2.set rv j).mono (Stp.write hm _)⟩) ((E.mono s1).mono (s2.trans (Stp.write hm _)))⟩
        · exact q2.elim
      · exact q2.elim
    · exact q2.elim⟩⟩⟩
end
end L2.Ev
namespace L2.Ev
open PySem PySem.Spec PyProof.Rows
structure Grow (as : Cs) (H : Hp) (as' : Cs) (H' : Hp) : Prop where
  pre : ∃ t, as'.as = as.as ++ t
  keep : ∀ a o, nt o → H a = some o → a ∉ as.ao → a ∉ as'.ao ∧ H' a = some o
  preo : ∃ t, as'.own = as.own ++ t
  frz : ∀ a o u, H a = some (.frz o u) → H' a = some (.frz o u)
  out : ∀ a o, nt o → H a = some o → a ∉ as → a ∉ as'
theorem Stp.grow {as as' : Cs} {H H' : Hp} (s : Stp as H as' H') : Grow as H as' H' := ⟨s.pre, s.keep, s.preo, s.frz, fun a o w h n q => by
  rcases Cs.mem_iff.mp q with z | z
  · exact n (Cs.mem_iff.mpr (.inl (by rw [← s.hid]; exact z)))
  · exact (s.keep a o w h (fun y => n (Cs.mem_iff.mpr (.inr y)))).1 z⟩
theorem Grow.trans {as as' as'' : Cs} {H H' H'' : Hp} (h : Grow as H as' H') (k : Grow as' H' as'' H'') : Grow as H as'' H'' := by
  obtain ⟨t, e⟩ := h.pre
  obtain ⟨u, e'⟩ := k.pre
  obtain ⟨t2, e2⟩ := h.preo
  obtain ⟨u2, e2'⟩ := k.preo
  refine ⟨⟨t ++ u, by rw [e', e, List.append_assoc]⟩, fun a o w q n => ?_, ⟨t2 ++ u2, by rw [e2', e2, List.append_assoc]⟩, fun a o u e => k.frz a o u (h.frz a o u e), fun a o w q n => ?_⟩
  · obtain ⟨n1, q1⟩ := h.keep a o w q n
    exact k.keep a o w q1 n1
  · have n1 := h.out a o w q n
    have q1 := (h.keep a o w q (fun y => n (Cs.mem_iff.mpr (.inr y)))).2
    exact k.out a o w q1 n1
theorem Grow.ownAt {as as' : Cs} {H H' : Hp} (h : Grow as H as' H') {j : Nat} {p : Addr × Nat} (e : as.own[j]? = some p) : as'.own[j]? = some p := by
  obtain ⟨t, e'⟩ := h.preo
  rw [e', List.getElem?_append_left (List.getElem?_eq_some_iff.mp e).1]; exact e
theorem Grow.rd {as as' : Cs} {H H' : Hp} (h : Grow as H as' H') {a : Addr} {u : HO} (w : nt u) (n : a ∉ as) (r : Rd H a u) : a ∉ as' ∧ Rd H' a u := by
  have n1 : a ∉ as.ao := fun y => n (Cs.mem_iff.mpr (.inr y))
  rcases r with r | ⟨o, r⟩
  · exact ⟨h.out _ _ w r n, .inl (h.keep _ _ w r n1).2⟩
  · exact ⟨h.out _ _ nt_frz r n, .inr ⟨o, (h.keep _ _ nt_frz r n1).2⟩⟩
theorem Grow.fz {as as' : Cs} {H H' : Hp} (h : Grow as H as' H') {a : Addr} {u : HO} (n : a ∉ as) (r : Fz H a u) : a ∉ as' ∧ Fz H' a u := by
  obtain ⟨o, r⟩ := r
  exact ⟨h.out _ _ nt_frz r n, ⟨o, (h.keep _ _ nt_frz r (fun y => n (Cs.mem_iff.mpr (.inr y)))).2⟩⟩
theorem TzT.grow {K : PySem.W.Frag} {as as' : Cs} {H H' : Hp} {a : Addr} {xs : List V} (s : Grow as H as' H') (h : TzT K as H a xs) : TzT K as' H' a xs := by
  rcases h with ⟨n, h⟩ | h
  · exact .inl (s.rd nt_tup n h)
  · exact .inr h
theorem SzL.grow {K : PySem.W.Frag} {as as' : Cs} {H H' : Hp} {a : Addr} {xs : List V} (s : Grow as H as' H') (h : SzL K as H a xs) : SzL K as' H' a xs := by
  rcases h with ⟨n, h⟩ | h
  · exact .inl (s.rd nt_lst n h)
  · exact .inr h
mutual
theorem Dz.grow {K : PySem.W.Frag} {as as' : Cs} {H H' : Hp} (s : Grow as H as' H') : ∀ {v : V} {d : PyData}, Dz K as H v d → Dz K as' H' v d
  | _, _, .non => .non
  | _, _, .bl b => .bl b
  | _, _, .int i => .int i
  | _, _, .str x => .str x
  | _, _, .lst t a => .lst (s.rd nt_lst t.1 t.2) (DzAll.grow s a)
  | _, _, .tup t a => .tup (t.grow s) (DzAll.grow s a)
  | _, _, .dct n r k a => .dct (s.fz n r).1 (s.fz n r).2 k (DzAll.grow s a)
theorem DzAll.grow {K : PySem.W.Frag} {as as' : Cs} {H H' : Hp} (s : Grow as H as' H') : ∀ {vs : List V} {ds : List PyData}, DzAll K as H vs ds → DzAll K as' H' vs ds
  | _, _, .nil => .nil
  | _, _, .cons h t => .cons (Dz.grow s h) (DzAll.grow s t)
end
theorem Rel.grow {K : PySem.W.Frag} {as as' : Cs} {H H' : Hp} (s : Grow as H as' H') {w : W} {v : V} (h : Rel K as H w v) : Rel K as' H' w v := by
  cases w with
  | p d => exact Dz.grow s h
  | r n =>
    obtain ⟨a, e, q⟩ := h
    obtain ⟨t, e'⟩ := s.pre
    refine ⟨a, e, ?_⟩
    rw [e', List.getElem?_append_left (List.getElem?_eq_some_iff.mp q).1]
    exact q
  | t n => exact h
  | s ds => obtain ⟨a, vs, e, h1, h2⟩ := h; exact ⟨a, vs, e, h1.grow s, h2.grow s⟩
  | u ns =>
    obtain ⟨a, vs, e, h1, h2, h3⟩ := h
    refine ⟨a, vs, e, (s.rd nt_tup h1 h2).1, (s.rd nt_tup h1 h2).2, ?_⟩
    obtain ⟨t, e'⟩ := s.pre
    clear h1 h2 e
    induction h3 with
    | nil => exact .nil
    | cons e0 _ ih => exact .cons (by rw [e', List.getElem?_append_left (List.getElem?_eq_some_iff.mp e0).1]; exact e0) ih
  | q n j => obtain ⟨b, e, q⟩ := h; exact ⟨b, e, s.ownAt q⟩
theorem SubOk.grow {K : PySem.W.Frag} {as as' : Cs} {H H' : Hp} {n : Nat} {v : V} (s : Grow as H as' H') (eo : ∀ (j : Nat) (b : Addr), as.own[j]? = some (b, n) → H' b = H b) {u : Sub} (h : SubOk K as H n v u) : SubOk K as' H' n v u := by
  cases u with
  | d x => exact Dz.grow s h
  | l j xs => obtain ⟨b, vs, e, q, h1, h2⟩ := h; exact ⟨b, vs, e, s.ownAt q, (eo _ _ q).trans h1, h2.grow s⟩
  | k j xs => obtain ⟨b, vs, e, q, h1, h3, h2⟩ := h; exact ⟨b, vs, e, s.ownAt q, (eo _ _ q).trans h1, h3, h2.grow s⟩
theorem SubsOk.grow {K : PySem.W.Frag} {as as' : Cs} {H H' : Hp} {n : Nat} (s : Grow as H as' H') (eo : ∀ (j : Nat) (b : Addr), as.own[j]? = some (b, n) → H' b = H b) {vs : List V} {us : List Sub} (h : SubsOk K as H n vs us) : SubsOk K as' H' n vs us := by
  induction h with
  | nil => exact .nil
  | cons h _ ih => exact .cons (h.grow s eo) ih
theorem EnvOk.grow {K : PySem.W.Frag} {as as' : Cs} {H H' : Hp} {ρ : Rho} {σ : St} (s : Grow as H as' H') (h : EnvOk K as H ρ σ) : EnvOk K as' H' ρ σ :=
  ⟨h.1, fun i w e => let ⟨v, h1, h2⟩ := h.2 i w e; ⟨v, h1, h2.grow s⟩⟩
theorem Cok.grow {K : PySem.W.Frag} {as as' : Cs} {H H' : Hp} {n : Nat} {a : Addr} (s : Grow as H as' H') (e : H' a = H a) (eo : ∀ (j : Nat) (b : Addr), as.own[j]? = some (b, n) → H' b = H b) {c : Cell} (h : Cok K as H n a c) : Cok K as' H' n a c := by
  cases c with
  | lst ds => obtain ⟨vs, h1, h2⟩ := h; exact ⟨vs, e.trans h1, h2.grow s⟩
  | dk ds => obtain ⟨vs, h1, h2, h3⟩ := h; exact ⟨vs, e.trans h1, h2, h3.grow s⟩
  | lw ds =>
    obtain ⟨vs, h1, h2, h3⟩ := h
    refine ⟨vs, e.trans h1, ?_, h3⟩
    clear h1 h3
    induction h2 with
    | nil => exact .nil
    | cons r _ ih => exact .cons (r.grow s) ih
  | dn ds => obtain ⟨vs, h1, h2, h3, h4⟩ := h; exact ⟨vs, e.trans h1, h2, h3.grow s eo, h4⟩
  | ln ds => obtain ⟨vs, h1, h2, h3⟩ := h; exact ⟨vs, e.trans h1, h2.grow s eo, h3⟩
  | dt ds => obtain ⟨vs, h1, h2, h3⟩ := h; exact ⟨vs, e.trans h1, h2, h3.grow s⟩
  | zk ds => obtain ⟨vs, ⟨o, h1⟩, h2, h3⟩ := h; exact ⟨vs, ⟨o, e.trans h1⟩, h2, h3.grow s⟩
  | zn ds => obtain ⟨vs, ⟨o, h1⟩, h2, h3, h4⟩ := h; exact ⟨vs, ⟨o, e.trans h1⟩, h2, h3.grow s eo, h4⟩
  | zt ds => obtain ⟨vs, ⟨o, h1⟩, h2, h3⟩ := h; exact ⟨vs, ⟨o, e.trans h1⟩, h2, h3.grow s⟩
structure Walks (K : PySem.W.Frag) (as1 : Cs) (H1 : Hp) (xs : List PyData) (ok : Mu → Prop) (J : It) : Prop where
  go : ∀ i d as μ H, Grow as1 H1 as H → SimH K as μ H → ok μ → xs[i]? = some d → J.go i H
  stop : ∀ i as μ H, Grow as1 H1 as H → SimH K as μ H → ok μ → xs.length ≤ i → J.stop i H
  yld : ∀ i d as μ H v H', Grow as1 H1 as H → SimH K as μ H → ok μ → xs[i]? = some d → J.yld i H v H' → Stp as H as H' ∧ SimH K as μ H' ∧ Dz K as H' v d
abbrev SI := Rho → Mu → (List PyData → (Mu → Prop) → Mu → Prop) → Prop
def rdI (K : PySem.W.Frag) (it : SI) : TI := fun σ H R => ∃ as ρ μ Q0, SimH K as μ H ∧ EnvOk K as H ρ σ ∧ it ρ μ Q0 ∧ ∀ xs ok μ' as' H' J, Q0 xs ok μ' → Stp as H as' H' → SimH K as' μ' H' → Walks K as' H' xs ok J → R J H'
structure GIt (X : Cx) (tg iter : Expr) (it : SI) : Prop where go : PI X tg iter (rdI X.K it)
theorem PI_imp {X : Cx} {tg e : Expr} {t t' : TI} (h : PI X tg e t) (k : ∀ σ H R, t' σ H R → t σ H R) : PI X tg e t' := fun pins s σ H R I q => h pins s σ H R I (k σ H R q)
theorem pi_seq {X : Cx} {tg l : Expr} {tl : TE} (hl : PE X l tl) : PI X tg l (fun σ H R => tl σ H fun x H1 => (∃ a, x = .ref a ∧ (∃ xs, SqL X.K H1 a xs) ∧ R (Itl X.K a) H1) ∨ (∃ a, x = .ref a ∧ (∃ xs, SqT X.K H1 a xs) ∧ R (Itt X.K a) H1) ∨ ∃ z, x = .str z ∧ R (Its z) H1) := by
  intro pins s σ H R I h
  refine thn (hl pins s σ H _ I h) fun v s1 ⟨x, H1, I1, r1, q1⟩ => ?_
  rcases q1 with ⟨a, e, ⟨xs, hq⟩, q⟩ | ⟨a, e, ⟨xs, hq⟩, q⟩ | ⟨x, ex, q⟩
  · subst e
    cases r1
    obtain ⟨its, rv, p, hz⟩ := I1.list hq
    refine wpAny_pyIter_list p.isList ?_
    refine ⟨s1.heap.objs.size, [s1.heap.objs.size], _, _, H1, rfl, I1.kept (t' := s1.toks) fun b o e => Heap.get?_push_of_some _ e, turn_list a _, ⟨_, Heap.get?_push_size _ rfl, rfl, rfl⟩, fun b hb => ?_, q⟩
    have e : b = s1.heap.objs.size := by simpa using hb
    subst e
    exact I1.fpOk (Nat.le_refl _) (I1.hok.fresh (Nat.le_refl _))
  · subst e
    cases r1
    obtain ⟨its, rv, p, hz⟩ := I1.tuple hq
    refine wpAny_pyIter_tuple (show s1.heap.IsTuple a its.toArray from p) ?_
    refine ⟨s1.heap.objs.size, [s1.heap.objs.size], _, _, H1, rfl, I1.kept (t' := s1.toks) fun b o e => Heap.get?_push_of_some _ e, turn_tuple a _, ⟨_, Heap.get?_push_size _ rfl, rfl, rfl⟩, fun b hb => ?_, q⟩
    have e : b = s1.heap.objs.size := by simpa using hb
    subst e
    exact I1.fpOk (Nat.le_refl _) (I1.hok.fresh (Nat.le_refl _))
  · subst ex
    obtain ⟨t, rfl⟩ := r1
    cases ha : x.cps.all (· < 128)
    · exact wpAny_pyIter_wide ha (pi_one (tk := s1.toks) I1 _ (turn_str _ x t "str_iterator" (.inr rfl)) ⟨_, Heap.get?_push_size _ rfl, rfl, rfl⟩ q)
    · exact wpAny_pyIter_ascii ha (pi_one (tk := s1.toks) I1 _ (turn_str _ x t "str_ascii_iterator" (.inl rfl)) ⟨_, Heap.get?_push_size _ rfl, rfl, rfl⟩ q)
def signs (z : Str) : List PyData := z.cps.toList.map fun c => .str ⟨#[c]⟩
def iSeq (f : SE) : SI := fun ρ μ Q => f ρ μ fun w μ1 => match w with
  | .p (.tuple xs) => Q xs (fun _ => True) μ1
  | .p (.list xs) => Q xs (fun _ => True) μ1
  | .p (.str z) => Q (signs z) (fun _ => True) μ1
  | .r n => match μ1[n]? with
    | some (.lst xs) => Q xs (fun μ => μ[n]? = some (.lst xs)) μ1
    | _ => False
  | .s xs => Q xs (fun _ => True) μ1
  | .q n j => match subAt μ1 n j with
    | some (.l i xs) => Q xs (fun μ => subAt μ n j = some (.l i xs)) μ1
    | _ => False
  | _ => False
theorem walks_tup {K : PySem.W.Frag} {as1 : Cs} {H1 : Hp} {a : Addr} {vs : List V} {ds : List PyData} (t : TzT K as1 H1 a vs) (d : DzAll K as1 H1 vs ds) : Walks K as1 H1 ds (fun _ => True) (Itt K a) where
  go := fun i x as μ H g S _ e => by
    obtain ⟨v, h1, _⟩ := (d.grow g).get e
    exact ⟨vs, v, (t.grow g).sq, h1⟩
  stop := fun i as μ H g S _ e => ⟨vs, (t.grow g).sq, by rw [d.length]; exact e⟩
  yld := fun i x as μ H v H' g S _ e y => by
    obtain ⟨rfl, y⟩ := y
    obtain ⟨d', h1, h2⟩ := (d.grow g).getV (y vs (t.grow g).sq)
    rw [e] at h1
    cases h1
    exact ⟨Stp.refl _ _, S, h2⟩
theorem walks_lst {K : PySem.W.Frag} {as1 : Cs} {H1 : Hp} {a : Addr} {vs : List V} {ds : List PyData} (t : TzL K as1 H1 a vs) (d : DzAll K as1 H1 vs ds) : Walks K as1 H1 ds (fun _ => True) (Itl K a) where
  go := fun i x as μ H g S _ e => by
    obtain ⟨v, h1, _⟩ := (d.grow g).get e
    exact ⟨vs, v, .inl (g.rd nt_lst t.1 t.2).2, h1⟩
  stop := fun i as μ H g S _ e => ⟨vs, .inl (g.rd nt_lst t.1 t.2).2, by rw [d.length]; exact e⟩
  yld := fun i x as μ H v H' g S _ e y => by
    obtain ⟨rfl, y⟩ := y
    obtain ⟨d', h1, h2⟩ := (d.grow g).getV (y vs (.inl (g.rd nt_lst t.1 t.2).2))
    rw [e] at h1
    cases h1
    exact ⟨Stp.refl _ _, S, h2⟩
theorem walks_scr {K : PySem.W.Frag} {as1 : Cs} {H1 : Hp} {a : Addr} {vs : List V} {ds : List PyData} (t : SzL K as1 H1 a vs) (d : DzAll K as1 H1 vs ds) : Walks K as1 H1 ds (fun _ => True) (Itl K a) where
  go := fun i x as μ H g S _ e => by
    obtain ⟨v, h1, _⟩ := (d.grow g).get e
    exact ⟨vs, v, (t.grow g).sq, h1⟩
  stop := fun i as μ H g S _ e => ⟨vs, (t.grow g).sq, by rw [d.length]; exact e⟩
  yld := fun i x as μ H v H' g S _ e y => by
    obtain ⟨rfl, y⟩ := y
    obtain ⟨d', h1, h2⟩ := (d.grow g).getV (y vs (t.grow g).sq)
    rw [e] at h1
    cases h1
    exact ⟨Stp.refl _ _, S, h2⟩
theorem walks_cell {K : PySem.W.Frag} {as1 : Cs} {H1 : Hp} {n : Nat} {a : Addr} {ds : List PyData} (ha : as1.as[n]? = some a) : Walks K as1 H1 ds (fun μ => μ[n]? = some (.lst ds)) (Itl K a) := by
  have at' : ∀ {as μ H}, Grow as1 H1 as H → SimH K as μ H → μ[n]? = some (.lst ds) → ∃ vs, H a = some (.lst vs) ∧ DzAll K as H vs ds := fun {as μ H} g S h => by
    obtain ⟨t, e⟩ := g.pre
    have : as.as[n]? = some a := by rw [e, List.getElem?_append_left (List.getElem?_eq_some_iff.mp ha).1]; exact ha
    exact S.cell n a _ this h
  refine ⟨fun i x as μ H g S h e => ?_, fun i as μ H g S h e => ?_, fun i x as μ H v H' g S h e y => ?_⟩
  · obtain ⟨vs, h1, h2⟩ := at' g S h
    obtain ⟨v, h3, _⟩ := h2.get e
    exact ⟨vs, v, .of h1, h3⟩
  · obtain ⟨vs, h1, h2⟩ := at' g S h
    exact ⟨vs, .of h1, by rw [h2.length]; exact e⟩
  · obtain ⟨rfl, y⟩ := y
    obtain ⟨vs, h1, h2⟩ := at' g S h
    obtain ⟨d', h3, h4⟩ := h2.getV (y vs (.of h1))
    rw [e] at h3
    cases h3
    exact ⟨Stp.refl _ _, S, h4⟩
theorem walks_own {K : PySem.W.Frag} {as1 : Cs} {H1 : Hp} {n j i0 : Nat} {b : Addr} {ds : List PyData} (hb : as1.own[j]? = some (b, n)) : Walks K as1 H1 ds (fun μ => subAt μ n j = some (.l i0 ds)) (Itl K b) := by
  have at' : ∀ {as μ H}, Grow as1 H1 as H → SimH K as μ H → subAt μ n j = some (.l i0 ds) → ∃ vs, H b = some (.lst vs) ∧ DzAll K as H vs ds := fun {as μ H} g S h => by
    obtain ⟨_, b', vs, e, _, h1, h2⟩ := subAt_ok S h (g.ownAt hb)
    cases e
    exact ⟨vs, h1, h2⟩
  refine ⟨fun i x as μ H g S h e => ?_, fun i as μ H g S h e => ?_, fun i x as μ H v H' g S h e y => ?_⟩
  · obtain ⟨vs, h1, h2⟩ := at' g S h
    obtain ⟨v, h3, _⟩ := h2.get e
    exact ⟨vs, v, .of h1, h3⟩
  · obtain ⟨vs, h1, h2⟩ := at' g S h
    exact ⟨vs, .of h1, by rw [h2.length]; exact e⟩
  · obtain ⟨rfl, y⟩ := y
    obtain ⟨vs, h1, h2⟩ := at' g S h
    obtain ⟨d', h3, h4⟩ := h2.getV (y vs (.of h1))
    rw [e] at h3
    cases h3
    exact ⟨Stp.refl _ _, S, h4⟩
theorem walks_str {K : PySem.W.Frag} {as1 : Cs} {H1 : Hp} (z : Str) : Walks K as1 H1 (signs z) (fun _ => True) (Its z) where
  go := fun i x as μ H g S _ e => by
    have h := (List.getElem?_eq_some_iff.mp e).1
    show i < z.cps.size
    simpa [signs] using h
  stop := fun i as μ H g S _ e => by show z.cps.size ≤ i; simpa [signs] using e
  yld := fun i x as μ H v H' g S _ e y => by
    obtain ⟨rfl, c, hc, rfl⟩ := y
    refine ⟨Stp.refl _ _, S, ?_⟩
    have : (signs z)[i]? = some (.str ⟨#[c]⟩) := by
      unfold signs
      rw [List.getElem?_map]
      have h2 : z.cps.toList[i]? = some c := by simpa using hc
      rw [h2]; rfl
    rw [e] at this
    cases this
    exact Dz.str _
theorem gi_seq {X : Cx} {tg l : Expr} {f : SE} (hl : GE X l f) : GIt X tg l (iSeq f) := ⟨PI_imp (pi_seq hl.go) fun σ H R ⟨as, ρ, μ, Q0, S, E, h, A⟩ =>
  ⟨as, ρ, μ, _, S, E, h, fun w μ1 as1 v H1 q1 s1 S1 r1 => by
    split at q1
    · cases r1 with
      | tup t d => exact .inr (.inl ⟨_, rfl, ⟨_, t.sq⟩, A _ _ _ _ _ _ q1 s1 S1 (walks_tup t d)⟩)
    · cases r1 with
      | lst t d => exact .inl ⟨_, rfl, ⟨_, t.sq⟩, A _ _ _ _ _ _ q1 s1 S1 (walks_lst t d)⟩
    · cases r1
      exact .inr (.inr ⟨_, rfl, A _ _ _ _ _ _ q1 s1 S1 (walks_str _)⟩)
    · split at q1
      · rename_i n _ xs hc
        obtain ⟨a, rfl, ha⟩ := r1
        obtain ⟨vs, h1, h2⟩ := S1.cell n a _ ha hc
        exact .inl ⟨_, rfl, ⟨_, .of h1⟩, A _ _ _ _ _ _ q1 s1 S1 (walks_cell ha)⟩
      · exact q1.elim
    · obtain ⟨a, vs, rfl, t, d⟩ := r1
      exact .inl ⟨_, rfl, ⟨_, t.sq⟩, A _ _ _ _ _ _ q1 s1 S1 (walks_scr t d)⟩
    · split at q1
      · rename_i n j _ i xs hu
        obtain ⟨b, rfl, hb⟩ := r1
        obtain ⟨_, b', vs, e, _, h1, h2⟩ := subAt_ok S1 hu hb
        cases e
        exact .inl ⟨_, rfl, ⟨_, .of h1⟩, A _ _ _ _ _ _ q1 s1 S1 (walks_own hb)⟩
      · exact q1.elim
    · exact q1.elim⟩⟩
def rng (lo : Int) (n : Nat) : List PyData := (List.range n).map fun (i : Nat) => .int (lo + (i : Int))
theorem walks_rng {K : PySem.W.Frag} {as1 : Cs} {H1 : Hp} (lo : Int) (n : Nat) : Walks K as1 H1 (rng lo n) (fun _ => True) (Itr lo n) where
  go := fun i x as μ H g S _ e => by
    have h := (List.getElem?_eq_some_iff.mp e).1
    show i < n
    simpa [rng] using h
  stop := fun i as μ H g S _ e => by show n ≤ i; simpa [rng] using e
  yld := fun i x as μ H v H' g S _ e y => by
    obtain ⟨rfl, rfl⟩ := y
    refine ⟨Stp.refl _ _, S, ?_⟩
    have h := (List.getElem?_eq_some_iff.mp e).1
    have h : i < n := by simpa [rng] using h
    have : (rng lo n)[i]? = some (.int (lo + i)) := by
      unfold rng
      rw [List.getElem?_map, List.getElem?_range h]; rfl
    rw [e] at this
    cases this
    exact Dz.int _
def iRng (g : SA) : SI := fun ρ μ Q => g ρ μ fun ws μ1 => match ws with
  | [.p (.int j)] => -(2 ^ 62) ≤ j ∧ j < 2 ^ 62 ∧ Q (rng 0 j.toNat) (fun _ => True) μ1
  | _ => False
theorem gi_rng {X : Cx} {tg a : Expr} {g : SA} {p pos : Pos} (hg : Gl X "range") (hm : X.mg "range" = none) (ha : GA X [a] g) (hs : starEach [a] X.env = [(false, eval a X.env)] := by rfl) : GIt X tg (.Call (.Name "range" p) [a] [] pos) (iRng g) := ⟨PI_imp (pi_range1 hg hm ha.go hs) fun σ H R ⟨as, ρ, μ, Q0, S, E, h, A⟩ =>
  ⟨as, ρ, μ, _, S, E, h, fun ws μ1 as1 vs H1 q1 s1 S1 r1 => by
    split at q1
    · cases r1 with
      | cons r1 r2 =>
        cases r1
        cases r2
        exact ⟨_, rfl, q1.1, q1.2.1, A _ _ _ _ _ _ q1.2.2 s1 S1 (walks_rng _ _)⟩
    · exact q1.elim⟩⟩
def forR (g : SG) (b : SS) (ok : Mu → Prop) (F : Fin) : List PyData → Rho → Mu → Prop
  | [], ρ, μ => ok μ ∧ F.nx ρ μ
  | x :: xs, ρ, μ => ok μ ∧ g (.p x) ρ μ fun ρ2 μ2 => b { F with nx := forR g b ok F xs, ct := forR g b ok F xs, bk := F.nx } ρ2 μ2
def sFor (it : SI) (g : SG) (b : SS) : SS := fun F ρ μ => it ρ μ fun xs ok μ1 => forR g b ok F xs ρ μ1
theorem gs_for {X : Cx} {tg iter : Expr} {body : List Stmt} {it : SI} {g : SG} {b : SS} {pos : Pos} (hp : PassesOwn (model X.prog X.w) X.A X.env X.xe) (hc : X.calm = true) (hi : GIt X tg iter it) (hg : GG X tg g) (hb : GB X body b)
    (hs : ∀ x, foldedSetIterable iter X.env x = pure x := by intro _; rfl) : GS X (.For tg iter body [] pos) (sFor it g b) := ⟨PS_imp (ps_for hp hc hi.go hg.go hb.go hs) fun D σ H ⟨as, ρ, μ, F, S, E, h, A⟩ =>
  ⟨as, ρ, μ, _, S, E, h, fun xs ok μ1 as1 H1 J q1 s1 S1 w => by
    have A1 := A.mono s1
    refine ⟨fun i m σ2 H2 => ∃ as2 ρ2 μ2, Stp as1 H1 as2 H2 ∧ SimH X.K as2 μ2 H2 ∧ EnvOk X.K as2 H2 ρ2 σ2 ∧ forR g b ok F (xs.drop i) ρ2 μ2 ∧ m = xs.length - i ∧ i ≤ xs.length, ⟨xs.length, as1, ρ, μ1, Stp.refl _ _, S1, E.mono s1, by simpa using q1, by simp, by simp⟩, ?_⟩
    rintro i m σ2 H2 ⟨as2, ρ2, μ2, s2, S2, E2, q2, rfl, hi⟩
    by_cases hlt : i < xs.length
    · have e : xs.drop i = xs[i] :: xs.drop (i + 1) := List.drop_eq_getElem_cons hlt
      rw [e] at q2
      obtain ⟨o2, q2⟩ := q2
      have ex : xs[i]? = some xs[i] := List.getElem?_eq_getElem hlt
      refine .inr ⟨w.go i _ as2 μ2 H2 s2.grow S2 o2 ex, fun σ' H' => ∃ as' ρ' μ', Stp as1 H1 as' H' ∧ SimH X.K as' μ' H' ∧ EnvOk X.K as' H' ρ' σ' ∧ forR g b ok F (xs.drop (i + 1)) ρ' μ', fun σ' H' ⟨as', ρ', μ', s', S', E', q'⟩ => ⟨_, by omega, as', ρ', μ', s', S', E', q', rfl, hlt⟩, fun x H3 y => ?_⟩
      obtain ⟨s3, S3, d3⟩ := w.yld i _ as2 μ2 H2 x H3 s2.grow S2 o2 ex y
      refine ⟨as2, ρ2, μ2, .p xs[i], _, S3, E2.mono s3, d3, q2, fun ρ4 μ4 as4 σ4 H4 q4 s4 S4 E4 => ⟨as4, ρ4, μ4, _, S4, E4, q4, ?_⟩⟩
      have s14 := s2.trans (s3.trans s4)
      have A4 := A1.mono s14
      exact ⟨fun ρ' μ' as' σ' H' q s' S' E' => ⟨as', ρ', μ', s14.trans s', S', E', q⟩, A4.2.1, fun ρ' μ' as' σ' H' q s' S' E' => A4.1 _ _ _ _ _ q s' S' E', fun ρ' μ' as' σ' H' q s' S' E' => ⟨as', ρ', μ', s14.trans s', S', E', q⟩⟩
    · have e : xs.drop i = [] := List.drop_eq_nil_of_le (by omega)
      rw [e] at q2
      exact .inl ⟨w.stop i as2 μ2 H2 s2.grow S2 q2.1 (by omega), A1.1 _ _ _ _ _ q2.2 s2 S2 E2⟩⟩⟩
end L2.Ev
namespace L2.Ev
open PySem PySem.Spec PyProof.Rows
theorem wipe_get (σ : St) (j : Nat) : ∀ vs : List Nat, (wipe σ vs)[j]? = if j ∈ vs then (if j < σ.length then some none else none) else σ[j]?
  | [] => by simp [wipe]
  | v :: vs => by
    unfold wipe
    by_cases e : v = j
    · subst e
      rw [if_pos (by simp)]
      by_cases hl : v < σ.length
      · rw [List.getElem?_set_self (by rw [wipe_length]; exact hl), if_pos hl]
      · rw [if_neg hl, List.getElem?_eq_none (by rw [List.length_set, wipe_length]; omega)]
    · rw [List.getElem?_set_ne e, wipe_get σ j vs]
      have : (j ∈ v :: vs) ↔ j ∈ vs := by simp [Ne.symm e]
      simp only [this]
theorem wipe_set (σ : St) (i : Nat) (x : Option V) {vs : List Nat} (h : i ∈ vs) : wipe (σ.set i x) vs = wipe σ vs := by
  apply List.ext_getElem?
  intro j
  rw [wipe_get, wipe_get, List.length_set]
  by_cases e : j ∈ vs
  · rw [if_pos e, if_pos e]
  · rw [if_neg e, if_neg e, List.getElem?_set_ne]
    intro z; subst z; exact e h
def wipeW (ρ : Rho) : List Nat → Rho
  | [] => ρ
  | v :: vs => (wipeW ρ vs).set v none
theorem wipeW_length (ρ : Rho) : ∀ vs : List Nat, (wipeW ρ vs).length = ρ.length
  | [] => rfl
  | v :: vs => by unfold wipeW; rw [List.length_set, wipeW_length ρ vs]
theorem wipeW_some {ρ : Rho} {i : Nat} {x : W} : ∀ {vs : List Nat}, (wipeW ρ vs)[i]? = some (some x) → ρ[i]? = some (some x) ∧ i ∉ vs
  | [], h => ⟨h, by simp⟩
  | v :: vs, h => by
    unfold wipeW at h
    by_cases hi : v = i
    · subst hi
      by_cases hv : v < (wipeW ρ vs).length
      · rw [List.getElem?_set_self hv] at h; cases h
      · rw [List.getElem?_eq_none (by simpa using hv)] at h; cases h
    · rw [List.getElem?_set_ne hi] at h
      obtain ⟨h1, h2⟩ := wipeW_some h
      exact ⟨h1, by simp only [List.mem_cons, not_or]; exact ⟨fun e => hi e.symm, h2⟩⟩
theorem EnvOk.wipe {K : PySem.W.Frag} {as : Cs} {H : Hp} {ρ : Rho} {σ : St} (h : EnvOk K as H ρ σ) (vs : List Nat) : EnvOk K as H (wipeW ρ vs) (L2.wipe σ vs) := by
  refine ⟨by rw [wipeW_length, wipe_length, h.1], fun i w e => ?_⟩
  obtain ⟨e1, n⟩ := wipeW_some e
  obtain ⟨v, h1, h2⟩ := h.2 i w e1
  exact ⟨v, by rw [wipe_get, if_neg n]; exact h1, h2⟩
inductive Tg where
  | nm (i : Nat)
  | tp (is : List Nat)
  | tq (i : Nat) (is : List Nat)
def Tg.ix : Tg → List Nat
  | .nm i => [i]
  | .tp is => is
  | .tq i is => i :: is
def gsL : List Nat → TGs
  | [] => gNil
  | i :: is => gCons (gName i) (gsL is)
def tgL (K : PySem.W.Frag) : Tg → TG
  | .nm i => gName i
  | .tp is => gTup K is.length (gsL is)
  | .tq i is => gTup K 2 (gCons (gName i) (gCons (gTup K is.length (gsL is)) gNil))
def setAll (ρ : Rho) : List Nat → List PyData → Rho
  | i :: is, d :: ds => setAll (ρ.set i (some (.p d))) is ds
  | _, _ => ρ
def bindT : Tg → PyData → Rho → Option Rho
  | .nm i, d, ρ => some (ρ.set i (some (.p d)))
  | .tp is, .tuple ds, ρ => if ds.length = is.length then some (setAll ρ is ds) else none
  | .tq i is, .tuple [d, .tuple ds], ρ => if ds.length = is.length then some (setAll (ρ.set i (some (.p d))) is ds) else none
  | _, _, _ => none
theorem gsL_of {K : PySem.W.Frag} {as : Cs} {H : Hp} {vs0 : List Nat} {σ0 : St} {Q : St → Hp → Prop} : ∀ (is : List Nat) (vs : List V) (ds : List PyData) (ρ : Rho) (σ : St), (∀ i ∈ is, i ∈ vs0) → DzAll K as H vs ds → ds.length = is.length → EnvOk K as H ρ σ → wipe σ vs0 = wipe σ0 vs0 →
    (∀ σ2, EnvOk K as H (setAll ρ is ds) σ2 → wipe σ2 vs0 = wipe σ0 vs0 → Q σ2 H) → gsL is vs σ H Q
  | [], vs, ds, ρ, σ, hv, d, hl, E, hw, k => by
    cases ds with
    | nil => cases d; exact ⟨rfl, k σ (by cases ρ <;> exact E) hw⟩
    | cons _ _ => simp at hl
  | i :: is, vs, ds, ρ, σ, hv, d, hl, E, hw, k => by
    cases ds with
    | nil => simp at hl
    | cons d0 ds =>
      cases d with
      | cons d1 d2 =>
        refine ⟨_, _, rfl, ?_⟩
        exact gsL_of is _ ds (ρ.set i (some (.p d0))) _ (fun j hj => hv j (by simp [hj])) d2 (by simpa using hl) (E.set (w := .p d0) d1 i) (by rw [wipe_set _ _ _ (hv i (by simp)), hw]) k
theorem tgL_of {K : PySem.W.Frag} {as : Cs} {H : Hp} {vs0 : List Nat} {t : Tg} {v : V} {d : PyData} {ρ ρ2 : Rho} {σ : St} {Q : St → Hp → Prop} (hv : ∀ i ∈ t.ix, i ∈ vs0) (r : Dz K as H v d) (E : EnvOk K as H ρ σ) (b : bindT t d ρ = some ρ2)
    (k : ∀ σ2, EnvOk K as H ρ2 σ2 → wipe σ2 vs0 = wipe σ vs0 → Q σ2 H) : tgL K t v σ H Q := by
  cases t with
  | nm i =>
    cases b
    exact k _ (E.set (w := .p d) r i) (wipe_set _ _ _ (hv i (by simp [Tg.ix])))
  | tp is =>
    cases d with
    | tuple ds =>
      simp only [bindT] at b
      split at b
      · rename_i hl
        cases b
        cases r with
        | tup t d => exact ⟨_, _, rfl, t.sq, by rw [d.length]; exact hl, gsL_of is _ ds ρ σ hv d hl E rfl k⟩
      · cases b
    | _ => cases b
  | tq i is =>
    cases d with
    | tuple es =>
      cases es with
      | nil => cases b
      | cons d0 es =>
        cases es with
        | nil => cases b
        | cons d1 es =>
          cases es with
          | cons _ _ => cases d1 <;> cases b
          | nil =>
            cases d1 with
            | tuple ds =>
              simp only [bindT] at b
              split at b
              · rename_i hl
                cases b
                cases r with
                | tup t d =>
                  cases d with
                  | cons r0 d =>
                    cases d with
                    | cons r1 d =>
                      cases d
                      cases r1 with
                      | tup t1 d1 =>
                        refine ⟨_, _, rfl, t.sq, rfl, _, _, rfl, _, _, rfl, ⟨_, _, rfl, t1.sq, by rw [d1.length]; exact hl, ?_⟩⟩
                        exact gsL_of is _ ds (ρ.set i (some (.p d0))) _ (fun j hj => hv j (by simp [Tg.ix, hj])) d1 hl (E.set (w := .p d0) r0 i) (wipe_set _ _ _ (hv i (by simp [Tg.ix]))) fun σ2 E2 w2 => ⟨rfl, k σ2 E2 w2⟩
              · cases b
            | _ => cases b
    | _ => cases b
def compR (t : Tg) (c : ST) (e : SE) (ρ0 : Rho) (ok : Mu → Prop) (Q : List PyData → Mu → Prop) : List PyData → List PyData → Mu → Prop
  | [], acc, μ => ok μ ∧ Q acc μ
  | x :: xs, acc, μ => ok μ ∧ match bindT t x ρ0 with
    | some ρ2 => c ρ2 μ fun b μ1 => if b = true then e ρ2 μ1 fun y μ2 => match y with
        | .p d => acc.length < sizeLine ∧ compR t c e ρ0 ok Q xs (acc ++ [d]) μ2
        | _ => False
      else compR t c e ρ0 ok Q xs acc μ1
    | none => False
def wLc (it : SI) (t : Tg) (c : ST) (e : SE) (vs : List Nat) : SE := fun ρ μ Q => it ρ μ fun xs ok μ1 => compR t c e (wipeW ρ vs) ok (fun acc μ2 => Q (.p (.list acc)) μ2) xs [] μ1
structure GTs (X : Cx) (ifs : List Expr) (f : ST) : Prop where go : PTs X ifs (rdT X.K f)
theorem gts_one {X : Cx} {c : Expr} {t : ST} (h : GT X c t) : GTs X [c] t := ⟨pts_one h.go⟩
def Out (as : Cs) (H : Hp) (as' : Cs) (H' : Hp) : Prop := ∀ a o, nt o → H a = some o → a ∉ as → a ∉ as' ∧ H' a = some o
theorem Out.rd {as as' : Cs} {H H' : Hp} (h : Out as H as' H') {a : Addr} {u : HO} (w : nt u) (n : a ∉ as) (r : Rd H a u) : a ∉ as' ∧ Rd H' a u := by
  rcases r with r | ⟨o, r⟩
  · exact ⟨(h _ _ w r n).1, .inl (h _ _ w r n).2⟩
  · exact ⟨(h _ _ nt_frz r n).1, .inr ⟨o, (h _ _ nt_frz r n).2⟩⟩
theorem Out.fz {as as' : Cs} {H H' : Hp} (h : Out as H as' H') {a : Addr} {u : HO} (n : a ∉ as) (r : Fz H a u) : a ∉ as' ∧ Fz H' a u := by
  obtain ⟨o, r⟩ := r
  exact ⟨(h _ _ nt_frz r n).1, ⟨o, (h _ _ nt_frz r n).2⟩⟩
mutual
theorem Dz.out {K : PySem.W.Frag} {as as' : Cs} {H H' : Hp} (s : Out as H as' H') : ∀ {v : V} {d : PyData}, Dz K as H v d → Dz K as' H' v d
  | _, _, .non => .non
  | _, _, .bl b => .bl b
  | _, _, .int i => .int i
  | _, _, .str x => .str x
  | _, _, .lst t a => .lst (s.rd nt_lst t.1 t.2) (DzAll.out s a)
  | _, _, .tup t a => .tup (t.elim (fun t => .inl (s.rd nt_tup t.1 t.2)) .inr) (DzAll.out s a)
  | _, _, .dct n r k a => .dct (s.fz n r).1 (s.fz n r).2 k (DzAll.out s a)
theorem DzAll.out {K : PySem.W.Frag} {as as' : Cs} {H H' : Hp} (s : Out as H as' H') : ∀ {vs : List V} {ds : List PyData}, DzAll K as H vs ds → DzAll K as' H' vs ds
  | _, _, .nil => .nil
  | _, _, .cons h t => .cons (Dz.out s h) (DzAll.out s t)
end
theorem Rel.out {K : PySem.W.Frag} {as as' : Cs} {H H' : Hp} (s : Out as H as' H') (e : as'.as = as.as) (eo : as'.own = as.own) {w : W} {v : V} (h : Rel K as H w v) : Rel K as' H' w v := by
  cases w with
  | p d => exact Dz.out s h
  | r n => obtain ⟨a, e1, q⟩ := h; exact ⟨a, e1, by rw [e]; exact q⟩
  | t n => exact h
  | s ds => obtain ⟨a, vs, e, h1, h2⟩ := h; exact ⟨a, vs, e, h1.elim (fun t => .inl (s.rd nt_lst t.1 t.2)) .inr, h2.out s⟩
  | u ns =>
    obtain ⟨a, vs, e1, h1, h2, h3⟩ := h
    refine ⟨a, vs, e1, (s.rd nt_tup h1 h2).1, (s.rd nt_tup h1 h2).2, ?_⟩
    clear h1 h2 e1
    induction h3 with
    | nil => exact .nil
    | cons e0 _ ih => exact .cons (by rw [e]; exact e0) ih
  | q n j => obtain ⟨b, e1, q⟩ := h; exact ⟨b, e1, by rw [eo]; exact q⟩
theorem EnvOk.out {K : PySem.W.Frag} {as as' : Cs} {H H' : Hp} {ρ : Rho} {σ : St} (s : Out as H as' H') (e : as'.as = as.as) (eo : as'.own = as.own) (h : EnvOk K as H ρ σ) : EnvOk K as' H' ρ σ :=
  ⟨h.1, fun i w q => let ⟨v, h1, h2⟩ := h.2 i w q; ⟨v, h1, h2.out s e eo⟩⟩
theorem Rel.outAt {K : PySem.W.Frag} {as as' : Cs} {H H' : Hp} (s : Out as H as' H') {m : Nat} {w : W} {v : V} (h : Rel K as H w v) (o : refOk m w) (k : ∀ j b, j < m → as.as[j]? = some b → as'.as[j]? = some b) (eo : as'.own = as.own) : Rel K as' H' w v := by
  cases w with
  | p d => exact Dz.out s h
  | r n => obtain ⟨a, e1, q⟩ := h; exact ⟨a, e1, k _ _ o q⟩
  | t n => exact h
  | s ds => obtain ⟨a, vs, e, h1, h2⟩ := h; exact ⟨a, vs, e, h1.elim (fun t => .inl (s.rd nt_lst t.1 t.2)) .inr, h2.out s⟩
  | u ns =>
    obtain ⟨a, vs, e1, h1, h2, h3⟩ := h
    exact ⟨a, vs, e1, (s.rd nt_tup h1 h2).1, (s.rd nt_tup h1 h2).2, h3.at fun n hn b eb => k _ _ (o n hn) eb⟩
  | q n j => obtain ⟨b, e1, q⟩ := h; exact ⟨b, e1, by rw [eo]; exact q⟩
theorem SubOk.out {K : PySem.W.Frag} {as as' : Cs} {H H' : Hp} {n : Nat} {v : V} (s : Out as H as' H') (eo : as'.own = as.own) (ek : ∀ (j : Nat) (b : Addr), as.own[j]? = some (b, n) → H' b = H b) {u : Sub} (h : SubOk K as H n v u) : SubOk K as' H' n v u := by
  cases u with
  | d x => exact Dz.out s h
  | l j xs => obtain ⟨b, vs, e, q, h1, h2⟩ := h; exact ⟨b, vs, e, by rw [eo]; exact q, (ek _ _ q).trans h1, h2.out s⟩
  | k j xs => obtain ⟨b, vs, e, q, h1, h3, h2⟩ := h; exact ⟨b, vs, e, by rw [eo]; exact q, (ek _ _ q).trans h1, h3, h2.out s⟩
theorem SubsOk.out {K : PySem.W.Frag} {as as' : Cs} {H H' : Hp} {n : Nat} (s : Out as H as' H') (eo : as'.own = as.own) (ek : ∀ (j : Nat) (b : Addr), as.own[j]? = some (b, n) → H' b = H b) {vs : List V} {us : List Sub} (h : SubsOk K as H n vs us) : SubsOk K as' H' n vs us := by
  induction h with
  | nil => exact .nil
  | cons h _ ih => exact .cons (h.out s eo ek) ih
theorem Cok.out {K : PySem.W.Frag} {as as' : Cs} {H H' : Hp} {n : Nat} {a : Addr} (s : Out as H as' H') (e : H' a = H a) (k : ∀ j b, j < n → as.as[j]? = some b → as'.as[j]? = some b) (eo : as'.own = as.own) (ek : ∀ (j : Nat) (b : Addr), as.own[j]? = some (b, n) → H' b = H b) {c : Cell} (h : Cok K as H n a c) : Cok K as' H' n a c := by
  cases c with
  | lst ds => obtain ⟨vs, h1, h2⟩ := h; exact ⟨vs, e.trans h1, h2.out s⟩
  | dk ds => obtain ⟨vs, h1, h2, h3⟩ := h; exact ⟨vs, e.trans h1, h2, h3.out s⟩
  | lw ds =>
    obtain ⟨vs, h1, h2, h3⟩ := h
    refine ⟨vs, e.trans h1, ?_, h3⟩
    clear h1
    induction h2 with
    | nil => exact .nil
    | cons r _ ih => exact .cons (r.outAt s (h3 _ (by simp)) k eo) (ih fun w hw => h3 w (by simp [hw]))
  | dn ds => obtain ⟨vs, h1, h2, h3, h4⟩ := h; exact ⟨vs, e.trans h1, h2, h3.out s eo ek, h4⟩
  | ln ds => obtain ⟨vs, h1, h2, h3⟩ := h; exact ⟨vs, e.trans h1, h2.out s eo ek, h3⟩
  | dt ds => obtain ⟨vs, h1, h2, h3⟩ := h; exact ⟨vs, e.trans h1, h2, h3.out s⟩
  | zk ds => obtain ⟨vs, ⟨o, h1⟩, h2, h3⟩ := h; exact ⟨vs, ⟨o, e.trans h1⟩, h2, h3.out s⟩
  | zn ds => obtain ⟨vs, ⟨o, h1⟩, h2, h3, h4⟩ := h; exact ⟨vs, ⟨o, e.trans h1⟩, h2, h3.out s eo ek, h4⟩
  | zt ds => obtain ⟨vs, ⟨o, h1⟩, h2, h3⟩ := h; exact ⟨vs, ⟨o, e.trans h1⟩, h2, h3.out s⟩
theorem Out.hid {as : Cs} {H : Hp} {D : Addr} (h : D ∈ as.hid) (o : HO) : Out as H as (upd H D o) := fun a u _ q n => ⟨n, by rw [upd_ne (fun e => n (Cs.mem_iff.mpr (.inl (by rw [e]; exact h))))]; exact q⟩
theorem SimH.hidO {K : PySem.W.Frag} {as : Cs} {μ : Mu} {H : Hp} (S : SimH K as μ H) {D : Addr} (h : D ∈ as.hid) (o : HO) (ho : HidOk (some o)) : SimH K as μ (upd H D o) := by
  have own0 : ∀ b ∈ as.own.map (·.1), b ≠ D := fun b hb e => (List.nodup_append.mp S.nd).2.2 D h b (List.mem_append_right _ hb) e.symm
  refine ⟨S.nd, S.len, fun a ha => ?_, S.tabUpd (fun ps z => by obtain ⟨o', e, no, _⟩ := (S.hide D h).some; rw [z] at e; cases e; exact no ps rfl), fun n a c h1 h2 => (S.cell n a c h1 h2).out (Out.hid h _) (upd_ne fun e => ?_) (fun _ _ _ z => z) rfl (fun j b hb => upd_ne (own0 b (List.mem_map.mpr ⟨_, List.mem_of_getElem? hb, rfl⟩))), fun x hx => ?_⟩
  · by_cases e : a = D
    · subst e; rw [upd_same]; exact ho
    · rw [upd_ne e]; exact S.hide a ha
  · subst e
    exact (List.nodup_append.mp S.nd).2.2 a h a (Cs.ao_as (List.mem_of_getElem? h1)) rfl
  · rw [upd_ne (own0 x.1 (List.mem_map.mpr ⟨x, hx, rfl⟩))]; exact S.ownd x hx
theorem SimH.hid {K : PySem.W.Frag} {as : Cs} {μ : Mu} {H : Hp} (S : SimH K as μ H) {D : Addr} (h : D ∈ as.hid) (xs : List V) : SimH K as μ (upd H D (.lst xs)) := S.hidO h _ (.inl ⟨_, rfl⟩)
section
variable {X : Cx} {elt tg iter : Expr} {ifs : List Expr} {scope : Scope} {own : List (Str × Nat)} {pos : Pos} {it : SI} {t : Tg} {c : ST} {e : SE}
theorem rdE_lc {K : PySem.W.Frag} {vs : List Nat} (hv : ∀ i ∈ t.ix, i ∈ vs) {σ : St} {H : Hp} {Q : VK} (h : rdE K (wLc it t c e vs) σ H Q) : tLc (rdI K it) (tgL K t) (rdT K c) (rdE K e) vs σ H Q := by
  obtain ⟨as, ρ, μ, Q0, S, E, h, A⟩ := h
  refine ⟨as, ρ, μ, _, S, E, h, fun xs ok μ1 as1 H1 J q1 s1 S1 w D hD => ?_⟩
  have E1 := E.mono s1
  have fr := S1.fresh hD
  have frh : D ∉ as1.hid := fun z => fr (Cs.mem_iff.mpr (.inl z))
  have fra : D ∉ as1.ao := fun z => fr (Cs.mem_iff.mpr (.inr z))
  let SA : Nat → Hp → Prop := fun i H2 => ∃ as2 μ2 acc ws, as2.hid = D :: as1.hid ∧ Grow as1 H1 as2 H2 ∧ SimH K as2 μ2 H2 ∧ EnvOk K as2 H2 (wipeW ρ vs) (wipe σ vs) ∧ H2 D = some (.lst ws) ∧ DzAll K as2 H2 ws acc ∧
    compR t c e (wipeW ρ vs) ok (fun acc μ2 => Q0 (.p (.list acc)) μ2) (xs.drop i) acc μ2
  have g0 : Grow as1 H1 ⟨D :: as1.hid, as1.as, as1.own⟩ (upd H1 D (.lst [])) := ⟨⟨[], by simp⟩, fun a o _ h n => ⟨n, by rw [upd_ne (ne_of_none h hD)]; exact h⟩, ⟨[], by simp⟩, fun a u v h => by rw [upd_ne (ne_of_none h hD)]; exact h, fun a o _ h n z => by
    rcases Cs.mem_iff.mp z with z | z
    · rcases List.mem_cons.mp z with z | z
      · exact ne_of_none h hD z
      · exact n (Cs.mem_iff.mpr (.inl z))
    · exact n (Cs.mem_iff.mpr (.inr z))⟩
  have start : SA 0 (upd H1 D (.lst [])) := by
    refine ⟨⟨D :: as1.hid, as1.as, as1.own⟩, μ1, [], [], rfl, g0, ⟨?_, S1.len, fun a ha => ?_, S1.tabUpd (fun ps z => by rw [hD] at z; cases z), fun n a c' h1 h2 => ?_, fun x hx => ?_⟩, (E1.wipe vs).grow g0, upd_same, .nil, by simpa using q1⟩
    · show (D :: (as1.hid ++ as1.ao)).Nodup
      exact List.nodup_cons.mpr ⟨fr, S1.nd⟩
    · rcases List.mem_cons.mp ha with z | z
      · subst z; rw [upd_same]; exact .inl ⟨_, rfl⟩
      · obtain ⟨o, q, _⟩ := (S1.hide a z).some
        rw [upd_ne (ne_of_none q hD)]; exact S1.hide a z
    · obtain ⟨o, q⟩ := S1.mem (List.mem_of_getElem? h1)
      exact (S1.cell n a c' h1 h2).grow g0 (upd_ne (ne_of_none q hD)) (fun j b hb => by obtain ⟨o2, q2, _⟩ := S1.own_some hb; exact upd_ne (ne_of_none q2 hD))
    · obtain ⟨o, q, w⟩ := (S1.ownd x hx).some
      rw [upd_ne (ne_of_none q hD)]; exact S1.ownd x hx
  refine ⟨fun i m H2 => SA i H2 ∧ m = xs.length - i ∧ i ≤ xs.length, ⟨xs.length, start, by simp, by simp⟩, ?_⟩
  rintro i m H2 ⟨⟨as2, μ2, acc, ws, hh, g2, S2, E2, hD2, d2, q2⟩, rfl, hi⟩
  have dh : D ∈ as2.hid := by rw [hh]; simp
  have da : D ∉ as2.ao := fun z => (List.nodup_append.mp S2.nd).2.2 D dh D z rfl
  by_cases hlt : i < xs.length
  · have ed : xs.drop i = xs[i] :: xs.drop (i + 1) := List.drop_eq_getElem_cons hlt
    rw [ed] at q2
    obtain ⟨o2, q2⟩ := q2
    have ex : xs[i]? = some xs[i] := List.getElem?_eq_getElem hlt
    refine .inr ⟨w.go i _ as2 μ2 H2 g2 S2 o2 ex, SA (i + 1), fun H' q => ⟨_, by omega, q, rfl, hlt⟩, fun x H3 y => ?_⟩
    obtain ⟨s3, S3, d3⟩ := w.yld i _ as2 μ2 H2 x H3 g2 S2 o2 ex y
    split at q2
    · rename_i ρ2 hb
      refine tgL_of hv d3 (E2.mono s3) hb fun σ2 E3 hw => ⟨by rw [hw]; apply List.ext_getElem?; intro j; rw [wipe_get]; by_cases z : j ∈ vs <;> simp [wipe_get, wipe_length, z], ?_⟩
      refine ⟨as2, ρ2, μ2, _, S3, E3, q2, fun b μb asb Hb qb sb Sb => ?_⟩
      have hhb : asb.hid = D :: as1.hid := sb.hid.trans hh
      have hDb : Hb D = some (.lst ws) := (sb.keep D _ nt_lst (s3.keep D _ nt_lst hD2 da).2 da).2
      have gb : Grow as1 H1 asb Hb := g2.trans (s3.trans sb).grow
      cases b with
      | false => exact ⟨asb, μb, acc, ws, hhb, gb, Sb, E2.mono (s3.trans sb), hDb, d2.mono (s3.trans sb), qb⟩
      | true =>
        refine ⟨asb, ρ2, μb, _, Sb, E3.mono sb, qb, fun y' μw asw v Hw qw sw Sw rw' => ?_⟩
        split at qw
        · rename_i dd
          have dab : D ∉ asb.ao := fun z => (List.nodup_append.mp Sb.nd).2.2 D (by rw [hhb]; simp) D z rfl
          have hhw : asw.hid = D :: as1.hid := sw.hid.trans hhb
          have hDw : Hw D = some (.lst ws) := (sw.keep D _ nt_lst hDb dab).2
          have dw := (d2.mono (s3.trans sb)).mono sw
          have dhw : D ∈ asw.hid := by rw [hhw]; simp
          have gw : Grow as1 H1 asw Hw := gb.trans sw.grow
          refine ⟨ws, hDw, by rw [dw.length]; exact qw.1, asw, μw, acc ++ [dd], ws ++ [v], hhw, ⟨gw.pre, fun a o w q n => ⟨(gw.keep a o w q n).1, by rw [upd_ne (ne_of_none q hD)]; exact (gw.keep a o w q n).2⟩, gw.preo, fun a u v q => by rw [upd_ne (ne_of_none q hD)]; exact gw.frz a u v q, gw.out⟩, Sw.hid dhw _, (E2.mono (s3.trans (sb.trans sw))).out (Out.hid dhw _) rfl rfl, upd_same, (dw.append (.cons rw' .nil)).out (Out.hid dhw _), qw.2⟩
        · exact qw.elim
    · exact q2.elim
  · have ed : xs.drop i = [] := List.drop_eq_nil_of_le (by omega)
    rw [ed] at q2
    refine .inl ⟨w.stop i as2 μ2 H2 g2 S2 q2.1 (by omega), ?_⟩
    have o2 : Out as2 H2 ⟨as1.hid, as2.as, as2.own⟩ H2 := fun a o _ q n => ⟨fun z => n (by
      rcases Cs.mem_iff.mp z with z | z
      · exact Cs.mem_iff.mpr (.inl (by rw [hh]; exact List.mem_cons_of_mem _ z))
      · exact Cs.mem_iff.mpr (.inr z)), q⟩
    have nd2 : (D :: (as1.hid ++ as2.ao)).Nodup := by have := S2.nd; rw [hh] at this; exact this
    refine A (.p (.list acc)) μ2 ⟨as1.hid, as2.as, as2.own⟩ (.ref D) H2 q2.2 (s1.trans ⟨rfl, g2.pre, g2.keep, g2.preo, g2.frz⟩) ⟨(List.nodup_cons.mp nd2).2, S2.len, fun a ha => S2.hide a (by rw [hh]; exact List.mem_cons_of_mem _ ha), S2.tab, fun n a c' h1 h2 => (S2.cell n a c' h1 h2).out o2 rfl (fun _ _ _ z => z) rfl (fun _ _ _ => rfl), S2.ownd⟩ (Dz.lst ⟨(List.nodup_cons.mp nd2).1, .inl hD2⟩ (d2.out o2))
theorem ge_lc (hc : X.calm = true) (hN : X.N.Nodup) (hi : GIt X tg iter it) (ok : BlkOk X.N X.env.scope scope own)
    (hg : ∀ (s : Shared) (H : Hp) (C : Addr) (cl : List (Str × Addr)) (fp : List Addr), PG (X.blk s H scope (compEnvC scope cl C X.env) fp) tg (tgL X.K t)) (ht : ∀ (s : Shared) (H : Hp) (C : Addr) (cl : List (Str × Addr)) (fp : List Addr), GTs (X.blk s H scope (compEnvC scope cl C X.env) fp) ifs c)
    (he : ∀ (s : Shared) (H : Hp) (C : Addr) (cl : List (Str × Addr)) (fp : List Addr), GE (X.blk s H scope (compEnvC scope cl C X.env) fp) elt e) (hv : ∀ i ∈ t.ix, i ∈ own.map (·.2)) (hs : ∀ x, foldedSetIterable iter X.env x = pure x := by intro _; rfl) :
    GE X (.ListComp elt [⟨tg, iter, ifs, 0⟩] scope pos) (wLc it t c e (own.map (·.2))) :=
  ⟨PE_imp (pe_lc hc hN hi.go ok hg (fun s H C cl fp => (ht s H C cl fp).go) (fun s H C cl fp => (he s H C cl fp).go) hs) fun _ _ _ h => rdE_lc hv h⟩
end
def startW (N : List Str) (ws : List W) : Rho := ws.map some ++ List.replicate (N.length - ws.length) none
def retW (n : Nat) (Q : WK) : WK := fun w μ' => ∃ m, n ≤ m ∧ m ≤ μ'.length ∧ refOk m w ∧ Q w (μ'.take m)
def spBody (N : List Str) (n : Nat) (f : SS) : SpW := fun ws μ Q => ws.length = n ∧ f { nx := fun _ μ' => retW μ.length Q (.p .none) μ', rt := retW μ.length Q } (startW N ws) μ
theorem Rels.get {K : PySem.W.Frag} {as : Cs} {H : Hp} {ws : List W} {vs : List V} (h : Rels K as H ws vs) {i : Nat} {w : W} (e : ws[i]? = some w) : ∃ v, vs[i]? = some v ∧ Rel K as H w v := by
  induction h generalizing i with
  | nil => simp at e
  | cons r _ ih =>
    cases i with
    | zero => simp at e; subst e; exact ⟨_, rfl, r⟩
    | succ i => obtain ⟨v, a, b⟩ := ih (i := i) (by simpa using e); exact ⟨v, by simpa using a, b⟩
theorem EnvOk.start {K : PySem.W.Frag} {as : Cs} {H : Hp} {N : List Str} {ws : List W} {vs : List V} (h : Rels K as H ws vs) : EnvOk K as H (startW N ws) (L2.start N vs) := by
  have hl := h.length
  refine ⟨by simp [startW, L2.start, hl], fun i w e => ?_⟩
  unfold startW at e
  by_cases hi : i < ws.length
  · rw [List.getElem?_append_left (by simpa using hi), List.getElem?_map] at e
    cases q : ws[i]? with
    | none => rw [q] at e; cases e
    | some w' =>
      rw [q] at e
      cases e
      obtain ⟨v, h1, h2⟩ := h.get q
      refine ⟨v, ?_, h2⟩
      unfold L2.start
      rw [List.getElem?_append_left (by simpa [← hl] using hi), List.getElem?_map, h1]
      rfl
  · rw [List.getElem?_append_right (by simpa using hi), List.getElem?_replicate] at e
    split at e <;> cases e
theorem cutCells {K : PySem.W.Frag} {as as' : Cs} {H H' : Hp} {μ' : Mu} {m : Nat} (s : Stp as H as' H') (S : SimH K as' μ' H') (h : as.as.length ≤ m) (hm : m ≤ μ'.length) :
    Stp as H ⟨as'.hid, as'.as.take m, as'.own⟩ H' ∧ SimH K ⟨as'.hid, as'.as.take m, as'.own⟩ (μ'.take m) H' ∧ Out as' H' ⟨as'.hid, as'.as.take m, as'.own⟩ H' := by
  have ta : ∀ a, a ∈ (⟨as'.hid, as'.as.take m, as'.own⟩ : Cs).ao → a ∈ as'.ao := fun a z => by
    rcases Cs.ao_iff.mp z with z | z
    · exact Cs.ao_iff.mpr (.inl (List.mem_of_mem_take z))
    · exact Cs.ao_iff.mpr (.inr z)
  have o : Out as' H' ⟨as'.hid, as'.as.take m, as'.own⟩ H' := fun a o _ q n => ⟨fun z => n (by
      rcases Cs.mem_iff.mp z with z | z
      · exact Cs.mem_iff.mpr (.inl z)
      · exact Cs.mem_iff.mpr (.inr (ta a z))), q⟩
  obtain ⟨t, e⟩ := s.pre
  refine ⟨⟨s.hid, ⟨t.take (m - as.as.length), ?_⟩, fun a u w q n => ⟨fun z => (s.keep a u w q n).1 (ta a z), (s.keep a u w q n).2⟩, s.preo, s.frz⟩, ⟨?_, by simp [S.len], S.hide, S.tab, fun n a c h1 h2 => ?_, S.ownd⟩, o⟩
  · show as'.as.take m = _
    rw [e, List.take_append, List.take_of_length_le h]
  · refine S.nd.sublist ?_
    exact (List.Sublist.refl _).append ((List.take_sublist _ _).append (List.Sublist.refl _))
  · have h1 : (as'.as.take m)[n]? = some a := h1
    have hn : n < m := by
      have := (List.getElem?_eq_some_iff.mp h1).1
      simp at this; omega
    rw [List.getElem?_take_of_lt hn] at h1 h2
    exact (S.cell n a c h1 h2).out o rfl (fun j b hj z => by
      show (as'.as.take m)[j]? = _
      rw [List.getElem?_take_of_lt (by omega)]
      exact z) rfl (fun _ _ _ => rfl)
theorem cutW {K : PySem.W.Frag} {as as' : Cs} {H H' : Hp} {μ' : Mu} {m : Nat} (s : Stp as H as' H') (S : SimH K as' μ' H') (h : as.as.length ≤ m) (hm : m ≤ μ'.length) {H2 : Hp} (D : List Addr) (hD : ∀ d ∈ D, d ∈ as'.as.drop m) (e : ∀ b, b ∉ D → H2 b = H' b) (ef : ∀ d ∈ D, ∀ o u, H' d = some (.frz o u) → H2 d = some (.frz o u) := by intro d hd o u z; simp_all) :
    Stp as H ⟨as'.hid, as'.as.take m, as'.own⟩ H2 ∧ SimH K ⟨as'.hid, as'.as.take m, as'.own⟩ (μ'.take m) H2 ∧ Out as' H' ⟨as'.hid, as'.as.take m, as'.own⟩ H2 ∧ ∀ d ∈ D, d ∉ (⟨as'.hid, as'.as.take m, as'.own⟩ : Cs) := by
  obtain ⟨s1, S1, o1⟩ := cutCells s S h hm
  have mem : ∀ d ∈ D, d ∈ as'.as := fun d hd => List.mem_of_mem_drop (hD d hd)
  have ndA : (as'.as.take m ++ as'.as.drop m).Nodup := by rw [List.take_append_drop]; exact S.ndA
  have nt0 : ∀ d ∈ D, d ∉ (⟨as'.hid, as'.as.take m, as'.own⟩ : Cs) := fun d hd z => by
    rcases Cs.mem_iff.mp z with z | z
    · exact (List.nodup_append.mp S.nd).2.2 d z d (Cs.ao_as (mem d hd)) rfl
    · rcases Cs.ao_iff.mp z with z | z
      · exact (List.nodup_append.mp ndA).2.2 d z d (hD d hd) rfl
      · exact (List.nodup_append.mp (List.nodup_append.mp S.nd).2.1).2.2 d (mem d hd) d z rfl
  have ne : ∀ {b}, b ∈ (⟨as'.hid, as'.as.take m, as'.own⟩ : Cs) → H2 b = H' b := fun {b} hb => e b fun z => nt0 b z hb
  have o2 : Out as' H' ⟨as'.hid, as'.as.take m, as'.own⟩ H2 := fun a o w q n => ⟨(o1 a o w q n).1, by rw [e a fun z => n (Cs.mem_iff.mpr (.inr (Cs.ao_as (mem a z))))]; exact q⟩
  refine ⟨⟨s1.hid, s1.pre, fun a o w q n => ⟨(s1.keep a o w q n).1, ?_⟩, s1.preo, fun a u v q => by
    by_cases z : a ∈ D
    · exact ef a z u v (s1.frz a u v q)
    · rw [e a z]; exact s1.frz a u v q⟩, ⟨S1.nd, S1.len, fun a ha => ?_, fun P hP => ?_, fun n a c h1 h2 => ?_, fun p hp => ?_⟩, o2, nt0⟩
  · rw [e a fun z => (s.keep a o w q n).1 (Cs.ao_as (mem a z))]
    exact (s.keep a o w q n).2
  · rw [ne (Cs.mem_iff.mpr (.inl ha))]; exact S1.hide a ha
  · obtain ⟨ps, q, t⟩ := S1.tab P hP
    refine ⟨ps, ?_, t⟩
    rw [e P fun z => ?_]
    · exact q
    · obtain ⟨o, q2, no⟩ := S.memN (mem P z)
      rw [q] at q2; cases q2; exact no ps rfl
  · have ha : a ∈ (⟨as'.hid, as'.as.take m, as'.own⟩ : Cs) := Cs.mem_iff.mpr (.inr (Cs.ao_as (List.mem_of_getElem? h1)))
    have h1 : (as'.as.take m)[n]? = some a := h1
    have hn : n < m := by
      have := (List.getElem?_eq_some_iff.mp h1).1
      simp at this; omega
    rw [List.getElem?_take_of_lt hn] at h1 h2
    exact (S.cell n a c h1 h2).out o2 (ne ha) (fun j b hj z => by
      show (as'.as.take m)[j]? = _
      rw [List.getElem?_take_of_lt (by omega)]
      exact z) rfl (fun j b hb => ne (Cs.mem_iff.mpr (.inr (Cs.ao_own hb))))
  · obtain ⟨i, hi, ei⟩ := List.getElem_of_mem hp
    rw [ne (Cs.mem_iff.mpr (.inr (Cs.ao_own (n := p.2) (List.getElem?_eq_some_iff.mpr ⟨hi, ei⟩))))]; exact S1.ownd p hp
theorem Fun.okW {P : Program} {w : World} {K : PySem.W.Frag} {mg : Str → Option Value} {base : Heap} {x qual : Str} {st : Stmt} {f : Addr} {fd : FuncData} {N ps : List Str} {k : Nat} {b : SS} (F : Fun K x qual st f fd) (S : FnScope N ps (defScope st))
    (hbody : ∀ (cdv : Value) (A : Around) (outer : List Env) (s : Shared) (H : Hp) (E : XK), Room k (A.deeper (envOfC qual (defScope st) s.heap.objs.size f cdv)) → fd.code = cdv →
      GB (cxOf CX0 P w K mg base N qual (defScope st) f cdv A outer s H E).nox (defBody st) b) : FnOk P w K mg base CX0 (k + 1) f fd ps (rdSp K (spBody N ps.length b)) := by
  obtain ⟨oc, od, kV, doc, pm, an, cdv, ct, osl, rfl, lk, hcd⟩ := F.ex
  refine fn_of lk hcd S (fun vs H Q E ⟨as, μ, ws, Q0, S1, r, h, A⟩ => by rw [← r.length]; exact h.1) fun A outer s H vs Q E hr ⟨as, μ, ws, Q0, S1, r, h, Af⟩ => ⟨_, PSs.nox (hbody cdv A outer s H E hr rfl).go, as, startW N ws, μ, _, S1, EnvOk.start r, h.2, ?_⟩
  have fin : ∀ w μ' as' v H', retW μ.length Q0 w μ' → Stp as H as' H' → SimH K as' μ' H' → Rel K as' H' w v → Q v H' := fun w μ' as' v H' ⟨m, h1, h2, h3, h4⟩ s' S' r' => by
    obtain ⟨sc, Sc, o⟩ := cutCells s' S' (by rw [S1.len]; exact h1) h2
    refine Af w (μ'.take m) _ v H' h4 sc Sc ?_
    cases w with
    | p d => exact Dz.out o r'
    | r n =>
      obtain ⟨a, e, q⟩ := r'
      exact ⟨a, e, by show (as'.as.take m)[n]? = _; rw [List.getElem?_take_of_lt h3]; exact q⟩
    | t n => exact r'
    | s ds => obtain ⟨a, vs, e, q1, q2⟩ := r'; exact ⟨a, vs, e, q1.elim (fun t => .inl (o.rd nt_lst t.1 t.2)) .inr, q2.out o⟩
    | u ns =>
      obtain ⟨a, vs, e, q1, q2, q3⟩ := r'
      refine ⟨a, vs, e, (o.rd nt_tup q1 q2).1, (o.rd nt_tup q1 q2).2, ?_⟩
      exact q3.at fun k hk b eb => by show (as'.as.take m)[k]? = _; rw [List.getElem?_take_of_lt (h3 k hk)]; exact eb
    | q n j => exact r'
  exact ⟨fun ρ' μ' as' σ' H' q s' S' _ => fin _ _ _ _ _ q s' S' Dz.non, fin, fun _ _ _ _ _ q => q.elim, fun _ _ _ _ _ q => q.elim⟩
end L2.Ev
namespace L2.Ev
open PySem PySem.Spec PyProof.Rows
section
variable {X : Cx}
def cLen : SpW := fun ws μ Q => match ws with
  | [.p (.str z)] => z.length ≤ sizeLine ∧ Q (.p (.int z.length)) μ
  | [.p (.tuple xs)] => Q (.p (.int xs.length)) μ
  | [w] => match rlOf μ w with | some xs => Q (.p (.int xs.length)) μ | none => False
  | _ => False
theorem gc_len : GC X (.builtin "len") cLen := ⟨CallR_imp call_len fun vs H Q ⟨as, μ, ws, Q0, S, r, h, A⟩ => by
  unfold cLen at h
  split at h
  · cases r with
    | cons r1 r2 =>
      cases r2
      cases r1
      exact ⟨_, _, rfl, ⟨h.1, rfl⟩, A.now S h.2 (Dz.int _)⟩
  · cases r with
    | cons r1 r2 =>
      cases r2
      cases r1 with
      | tup t d => exact ⟨_, _, rfl, .inr ⟨_, t.sq, d.length.symm⟩, A.now S h (Dz.int _)⟩
  · cases r with
    | cons r1 r2 =>
      cases r2
      split at h
      · rename_i xs e
        obtain ⟨a, vs, rfl, s1, d1⟩ := rlOf_sq S r1 e
        exact ⟨_, _, rfl, .inl ⟨_, s1, d1.length.symm⟩, A.now S h (Dz.int _)⟩
      · exact h.elim
  · exact h.elim⟩
def cInt : SpW := fun ws μ Q => match ws with
  | [.p (.int i)] => Q (.p (.int i)) μ
  | [.p (.bool b)] => Q (.p (.int (if b then 1 else 0))) μ
  | _ => False
theorem gc_int : GC X (.type "int") cInt := ⟨CallR_imp call_int1 fun vs H Q ⟨as, μ, ws, Q0, S, r, h, A⟩ => by
  unfold cInt at h
  split at h
  · cases r with
    | cons r1 r2 => cases r2; cases r1; exact .inl ⟨_, rfl, A.now S h (Dz.int _)⟩
  · cases r with
    | cons r1 r2 => cases r2; cases r1; exact .inr ⟨_, rfl, A.now S h (Dz.int _)⟩
  · exact h.elim⟩
theorem max_if (i j : Int) : (if j > i then j else i) = max i j := by rw [Int.max_def]; split <;> split <;> omega
theorem min_if (i j : Int) : (if j < i then j else i) = min i j := by rw [Int.min_def]; split <;> split <;> omega
def cMax : SpW := fun ws μ Q => match ws with
  | [.p (.int i), .p (.int j)] => Q (.p (.int (max i j))) μ
  | _ => False
def cMin : SpW := fun ws μ Q => match ws with
  | [.p (.int i), .p (.int j)] => Q (.p (.int (min i j))) μ
  | _ => False
theorem gc_max (hc : X.calm = true) : GC X (.builtin "max") cMax := ⟨CallR_imp (call_max2 hc) fun vs H Q ⟨as, μ, ws, Q0, S, r, h, A⟩ => by
  unfold cMax at h
  split at h
  · cases r with
    | cons r1 r2 =>
      cases r1
      cases r2 with
      | cons r2 r3 =>
        cases r3; cases r2
        refine ⟨_, _, rfl, A.now S h ?_⟩
        rw [← max_if]
        exact Dz.int _
  · exact h.elim⟩
theorem gc_min (hc : X.calm = true) : GC X (.builtin "min") cMin := ⟨CallR_imp (call_min2 hc) fun vs H Q ⟨as, μ, ws, Q0, S, r, h, A⟩ => by
  unfold cMin at h
  split at h
  · cases r with
    | cons r1 r2 =>
      cases r1
      cases r2 with
      | cons r2 r3 =>
        cases r3; cases r2
        refine ⟨_, _, rfl, A.now S h ?_⟩
        rw [← min_if]
        exact Dz.int _
  · exact h.elim⟩
def cTuple : SpW := fun ws μ Q => match ws with
  | [.p (.tuple xs)] => Q (.p (.tuple xs)) μ
  | [w] => match rlOf μ w with | some xs => Q (.p (.tuple xs)) μ | none => False
  | _ => False
theorem gc_tuple : GC X (.type "tuple") cTuple := ⟨CallR_imp call_tuple_of fun vs H Q ⟨as, μ, ws, Q0, S, r, h, A⟩ => by
  unfold cTuple at h
  split at h
  · cases r with
    | cons r1 r2 =>
      cases r2
      cases r1 with
      | tup t d => exact ⟨_, _, rfl, .inr ⟨t.sq, A.now S h (Dz.tup t d)⟩⟩
  · cases r with
    | cons r1 r2 =>
      cases r2
      split at h
      · rename_i xs e
        obtain ⟨a, vs, rfl, s1, d1⟩ := rlOf_sq S r1 e
        exact ⟨_, _, rfl, .inl ⟨s1, A.tup S d1 h⟩⟩
      · exact h.elim
  · exact h.elim⟩
def cList : SpW := fun ws μ Q => match ws with
  | [.p (.tuple xs)] => Q (.p (.list xs)) μ
  | [w] => match rlOf μ w with | some xs => Q (.p (.list xs)) μ | none => False
  | _ => False
theorem gc_list : GC X (.type "list") cList := ⟨CallR_imp call_list_of fun vs H Q ⟨as, μ, ws, Q0, S, r, h, A⟩ => by
  unfold cList at h
  split at h
  · cases r with
    | cons r1 r2 =>
      cases r2
      cases r1 with
      | tup t d => exact ⟨_, _, rfl, .inr t.sq, A.lst S d h⟩
  · cases r with
    | cons r1 r2 =>
      cases r2
      split at h
      · rename_i xs e
        obtain ⟨a, vs, rfl, s1, d1⟩ := rlOf_sq S r1 e
        exact ⟨_, _, rfl, .inl s1, A.lst S d1 h⟩
      · exact h.elim
  · exact h.elim⟩
def tyW (μ : Mu) : W → Option String
  | .p .none => some "NoneType"
  | .p (.bool _) => some "bool"
  | .p (.int _) => some "int"
  | .p (.str _) => some "str"
  | .p (.list _) => some "list"
  | .p (.tuple _) => some "tuple"
  | .p (.dict _) => some "dict"
  | .r n => match μ[n]? with | some (.lst _) => some "list" | _ => none
  | .s _ => some "list"
  | _ => none
def isT (T U : String) : Bool := T == U || (T == "bool" && U == "int")
def cIsi : SpW := fun ws μ Q => match ws with
  | [w, .t U] => match tyW μ w with
    | some T => (U = "int" ∨ U = "bool" ∨ U = "str" ∨ U = "tuple" ∨ U = "list") ∧ Q (.p (.bool (isT T U))) μ
    | none => False
  | _ => False
theorem kit_all {K : PySem.W.Frag} {T U : String} (hT : T = "NoneType" ∨ T = "bool" ∨ T = "int" ∨ T = "str" ∨ T = "list" ∨ T = "tuple" ∨ T = "dict") (hU : U = "int" ∨ U = "bool" ∨ U = "str" ∨ U = "tuple" ∨ U = "list") : PySem.W.kitOne K (.type T) (.type U) = some (isT T U) := by
  rcases hT with rfl | rfl | rfl | rfl | rfl | rfl | rfl <;> rcases hU with rfl | rfl | rfl | rfl | rfl <;> with_unfolding_all rfl
theorem call_isi {H : Hp} {pins : List (Addr × Obj)} {σ : St} {s : Shared} {x : V} {u : Value} {T U : String} {Q : VK} (I : Inv X pins σ H s) (r : RelV x u)
    (hx : match x with | .non => T = "NoneType" | .bl _ => T = "bool" | .int _ => T = "int" | .str _ => T = "str" | .ref a => (T = "list" ∧ ∃ xs, SqL X.K H a xs) ∨ (T = "tuple" ∧ ∃ xs, SqT X.K H a xs) ∨ (T = "dict" ∧ ∃ us, Rd H a (.dK us)) | _ => False)
    (hU : U = "int" ∨ U = "bool" ∨ U = "str" ∨ U = "tuple" ∨ U = "list") (q : Q (.bl (isT T U)) H) : wpAny (model X.prog X.w) X.A (call (.builtin "isinstance") [u, .type U]) (EP X pins σ Q) X.xe s := by
  have fin : ∀ tk, EP X pins σ Q (.bool (isT T U)) { s with toks := tk } := fun tk => ⟨.bl _, H, I.tok tk, rfl, q⟩
  cases x with
  | non => cases r; cases hx; exact PySem.W.kia_one (K := X.K) PySem.W.kitx_none I.kIn trivial (kit_all (by simp) hU) (by intro z; cases z) fin
  | bl b => cases r; cases hx; exact PySem.W.kia_one (K := X.K) PySem.W.kitx_bool I.kIn trivial (kit_all (by simp) hU) (by intro z; cases z) fin
  | int i => obtain ⟨t, rfl⟩ := r; cases hx; exact PySem.W.kia_one (K := X.K) PySem.W.kitx_int I.kIn trivial (kit_all (by simp) hU) (by intro z; cases z) fin
  | str i => obtain ⟨t, rfl⟩ := r; cases hx; exact PySem.W.kia_one (K := X.K) PySem.W.kitx_str I.kIn trivial (kit_all (by simp) hU) (by intro z; cases z) fin
  | ref a =>
    cases r
    rcases hx with ⟨rfl, xs, h⟩ | ⟨rfl, xs, h⟩ | ⟨rfl, us, h⟩
    · obtain ⟨its, _, ⟨o, n, e, c, _⟩, _⟩ := I.list h
      exact PySem.W.kia_one (K := X.K) PySem.W.kitx_list I.kIn ⟨o, e, c⟩ (kit_all (by simp) hU) (by intro z; cases z) fin
    · obtain ⟨its, _, ⟨o, e, c, _⟩, _⟩ := I.tuple h
      exact PySem.W.kia_one (K := X.K) PySem.W.kitx_tuple I.kIn ⟨o, e, c⟩ (kit_all (by simp) hU) (by intro z; cases z) fin
    · obtain ⟨_, _, vs, _, o, es, ep, e, c, _⟩ := dk_rd I.hok h
      exact PySem.W.kia_one (K := X.K) PySem.W.kitx_dict I.kIn ⟨o, e, c.1⟩ (kit_all (by simp) hU) (by intro z; cases z) fin
  | _ => exact hx.elim
theorem gc_isi : GC X (.builtin "isinstance") cIsi := ⟨by
  intro pins s σ H xs us Q I rx ⟨as, μ, ws, Q0, S, r, h, A⟩
  unfold cIsi at h
  split at h
  · rename_i w U
    split at h
    · rename_i T hT
      cases r with
      | cons r1 r2 =>
        cases r2 with
        | cons r2 r3 =>
          cases r3
          have r2 := (show _ = V.ty U from r2)
          subst r2
          cases rx with
          | cons ru rx =>
            cases rx with
            | cons ru2 rx =>
              cases rx
              cases ru2
              refine call_isi I ru ?_ h.1 (A.now S h.2 (Dz.bl _))
              cases w with
              | p d =>
                cases d with
                | none => cases r1; cases hT; rfl
                | bool b => cases r1; cases hT; rfl
                | int b => cases r1; cases hT; rfl
                | str b => cases r1; cases hT; rfl
                | list b => cases r1 with | lst t d => cases hT; exact .inl ⟨rfl, _, t.sq⟩
                | tuple b => cases r1 with | tup t d => cases hT; exact .inr (.inl ⟨rfl, _, t.sq⟩)
                | dict b => cases r1 with | dct n r k d => cases hT; exact .inr (.inr ⟨rfl, _, r.rd⟩)
              | r n =>
                simp only [tyW] at hT
                split at hT
                · rename_i c hc
                  cases hT
                  obtain ⟨a, rfl, ha⟩ := r1
                  obtain ⟨vs, h1, _⟩ := S.cell n a _ ha hc
                  exact .inl ⟨rfl, vs, .of h1⟩
                · cases hT
              | t n => cases hT
              | s ds => cases hT; obtain ⟨a, vs, rfl, t, _⟩ := r1; exact .inl ⟨rfl, vs, t.sq⟩
              | u ds => cases hT
              | q n j => cases hT
    · exact h.elim
  · exact h.elim⟩
def oIs : O2 := fun x y μ Q => match x, y with
  | .p (.bool c), .p (.bool b) => Q (.p (.bool (c == b))) μ
  | x, .p .none => Q (.p (.bool (isNo x))) μ
  | _, _ => False
def oIsNot : O2 := fun x y μ Q => match x, y with
  | .p (.bool c), .p (.bool b) => Q (.p (.bool (!(c == b)))) μ
  | x, .p .none => Q (.p (.bool (!isNo x))) μ
  | _, _ => False
theorem op_isB : OpR X (compareOp .Is) (fun x y H Q => ∃ c d, x = .bl c ∧ y = .bl d ∧ Q (.bl (c == d)) H) := by
  intro pins s σ H x y v u Q I rx ry ⟨c, d, e1, e2, q⟩
  subst e1 e2
  cases rx; cases ry
  exact is_bool ⟨.bl _, H, I, rfl, q⟩
theorem op_notB : OpR X (compareOp .IsNot) (fun x y H Q => ∃ c d, x = .bl c ∧ y = .bl d ∧ Q (.bl (!(c == d))) H) := by
  intro pins s σ H x y v u Q I rx ry ⟨c, d, e1, e2, q⟩
  subst e1 e2
  cases rx; cases ry
  exact isnot_bool ⟨.bl _, H, I, rfl, q⟩
theorem go_is : GO X (compareOp .Is) oIs := ⟨OpR_imp (op_isB.or op_isN) fun x y H Q ⟨as, μ, w1, w2, Q0, S, r1, r2, q, A⟩ => by
  unfold oIs at q
  split at q
  · cases r1; cases r2
    exact .inl ⟨_, _, rfl, rfl, A.now S q (Dz.bl _)⟩
  · cases r2
    exact .inr ⟨rfl, A.now S q (by rw [isN_iff r1]; exact Dz.bl _)⟩
  · exact q.elim⟩
theorem go_isNot : GO X (compareOp .IsNot) oIsNot := ⟨OpR_imp (op_notB.or op_notN) fun x y H Q ⟨as, μ, w1, w2, Q0, S, r1, r2, q, A⟩ => by
  unfold oIsNot at q
  split at q
  · cases r1; cases r2
    exact .inl ⟨_, _, rfl, rfl, A.now S q (Dz.bl _)⟩
  · cases r2
    exact .inr ⟨rfl, A.now S q (by rw [isN_iff r1]; exact Dz.bl _)⟩
  · exact q.elim⟩
def wApp (fo fe : SE) : SE := fun ρ μ Q => fo ρ μ fun o μ1 => (match o with | .r n => (match μ1[n]? with | some (.lst _) => True | _ => False) | _ => False) ∧ fe ρ μ1 fun y μ2 => match o, y with
  | .r n, .p d => match μ2[n]? with
    | some (.lst xs) => xs.length < sizeLine ∧ Q (.p .none) (μ2.set n (.lst (xs ++ [d])))
    | _ => False
  | _, _ => False
theorem ge_app {o e : Expr} {fo fe : SE} {apos cpos : Pos} (ho : GE X o fo) (he : GE X e fe) (hbase : attributeBase o "append" X.env (eval o X.env) = eval o X.env := by rfl)
    (hfew : ((backTo cpos (starEach [e] X.env)).all (fun x => !x.1) && (backToKw cpos (keywordEach [] X.env)).all (fun x => x.1.isSome)
      && decide ([e].length + ([] : List Keyword).length + (if ([] : List Keyword).isEmpty then 0 else 1) < 30)) = true := by rfl)
    (hline : (apos.endLine == cpos.line) = true := by rfl) (hs : starEach [e] X.env = (false, eval e X.env) :: starEach [] X.env := by rfl) (hplain : (backTo cpos (starEach [] X.env)).any (·.1) = false := by rfl) :
    GE X (.Call (.Attribute o "append" apos) [e] [] cpos) (wApp fo fe) := ⟨PE_imp (pe_bm PySem.F.plainAttrs_list PySem.F.slot_list_append PySem.F.type_list_append mt_append ho.go (pa_cons he.go pa_nil hs) hbase hfew hline hs hplain) fun σ H Q ⟨as, ρ, μ, Q0, S, E, h, A⟩ =>
  ⟨as, ρ, μ, _, S, E, h, fun w μ1 as1 v H1 q1 s1 S1 r1 => by
    obtain ⟨z, q1⟩ := q1
    split at z
    · rename_i n
      split at z
      · rename_i xs0 hc0
        obtain ⟨a, rfl, ha⟩ := r1
        obtain ⟨vs0, h0, _⟩ := S1.cell n a _ ha hc0
        refine ⟨.inl ⟨rfl, _, SqL.of h0⟩, as1, ρ, μ1, _, S1, E.mono s1, q1, fun y μ2 as2 v2 H2 q2 s2 S2 r2 => ?_⟩
        split at q2
        · rename_i n' d heq
          cases heq
          split at q2
          · rename_i xs hc
            have ha2 : as2.as[n]? = some a := by
              obtain ⟨t, e⟩ := s2.pre
              rw [e, List.getElem?_append_left (List.getElem?_eq_some_iff.mp ha).1]; exact ha
            obtain ⟨vs, h1, h2⟩ := S2.cell n a _ ha2 hc
            have hm := List.mem_of_getElem? ha2
            refine ⟨a, vs, _, rfl, rfl, h1, by rw [h2.length]; exact q2.1, A _ _ as2 _ _ q2.2 (s1.trans (s2.trans (Stp.write hm _))) (S2.write ha2 _ _ ⟨_, upd_same, (h2.append (.cons r2 .nil)).mono (Stp.write hm _)⟩) Dz.non⟩
          · exact q2.elim
        · exact q2.elim
      · exact z.elim
    · exact z.elim⟩⟩
end
end L2.Ev
namespace L2.Ev
open PySem PySem.Spec PyProof.Rows
end L2.Ev
namespace L2.Ev
open PySem PySem.Spec PyProof.Rows
section
variable {X : Cx} {pos : Pos}
def wNeg (f : SE) : SE := fun ρ μ Q => f ρ μ fun x μ1 => match x with | .p (.int i) => Q (.p (.int (-i))) μ1 | _ => False
theorem ge_neg {a : Expr} {f : SE} (ha : GE X a f) : GE X (.UnaryOp .USub a pos) (wNeg f) := ⟨PE_imp (pe_un un_neg ha.go) fun σ H Q ⟨as, ρ, μ, Q0, S, E, h, A⟩ =>
  ⟨as, ρ, μ, _, S, E, h, fun w μ1 as1 v H1 q1 s1 S1 r1 => by
    split at q1
    · cases r1
      exact ⟨_, rfl, A _ _ _ _ _ q1 s1 S1 (Dz.int _)⟩
    · exact q1.elim⟩⟩
end
end L2.Ev
namespace L2.Ev
open PySem PySem.Spec PyProof.Rows
section
variable {prog : Program} {w : World}
theorem gen_code {M : Model} {A : Around} {E : Value → Shared → Prop} {s : Shared} {env : Env} {c P : Addr} {ps : Array Value} {pos : Pos} {qualname : Str} {scope : Scope} {Q : Value → Shared → Prop} (hc : env.code = .ref c) (hok : s.heap.IsCode c P ps) (htab : s.heap.TableAt c P ps)
    (hQ : ∀ code h' tk more, Heap.ExtBut P s.heap h' → TriplesOk (ps ++ more).toList → h'.get? P = some (PySem.W.tabObj (ps ++ more)) → Q code { s with heap := h', toks := tk }) :
    wpAny M A (genexprCode env pos qualname scope) Q E s := by
  have htr : TriplesOk ps.toList := by obtain ⟨o, vs, file, tf, flags, tg, inF, text, tt, op, ho, hd, h11, h2, h7, h9, h10, hop, hpd, htr, hne⟩ := id hok; exact htr
  cases hf : codeAmong pos ps.toList with
  | some cv => exact wpAny_genexprCode_hit hc hok hf (hQ cv s.heap s.toks #[] (Heap.ExtBut.refl _ _) (by simpa using htr) (by simpa using htab.2))
  | none =>
    refine wpAny_genexprCodeX hc hok htab hf fun c' h' tk hx _ _ hok' _ htab' _ => hQ _ h' tk _ hx ?_ htab'.2
    obtain ⟨o, vs, file, tf, flags, tg, inF, text, tt, op, ho, hd, h11, h2, h7, h9, h10, hop, hpd, htr', hne⟩ := id hok'
    exact htr'
end
theorem Inv.tab {X : Cx} {pins : List (Addr × Obj)} {σ : List (Option V)} {H : Hp} {s : Shared} {P : Addr} {ps more : Array Value} {h' : Heap} {g' : Array GenState} {t' : Nat} {d' : Drawn} (I : Inv X pins σ H s) (hP : H P = some (.tbl ps))
    (k : ∀ b o, b ≠ P → s.heap.get? b = some o → h'.get? b = some o) (hnew : h'.get? P = some (PySem.W.tabObj (ps ++ more))) (hg : AllBare g') :
    Inv X pins σ (upd H P (.tbl (ps ++ more))) { s with heap := h', gens := g', drawn := d', toks := t' } := by
  have nP : ∀ b, H b = none → b ≠ P := fun b n z => by subst z; rw [n] at hP; cases hP
  refine I.step (ch := []) (fun _ z => nomatch z) (fun b o _ _ _ e n => k b o (nP b n) e) (fun b o _ _ _ e n => ⟨o.slots, k b o (nP b n) e⟩) (fun b o _ e n => by rw [upd_ne (nP b n)]; exact n) (fun b o _ e => ?_) (fun b xs e => ?_) (fun b o u e => ?_) (fun b qs e => ?_) (fun m hm => ?_) (fun b u e => ?_) hg
  · by_cases hb : b = P
    · subst hb; exact ⟨_, hnew⟩
    · exact ⟨o, k b o hb e⟩
  · rw [upd_ne (fun z => by subst z; rw [e] at hP; cases hP)]; exact e
  · rw [upd_ne (fun z => by subst z; rw [e] at hP; cases hP)]; exact e
  · by_cases hb : b = P
    · subst hb
      rw [e] at hP; cases hP
      exact ⟨more, upd_same⟩
    · exact ⟨#[], by rw [upd_ne hb, e]; simp⟩
  · obtain ⟨o, es, ep, ho, r⟩ := hm
    exact ⟨o, es, ep, k _ o (nP _ I.free) ho, r⟩
  · by_cases hb : b = P
    · subst hb
      rw [upd_same] at e; cases e
      exact hnew
    · rw [upd_ne hb] at e
      refine (I.hok b u e).stay (fun c v hc q => k c v ?_ q) (fun c q => by rw [upd_ne (fun z => by subst z; rw [q] at hP; cases hP)]; exact q) fun c xs q => by rw [upd_ne (fun z => by subst z; rw [q] at hP; cases hP)]; exact q
      rcases hc with rfl | hc
      · exact hb
      · exact fun z => by subst z; rw [hc] at hP; cases hP
structure GenB (K : PySem.W.Frag) (mg : Str → Option Value) (base : Heap) : Prop where
  bmod : ∃ bm ob, BMod base mainGlobals mg bm ob
  code : ∀ c o P, K.lookup c = some o → tabOf o = some P → PySem.W.CodeHd base c P
theorem Stp.tab {as : Cs} {H : Hp} {P : Addr} {ps : Array Value} (hP : H P = some (.tbl ps)) (o : HO) : Stp as H as (upd H P o) :=
  ⟨rfl, ⟨[], by simp⟩, fun a u w h n => ⟨n, by rw [upd_ne (fun z => by subst z; rw [h] at hP; cases hP; exact w ps rfl)]; exact h⟩, ⟨[], by simp⟩, fun a u v h => by rw [upd_ne (fun z => by subst z; rw [h] at hP; cases hP)]; exact h⟩
theorem SimH.tabGrow {K : PySem.W.Frag} {as : Cs} {μ : Mu} {H : Hp} {P : Addr} {ps qs : Array Value} (S : SimH K as μ H) (hP : H P = some (.tbl ps)) (ht : TriplesOk qs.toList) : SimH K as μ (upd H P (.tbl qs)) := by
  refine ⟨S.nd, S.len, fun a h => ?_, fun P' h' => ?_, fun n a c h1 h2 => (S.cell n a c h1 h2).mono (Stp.tab hP _) (upd_ne fun z => ?_) (fun j b hb => upd_ne fun z => by obtain ⟨o, e, no⟩ := S.own_some hb; subst z; rw [hP] at e; cases e; exact no ps rfl), fun x hx => ?_⟩
  · obtain ⟨o, e, no, _⟩ := (S.hide a h).some
    rw [upd_ne (fun z => by subst z; rw [e] at hP; cases hP; exact no _ rfl)]; exact S.hide a h
  · by_cases z : P' = P
    · subst z; exact ⟨qs, upd_same, ht⟩
    · obtain ⟨ps', e, t⟩ := S.tab P' h'
      exact ⟨ps', by rw [upd_ne z]; exact e, t⟩
  · subst z
    obtain ⟨o, e, no⟩ := S.memN (List.mem_of_getElem? h1)
    rw [hP] at e; cases e; exact no ps rfl
  · obtain ⟨o, e, no⟩ := (S.ownd x hx).some
    rw [upd_ne (fun z => by subst z; rw [hP] at e; cases e; exact no ps rfl)]; exact S.ownd x hx
def tabK (K : PySem.W.Frag) : Value → Option Addr
  | .ref c => match K.lookup c with | some o => tabOf o | none => none
  | _ => none
theorem tabK_some {K : PySem.W.Frag} {v : Value} {P : Addr} (h : tabK K v = some P) : ∃ c o, v = .ref c ∧ K.lookup c = some o ∧ tabOf o = some P ∧ IsTab K P := by
  unfold tabK at h
  split at h
  · rename_i c
    split at h
    · rename_i o e
      exact ⟨c, o, rfl, e, h, c, o, e, h⟩
    · cases h
  · cases h
end L2.Ev
namespace L2.Ev
open PySem PySem.Spec PyProof.Rows
theorem dz_ints {K : PySem.W.Frag} {as : Cs} {H : Hp} : ∀ ns : List Int, DzAll K as H (ns.map V.int) (ns.map PyData.int)
  | [] => .nil
  | _ :: ns => .cons (.int _) (dz_ints ns)
noncomputable def H1 (K : PySem.W.Frag) (a : Addr) (u : Option HO) : Hp := fun b => open Classical in if IsTab K b then some (.tbl #[]) else if b = a then u else none
theorem H1_tab {K : PySem.W.Frag} {a b : Addr} {u : Option HO} (h : IsTab K b) : H1 K a u b = some (.tbl #[]) := if_pos h
theorem H1_a {K : PySem.W.Frag} {a : Addr} {u : Option HO} (h : ¬ IsTab K a) : H1 K a u a = u := (if_neg h).trans (if_pos rfl)
theorem H1_no {K : PySem.W.Frag} {a b : Addr} {u : Option HO} (h : ¬ IsTab K b) (n : b ≠ a) : H1 K a u b = none := (if_neg h).trans (if_neg n)
theorem callG {P : Program} {w : World} {K : PySem.W.Frag} {mg mb : Str → Option Value} {k : Nat} {fa a : Addr} {fd : FuncData} {x : Str} {sp : Sp} {s₁ : Shared} {vs : List Value} {ns : List Int}
    (KX : K.In s₁.heap) (hns : s₁.heap.Ns mainGlobals mg) (hb : s₁.heap.Ns builtinsNs mb) (hbb : ∀ x : Str, x ≠ "__name__" → mb x = bootBuiltins x) (hlim : s₁.heap.NoLimit) (hg : s₁.gens = #[]) (hB : ∃ bm ob, BMod s₁.heap mainGlobals mg bm ob)
    (hT : ∀ c o P, K.lookup c = some o → tabOf o = some P → PySem.W.CodeHd s₁.heap c P ∧ s₁.heap.TableAt c P #[])
    (ha : s₁.heap.get? a = some { cls := .type "list", data := .seq vs.toArray }) (hi : IntsAre vs ns) (hl : ns.length ≤ sizeLine) (hr : Room k callerA)
    (F : ∀ base : Heap, K.In base → base.Ns mainGlobals mg → GenB K mg base → FnOk P w K mg base CX0 k fa fd [x] sp) (hbind : ∀ (s : Shared) (u : Value), BindsTo s fd ⟨[u], []⟩ [(x, u)])
    (hK : PySem.W.noTabs K = true)
    (hsp : ∀ H : Hp, (∀ P, IsTab K P → H P = some (.tbl #[])) → SqL K H a (ns.map V.int) ∧ (Rd H a (.lst (ns.map V.int)) ∨ KeptL K a) → sp [.ref a] H (fun v _ => v = .bl true) fun _ _ _ => False) :
    codeAny (model P w) callerA (.call (.ref fa) ⟨[.ref a], []⟩) (fun r s' => r = .ok (.ret (.bool true)) ∧ OldK s₁.heap s'.heap ∧ s'.os = s₁.os ∧ AllBare s'.gens) s₁ := by
  have rv := vals_ints hi
  have lenV := hi.length
  have tObj : ∀ Q, IsTab K Q → s₁.heap.get? Q = some (PySem.W.tabObj #[]) := fun Q ⟨c, o, e, h⟩ => (hT c o Q e h).2.2
  have aT : ¬ IsTab K a := fun h => by have := tObj a h; rw [ha] at this; cases this
  have kT : ∀ b o, K.lookup b = some o → ¬ IsTab K b := fun b o e h => by
    have h1 := KX b o e
    rw [tObj b h] at h1
    cases h1
    have h2 := List.all_eq_true.mp hK (b, _) (PySem.W.mem_of_lookupK e)
    exact absurd (show false = true from h2) Bool.false_ne_true
  have core : ∀ u : Option HO, (u = none ∨ u = some (.frz { cls := .type "list", data := .seq vs.toArray } (.lst (ns.map V.int)))) → SqL K (H1 K a u) a (ns.map V.int) ∧ (Rd (H1 K a u) a (.lst (ns.map V.int)) ∨ KeptL K a) → (u ≠ none → K.lookup a = none) →
      codeAny (model P w) callerA (.call (.ref fa) ⟨[.ref a], []⟩) (fun r s' => r = .ok (.ret (.bool true)) ∧ OldK s₁.heap s'.heap ∧ s'.os = s₁.os ∧ AllBare s'.gens) s₁ := by
    intro u hu hS hKa
    generalize hH : H1 K a u = H at hS
    have cases3 : ∀ b, (IsTab K b ∧ H b = some (.tbl #[])) ∨ (¬ IsTab K b ∧ b = a ∧ H b = u) ∨ (¬ IsTab K b ∧ b ≠ a ∧ H b = none) := fun b => by
      rw [← hH]
      by_cases h : IsTab K b
      · exact .inl ⟨h, H1_tab h⟩
      · by_cases e : b = a
        · subst e; exact .inr (.inl ⟨h, rfl, H1_a h⟩)
        · exact .inr (.inr ⟨h, e, H1_no h e⟩)
    have hok : HOk P w H s₁.heap := fun b o e => by
      rcases cases3 b with ⟨h, q⟩ | ⟨h, rfl, q⟩ | ⟨h, n, q⟩
      · rw [q] at e; cases e; exact tObj b h
      · rw [q] at e
        subst e
        rcases hu with hu | hu
        · cases hu
        · cases hu; exact ⟨ha, by rw [List.length_map]; exact hl, vs, _, rv, ha⟩
      · rw [q] at e; cases e
    have un3 : ∀ {b : Addr} {o : Obj}, s₁.heap.get? b = some o → o ≠ PySem.W.tabObj #[] → (b = a → u = none) → H b = none := fun {b o} e hne hba => by
      rcases cases3 b with ⟨h, q⟩ | ⟨h, e', q⟩ | ⟨h, n, q⟩
      · have := tObj b h; rw [e] at this; exact absurd (Option.some.inj this) hne
      · rw [q]; exact hba e'
      · exact q
    have unO : ∀ {b : Addr} {o : Obj}, s₁.heap.get? b = some o → o ≠ PySem.W.tabObj #[] → o.cls ≠ .type "list" → H b = none := fun {b o} e hne hc => un3 e hne fun z => by subst z; rw [ha] at e; cases e; exact absurd rfl hc
    have nsK : ∀ {b : Addr} {m : Str → Option Value}, s₁.heap.Ns b m → (hidT s₁.heap H).Ns b m := fun {b m} ⟨o, es, ep, e, d, r⟩ => ⟨o, es, ep, hidT_get e (un3 e (fun z => by subst z; cases d) fun z => by subst z; rw [ha] at e; cases e; cases d), d, r⟩
    have hKb : K.In (hidT s₁.heap H) := fun b o e => hidT_get (KX b o e) (by
      rcases cases3 b with ⟨h, q⟩ | ⟨h, e', q⟩ | ⟨h, n, q⟩
      · exact absurd h (kT b o e)
      · subst e'
        cases hu' : u with
        | none => rw [q, hu']
        | some _ => rw [hKa (by rw [hu']; simp)] at e; cases e
      · exact q)
    have hM : Mod K mg (hidT s₁.heap H) := ⟨hKb, nsK hns, ⟨mb, nsK hb, hbb⟩, let ⟨mc, h1, h2⟩ := hlim; ⟨mc, nsK h1, h2⟩⟩
    have hG : GenB K mg (hidT s₁.heap H) := by
      refine ⟨?_, fun c o P' e h => ?_⟩
      · obtain ⟨bm, ob, B⟩ := hB
        exact ⟨bm, ob, nsK B.ns, B.name, B.ne, hidT_get B.obj (unO B.obj (fun z => by have := B.cls; rw [z] at this; cases this) (by rw [B.cls]; decide)), B.cls, B.dict, B.data⟩
      · obtain ⟨oc, vc, file, tf, flags, tg, inF, text, tt, e1, e2, e3, r⟩ := (hT c o P' e h).1
        exact ⟨oc, vc, file, tf, flags, tg, inF, text, tt, hidT_get e1 (unO e1 (fun z => by rw [z] at e2; cases e2) (by rw [e2]; decide)), e2, e3, r⟩
    have e0 : Env0 P w K mg (hidT s₁.heap H) callerA [] s₁ H := ⟨rfl, hM, fun b o e => of_hidT e, Nat.le_of_eq (hidT_size _ _), trivial, fun b hb => absurd (show b ∈ ([] : List Addr) from hb) (by simp), hok, .of_eq hg⟩
    refine codeAny_mono ((F _ hKb (nsK hns) hG).run callerA [] s₁ H ⟨[.ref a], []⟩ [.ref a] [.ref a] _ _ hr e0 (hbind s₁ (.ref a)) (.cons rfl .nil) (hsp H (fun P' h => by rcases cases3 P' with ⟨_, q⟩ | ⟨n, _⟩ | ⟨n, _⟩; exact q; exact absurd h n; exact absurd h n) hS)) fun r s' h => ?_
    cases r with
    | error e => exact h.elim
    | ok fl =>
      cases fl with
      | next => exact False.elim h
      | brk => exact False.elim h
      | cont => exact False.elim h
      | ret u' =>
        obtain ⟨v, H', os, bare, un, hok', r', q⟩ := h
        have q' : v = .bl true := q
        subst q'
        obtain rfl : u' = Value.bool true := r'
        have kept : ∀ b o, s₁.heap.get? b = some o → ¬ IsTab K b → s'.heap.get? b = some o := fun b o e hn => by
          rcases cases3 b with ⟨h, _⟩ | ⟨h, e', qa⟩ | ⟨h, n, qn⟩
          · exact absurd h hn
          · subst e'
            rcases hu with hu | hu
            · rw [hu] at qa
              exact un.keep b o e qa (by intro z; exact absurd (show b ∈ ([] : List Addr) from z) (by simp)) (by simp)
            · rw [hu] at qa
              have z2 := un.frzs b _ _ qa
              obtain ⟨e1, _⟩ := hok b _ qa
              obtain ⟨e2, _⟩ := hok' b _ z2
              rw [e] at e1; cases e1
              exact e2
          · exact un.keep b o e qn (by intro z; exact absurd (show b ∈ ([] : List Addr) from z) (by simp)) (by simp)
        have tab' : ∀ b, IsTab K b → ∃ more, s'.heap.get? b = some (PySem.W.tabObj more) := fun b h => by
          rcases cases3 b with ⟨_, qt⟩ | ⟨n, _⟩ | ⟨n, _⟩
          · obtain ⟨more, em⟩ := un.tbls b _ qt
            exact ⟨#[] ++ more, hok' b _ em⟩
          · exact absurd h n
          · exact absurd h n
        refine ⟨rfl, ⟨fun b o e => ?_, fun b o e => ?_⟩, os, bare⟩
        · by_cases h : IsTab K b
          · obtain ⟨more, em⟩ := tab' b h
            have eo := tObj b h
            rw [e] at eo; cases eo
            obtain ⟨c, o', e1, e2⟩ := h
            exact .inr (.inl ⟨(hT c o' b e1 e2).2.isCodeTable, rfl, #[], more, rfl, by simpa using em⟩)
          · exact .inl (kept b o e h)
        · by_cases h : IsTab K b
          · obtain ⟨more, em⟩ := tab' b h
            exact ⟨_, em⟩
          · exact ⟨o, kept b o e h⟩
  cases hk : K.lookup a with
  | some o =>
    have e := KX a o hk
    rw [ha] at e
    cases e
    exact core none (.inl rfl) ⟨.inr ⟨_, vs.toArray, _, hk, rfl, rfl, rfl, by rw [List.size_toArray, lenV]; exact hl, by simpa using rv⟩, .inr ⟨_, _, hk⟩⟩ fun z => absurd rfl z
  | none => exact core _ (.inr rfl) ⟨.inl (.inr ⟨_, H1_a aT⟩), .inl (.inr ⟨_, H1_a aT⟩)⟩ fun _ => hk
def codesOf (K : PySem.W.Frag) : List Addr := K.filterMap fun p => if (tabOf p.2).isSome = true then some p.1 else none
theorem own_mem {K : PySem.W.Frag} {c : Addr} {o : Obj} {P : Addr} (e : K.lookup c = some o) (h : tabOf o = some P) : c ∈ codesOf K := List.mem_filterMap.mpr ⟨(c, o), PySem.W.mem_of_lookupK e, by simp [h]⟩
def Owned (q : Program) (K : PySem.W.Frag) (mg : Str → Option Value) (c : Addr) : Prop :=
  ∃ (name : Str) (d : DefRec) (f : Addr) (oc : Value) (od : Option Addr) (fd : FuncData) (osl : Array (Option Value)), (recsOf q).find? (fun e => e.name == name) = some d ∧ mg name = some (.ref f) ∧ K.lookup f = some ⟨oc, od, .func fd, osl⟩ ∧ fd.code = .ref c
theorem own_one {q : Program} {K : PySem.W.Frag} {hp : Heap} {mg : Str → Option Value} {name : Str} {d : DefRec} {f c0 : Addr} {oc : Value} {od : Option Addr} {fd : FuncData} {osl : Array (Option Value)} (X : K.In hp) (G : hp.Ns mainGlobals mg)
    (ha : PySem.W.nsIn K mainGlobals name = some (some (.ref f))) (hl : K.lookup f = some ⟨oc, od, .func fd, osl⟩) (hc : fd.code = .ref c0) (hcs : codesOf K = [c0]) (hq : (recsOf q).find? (fun e => e.name == name) = some d) : ∀ c o P, K.lookup c = some o → tabOf o = some P → Owned q K mg c := fun c o P e h => by
  have := own_mem e h
  rw [hcs] at this
  simp at this
  subst this
  exact ⟨name, d, f, oc, od, fd, osl, hq, PySem.W.mg_of X G ha, hl, hc⟩
theorem walkW {l : PySem.W.OpenLaw} {k : Nat} {q : Program} {loose : List Str} {XP : (Str → Option Value) → Heap → Prop} {YP : World → Heap → Prop} {d : DefRec} {K : Params → PySem.W.Frag} {x : Str} {sp : SpW}
    (hn : l.most = some 63) (hdf : d.params.defaults = []) (hr : Room k callerA)
    (hY : ∀ (w : World) (h : Heap), YP w h → (K w.params).In h) (hK : ∀ w : World, PySem.W.noTabs (K w.params) = true)
    (hO : ∀ (w : World) (mg : Str → Option Value) (h : Heap), (K w.params).In h → h.Ns mainGlobals mg → ∀ c o P, (K w.params).lookup c = some o → tabOf o = some P →
      Owned q (K w.params) mg c)
    (F : ∀ (w : World) (mg : Str → Option Value) (fa : Addr) (h : Heap), (K w.params).In h → h.Ns mainGlobals mg → mg d.name = some (.ref fa) →
      ∃ fd : FuncData, (∀ (s : Shared) (u : Value), BindsTo s fd ⟨[u], []⟩ [(x, u)]) ∧
        ∀ base : Heap, (K w.params).In base → base.Ns mainGlobals mg → GenB (K w.params) mg base → FnOk l.prog w (K w.params) mg base CX0 k fa fd [x] (rdSp (K w.params) sp))
    (hsp : ∀ ns : List Int, ns.length ≤ 63 → sp [.s (ns.map PyData.int)] [] (fun w _ => w = .p (.bool true))) :
    PySem.W.WalkO q loose XP YP l.row.toRowW d [] (fun f vs => PySem.call f vs) := by
  refine Att.attach_call hn hdf fun w s₀ s₁ mg mb fa o pm cd doc a vs ns G Y ho hd hcd hmg hobj hints hlen hg => ?_
  have KX := hY w _ Y
  obtain ⟨fd, hb, hF⟩ := F w mg fa _ KX G.T.g hmg
  refine callG KX G.T.g G.T.b G.T.builtins G.T.nolimit hg (PySem.W.bmod_of_top G.T) (fun c o P e h => ?_) hobj hints (Nat.le_trans hlen (by decide)) hr hF hb (hK w) fun H hH hS => ?_
  · obtain ⟨name, d', f, oc, od, fd', osl, f1, f2, f3, f4⟩ := hO w mg _ KX G.T.g c o P e h
    obtain ⟨c', P', h1, B⟩ := PySem.W.based_of_top G.T f1 f2 (KX f _ f3) rfl
    rw [f4] at h1
    cases h1
    have ht := B.tab
    have hcd' := B.code
    obtain ⟨⟨o2, vs2, e1, e2, e3, e4⟩, _⟩ := id ht
    have eo := KX c o e
    rw [e1] at eo
    cases eo
    have eP : P' = P := by
      unfold tabOf at h
      rw [e2, e3] at h
      simp only at h
      split at h
      · split at h
        · rw [e4] at h; cases h; rfl
        · cases h
      · cases h
    subst eP
    exact ⟨PySem.W.CodeHd.of hcd' ht, ht⟩
  · have nm : a ∉ (⟨[], [], []⟩ : Cs) := fun z => by have := Cs.mem_iff.mp z; simp [Cs.ao] at this
    refine ⟨⟨[], [], []⟩, [], [.s (ns.map PyData.int)], _, ⟨by simp [Cs.ao], rfl, fun a h => by simp at h, fun P h => ⟨#[], hH P h, trivial⟩, fun n a c h => by simp at h, fun p h => by simp at h⟩, .cons ⟨a, _, rfl, ?_, dz_ints ns⟩ .nil, hsp ns hlen, fun w' μ' as' v H' e _ _ r => ?_⟩
    · obtain ⟨hS, hE⟩ := hS
      rcases hE with h | h
      · exact .inl ⟨nm, h⟩
      · rcases hS with h2 | h2
        · exact .inl ⟨nm, h2⟩
        · exact .inr ⟨.inr h2, h⟩
    · subst e
      cases r
      rfl
end L2.Ev
namespace L2.Ev
open PySem PySem.Spec PyProof.Rows
theorem revPick (xs : Array Value) : ((List.range xs.size).filterMap fun (m : Nat) => xs[((xs.size : Int) - 1 + (m : Int) * -1).toNat]?).toArray = xs.toList.reverse.toArray := by
  rw [← PySem.W.krv_pick]
  unfold slicePick
  rw [PySem.W.krv_bounds]
  show _ = ((sliceRange ((xs.size : Int) - 1) (-1) (-1)).filterMap (xs[·]?)).toArray
  rw [PySem.W.krv_sliceRange, List.filterMap_map]
  have e : (fun (m : Nat) => xs[((xs.size : Int) - 1 + (m : Int) * -1).toNat]?) = ((fun x => xs[x]?) ∘ fun k => xs.size - 1 - k) := by
    funext m
    show xs[((xs.size : Int) - 1 + (m : Int) * -1).toNat]? = xs[xs.size - 1 - m]?
    rw [show ((xs.size : Int) - 1 + (m : Int) * -1).toNat = xs.size - 1 - m by omega]
  rw [e]
theorem item_tuple_rev {prog : Program} {w : World} {A : Around} {E : Value → Shared → Prop} {s : Shared} {t sl : Addr} {its : Array Value} {vk : Value} {Q : Value → Shared → Prop} (ht : IsTup s.heap t its) (hs : s.heap.IsSliceOf sl .none .none vk) (pk : IsPart vk (some (-1)))
    (h : Q (.ref s.heap.objs.size) { s with heap := s.heap.push { cls := .type "tuple", data := .seq its.toList.reverse.toArray } }) (hz : its.size ≤ sizeLine) : wpAny (model prog w) A (getItem (.ref t) (.ref sl)) Q E s := by
  have hk : sizeOk (.seq its.toList.reverse.toArray) := by show its.toList.reverse.toArray.size ≤ sizeLine; simpa using hz
  obtain ⟨os, hos, hcs, hds⟩ := id hs
  have hT : s.TypeIs (.ref sl) "slice" := ⟨os, hos, hcs⟩
  unfold getItem
  try with_reducible refine wpAny_holding ?_
  first | refine wpAny_bind (wpAny_pure ?_) | skip
  refine wpAny_bind (wpAny_sequenceKey ht.typeIs (by decide) ?_)
  refine wpAny_bind (wpAny_callSpecial?_slot (name := Str.ofString "__getitem__") ht.typeIs PyProof.Rows.slot_tuple_getitem (wpAny_call_entry PyProof.Rows.slot_tuple_getitem ht.typeIs entry_tuple_getitem ?_ (args_tuple_getitem _ _)))
  show wpAny _ _ (Builtin.Tuple.tupleItemsOf (.ref t) >>= _) _ _ s
  refine wpAny_bind (tupleItemsOf_ ht (wpAny_bind (wpAny_typeOf hT ?_)))
  rw [if_pos (by decide)]
  have ap : ∀ (R : Int × Int × Nat → Shared → Prop), R ((its.size : Int) - 1, -1, its.size) s → wpAny (model prog w) A.in1 (Builtin.Slice.sliceApplied (.ref sl) (pure (its.size : Int))) R E s := by
    intro R hR
    unfold Builtin.Slice.sliceApplied Builtin.Slice.sliceFields
    refine wpAny_bind (wpAny_bind (wpAny_field hos hds (x := Value.none) rfl (wpAny_bind (wpAny_field hos hds (x := Value.none) rfl (wpAny_bind (wpAny_field hos hds (x := vk) rfl (wpAny_pure ?_)))))))
    refine wpAny_bind (HT.slicePart_ pk ?_)
    show wpAny _ _ (if ((-1 : Int) == 0) = true then _ else _) _ _ s
    rw [if_neg (by decide)]
    refine wpAny_bind (HT.slicePart_ .none (wpAny_bind (HT.slicePart_ .none (wpAny_bind (wpAny_pure ?_)))))
    show wpAny _ _ (pure ((its.size : Int) - 1, (-1 : Int), Builtin.Slice.slicePlaces ((its.size : Int) - 1) (-1) (-1))) _ _ s
    have e : Builtin.Slice.slicePlaces ((its.size : Int) - 1) (-1) (-1) = its.size := by
      unfold Builtin.Slice.slicePlaces
      rw [if_neg (by decide)]
      by_cases hp : (its.size : Int) - 1 > -1
      · rw [if_pos hp, show (- -1 : Int) = 1 by decide, Int.ediv_one]; omega
      · rw [if_neg hp]; omega
    rw [e]
    exact wpAny_pure hR
  refine wpAny_bind (ap _ ?_)
  show wpAny _ _ (if (((its.size : Int) - 1 == 0 && (-1 : Int) == 1 && its.size == its.size) = true) then _ else _) _ _ s
  rw [if_neg (by simp)]
  rw [revPick]
  first
    | exact wpAny_bind (m := Builtin.Tuple.tupleExact _) (wpAny_newObj_type (wpAny_pure ⟨_, rfl, wpAny_pure h⟩) hk)
    | exact wpAny_bind (m := Builtin.Tuple.tupleExact _) (wpAny_newObj_type (wpAny_bind (wpAny_pure (wpAny_pure ⟨_, rfl, wpAny_pure h⟩))) hk)
theorem Vals.rev {vs : List V} {us : List Value} (h : Vals vs us) : Vals vs.reverse us.reverse := by
  induction h with
  | nil => exact .nil
  | cons r _ ih => simp only [List.reverse_cons]; exact ih.append (.cons r .nil)
def tRev (K : PySem.W.Frag) (te ts : TE) : TE := fun σ H Q => te σ H fun x H1 => ts σ H1 fun k H2 => k = .int (-1) ∧ ∃ a xs, x = .ref a ∧ ((SqT K H2 a xs ∧ ∀ p, H2 p = none → Q (.ref p) (upd H2 p (.tup xs.reverse))) ∨ (SqL K H2 a xs ∧ ∀ p, H2 p = none → Q (.ref p) (upd H2 p (.lst xs.reverse))))
theorem pe_rev {X : Cx} {e st : Expr} {te ts : TE} {p2 pos : Pos} (he : PE X e te) (hst : PE X st ts) : PE X (.Subscript e (.Slice none none (some st) p2) pos) (tRev X.K te ts) := by
  intro pins s σ H Q I h
  refine Subscript_ (thn (he pins s σ H _ I h) fun v s1 ⟨x, H1, I1, r1, q1⟩ => ?_)
  refine wpAny_Slice (wpAny_pure (wpAny_pure ?_))
  rw [evalPart_some]
  refine thn (hst pins s1 σ H1 _ I1 q1) fun vk s3 ⟨k, H3, I3, rk, q3⟩ => ?_
  obtain ⟨rfl, a, xs, rfl, q⟩ := q3
  obtain ⟨tk, rfl⟩ := rk
  cases r1
  have I4 : Inv X pins σ H3 { s3 with heap := s3.heap.push { cls := .type "slice", data := .fields #[Value.none, Value.none, .int (-1) tk] } } := I3.kept (t' := s3.toks) fun b ob q => Heap.get?_push_of_some _ q
  show wpAny (model X.prog X.w) X.A (subscriptTail e (.Slice none none (some st) p2) (.ref a) (.ref s3.heap.objs.size)) (EP X pins σ Q) X.xe { s3 with heap := s3.heap.push { cls := .type "slice", data := .fields #[Value.none, Value.none, .int (-1) tk] } }
  rcases q with ⟨hx, q⟩ | ⟨hx, q⟩
  · obtain ⟨its, r, ht, hz⟩ := I4.tuple hx
    have hlen : its.toArray.size = xs.length := by rw [List.size_toArray]; exact r.length.symm
    refine tail_any (ops := [.ref a, .ref s3.heap.objs.size]) ht.typeIs PyProof.Rows.slot_tuple_getitem.lookup (item_tuple_rev ht (Heap.IsSliceOf.new ..) (.int _ _) ?_ (by rw [hlen]; exact hz)) (by with_unfolding_all rfl)
    refine ⟨.ref _, _, I4.laid (t' := s3.toks) (o := .tup xs.reverse) (fun b ob q => Heap.get?_push_of_some _ q) (Nat.le_refl _) ?_, rfl, q _ (I4.hok.fresh (Nat.le_refl _))⟩
    exact ⟨by rw [List.length_reverse]; exact hz, _, (Vals.rev r), IsTup.new _ _⟩
  · obtain ⟨its, r, ht, hz⟩ := I4.list hx
    have hlen : its.toArray.size = xs.length := by rw [List.size_toArray]; exact r.length.symm
    refine tail_any (ops := [.ref a, .ref s3.heap.objs.size]) ht.isList.typeIs slot_list_getitem.lookup (wpAny_getItem_list_slice ht.isList (Heap.IsSliceOf.new ..) .none .none (.int _ _) (by decide) ?_ (by rw [hlen]; exact hz)) (by with_unfolding_all rfl)
    rw [PySem.W.krv_pick]
    refine ⟨.ref _, _, I4.laid (t' := s3.toks) (o := .lst xs.reverse) (fun b ob q => Heap.get?_push_of_some _ q) (Nat.le_refl _) ?_, rfl, q _ (I4.hok.fresh (Nat.le_refl _))⟩
    exact ⟨by rw [List.length_reverse]; exact hz, _, 0, (Vals.rev r), Heap.get?_push_size _ rfl⟩
def wRev (fe fs : SE) : SE := fun ρ μ Q => fe ρ μ fun x μ1 => fs ρ μ1 fun k μ2 => (match k with | .p (.int i) => i = -1 | _ => False) ∧ match x with
  | .p (.tuple xs) => Q (.p (.tuple xs.reverse)) μ2
  | x => match rlOf μ2 x with | some xs => Q (.p (.list xs.reverse)) μ2 | none => False
theorem ge_rev {X : Cx} {e st : Expr} {fe fs : SE} {p2 pos : Pos} (he : GE X e fe) (hst : GE X st fs) : GE X (.Subscript e (.Slice none none (some st) p2) pos) (wRev fe fs) := ⟨PE_imp (pe_rev he.go hst.go) fun σ H Q ⟨as, ρ, μ, Q0, S, E, h, A⟩ =>
  ⟨as, ρ, μ, _, S, E, h, fun w μ1 as1 v H1 q1 s1 S1 r1 => ⟨as1, ρ, μ1, _, S1, E.mono s1, q1, fun k μ2 as2 vk H2 q2 s2 S2 rk => by
    obtain ⟨hk, q2⟩ := q2
    split at hk
    · subst hk
      cases rk
      refine ⟨rfl, ?_⟩
      have r1' := r1.mono s2
      have A2 := (A.mono s1).mono s2
      split at q2
      · cases r1' with
        | tup t d => exact ⟨_, _, rfl, .inl ⟨t.sq, A2.tup S2 d.reverse q2⟩⟩
      · split at q2
        · rename_i xs e
          obtain ⟨a, vs, rfl, hs, d⟩ := rlOf_sq S2 r1' e
          exact ⟨_, _, rfl, .inr ⟨hs, A2.lst S2 d.reverse q2⟩⟩
        · exact q2.elim
    · exact hk.elim⟩⟩⟩
end L2.Ev
namespace L2.Ev
open PySem PySem.Spec PyProof.Rows
section
variable {prog : Program} {w : World} {A : Around} {E : Value → Shared → Prop} {s : Shared} {J : Addr} {fp wr : List Addr} {n : Nat} {P : Nat → Value → Prop} {St : Nat → Heap → Prop} {R : Result → Shared → Prop}
end
end L2.Ev
namespace L2.Ev
open PySem PySem.Spec PyProof.Rows
namespace Rv
theorem slot_init : Slot "reversed" "__init__" "object.__init__" := .of (owner := "object") (n := "__init__") (by rw [typeLookup_type, builtinLookup_eq_fast]; kernel_rfl) (by decide +kernel) (by decide +kernel) (by decide +kernel) (by first | exact .inl (by decide +kernel) | exact .inr (by decide +kernel)) (by rw [isSubtype_type]; kernel_rfl)
theorem slot_next : Slot "reversed" "__next__" "reversed.__next__" := .of (owner := "reversed") (n := "__next__") (by rw [typeLookup_type, builtinLookup_eq_fast]; kernel_rfl) (by decide +kernel) (by decide +kernel) (by decide +kernel) (by first | exact .inl (by decide +kernel) | exact .inr (by decide +kernel)) (by rw [isSubtype_type]; kernel_rfl)
theorem slot_iter : Slot "reversed" "__iter__" "reversed.__iter__" := .of (owner := "reversed") (n := "__iter__") (by rw [typeLookup_type, builtinLookup_eq_fast]; kernel_rfl) (by decide +kernel) (by decide +kernel) (by decide +kernel) (by first | exact .inl (by decide +kernel) | exact .inr (by decide +kernel)) (by rw [isSubtype_type]; kernel_rfl)
theorem tup_no_rev : typeLookup (.type "tuple") "__reversed__" = pure none := by rw [typeLookup_type, builtinLookup_eq_fast]; kernel_rfl
theorem called : TypeCalled "reversed" "reversed.__new__" "object.__init__" := ⟨by decide +kernel, PySem.F.create_reversed, ⟨_, _, PySem.F.mro_reversed⟩, PySem.F.made_reversed, PySem.F.plain_reversed_new, PySem.F.sub_reversed_self, slot_init⟩
theorem owner_rev : Manifest.owners.lookup (String.ofList ['d', 'e', 's', 'r', 'e', 'v', 'e', 'r'].reverse) = some Manifest.sig_reversed := by kernel_rfl
theorem entry_next : entryFor table "reversed.__next__" = some Builtin.«reversed.__next__» := entryFor_of_tree (by kernel_rfl)
theorem entry_iter : entryFor table "reversed.__iter__" = some Builtin.«dict_keyiterator.__iter__» := entryFor_alias (id' := "dict_keyiterator.__iter__") (by kernel_rfl) (by first | rfl | decide +kernel | (unfold String.splitOn; simp +decide [String.splitOnAux])) (by decide +kernel) (by kernel_rfl)
theorem args_next (a : Value) : argsOk "reversed.__next__" ⟨[a], []⟩ := by
  unfold argsOk; rw [signature?_of (id := "reversed.__next__") (n := ['_', '_', 't', 'x', 'e', 'n', '_', '_']) (o := ['d', 'e', 's', 'r', 'e', 'v', 'e', 'r']) (by kernel_rfl) owner_rev]; kernel_rfl
theorem args_iter (a : Value) : argsOk "reversed.__iter__" ⟨[a], []⟩ := by
  unfold argsOk; rw [signature?_of (id := "reversed.__iter__") (n := ['_', '_', 'r', 'e', 't', 'i', '_', '_']) (o := ['d', 'e', 's', 'r', 'e', 'v', 'e', 'r']) (by kernel_rfl) owner_rev]; kernel_rfl
def obj (t : Addr) (i : Int) : Obj := { cls := .type "reversed", data := .fields #[.ref t, rawInt i] }
def At (h : Heap) (a t : Addr) (i : Int) : Prop := ∃ o, h.get? a = some o ∧ o.cls = .type "reversed" ∧ o.data = .fields #[.ref t, rawInt i]
section
variable {prog : Program} {w : World} {A : Around} {E : Value → Shared → Prop} {s : Shared}
theorem At.ty {a t : Addr} {i : Int} (x : At s.heap a t i) : s.TypeIs (.ref a) "reversed" := let ⟨o, ho, hc, _⟩ := x; ⟨o, ho, hc⟩
theorem At.keep {h h' : Heap} {a t : Addr} {i : Int} (x : At h a t i) (e : ∀ o, h.get? a = some o → h'.get? a = some o) : At h' a t i := let ⟨o, ho, r⟩ := x; ⟨o, e _ ho, r⟩
theorem code_new {t : Addr} {its : Array Value} {Q₁ : Value → Shared → Prop} (ht : IsTup s.heap t its) (hz : its.size ≤ sizeLine)
    (h : ∀ tk, Q₁ (.ref s.heap.objs.size) { s with heap := s.heap.push (obj t ((its.size : Int) - 1)), toks := tk }) : codeAny (model prog w) A (.call (.builtin "reversed.__new__") ⟨[.type "reversed", .ref t], []⟩) (wants Q₁ E) s := by
  refine codeAny_of_tree ?_
  show wpAny _ A.in1 (do checkBuiltinCall "reversed.__new__" ⟨[.type "reversed", .ref t], []⟩; again (.builtin "reversed.__new__" ⟨[.type "reversed", .ref t], []⟩)) _ _ s
  refine wpAny_bind (wpAny_of_eq (PySem.F.newCall_reversed_1 _) (wpAny_pure ⟨plainId_quiet PySem.F.plain_reversed_new _, codeAny_builtin PySem.F.entry_reversed_new ?_⟩))
  rw [Around.under_plainId PySem.F.plain_reversed_new _]
  unfold Builtin.«reversed.__new__»
  refine wpAny_bind (wpAny_of_eq (newClass_reversed _) ?_)
  try dsimp only
  refine wpAny_bind (wpAny_of_eq (a := ()) (by first | rfl | kernel_rfl) ?_)
  refine wpAny_bind (wpAny_of_eq (a := ()) (by first | rfl | kernel_rfl) ?_)
  try dsimp only
  refine wpAny_bind (wpAny_specialOf ht.typeIs tup_no_rev ?_)
  try dsimp only
  refine wpAny_bind ?_
  show wpAny _ _ (isInstance (Value.ref t) (.type "dict") >>= _) _ _ s
  refine wpAny_bind (wpAny_isInstance (T := "tuple") (b := false) ht.typeIs (by rw [isSubtype_type]; kernel_rfl) ?_)
  show wpAny _ _ (specialOf (Value.ref t) "__getitem__" >>= _) _ _ s
  refine wpAny_bind (wpAny_specialOf ht.typeIs PyProof.Rows.slot_tuple_getitem.lookup ?_)
  refine wpAny_of_eq (a := true) (by first | rfl | kernel_rfl | (simp; rfl)) ?_
  simp only [Bool.not_true, Bool.false_eq_true, if_false]
  refine wpAny_bind (len_tuple ht (by have : its.size ≤ sizeLine := hz; rw [sizeLine_eq] at this; omega) ?_)
  refine wpAny_bind (wpAny_of_eq (a := some (its.size : Int)) (by rfl) ?_)
  try dsimp only
  refine wpAny_bind ?_
  show wpAny _ _ (newObj (.type "reversed") (.fields #[.ref t, rawInt ((its.size : Int) - 1)])) _ _ _
  refine wpAny_newObj_type (wpAny_pure ?_) (by size_fits)
  exact h _
theorem call {t : Addr} {its : Array Value} {Q : Value → Shared → Prop} (ht : IsTup s.heap t its) (hz : its.size ≤ sizeLine)
    (h : ∀ tk, Q (.ref s.heap.objs.size) { s with heap := s.heap.push (obj t ((its.size : Int) - 1)), toks := tk }) : wpAny (model prog w) A (PySem.call (.type "reversed") [.ref t]) Q E s := by
  refine callType_codes (Q₁ := fun o s1 => s1.TypeIs o "reversed" ∧ Q o s1) called (PySem.F.typeCall_reversed_1 _) PySem.F.entry_object_init (code_new ht hz fun tk => ⟨⟨_, Heap.get?_push_size _ rfl, rfl⟩, h tk⟩) fun o s1 h1 => ?_
  exact ⟨h1.1, PySem.F.args_object_init_2 o _, object_init_meets called.init.lookup called.made (by decide) prog w A.in1 _ s1 ⟨h1.1, rfl, h1.2⟩⟩
theorem next_item {a t : Addr} {i : Nat} {its : Array Value} {x : Value} {Q : Option Value → Shared → Prop} (hit : At s.heap a t (i : Int)) (ht : IsTup s.heap t its) (hne : t ≠ a) (hx : its[i]? = some x) (hz : its.size ≤ sizeLine)
    (hQ : ∀ h' tk, At h' a t ((i : Int) - 1) → Heap.SameBut a s.heap h' → Q (some x) { s with heap := h', toks := tk }) : wpAny (model prog w) A (pyNext (.ref a)) Q E s := by
  obtain ⟨o, ho, hc, hd⟩ := id hit
  have hi : i < its.size := (Array.getElem?_eq_some_iff.mp hx).1
  unfold pyNext
  refine wpAny_bind (wpAny_attempt (wpAny_callSpecial?_slot (name := Str.ofString "__next__") hit.ty slot_next (wpAny_call_entry slot_next hit.ty entry_next ?_ (args_next _))))
  unfold Builtin.«reversed.__next__»
  refine wpAny_bind (wpAny_of_eq (a := (Value.ref a, [])) rfl ?_)
  try dsimp only
  refine wpAny_bind (wpAny_field ho hd (x := .ref t) rfl ?_)
  refine wpAny_bind (wpAny_field ho hd (x := rawInt (i : Int)) rfl ?_)
  show wpAny _ _ (if (i : Int) < 0 then _ else _) _ _ s
  rw [if_neg (by omega)]
  show wpAny _ _ (specialOf (Value.ref t) "__getitem__" >>= _) _ _ s
  refine wpAny_bind (wpAny_specialOf ht.typeIs PyProof.Rows.slot_tuple_getitem.lookup ?_)
  simp only [Option.isNone_some, Bool.false_eq_true, if_false]
  refine wpAny_bind (wpAny_mkInt ?_)
  refine wpAny_bind (wpAny_attempt (PyProof.Rows.getItem_tuple (j := i) (x := x) ht ?_ ?_ ?_ ?_ ?_))
  · omega
  · rw [sizeLine_eq] at hz; omega
  · unfold seqIndex?; simp; omega
  · exact hx
  · try dsimp only
    refine wpAny_bind (wpAny_field ho hd (x := rawInt (i : Int)) rfl ?_)
    show wpAny _ _ (setField (.ref a) 1 (rawInt ((i : Int) - 1)) >>= _) _ _ _
    refine wpAny_bind (wpAny_setField ho hd (by simp) ?_)
    refine wpAny_pure ⟨x, rfl, wpAny_pure (hQ _ _ ?_ (Heap.SameBut.update ..))⟩
    exact ⟨_, Heap.get?_update_self _ ho (Obj.isFreed_of_fields (Obj.data_mapFields hd _)), (Obj.cls_mapFields ..).trans hc, by rw [Obj.data_mapFields hd]; simp⟩
theorem next_end {a t : Addr} {Q : Option Value → Shared → Prop} (hh : A.handled = none) (hit : At s.heap a t (-1)) (hQ : ∀ h' tk, Heap.ExtBut a s.heap h' → Q none { s with heap := h', toks := tk }) : wpAny (model prog w) A (pyNext (.ref a)) Q E s := by
  obtain ⟨o, ho, hc, hd⟩ := id hit
  unfold pyNext
  refine wpAny_bind (wpAny_attempt (wpAny_callSpecial?_slot (name := Str.ofString "__next__") hit.ty slot_next (wpAny_call_entry slot_next hit.ty entry_next ?_ (args_next _))))
  unfold Builtin.«reversed.__next__»
  refine wpAny_bind (wpAny_of_eq (a := (Value.ref a, [])) rfl ?_)
  try dsimp only
  refine wpAny_bind (wpAny_field ho hd (x := .ref t) rfl ?_)
  refine wpAny_bind (wpAny_field ho hd (x := rawInt (-1)) rfl ?_)
  show wpAny _ _ (if (-1 : Int) < 0 then _ else _) _ _ s
  rw [if_pos (by decide)]
  refine wpAny_bind (wpAny_rule (wpAny_bind ?_))
  show wpAny _ _ (setField (.ref a) 1 (rawInt (-1)) >>= fun _ => setField (.ref a) 0 .none) _ _ s
  refine wpAny_bind (wpAny_setField ho hd (by simp) ?_)
  have g1 := Heap.get?_update_self (h := s.heap) (fun o => Obj.mapFields (fun vs => vs.setIfInBounds 1 (rawInt (-1))) o) ho (Obj.isFreed_of_fields (Obj.data_mapFields hd _))
  refine wpAny_setField g1 (Obj.data_mapFields hd _) (by simp) ?_
  refine wpAny_bind ?_
  unfold Builtin.SmallTypes.stopIteration
  simp only [newExc, newTuple, raiseNew]
  refine wpAny_bind (wpAny_bind (wpAny_newObj_type (wpAny_bind (m := firstArgMember _ _) (wpAny_of_eq (a := Value.none) rfl (wpAny_newObj_type (wpAny_bind (wpAny_handled ?_)) (by size_fits)))) (by size_fits)))
  rw [show A.in1.handled = none from hh]
  refine wpAny_bind (wpAny_pure (wpAny_throw ?_))
  refine wpAny_bind (wpAny_isInstance (T := "StopIteration") (b := true) ⟨_, Heap.get?_push_size _ rfl, rfl⟩ isSubtype_stop (wpAny_pure (hQ _ _ ?_)))
  exact ((((Heap.SameBut.update ..).extBut.trans (Heap.SameBut.update ..).extBut).push _).push _)
theorem iter_self {a t : Addr} {i : Int} {Q : Value → Shared → Prop} (hit : At s.heap a t i) (h : Q (.ref a) s) : wpAny (model prog w) A (pyIter (.ref a)) Q E s := by
  refine wpAny_pyIter_slot hit.ty slot_iter (wpAny_call_entry slot_iter hit.ty entry_iter ?_ (args_iter _))
  show wpAny _ _ (ret (.ref a)) _ _ s
  exact wpAny_pure ⟨_, rfl, "reversed", _, hit.ty, slot_next.lookup, h⟩
theorem walks {prog : Program} {w : World} {A : Around} (hh : A.handled = none) (a t : Addr) (hne : t ≠ a) (its : Array Value) (hz : its.size ≤ sizeLine) :
    PySem.Walks prog w A a [a, t] [a] its.size (fun i v => its[its.size - 1 - i]? = some v) (fun i h => i ≤ its.size ∧ At h a t ((its.size : Int) - 1 - (i : Int)) ∧ IsTup h t its) where
  sub := fun b hb => by simp at hb; simp [hb]
  frame := fun _ _ _ x hk => ⟨x.1, x.2.1.keep fun o e => hk a (by simp) o e, by obtain ⟨o, e, r⟩ := x.2.2; exact ⟨o, hk t (by simp) o e, r⟩⟩
  item := fun i s Q E hi x hQ => by
    have hit := x.2.1
    rw [show (its.size : Int) - 1 - (i : Int) = ((its.size - 1 - i : Nat) : Int) by omega] at hit
    have hx : its[its.size - 1 - i]? = some (its[its.size - 1 - i]'(by omega)) := Array.getElem?_eq_getElem (by omega)
    refine next_item hit x.2.2 hne hx hz fun h' tk hit' hs' => ?_
    rw [show ((its.size - 1 - i : Nat) : Int) - 1 = (its.size : Int) - 1 - ((i + 1 : Nat) : Int) by omega] at hit'
    exact hQ _ h' tk hx ⟨hi, hit', by obtain ⟨o, e, r⟩ := x.2.2; exact ⟨o, (hs'.2 t hne).trans e, r⟩⟩ fun b o hb eo => hs'.extBut b o (fun h => hb (by simp [h])) eo
  done := fun s Q E x hQ => by
    have hit := x.2.1
    rw [show (its.size : Int) - 1 - (its.size : Int) = -1 by omega] at hit
    exact next_end hh hit fun h' tk he' => hQ h' tk fun b o hb eo => he' b o (fun h => hb (by simp [h])) eo
  self := fun _ _ _ _ x hQ => iter_self x.2.1 hQ
end
end Rv
def wTupRev (f : SE) : SE := fun ρ μ Q => f ρ μ fun x μ1 => match x with | .p (.tuple xs) => Q (.p (.tuple xs.reverse)) μ1 | _ => False
end L2.Ev
namespace L2.Ev
open PySem PySem.Spec PyProof.Rows
section
variable {μ : Mu} {Q : WK}
theorem oAdd_int (i j : Int) : oAdd (.p (.int i)) (.p (.int j)) μ Q = Q (.p (.int (i + j))) μ := rfl
theorem oAdd_str (i j : Str) : oAdd (.p (.str i)) (.p (.str j)) μ Q = (i.length + j.length ≤ sizeLine ∧ Q (.p (.str (i ++ j))) μ) := rfl
theorem oAdd_tup (i j : List PyData) : oAdd (.p (.tuple i)) (.p (.tuple j)) μ Q = (i.length + j.length ≤ sizeLine ∧ Q (.p (.tuple (i ++ j))) μ) := rfl
theorem oAdd_lst (i j : List PyData) : oAdd (.p (.list i)) (.p (.list j)) μ Q = (i.length + j.length ≤ sizeLine ∧ Q (.p (.list (i ++ j))) μ) := rfl
theorem oI_int (C : Int → Int → Prop) (g : Int → Int → PyData) (i j : Int) : oI C g (.p (.int i)) (.p (.int j)) μ Q = (C i j ∧ Q (.p (g i j)) μ) := rfl
theorem oI0_int (g : Int → Int → PyData) (i j : Int) : oI0 g (.p (.int i)) (.p (.int j)) μ Q = Q (.p (g i j)) μ := rfl
theorem oIx_tup (xs : List PyData) (i : Int) : oIx (.p (.tuple xs)) (.p (.int i)) μ Q = (match atI xs i with | some d => Q (.p d) μ | none => False) := rfl
theorem oIx_lst (xs : List PyData) (i : Int) : oIx (.p (.list xs)) (.p (.int i)) μ Q = (match atI xs i with | some d => Q (.p d) μ | none => False) := rfl
theorem oIx_scr (xs : List PyData) (i : Int) : oIx (.s xs) (.p (.int i)) μ Q = (match atI xs i with | some d => Q (.p d) μ | none => False) := rfl
theorem oIx_ref {n : Nat} {xs : List PyData} (h : μ[n]? = some (.lst xs)) (i : Int) : oIx (.r n) (.p (.int i)) μ Q = (match atI xs i with | some d => Q (.p d) μ | none => False) := by
  show (match rlOf μ (.r n) with | some xs => (match atI xs i with | some d => Q (.p d) μ | none => False) | none => False) = _
  simp only [rlOf, lsOf, h]
theorem oEq_p (d e : PyData) : oEq (.p d) (.p e) μ Q = (SeqAt.shaped d = true ∧ SeqAt.shaped e = true ∧ Q (.p (.bool (PyData.eqv d e))) μ) := rfl
theorem oNe_p (d e : PyData) : oNe (.p d) (.p e) μ Q = (SeqAt.shaped d = true ∧ SeqAt.shaped e = true ∧ Q (.p (.bool (!PyData.eqv d e))) μ) := rfl
theorem oNe_ref {n : Nat} {xs : List PyData} (h : μ[n]? = some (.lst xs)) (e : PyData) : oNe (.r n) (.p e) μ Q = (SeqAt.shaped (.list xs) = true ∧ SeqAt.shaped e = true ∧ Q (.p (.bool (!PyData.eqv (.list xs) e))) μ) := by
  simp only [oNe, daOf, h]
theorem oIs_bb (b c : Bool) : oIs (.p (.bool b)) (.p (.bool c)) μ Q = Q (.p (.bool (b == c))) μ := rfl
theorem oIsNot_bb (b c : Bool) : oIsNot (.p (.bool b)) (.p (.bool c)) μ Q = Q (.p (.bool (!(b == c)))) μ := rfl
theorem oIs_n (x : W) : oIs x (.p .none) μ Q = Q (.p (.bool (isNo x))) μ := by
  cases x with
  | p d => cases d <;> rfl
  | _ => rfl
theorem oIsNot_n (x : W) : oIsNot x (.p .none) μ Q = Q (.p (.bool (!isNo x))) μ := by
  cases x with
  | p d => cases d <;> rfl
  | _ => rfl
theorem shaped_int (i : Int) : SeqAt.shaped (.int i) = true := rfl
theorem shaped_bool (i : Bool) : SeqAt.shaped (.bool i) = true := rfl
theorem shaped_nilL : SeqAt.shaped (.list []) = true := rfl
theorem shaped_nilT : SeqAt.shaped (.tuple []) = true := rfl
theorem eqv_int (i j : Int) : PyData.eqv (.int i) (.int j) = decide (i = j) := by
  simp only [PyData.eqv]; exact Bool.eq_iff_iff.mpr (by simp)
theorem eqv_str (i j : Str) : PyData.eqv (.str i) (.str j) = decide (i = j) := by
  simp only [PyData.eqv]; exact Bool.eq_iff_iff.mpr (by simp)
theorem eqv_bool (i j : Bool) : PyData.eqv (.bool i) (.bool j) = (i == j) := rfl
theorem eqv_lst_nil (xs : List PyData) : PyData.eqv (.list xs) (.list []) = xs.isEmpty := by cases xs <;> rfl
theorem eqv_tup_nil (xs : List PyData) : PyData.eqv (.tuple xs) (.tuple []) = xs.isEmpty := by cases xs <;> rfl
theorem atI_ofNat {α : Type} (xs : List α) (k : Nat) : atI xs (k : Int) = xs[k]? := by
  unfold atI ixN
  by_cases h : k < xs.length
  · rw [if_pos (by omega), if_pos (by omega)]; simp
  · rw [if_pos (by omega), if_neg (by omega), List.getElem?_eq_none (by omega)]; rfl
theorem atI_0 {α : Type} (x : α) (xs : List α) : atI (x :: xs) 0 = some x := atI_ofNat (x :: xs) 0
theorem atI_1 {α : Type} (x y : α) (xs : List α) : atI (x :: y :: xs) 1 = some y := atI_ofNat (x :: y :: xs) 1
theorem atI_2 {α : Type} (x y z : α) (xs : List α) : atI (x :: y :: z :: xs) 2 = some z := atI_ofNat (x :: y :: z :: xs) 2
theorem atI_3 {α : Type} (x y z u : α) (xs : List α) : atI (x :: y :: z :: u :: xs) 3 = some u := atI_ofNat (x :: y :: z :: u :: xs) 3
theorem atI_4 {α : Type} (x y z u v : α) (xs : List α) : atI (x :: y :: z :: u :: v :: xs) 4 = some v := atI_ofNat (x :: y :: z :: u :: v :: xs) 4
theorem atI_nn {α : Type} (xs : List α) {i : Int} (h : 0 ≤ i) : atI xs i = xs[i.toNat]? := by
  have := atI_ofNat xs i.toNat
  rw [show ((i.toNat : Nat) : Int) = i by omega] at this
  exact this
theorem ixN_0 (n : Nat) : ixN (n + 1) 0 = some 0 := by unfold ixN; rw [if_pos (by omega), if_pos (by omega)]; rfl
theorem ixN_2 (n : Nat) : ixN (n + 3) 2 = some 2 := by unfold ixN; rw [if_pos (by omega), if_pos (by omega)]; rfl
theorem oSet_ref {n : Nat} {xs : List PyData} {Q : Mu → Prop} (h : μ[n]? = some (.lst xs)) (k : Int) (d : PyData) : oSet (.r n) (.p (.int k)) (.p d) μ Q = (match ixN xs.length k with | some j => Q (μ.set n (.lst (xs.set j d))) | none => False) := by
  simp only [oSet, h] <;> (cases ixN xs.length k <;> rfl)
theorem ret_p {n : Nat} {μ' : Mu} {d : PyData} (h : μ'.length = n) (q : Q (.p d) μ') : retW n Q (.p d) μ' := ⟨n, Nat.le_refl _, by omega, trivial, by rw [List.take_of_length_le (by omega)]; exact q⟩
theorem ret_cut {n : Nat} {μ' : Mu} {d : PyData} (h : n ≤ μ'.length) (q : Q (.p d) (μ'.take n)) : retW n Q (.p d) μ' := ⟨n, Nat.le_refl _, h, trivial, q⟩
theorem ret_new {n : Nat} {μ' : Mu} {w : W} (h : n ≤ μ'.length) (r : refOk μ'.length w) (q : Q w μ') : retW n Q w μ' := ⟨μ'.length, h, Nat.le_refl _, r, by rw [List.take_length]; exact q⟩
end
theorem forR_of {g : SG} {b : SS} {ok : Mu → Prop} {F : Fin} (I : List PyData → Rho → Mu → Prop) (hok : ∀ xs ρ μ, I xs ρ μ → ok μ) (hn : ∀ ρ μ, I [] ρ μ → F.nx ρ μ)
    (hs : ∀ x xs ρ μ (R : Rho → Mu → Prop), (∀ ρ μ, I xs ρ μ → R ρ μ) → I (x :: xs) ρ μ → g (.p x) ρ μ fun ρ2 μ2 => b { F with nx := R, ct := R, bk := F.nx } ρ2 μ2) : ∀ xs ρ μ, I xs ρ μ → forR g b ok F xs ρ μ
  | [], ρ, μ, h => ⟨hok _ _ _ h, hn ρ μ h⟩
  | x :: xs, ρ, μ, h => ⟨hok _ _ _ h, hs x xs ρ μ _ (fun ρ' μ' h' => forR_of I hok hn hs xs ρ' μ' h') h⟩
theorem compR_of {t : Tg} {c : ST} {e : SE} {ρ0 : Rho} {ok : Mu → Prop} {Q : List PyData → Mu → Prop} (I : List PyData → List PyData → Mu → Prop) (hok : ∀ xs acc μ, I xs acc μ → ok μ) (hn : ∀ acc μ, I [] acc μ → Q acc μ)
    (hs : ∀ x xs acc μ (R : List PyData → Mu → Prop), (∀ acc μ, I xs acc μ → R acc μ) → I (x :: xs) acc μ → ∃ ρ2, bindT t x ρ0 = some ρ2 ∧ c ρ2 μ fun b μ1 => if b = true then e ρ2 μ1 fun y μ2 => match y with
        | .p d => acc.length < sizeLine ∧ R (acc ++ [d]) μ2
        | _ => False
      else R acc μ1) : ∀ xs acc μ, I xs acc μ → compR t c e ρ0 ok Q xs acc μ
  | [], acc, μ, h => ⟨hok _ _ _ h, hn acc μ h⟩
  | x :: xs, acc, μ, h => by
    obtain ⟨ρ2, e1, q⟩ := hs x xs acc μ _ (fun acc' μ' h' => compR_of I hok hn hs xs acc' μ' h') h
    refine ⟨hok _ _ _ h, ?_⟩
    rw [e1]
    exact q
theorem sSeq_def {t u : SS} {F : Fin} {ρ : Rho} {μ : Mu} : sSeq t u F ρ μ = t { F with nx := u F } ρ μ := rfl
theorem sSeq_cut {t u : SS} {F : Fin} {ρ : Rho} {μ : Mu} (R : Rho → Mu → Prop) (h1 : ∀ ρ μ, R ρ μ → u F ρ μ) (h2 : ∀ K : Rho → Mu → Prop, (∀ ρ μ, R ρ μ → K ρ μ) → t { F with nx := K } ρ μ) : sSeq t u F ρ μ := h2 (u F) h1
theorem rdSp_imp {K : PySem.W.Frag} {sp sp' : SpW} (h : ∀ ws μ Q, sp ws μ Q → sp' ws μ Q) : ∀ vs H Q E, rdSp K sp vs H Q E → rdSp K sp' vs H Q E := fun _ _ _ _ ⟨as, μ, ws, Q0, S, r, q, A⟩ => ⟨as, μ, ws, Q0, S, r, h _ _ _ q, A⟩
theorem szk {k : Nat} (h : k ≤ 16777216) : k ≤ sizeLine := by rw [sizeLine_eq]; exact h
theorem szl {k : Nat} (h : k < 16777216) : k < sizeLine := by rw [sizeLine_eq]; exact h
end L2.Ev
namespace L2.Ev
open PySem PySem.Spec PyProof.Rows
theorem Vals.at {vs : List V} {us : List Value} (h : Vals vs us) {i : Nat} {v : V} (e : vs[i]? = some v) : ∃ u, us[i]? = some u ∧ RelV v u := by
  induction h generalizing i with
  | nil => simp at e
  | cons r _ ih =>
    cases i with
    | zero => simp at e; subst e; exact ⟨_, rfl, r⟩
    | succ i => obtain ⟨u, a, b⟩ := ih (i := i) (by simpa using e); exact ⟨u, by simpa using a, b⟩
end L2.Ev
namespace L2.Ev
open PySem PySem.Spec PyProof.Rows
section
variable {X : Cx}
def txs (ys : List Str) : List PyData := ys.map PyData.str
theorem dz_strs {K : PySem.W.Frag} {as : Cs} {H : Hp} : ∀ ys : List Str, DzAll K as H (ys.map V.str) (txs ys)
  | [] => .nil
  | _ :: ys => .cons (.str _) (dz_strs ys)
def strsOf : List PyData → Option (List Str)
  | [] => some []
  | .str z :: r => (strsOf r).map (z :: ·)
  | _ :: _ => none
theorem strsOf_dz {K : PySem.W.Frag} {as : Cs} {H : Hp} : ∀ {vs : List V} {ds : List PyData} {ys : List Str}, DzAll K as H vs ds → strsOf ds = some ys → vs = ys.map V.str
  | _, [], _, .nil, e => by cases e; rfl
  | _, .str i :: r, _, .cons h t, e => by
    simp only [strsOf, Option.map_eq_some_iff] at e
    obtain ⟨ns, e1, rfl⟩ := e
    cases h
    rw [strsOf_dz t e1]; rfl
  | _, .none :: _, _, _, e => by cases e
  | _, .bool _ :: _, _, _, e => by cases e
  | _, .int _ :: _, _, _, e => by cases e
  | _, .list _ :: _, _, _, e => by cases e
  | _, .tuple _ :: _, _, _, e => by cases e
  | _, .dict _ :: _, _, _, e => by cases e
def TupK (K : PySem.W.Frag) (u : Value) (ys : List Str) : Prop := ∃ a, u = .ref a ∧ SqT K nil a (ys.map V.str)
theorem ge_gtup {x : Str} {ys : List Str} {pos : Pos} (hm : ∃ u, X.mg x = some u ∧ TupK X.K u ys) (hg : Gl X x := by rfl) (hd : (x == ("__debug__" : Str)) = false := by decide) : GE X (.Name x pos) (wC (.tuple (txs ys))) := by
  obtain ⟨u, hm, a, rfl, sq⟩ := hm
  exact ⟨PE_imp (pe_glob (v := .ref a) hg hm rfl hd) fun σ H Q ⟨as, ρ, μ, Q0, S, En, h, A⟩ => A.now S h (Dz.tup (.inr sq) (dz_strs ys))⟩
end
end L2.Ev
namespace L2.Ev
open PySem PySem.Spec PyProof.Rows
namespace Tr
section
variable {prog : Program} {w : World} {A : Around} {E : Value → Shared → Prop} {s : Shared} {r : Addr} {a b c : Int} {t u v : Tok} {n : Nat}
end
theorem vals {acc : Array Value} {n : Nat} (h : ItemsOf (fun i v => ∃ t, v = .int (0 + (i : Int) * 1) t) acc n) : Vals (((List.range n).map fun (i : Nat) => (i : Int)).map V.int) acc.toList := by
  have hs : acc.size = n := h.1
  have gen : ∀ (k : Nat) (us : List Value), us.length = n - k → k ≤ n → (∀ (j : Nat) (v : Value), us[j]? = some v → ∃ t, v = Value.int ((k + j : Nat) : Int) t) → Vals ((((List.range n).drop k).map fun (i : Nat) => (i : Int)).map V.int) us := by
    intro k us
    induction us generalizing k with
    | nil =>
      intro hl hk _
      rw [List.drop_of_length_le (by simp at hl ⊢; omega)]
      exact .nil
    | cons v us ih =>
      intro hl hk hv
      simp only [List.length_cons] at hl
      have hlt : k < n := by omega
      rw [PySem.range_drop hlt]
      obtain ⟨t, rfl⟩ := hv 0 v rfl
      refine .cons ⟨t, rfl⟩ (ih (k + 1) (by omega) (by omega) fun j v e => ?_)
      obtain ⟨t, e⟩ := hv (j + 1) v (by simpa using e)
      exact ⟨t, by rw [e]; congr 1; omega⟩
  have := gen 0 acc.toList (by simp; omega) (Nat.zero_le _) fun j v e => by
    obtain ⟨t, e⟩ := h.2 j v (by simpa using e)
    exact ⟨t, by rw [e]; congr 1; omega⟩
  simpa using this
end Tr
end L2.Ev
namespace L2.Ev
open PySem PySem.Spec PyProof.Rows
theorem tupK_of {K : PySem.W.Frag} {a : Addr} {d : Option Addr} {its : Array Value} {n : Nat} {sl : Array (Option Value)} {ys : List Str} (h : K.lookup a = some ⟨.type "tuple", d, .seq its n, sl⟩) (r : Vals (ys.map V.str) its.toList) (hz : its.size ≤ 16777216 := by exact Nat.le_of_ble_eq_true rfl) : TupK K (.ref a) ys :=
  ⟨a, rfl, .inr ⟨_, its, n, h, rfl, rfl, szk hz, r⟩⟩
theorem own_ex {q : Program} {K : PySem.W.Frag} {hp : Heap} {mg : Str → Option Value} {name : Str} {f c0 : Addr} {oc : Value} {od : Option Addr} {fd : FuncData} {osl : Array (Option Value)} (X : K.In hp) (G : hp.Ns mainGlobals mg)
    (ha : PySem.W.nsIn K mainGlobals name = some (some (.ref f))) (hl : K.lookup f = some ⟨oc, od, .func fd, osl⟩) (hc : fd.code = .ref c0) (hcs : codesOf K = [c0]) (hq : ((recsOf q).find? (fun e => e.name == name)).isSome = true) : ∀ c o P, K.lookup c = some o → tabOf o = some P → Owned q K mg c := by
  obtain ⟨d, e⟩ := Option.isSome_iff_exists.mp hq
  exact own_one X G ha hl hc hcs e
end L2.Ev
namespace L2.Ev
open PySem PySem.Spec PyProof.Rows
namespace Rv
section
variable {prog : Program} {w : World} {A : Around} {E : Value → Shared → Prop} {s : Shared}
end
end Rv
end L2.Ev
namespace L2.Ev
open PySem PySem.Spec PyProof.Rows
namespace Zt
section
variable {prog : Program} {w : World} {A : Around} {E : Value → Shared → Prop} {s : Shared}
theorem next_item {it t : Addr} {i : Nat} {its : Array Value} {x : Value} {Q : Value → Shared → Prop} (hit : s.heap.IsTupleIter it t i) (ht : s.heap.IsTuple t its) (hx : its[i]? = some x)
    (hQ : ∀ h', h'.IsTupleIter it t (i + 1) → Heap.SameBut it s.heap h' → Q x { s with heap := h' }) : wpAny (model prog w) A (Builtin.SmallTypes.nextOf (.ref it)) Q E s := by
  obtain ⟨o, ho, hc, hd⟩ := id hit
  obtain ⟨ol, hol, _, nl, hdl⟩ := ht
  unfold Builtin.SmallTypes.nextOf
  refine wpAny_bind (wpAny_callSpecial?_slot (name := Str.ofString "__next__") hit.typeIs PySem.F.slot_tuple_iterator_next (wpAny_call_entry PySem.F.slot_tuple_iterator_next hit.typeIs PySem.F.entry_tuple_iterator_next ?_ (PySem.F.args_tuple_iterator_next_1 _)))
  refine wpAny_bind (m := field (.ref it) 0) (wpAny_field ho hd (x := .ref t) rfl ?_)
  show wpAny _ _ (if (Value.ref t == Value.none) = true then _ else _) _ _ s
  rw [if_neg (show ¬ ((Value.ref t == Value.none) = true) from Bool.false_ne_true)]
  refine wpAny_bind (m := field (.ref it) 1) (wpAny_field ho hd (x := .int i 0) rfl ?_)
  refine wpAny_bind (m := seqItems? (.ref t)) (wpAny_seqItems hol hdl ?_)
  simp only [Int.toNat_natCast, hx]
  refine wpAny_bind (wpAny_setField ho hd (by simp) (wpAny_pure ⟨x, rfl, wpAny_pure (hQ _ ⟨_, Heap.get?_update_self _ ho (Obj.isFreed_of_fields (Obj.data_mapFields hd _)), (Obj.cls_mapFields ..).trans hc, by rw [Obj.data_mapFields hd]; simp [rawInt]⟩ (Heap.SameBut.update ..))⟩))
theorem next_end {it t : Addr} {i : Nat} {its : Array Value} {Q : Value → Shared → Prop} (hh : A.handled = none) (hit : s.heap.IsTupleIter it t i) (ht : s.heap.IsTuple t its) (hx : its[i]? = none)
    (hE : ∀ h' e, Heap.ExtBut it s.heap h' → (∃ o, h'.get? e = some o ∧ o.cls = .type "StopIteration") → E (.ref e) { s with heap := h' }) : wpAny (model prog w) A (Builtin.SmallTypes.nextOf (.ref it)) Q E s := by
  obtain ⟨o, ho, hc, hd⟩ := id hit
  obtain ⟨ol, hol, _, nl, hdl⟩ := ht
  unfold Builtin.SmallTypes.nextOf
  refine wpAny_bind (wpAny_callSpecial?_slot (name := Str.ofString "__next__") hit.typeIs PySem.F.slot_tuple_iterator_next (wpAny_call_entry PySem.F.slot_tuple_iterator_next hit.typeIs PySem.F.entry_tuple_iterator_next ?_ (PySem.F.args_tuple_iterator_next_1 _)))
  refine wpAny_bind (m := field (.ref it) 0) (wpAny_field ho hd (x := .ref t) rfl ?_)
  show wpAny _ _ (if (Value.ref t == Value.none) = true then _ else _) _ _ s
  rw [if_neg (show ¬ ((Value.ref t == Value.none) = true) from Bool.false_ne_true)]
  refine wpAny_bind (m := field (.ref it) 1) (wpAny_field ho hd (x := .int i 0) rfl ?_)
  refine wpAny_bind (m := seqItems? (.ref t)) (wpAny_seqItems hol hdl ?_)
  simp only [Int.toNat_natCast, hx]
  refine wpAny_bind (wpAny_rule (wpAny_bind (wpAny_setField ho hd (by simp) ?_)))
  refine wpAny_bind (m := newExc (.type "StopIteration") []) ?_
  simp only [newExc, newTuple]
  refine wpAny_bind (wpAny_newObj_type ?_ (by size_fits))
  refine wpAny_bind (m := firstArgMember _ _) (wpAny_of_eq (a := Value.none) (by first | rfl | (simp only [firstArgMember]; rfl)) ?_)
  refine wpAny_newObj_type ?_ (by size_fits)
  simp only [raiseNew]
  refine wpAny_bind (wpAny_handled ?_)
  first | rw [show A.in1.handled = none from hh] | rw [hh]
  exact wpAny_bind (wpAny_pure (wpAny_throw (hE _ _ (((Heap.SameBut.update ..).extBut.push _).push _) ⟨_, Heap.get?_push_size _ rfl, rfl⟩)))
end
theorem itAt {h h' : Heap} {it t : Addr} {i : Nat} (x : h.IsTupleIter it t i) (k : ∀ o, h.get? it = some o → h'.get? it = some o) : h'.IsTupleIter it t i := let ⟨o, ho, r⟩ := x; ⟨o, k o ho, r⟩
theorem tupAt {h h' : Heap} {t : Addr} {its : Array Value} (x : h.IsTuple t its) (k : ∀ o, h.get? t = some o → h'.get? t = some o) : h'.IsTuple t its := let ⟨o, ho, r⟩ := x; ⟨o, k o ho, r⟩
open AutoSeq1 (wpAny_loadPart')
section
variable {prog : Program} {w : World} {A : Around} {E : Value → Shared → Prop} {s : Shared}
end
end Zt
end L2.Ev
namespace L2.Ev
open PySem PySem.Spec PyProof.Rows
namespace Zt
structure Zat (h : Heap) (z TI TO i1 i2 : Addr) (f0 : Value) : Prop where
  zz : IsZip h z TI TO f0
  ti : IsPair h TI (.ref i1) (.ref i2)
  to : ∃ a b, IsPair h TO a b
structure Far (z TI TO i1 i2 a b : Addr) : Prop where
  TIz : TI ≠ z
  TOz : TO ≠ z
  i1z : i1 ≠ z
  i2z : i2 ≠ z
  TITO : TI ≠ TO
  TIi1 : TI ≠ i1
  TIi2 : TI ≠ i2
  TOi1 : TO ≠ i1
  TOi2 : TO ≠ i2
  i12 : i1 ≠ i2
  az : a ≠ z
  aTO : a ≠ TO
  ai1 : a ≠ i1
  ai2 : a ≠ i2
  bz : b ≠ z
  bTO : b ≠ TO
  bi1 : b ≠ i1
  bi2 : b ≠ i2
section
variable {prog : Program} {w : World} {A : Around} {E : Value → Shared → Prop} {s : Shared}
end
section
variable {prog : Program} {w : World} {A : Around} {E : Value → Shared → Prop} {s : Shared}
end
theorem five {c z TI TO i1 i2 : Addr} (h : c ∈ [z, TI, TO, i1, i2]) : c = z ∨ c = TI ∨ c = TO ∨ c = i1 ∨ c = i2 := by simpa using h
end Zt
end L2.Ev
namespace L2.Ev
open PySem PySem.Spec PyProof.Rows
namespace Lr
section
variable {prog : Program} {w : World} {A : Around} {E : Value → Shared → Prop} {s : Shared}
end
end Lr
end L2.Ev
namespace L2.Ev
open PySem PySem.Spec PyProof.Rows
theorem tup_mul (t : Addr) (items : Array Value) (n : Nat) (d : Option Addr) (sl : Array (Option Value)) (x : Int) (u : Tok) (h2 : 2 ≤ x) (hx : x < 16777216) (hne : 0 < items.size) (hsz : items.size * x.toNat ≤ 16777216) :
    Meets (Builtin.«tuple.__mul__» ⟨[.ref t, .int x u], []⟩) (fun _ R s => s.heap.get? t = some { cls := .type "tuple", dict := d, data := .seq items n, slots := sl } ∧ R (.ok (.ret (Value.ref s.heap.objs.size))) { s with heap := s.heap.push { cls := Value.type "tuple", data := Data.seq ((List.replicate x.toNat items).foldl (fun x1 x2 => x1 ++ x2) #[]) }, toks := s.toks }) :=
  .of_wp fun prog w A R s h => by
    obtain ⟨hp, g, d, tk, os⟩ := s; obtain ⟨hl, h⟩ := h
    have hp2 : (items.size : Int) * x = ((items.size * x.toNat : Nat) : Int) := by rw [Int.natCast_mul, Int.toNat_of_nonneg (by omega)]
    wp_walk
    rw [if_neg (by intro z; simp at z; omega)]
    wp_walk
    rw [if_neg (by intro z; simp at z; rcases z with z | z; (subst z; simp at hne); omega)]
    wp_walk
    rw [if_neg (by intro z; simp at z; rcases z with z | z; omega; (subst z; simp at hne))]
    wp_walk
    rw [if_neg (by rw [hp2]; intro z; omega)]
    wp_walk
    rw [if_neg (by unfold Builtin.Tuple.tupleTooMany; rw [hp2]; simp only [decide_eq_true_eq]; rw [sizeLine_eq]; omega)]
    wp_walk
    have hfl : ((List.replicate x.toNat items).foldl (fun x1 x2 => x1 ++ x2) #[]).size ≤ sizeLine := by
      rw [listMul_foldl, sizeLine_eq]
      simp
      rw [Nat.mul_comm]
      exact hsz
    rw [if_neg (Nat.not_lt.mpr hfl)]
    wp_walk
    exact ⟨_, rfl, h⟩
theorem int_rmul_tup (a : Int) (t : Tok) (l : Addr) (items : Array Value) (n : Nat) (d : Option Addr) (sl : Array (Option Value)) :
    Meets (Builtin.«int.__rmul__» ⟨[.int a t, .ref l], []⟩) (fun _ R s => s.heap.get? l = some { cls := .type "tuple", dict := d, data := .seq items n, slots := sl } ∧ R (.ok (.ret Value.notImplemented)) s) :=
  .of_wp fun prog w A R s h => by
    obtain ⟨hp, g, d, tk, os⟩ := s
    obtain ⟨hl, h⟩ := h
    wp_walk
    exact ⟨_, rfl, h⟩
theorem noFill_tup_mul : fillsNumberSlot (.type "tuple") "mul" = pure false :=
  PySem.fillsNumberSlot_seq (id := "tuple.__mul__") (r := some (.builtin "tuple.__rmul__")) PySem.F.slot_tuple_mul.lookup (by decide +kernel) PySem.F.slot_tuple_rmul.lookup (by decide +kernel)
theorem repeat_tup : seqRepeat? (.type "tuple") = pure (some (.builtin "tuple.__mul__")) := by
  unfold seqRepeat?
  rw [PySem.seqSlot_of (T := "tuple") (name := "__mul__") (id := "tuple.__mul__") PySem.F.slot_tuple_mul.lookup (by decide +kernel), PySem.seqSlot_of (T := "tuple") (name := "__rmul__") (id := "tuple.__rmul__") PySem.F.slot_tuple_rmul.lookup (by decide +kernel)]
  rfl
theorem op_mulT {X : Cx} : OpR X (binaryOp .Mult) (fun x y H Q => ∃ a xs n, x = .ref a ∧ y = .int n ∧ SqT X.K H a xs ∧ 2 ≤ n ∧ n < 16777216 ∧ 0 < xs.length ∧ xs.length * n.toNat ≤ 16777216 ∧ ∀ p, H p = none → Q (.ref p) (upd H p (.tup (List.replicate n.toNat xs).flatten))) := by
  intro pins s σ H x y v u Q I rx ry h
  obtain ⟨a, xs, n, rfl, rfl, hq, h2, h3, h4, h5, q⟩ := h
  cases rx
  obtain ⟨t, rfl⟩ := ry
  obtain ⟨its, rv, hl, hz⟩ := I.tuple hq
  have hlen := rv.length
  obtain ⟨⟨cls, d, data, sl⟩, ho, hcl, k, hd⟩ := id hl
  simp only at hcl hd
  subst hcl hd
  refine wpAny_binaryOp_repeat_ref (T := "tuple") (U := "int") (by decide) ⟨_, ho, rfl⟩ (fun s' => typeIs_int s' n t) noFill_tup_mul PySem.F.fills_int_mul PySem.F.slot_int_rmul repeat_tup PySem.F.slot_int_index.lookup
    (call_meets PySem.F.slot_int_rmul (typeIs_int s n t) PySem.F.entry_int_rmul (PySem.F.args_int_rmul_2 _ _) (int_rmul_tup n t a its.toArray k d sl)
      ⟨ho, rfl, ⟨_, ho, rfl⟩, call_meets PySem.F.slot_tuple_mul ⟨_, ho, rfl⟩ PySem.F.entry_tuple_mul (PySem.F.args_tuple_mul_2 _ _)
        (tup_mul a its.toArray k d sl n t h2 h3 (by rw [List.size_toArray, ← hlen]; exact h4) (by rw [List.size_toArray, ← hlen]; exact h5)) ⟨ho, ?_⟩⟩)
  rw [listMul_foldl]
  have rv2 : Vals (List.replicate n.toNat xs).flatten (List.replicate n.toNat its).flatten := by
    generalize n.toNat = m
    induction m with
    | zero => exact .nil
    | succ m ih => rw [List.replicate_succ, List.replicate_succ, List.flatten_cons, List.flatten_cons]; exact rv.append ih
  refine ⟨.ref _, _, I.laid (t' := s.toks) (o := .tup (List.replicate n.toNat xs).flatten) (fun b ob e => Heap.get?_push_of_some _ e) (Nat.le_refl _) ⟨by rw [sizeLine_eq]; simp; rw [Nat.mul_comm]; exact h5, _, rv2, IsTup.new _ _⟩, rfl, q _ (I.hok.fresh (Nat.le_refl _))⟩
def repD (n : Nat) (xs : List PyData) : List PyData := (List.replicate n xs).flatten
def oMulT : O2 := fun x y μ Q => match x, y with
  | .p (.tuple xs), .p (.int n) => 2 ≤ n ∧ n < 16777216 ∧ 0 < xs.length ∧ xs.length * n.toNat ≤ 16777216 ∧ Q (.p (.tuple (repD n.toNat xs))) μ
  | _, _ => False
theorem go_mulT {X : Cx} : GO X (binaryOp .Mult) oMulT := ⟨OpR_imp op_mulT fun x y H Q ⟨as, μ, w1, w2, Q0, S, r1, r2, q, A⟩ => by
  unfold oMulT at q
  split at q
  · rename_i xs n
    cases r2
    cases r1 with
    | tup t d =>
      rename_i a vs
      have hl := d.length
      refine ⟨_, _, _, rfl, rfl, t.sq, q.1, q.2.1, by rw [hl]; exact q.2.2.1, by rw [hl]; exact q.2.2.2.1, A.tup S ?_ q.2.2.2.2⟩
      unfold repD
      generalize n.toNat = m
      induction m with
      | zero => exact .nil
      | succ m ih => rw [List.replicate_succ, List.replicate_succ, List.flatten_cons, List.flatten_cons]; exact d.append ih
  · exact q.elim⟩
end L2.Ev
namespace L2.Ev
open PySem PySem.Spec PyProof.Rows
end L2.Ev
namespace L2.Ev
open PySem PySem.Spec PyProof.Rows
def keyOf : W → Option Key
  | .p (.int i) => some (.inl i)
  | .p (.str z) => some (.inr z)
  | _ => none
def valD (kvs : List (Key × PyData)) (k : Key) : Option PyData := (kvs.find? fun kv => decide (kv.1 = k)).map (·.2)
def putD (kvs : List (Key × PyData)) (k : Key) (d : PyData) : List (Key × PyData) :=
  if (kvs.any fun kv => decide (kv.1 = k)) = true then kvs.map (fun kv => if kv.1 = k then (kv.1, d) else kv) else kvs ++ [(k, d)]
section
variable {K : PySem.W.Frag} {as : Cs} {H : Hp}
theorem keyOf_v {w : W} {v : V} {k : Key} (r : Rel K as H w v) (e : keyOf w = some k) : v = kV k := by
  unfold keyOf at e
  split at e
  · cases e; cases r; rfl
  · cases e; cases r; rfl
  · cases e
def Prs (K : PySem.W.Frag) (as : Cs) (H : Hp) (us : List (Key × V)) (kvs : List (Key × PyData)) : Prop := us.map (·.1) = kvs.map (·.1) ∧ DzAll K as H (us.map (·.2)) (kvs.map (·.2))
theorem Prs.nil : Prs K as H [] [] := ⟨rfl, .nil⟩
theorem Prs.cons {k : Key} {v : V} {d : PyData} {us : List (Key × V)} {kvs : List (Key × PyData)} (h : Dz K as H v d) (p : Prs K as H us kvs) : Prs K as H ((k, v) :: us) ((k, d) :: kvs) := ⟨by simp [p.1], .cons h p.2⟩
theorem Prs.inv {u : Key × V} {us : List (Key × V)} {kv : Key × PyData} {kvs : List (Key × PyData)} (h : Prs K as H (u :: us) (kv :: kvs)) : u.1 = kv.1 ∧ Dz K as H u.2 kv.2 ∧ Prs K as H us kvs := by
  obtain ⟨h1, h2⟩ := h
  simp only [List.map_cons, List.cons.injEq] at h1
  cases h2 with
  | cons a b => exact ⟨h1.1, a, h1.2, b⟩
theorem Prs.len {us : List (Key × V)} {kvs : List (Key × PyData)} (h : Prs K as H us kvs) : us.length = kvs.length := by have := congrArg List.length h.1; simpa using this
theorem Prs.val : ∀ {us : List (Key × V)} {kvs : List (Key × PyData)} (k : Key), Prs K as H us kvs → (valV us k = none ∧ valD kvs k = none) ∨ ∃ v d, valV us k = some v ∧ valD kvs k = some d ∧ Dz K as H v d
  | [], [], k, _ => .inl ⟨rfl, rfl⟩
  | [], _ :: _, _, h => by have := h.len; simp at this
  | _ :: _, [], _, h => by have := h.len; simp at this
  | (a, v) :: us, (b, d) :: kvs, k, h => by
    obtain ⟨e, hd, t⟩ := h.inv
    simp only at e
    subst e
    by_cases hk : a = k
    · exact .inr ⟨v, d, by simp [valV, List.find?_cons, hk], by simp [valD, List.find?_cons, hk], hd⟩
    · have := Prs.val k t
      simp only [valV, valD, List.find?_cons, hk, decide_false] at this ⊢
      exact this
theorem Prs.any {us : List (Key × V)} {kvs : List (Key × PyData)} (k : Key) (h : Prs K as H us kvs) : (us.any fun kv => decide (kv.1 = k)) = kvs.any fun kv => decide (kv.1 = k) := by
  have e : ∀ {β : Type} (xs : List (Key × β)), (xs.any fun kv => decide (kv.1 = k)) = (xs.map (·.1)).any fun x => decide (x = k) := fun xs => by rw [List.any_map]; rfl
  rw [e, e, h.1]
theorem Prs.app {us us' : List (Key × V)} {kvs kvs' : List (Key × PyData)} (h : Prs K as H us kvs) (h' : Prs K as H us' kvs') : Prs K as H (us ++ us') (kvs ++ kvs') := ⟨by rw [List.map_append, List.map_append, h.1, h'.1], by rw [List.map_append, List.map_append]; exact h.2.append h'.2⟩
theorem Prs.mapIf {k : Key} {v : V} {d : PyData} (hd : Dz K as H v d) : ∀ {us : List (Key × V)} {kvs : List (Key × PyData)}, Prs K as H us kvs → Prs K as H (us.map (fun kv => if kv.1 = k then (kv.1, v) else kv)) (kvs.map (fun kv => if kv.1 = k then (kv.1, d) else kv))
  | [], [], _ => .nil
  | [], _ :: _, h => by have := h.len; simp at this
  | _ :: _, [], h => by have := h.len; simp at this
  | (a, v0) :: us, (b, d0) :: kvs, h => by
    obtain ⟨e, h0, t⟩ := h.inv
    simp only at e
    subst e
    have ih := Prs.mapIf (k := k) hd t
    by_cases hk : a = k
    · simp only [List.map_cons, hk, if_true]; exact Prs.cons hd (by simpa [hk] using ih)
    · simp only [List.map_cons, hk, if_false]; exact Prs.cons h0 ih
theorem Prs.put {us : List (Key × V)} {kvs : List (Key × PyData)} {k : Key} {v : V} {d : PyData} (h : Prs K as H us kvs) (hd : Dz K as H v d) : Prs K as H (putK us k v) (putD kvs k d) := by
  unfold putK putD
  rw [h.any k]
  split
  · exact h.mapIf hd
  · exact h.app (Prs.cons hd .nil)
theorem Prs.mono {as' : Cs} {H' : Hp} {us : List (Key × V)} {kvs : List (Key × PyData)} (s : Stp as H as' H') (h : Prs K as H us kvs) : Prs K as' H' us kvs := ⟨h.1, h.2.mono s⟩
end
def wDict0 : SE := fun _ μ Q => Q (.r μ.length) (μ ++ [.dk []])
def wDict1 (fk fv : SE) : SE := fun ρ μ Q => fk ρ (μ ++ [.dk []]) fun x μ1 => fv ρ μ1 fun y μ2 => match keyOf x, y with
  | some k, .p d => μ2[μ.length]? = some (.dk []) ∧ Q (.r μ.length) (μ2.set μ.length (.dk [(k, d)]))
  | _, _ => False
section
variable {X : Cx} {pos : Pos}
theorem ge_dict0 : GE X (.Dict [] [] pos) wDict0 := ⟨PE_imp pe_dnewK fun σ H Q ⟨as, ρ, μ, Q0, S, E, h, A⟩ => fun p hp =>
  A _ _ (as.add p) _ _ h (Stp.cell as hp _) (S.newCell hp _ (.dk []) ⟨[], upd_same, rfl, .nil⟩) ⟨p, rfl, by show (as.as ++ [p])[μ.length]? = _; rw [← S.len]; simp⟩⟩
theorem ge_dict1 {k v : Expr} {fk fv : SE} (hk : GE X k fk) (hv : GE X v fv) : GE X (.Dict [some k] [v] pos) (wDict1 fk fv) := ⟨PE_imp (pe_disp (pps_cons hk.go hv.go pps_nil) rfl rfl (by simp) (by simp)) fun σ H Q ⟨as, ρ, μ, Q0, S, E, h, A⟩ => fun p hp => by
  have s0 := Stp.cell as hp (.dK [])
  have S0 := S.newCell hp (.dK []) (.dk []) ⟨[], upd_same, rfl, .nil⟩
  have ap : (as.add p).as[μ.length]? = some p := by show (as.as ++ [p])[μ.length]? = _; rw [← S.len]; simp
  unfold wDict1 at h
  refine ⟨as.add p, ρ, (μ ++ [Cell.dk []] : Mu), _, S0, E.mono s0, h, fun x μ1 as1 v1 H1 q1 s1 S1 r1 => ⟨as1, ρ, μ1, _, S1, (E.mono s0).mono s1, q1, fun y μ2 as2 v2 H2 q2 s2 S2 r2 => ?_⟩⟩
  split at q2
  · rename_i _ _ k d ek
    have e1 := keyOf_v (r1.mono s2) ek
    subst e1
    have ap2 : as2.as[μ.length]? = some p := by
      obtain ⟨t1, e1⟩ := s1.pre
      obtain ⟨t2, e2⟩ := s2.pre
      have hlt := (List.getElem?_eq_some_iff.mp ap).1
      have a1 : as1.as[μ.length]? = some p := by rw [e1, List.getElem?_append_left hlt]; exact ap
      rw [e2, List.getElem?_append_left (List.getElem?_eq_some_iff.mp a1).1]
      exact a1
    obtain ⟨us, h1, h2, h3⟩ := S2.cell μ.length p _ ap2 q2.1
    have us0 : us = [] := by simpa using h2
    subst us0
    have hm := List.mem_of_getElem? ap2
    have st := Stp.write (as := as2) (H := H2) hm (.dK [(k, v2)])
    refine ⟨h1, [(k, v2)], rfl, by simp, A _ _ _ _ _ q2.2 (((s0.trans s1).trans s2).trans ?_) (S2.write ap2 (.dK (mergeK [] [(k, v2)])) (.dk [(k, d)]) ⟨[(k, v2)], ?_, rfl, .cons (Dz.mono st r2) .nil⟩) ⟨p, rfl, ap2⟩⟩
    · exact Stp.write hm _
    · exact upd_same
  · exact q2.elim⟩
end
section
variable {X : Cx} {pos : Pos}
end
end L2.Ev
set_option maxHeartbeats 4000000
namespace L2.Ev
open PySem PySem.Spec PyProof.Rows
namespace Sk
section
variable {prog : Program} {w : World} {A : Around} {E : Value → Shared → Prop} {s : Shared} {a kS : Addr} {b : Bool} {vs : List Value} {kz : List Int} {keys : Array Value} {e e1 : Nat} {P : PySem.Fin → Shared → Prop}
end
end Sk
end L2.Ev
namespace Net
open PySem L2 L2.Ev
def wd (b : Bool) : Str := if b = true then "both" else "to"
theorem shaped_wd (b : Bool) : SeqAt.shaped (.str (wd b)) = true := by cases b <;> decide +kernel
structure Mt where
  w : Bool
  one : Int
  oth : Int
  b : Int
  l : Int
def Mt.d (m : Mt) : PyData := .tuple [.str (wd m.w), .int m.one, .int m.oth, .int m.b, .int m.l]
structure Mt.Ok (many : Int) (m : Mt) : Prop where
  o0 : 0 ≤ m.one
  o1 : m.one < many
  t0 : 0 ≤ m.oth
  t1 : m.oth < many
  ne : m.one ≠ m.oth
  b0 : 0 ≤ m.b
  l1 : 1 ≤ m.l
def netD (many : Int) (ms : List Mt) : PyData := .tuple [.int many, .tuple (ms.map Mt.d)]
def Mt.led (m : Mt) (p : Int) : Option Int := if p = m.one then some m.oth else if p = m.oth ∧ m.w = true then some m.one else none
def Mt.e (m : Mt) : Int := m.b + m.l
def Wy (ms : List Mt) : Int → Int → List Nat → Prop
  | _, _, [] => True
  | p, t, n :: ns => ∃ m q, ms[n]? = some m ∧ m.led p = some q ∧ t ≤ m.b ∧ Wy ms q m.e ns
def pls (ms : List Mt) : Int → List Nat → List Int
  | _, [] => []
  | p, n :: ns => match ms[n]? with
    | some m => match m.led p with | some q => q :: pls ms q ns | none => []
    | none => []
def wts (ms : List Mt) : Int → List Nat → List Int
  | _, [] => []
  | t, n :: ns => match ms[n]? with
    | some m => (m.b - t) :: wts ms m.e ns
    | none => []
def fin (ms : List Mt) : Int → List Nat → Int
  | t, [] => t
  | t, n :: ns => match ms[n]? with | some m => fin ms m.e ns | none => t
def lst (ms : List Mt) : Int → List Nat → Int
  | p, [] => p
  | p, n :: ns => match ms[n]? with
    | some m => match m.led p with | some q => lst ms q ns | none => p
    | none => p
theorem Wy.append {ms : List Mt} : ∀ {p t : Int} {xs ys : List Nat}, Wy ms p t (xs ++ ys) ↔ Wy ms p t xs ∧ Wy ms (lst ms p xs) (fin ms t xs) ys
  | p, t, [], ys => by simp [Wy, lst, fin]
  | p, t, n :: xs, ys => by
    simp only [List.cons_append, Wy]
    constructor
    · rintro ⟨m, q, h1, h2, h3, h4⟩
      have := (Wy.append (xs := xs) (ys := ys)).mp h4
      exact ⟨⟨m, q, h1, h2, h3, this.1⟩, by simp only [lst, fin, h1, h2]; exact this.2⟩
    · rintro ⟨⟨m, q, h1, h2, h3, h4⟩, h5⟩
      simp only [lst, fin, h1, h2] at h5
      exact ⟨m, q, h1, h2, h3, (Wy.append (xs := xs) (ys := ys)).mpr ⟨h4, h5⟩⟩
theorem Wy.idx {ms : List Mt} : ∀ {p t : Int} {xs : List Nat}, Wy ms p t xs → ∀ n ∈ xs, n < ms.length
  | _, _, [], _, n, h => by simp at h
  | p, t, n :: xs, ⟨m, q, h1, h2, h3, h4⟩, k, hk => by
    rcases List.mem_cons.mp hk with rfl | hk
    · exact (List.getElem?_eq_some_iff.mp h1).1
    · exact Wy.idx h4 k hk
theorem pls_append {ms : List Mt} : ∀ {p t : Int} {xs : List Nat} (ys : List Nat), Wy ms p t xs → pls ms p (xs ++ ys) = pls ms p xs ++ pls ms (lst ms p xs) ys
  | p, t, [], ys, _ => by simp [pls, lst]
  | p, t, n :: xs, ys, ⟨m, q, h1, h2, h3, h4⟩ => by
    simp only [List.cons_append, pls, lst, h1, h2]
    rw [pls_append ys h4]
theorem wts_append {ms : List Mt} : ∀ {t : Int} {xs : List Nat} (ys : List Nat), (∀ n ∈ xs, n < ms.length) → wts ms t (xs ++ ys) = wts ms t xs ++ wts ms (fin ms t xs) ys
  | t, [], ys, _ => by simp [wts, fin]
  | t, n :: xs, ys, h => by
    have hn : n < ms.length := h n (by simp)
    have h1 : ms[n]? = some ms[n] := List.getElem?_eq_getElem hn
    simp only [List.cons_append, wts, fin, h1]
    rw [wts_append ys fun k hk => h k (by simp [hk])]
theorem wts_length {ms : List Mt} : ∀ {t : Int} {xs : List Nat}, (∀ n ∈ xs, n < ms.length) → (wts ms t xs).length = xs.length
  | t, [], _ => rfl
  | t, n :: xs, h => by
    have hn : n < ms.length := h n (by simp)
    have h1 : ms[n]? = some ms[n] := List.getElem?_eq_getElem hn
    simp only [wts, h1, List.length_cons]
    rw [wts_length fun k hk => h k (by simp [hk])]
theorem fin_append {ms : List Mt} : ∀ {t : Int} {xs : List Nat} (ys : List Nat), (∀ n ∈ xs, n < ms.length) → fin ms t (xs ++ ys) = fin ms (fin ms t xs) ys
  | t, [], ys, _ => rfl
  | t, n :: xs, ys, h => by
    have hn : n < ms.length := h n (by simp)
    have h1 : ms[n]? = some ms[n] := List.getElem?_eq_getElem hn
    simp only [List.cons_append, fin, h1]
    rw [fin_append ys fun k hk => h k (by simp [hk])]
theorem depth_all1 : ∀ ms : List Mt, PyData.depthAll (ms.map Mt.d) ≤ 1
  | [] => by simp [PyData.depthAll]
  | m :: ms => by
    have := depth_all1 ms
    simp only [List.map_cons, PyData.depthAll, Mt.d, PyData.depth]
    omega
theorem lay_all1 : ∀ ms : List Mt, PyData.canLayAll0 (ms.map Mt.d) = true
  | [] => rfl
  | m :: ms => by
    have h : PyData.canLay0 (.str (wd m.w)) = true := SeqAt.canLay_of_shaped (shaped_wd m.w)
    simp only [List.map_cons, PyData.canLayAll0, Mt.d, PyData.canLay0, lay_all1 ms, Bool.and_true]
    simpa [PyData.canLay0] using h
theorem shaped_lms (ms : List Mt) : SeqAt.shaped (.list (ms.map Mt.d)) = true := by
  have h1 := depth_all1 ms
  have h2 := lay_all1 ms
  simp [SeqAt.shaped, PyData.canLay0, PyData.depth, h2]
  omega
end Net
namespace Net
open PySem L2 L2.Ev
def Mt.tm (T : Int) (m : Mt) : Mt := ⟨m.w, m.oth, m.one, T - (m.b + m.l), m.l⟩
theorem tm_e (T : Int) (m : Mt) : (m.tm T).e = T - m.b := by unfold Mt.tm Mt.e; simp; omega
theorem tm_b (T : Int) (m : Mt) : (m.tm T).b = T - m.e := rfl
theorem led_tm {T : Int} {m : Mt} (ne : m.one ≠ m.oth) {p q : Int} (h : m.led p = some q) : (m.tm T).led q = some p := by
  show (if q = m.oth then some m.one else if q = m.one ∧ m.w = true then some m.oth else none) = some p
  unfold Mt.led at h
  split at h
  · rename_i e
    cases h
    rw [if_pos rfl, e]
  · split at h
    · rename_i e1 e2
      cases h
      rw [if_neg ne, if_pos ⟨rfl, e2.2⟩, e2.1]
    · cases h
theorem at_tm {T : Int} {ms : List Mt} {n : Nat} {m : Mt} (h : ms[n]? = some m) : (ms.map (Mt.tm T))[n]? = some (m.tm T) := by rw [List.getElem?_map, h]; rfl
def lv (ms : List Mt) (t : Int) : List Nat → Int
  | [] => t
  | n :: _ => match ms[n]? with | some m => m.b | none => t
theorem lst_append {ms : List Mt} : ∀ {p t : Int} {xs : List Nat} (ys : List Nat), Wy ms p t xs → lst ms p (xs ++ ys) = lst ms (lst ms p xs) ys
  | p, t, [], ys, _ => rfl
  | p, t, n :: xs, ys, ⟨m, q, h1, h2, h3, h4⟩ => by
    simp only [List.cons_append, lst, h1, h2]
    exact lst_append ys h4
theorem Wy.turn {T : Int} {ms : List Mt} (ne : ∀ m ∈ ms, m.one ≠ m.oth) : ∀ {way : List Nat} {p t : Int}, Wy ms p t way →
    Wy (ms.map (Mt.tm T)) (lst ms p way) (T - fin ms t way) way.reverse ∧ lst (ms.map (Mt.tm T)) (lst ms p way) way.reverse = p ∧ fin (ms.map (Mt.tm T)) (T - fin ms t way) way.reverse = T - lv ms t way ∧
    (lst ms p way :: pls (ms.map (Mt.tm T)) (lst ms p way) way.reverse) = (p :: pls ms p way).reverse ∧ (wts (ms.map (Mt.tm T)) (T - fin ms t way) way.reverse).drop 1 = ((wts ms (lv ms t way) way).drop 1).reverse
  | [], p, t, _ => by simp [lst, fin, lv, pls, wts, Wy]
  | n :: ns, p, t, ⟨m, q, h1, h2, h3, h4⟩ => by
    obtain ⟨i1, i2, i3, i4, i5⟩ := Wy.turn ne h4
    have hm := ne m (List.mem_of_getElem? h1)
    have hl := led_tm (T := T) hm h2
    have ht := at_tm (T := T) h1
    have le : m.e ≤ lv ms m.e ns := by
      cases ns with
      | nil => exact Int.le_refl _
      | cons k ks => obtain ⟨m', q', e1, e2, e3, e4⟩ := h4; simp only [lv, e1]; exact e3
    have hf : fin ms t (n :: ns) = fin ms m.e ns := by simp only [fin, h1]
    have hls : lst ms p (n :: ns) = lst ms q ns := by simp only [lst, h1, h2]
    rw [hf, hls, List.reverse_cons]
    have hw : Wy (ms.map (Mt.tm T)) (lst ms q ns) (T - fin ms m.e ns) (ns.reverse ++ [n]) := Wy.append.mpr ⟨i1, by rw [i2, i3]; exact ⟨m.tm T, p, ht, hl, by rw [tm_b]; omega, trivial⟩⟩
    have hlv : lv ms t (n :: ns) = m.b := by simp only [lv, h1]
    refine ⟨hw, ?_, ?_, ?_, ?_⟩
    · rw [lst_append [n] i1, i2]; simp only [lst, ht, hl]
    · rw [fin_append [n] i1.idx]; simp only [fin, ht]; rw [tm_e, hlv]
    · rw [pls_append [n] i1, i2]
      simp only [pls, ht, hl, h1, h2]
      rw [← List.cons_append, i4]; simp
    · rw [wts_append [n] i1.idx, i3]
      simp only [wts, ht, h1, hlv]
      rw [tm_b]
      cases ns with
      | nil => simp [wts]
      | cons k ks =>
        have hne : 1 ≤ (wts (ms.map (Mt.tm T)) (T - fin ms m.e (k :: ks)) (k :: ks).reverse).length := by rw [wts_length i1.idx]; simp
        rw [List.drop_append_of_le_length hne, i5]
        obtain ⟨m', q', e1, e2, e3, e4⟩ := h4
        simp only [lv, wts, e1, List.drop_succ_cons, List.drop_zero]
        rw [List.reverse_cons]
        congr 2
        omega
structure Good (T many : Int) (ms : List Mt) : Prop where
  ok : ∀ m ∈ ms, m.Ok many
  e : ∀ m ∈ ms, m.e ≤ T
theorem Good.tm {T many : Int} {ms : List Mt} (g : Good T many ms) : Good T many (ms.map (Mt.tm T)) := by
  refine ⟨fun m h => ?_, fun m h => ?_⟩
  · obtain ⟨m', h', rfl⟩ := List.mem_map.mp h
    have o := g.ok m' h'
    have e := g.e m' h'
    exact ⟨o.t0, o.t1, o.o0, o.o1, fun z => o.ne z.symm, by rw [tm_b]; omega, o.l1⟩
  · obtain ⟨m', h', rfl⟩ := List.mem_map.mp h
    rw [tm_e]
    have := (g.ok m' h').b0
    omega
def pr (a : Int × Int) : PyData := .tuple [.int a.1, .int a.2]
end Net
namespace L2.Ev
open PySem PySem.Spec PyProof.Rows
section
variable {α : Type}
end
end L2.Ev
set_option maxHeartbeats 4000000
namespace L2.Ev
open PySem PySem.Spec PyProof.Rows
section
variable {X : Cx} {pins : List (Addr × Obj)} {σ : St} {H : Hp} {s : Shared} {h' : Heap}
end
section
variable {X : Cx} {k : Nat} {f : Addr} {fd : FuncData} {ps : List Str} {sp : Sp} {E : XK} {pins : List (Addr × Obj)} {σ : St} {H : Hp} {s : Shared} {Q : VK}
theorem FpOk.same {X : Cx} {pins : List (Addr × Obj)} {H H' : Hp} {b : Addr} (h : FpOk X pins H b) (n : H' b = none) : FpOk X pins H' b := ⟨n, h.2⟩
end
end L2.Ev
set_option maxHeartbeats 4000000
namespace L2.Ev
open PySem PySem.Spec PyProof.Rows
section
variable {X : Cx}
end
end L2.Ev
set_option maxHeartbeats 4000000
namespace L2.Ev
open PySem PySem.Spec PyProof.Rows
end L2.Ev
set_option maxHeartbeats 4000000
namespace L2.Ev
open PySem PySem.Spec PyProof.Rows
namespace Lt
section
variable {prog : Program} {w : World} {A : Around} {E : Value → Shared → Prop} {s : Shared} {a l : Addr} {its : Array Value}
end
end Lt
end L2.Ev
set_option maxHeartbeats 4000000
namespace L2.Ev
open PySem PySem.Spec PyProof.Rows
section
variable {P : Program} {w : World} {K : PySem.W.Frag}
def tyU (h : Heap) (T : String) : Value → Prop
  | .none => T = "NoneType"
  | .bool _ => T = "bool"
  | .int _ _ => T = "int"
  | .str _ _ => T = "str"
  | .ref a => (T = "list" ∨ T = "tuple" ∨ T = "dict") ∧ ∃ o, h.get? a = some o ∧ o.cls = .type T
  | _ => False
theorem tyU.keep {h h' : Heap} {T : String} {u : Value} (k : ∀ b o, h.get? b = some o → h'.get? b = some o) (t : tyU h T u) : tyU h' T u := by
  unfold tyU at t ⊢
  split at t <;> first | exact t | (obtain ⟨a, o, e, c⟩ := t; exact ⟨a, o, k _ _ e, c⟩)
end
end L2.Ev
set_option maxHeartbeats 4000000
namespace L2.Ev
open PySem PySem.Spec PyProof.Rows
def tyV (K : PySem.W.Frag) (H : Hp) (T : String) : V → Prop
  | .non => T = "NoneType"
  | .bl _ => T = "bool"
  | .int _ => T = "int"
  | .str _ => T = "str"
  | .ref a => (T = "list" ∧ ∃ xs, SqL K H a xs) ∨ (T = "tuple" ∧ ∃ xs, SqT K H a xs) ∨ (T = "dict" ∧ ∃ us, Rd H a (.dK us))
  | _ => False
theorem tyV.u {X : Cx} {pins : List (Addr × Obj)} {σ : St} {H : Hp} {s : Shared} (I : Inv X pins σ H s) {T : String} {x : V} {u : Value} (r : RelV x u) (t : tyV X.K H T x) : tyU s.heap T u := by
  cases x with
  | non => cases r; exact t
  | bl b => cases r; exact t
  | int i => obtain ⟨_, rfl⟩ := r; exact t
  | str i => obtain ⟨_, rfl⟩ := r; exact t
  | ref a =>
    cases r
    rcases t with ⟨rfl, xs, h⟩ | ⟨rfl, xs, h⟩ | ⟨rfl, us, h⟩
    · obtain ⟨its, _, ⟨o, n, e, c, _⟩, _⟩ := I.list h
      exact ⟨.inl rfl, o, e, c⟩
    · obtain ⟨its, _, ⟨o, e, c, _⟩, _⟩ := I.tuple h
      exact ⟨.inr (.inl rfl), o, e, c⟩
    · obtain ⟨_, _, vs, _, o, es, ep, e, c, _⟩ := dk_rd I.hok h
      exact ⟨.inr (.inr rfl), o, e, c.1⟩
  | _ => exact t.elim
section
variable {X : Cx}
end
end L2.Ev
namespace Net
open PySem L2 L2.Ev TL
def nm (n : Int) : Str := Str.ofString (toString n)
theorem tl_nm {n : Int} (h : 0 ≤ n) : tl (nm n) = numL n.toNat := by
  obtain ⟨m, rfl⟩ := Int.eq_ofNat_of_zero_le h
  exact tl_num m
theorem nm_len {n : Int} {k : Nat} (hk : 0 < k) (h : 0 ≤ n) (h2 : n < 10 ^ k) : (nm n).length ≤ k := by
  rw [len_tl, tl_nm h]
  refine numL_len hk ?_
  have : ((n.toNat : Nat) : Int) < ((10 ^ k : Nat) : Int) := by rw [Int.toNat_of_nonneg h]; simpa using h2
  exact_mod_cast this
def hline (n : Int) : Str := "places " ++ nm n
structure Mt.Fit (m : Mt) : Prop where
  o : m.one < 10 ^ 100
  t : m.oth < 10 ^ 100
  b : m.b < 10 ^ 100
  l : m.l < 10 ^ 100
theorem joinL_len (S : List Nat) : ∀ ps : List (List Nat), (joinL S ps).length ≤ (ps.map List.length).sum + ps.length * S.length
  | [] => by simp [joinL]
  | [p] => by simp [joinL]
  | p :: q :: r => by
    have := joinL_len S (q :: r)
    simp only [joinL, List.length_append, List.map_cons, List.sum_cons, List.length_cons, Nat.add_mul, Nat.one_mul] at this ⊢
    omega
theorem sum_len_le {B : Nat} : ∀ {ps : List Str}, (∀ p ∈ ps, p.length ≤ B) → (ps.map (·.length)).sum ≤ ps.length * B
  | [], _ => by simp
  | p :: ps, h => by
    have h1 := h p (by simp)
    have h2 := sum_len_le (ps := ps) fun q hq => h q (by simp [hq])
    simp only [List.map_cons, List.sum_cons, List.length_cons, Nat.add_mul, Nat.one_mul]
    omega
theorem join_len {y : Str} {ps : List Str} {B : Nat} (h : ∀ p ∈ ps, p.length ≤ B) : (Txt.join y ps).length ≤ ps.length * B + ps.length * y.length := by
  rw [len_tl, join_eq, tl_join]
  refine Nat.le_trans (joinL_len _ _) ?_
  have h1 := sum_len_le h
  have h2 : (ps.map tl).map List.length = ps.map (·.length) := by
    rw [List.map_map]
    refine List.map_congr_left fun p _ => ?_
    show (tl p).length = p.length
    rw [len_tl]
  rw [h2, List.length_map, ← len_tl]
  omega
end Net
namespace Net
open PySem L2 L2.Ev
theorem cut_take {α : Type} (xs : List α) (k : Nat) : cut xs none (some (k : Int)) = xs.take k := by
  unfold cut
  rw [HT.sIx_none, HT.sIx_nat]
  simp [List.take_eq_take_iff]
theorem cut_drop {α : Type} (xs : List α) (k : Nat) : cut xs (some (k : Int)) none = xs.drop k := by
  unfold cut
  rw [HT.sIx_none, HT.sIx_nat]
  by_cases h : k ≤ xs.length
  · rw [Nat.min_eq_left h, List.take_of_length_le (by simp)]
  · rw [Nat.min_eq_right (by omega), List.drop_eq_nil_of_le (Nat.le_refl _), List.drop_eq_nil_of_le (by omega)]; simp
section
variable {μ : Mu} {a b c : Cell}
end
structure LongOk (f : Int) (ms : List Mt) : Prop where
  all : ∀ (k : Nat) (m : Mt), ms[k]? = some m → m.Ok 2 ∧ m.b = f + k ∧ m.l = 1 ∧ m.led ((k : Int) % 2) = some (1 - (k : Int) % 2)
theorem LongOk.way {f : Int} {ms : List Mt} (h : LongOk f ms) : ∀ (k j : Nat) (t : Int), j + k = ms.length → t ≤ f + j → Wy ms ((j : Int) % 2) t (List.range' j k)
  | 0, j, t, _, _ => by simp [Wy]
  | k + 1, j, t, e, ht => by
    have hj : j < ms.length := by omega
    have e1 : ms[j]? = some ms[j] := List.getElem?_eq_getElem hj
    obtain ⟨_, hb, hl, hd⟩ := h.all j _ e1
    rw [List.range'_succ]
    refine ⟨ms[j], _, e1, hd, by omega, ?_⟩
    have := LongOk.way h k (j + 1) (ms[j].e) (by omega) (by unfold Mt.e; omega)
    rw [show (1 : Int) - (j : Int) % 2 = ((j + 1 : Nat) : Int) % 2 from by omega]
    exact this
end Net
set_option maxHeartbeats 4000000
namespace L2.Ev
open PySem PySem.Spec PyProof.Rows
end L2.Ev
set_option maxHeartbeats 4000000
namespace L2.Ev
open PySem PySem.Spec PyProof.Rows
def frzD : Cell → Option PyData
  | .lst ds => some (.list ds)
  | .dk kvs => some (.dict (kvs.map fun kv => (keyD kv.1, kv.2)))
  | .lw _ => none
  | .dn _ => none
  | .ln _ => none
  | .dt _ => none
  | .zk _ => none
  | .zn _ => none
  | .zt _ => none
def wFrz (f : SE) : SE := fun ρ μ Q => f ρ μ fun w μ' => match w with
  | .r n => n = μ.length ∧ μ'.length = n + 1 ∧ ∀ c, μ'[n]? = some c → match frzD c with | some d => Q (.p d) (μ'.take n) | none => False
  | _ => False
theorem dk_dct {K : PySem.W.Frag} {as : Cs} {H : Hp} {a : Addr} {us : List (Key × V)} {kvs : List (Key × PyData)} (hn : a ∉ as) (h1 : Fz H a (.dK us)) (h2 : us.map (·.1) = kvs.map (·.1)) (h3 : DzAll K as H (us.map (·.2)) (kvs.map (·.2))) : Dz K as H (.ref a) (.dict (kvs.map fun kv => (keyD kv.1, kv.2))) := by
  refine Dz.dct hn h1 ?_ ?_
  · have h2' := congrArg (List.map keyD) h2
    rw [List.map_map, List.map_map] at h2'
    rw [List.map_map]
    exact h2'
  · rw [List.map_map]
    exact h3
theorem drop_of {as : Cs} {n : Nat} {a : Addr} (ha : as.as[n]? = some a) : a ∈ as.as.drop n := List.mem_of_getElem? (i := 0) (by rw [List.getElem?_drop]; simpa using ha)
theorem ge_frz {X : Cx} {e : Expr} {f : SE} (h : GE X e f) : GE X e (wFrz f) := ⟨fun pins s σ H Q I ⟨as, ρ, μ, Q0, S, E, hw, A⟩ => by
  refine thn (h.go pins s σ H (fun v H' => ∃ w μ' as', (match w with
    | .r n => n = μ.length ∧ μ'.length = n + 1 ∧ ∀ c, μ'[n]? = some c → match frzD c with | some d => Q0 (.p d) (μ'.take n) | none => False
    | _ => False) ∧ Stp as H as' H' ∧ SimH X.K as' μ' H' ∧ Rel X.K as' H' w v) I ⟨as, ρ, μ, _, S, E, hw, fun w μ' as' v H' q s' S' r => ⟨w, μ', as', q, s', S', r⟩⟩) fun u s1 ⟨v, H', I1, ru, w, μ', as', q, s', S', r⟩ => ?_
  cases w with
  | r n =>
    obtain ⟨rfl, hl, q⟩ := q
    obtain ⟨c, hc⟩ : ∃ c, μ'[μ.length]? = some c := ⟨μ'[μ.length]'(by omega), List.getElem?_eq_getElem (by omega)⟩
    have q := q c hc
    obtain ⟨a, rfl, ha⟩ := r
    have ck := S'.cell _ a c ha hc
    have hD : ∀ d ∈ [a], d ∈ as'.as.drop μ.length := fun d hd => by rw [List.mem_singleton.mp hd]; exact drop_of ha
    cases c with
    | lst ds =>
      obtain ⟨vs, h1, h2⟩ := ck
      obtain ⟨sc, Sc, o, hn⟩ := cutW (m := μ.length) s' S' (by rw [S.len]; exact Nat.le_refl _) (by omega) [a] hD (fun _ _ => rfl)
      exact ⟨_, _, I1, ru, A _ _ _ _ _ q sc Sc (Dz.lst ⟨hn a (by simp), .inl h1⟩ (h2.out o))⟩
    | dk kvs =>
      obtain ⟨us, h1, h2, h3⟩ := ck
      obtain ⟨od, I2⟩ := I1.lock h1 trivial
      obtain ⟨sc, Sc, o, hn⟩ := cutW (m := μ.length) s' S' (by rw [S.len]; exact Nat.le_refl _) (by omega) [a] hD (H2 := upd H' a (.frz od (.dK us))) (fun b hb => upd_ne (by simpa using hb))
      exact ⟨_, _, I2, ru, A _ _ _ _ _ q sc Sc (dk_dct (hn a (by simp)) ⟨od, upd_same⟩ h2 (h3.out o))⟩
    | lw ws => exact q.elim
    | dn ws => exact q.elim
    | ln ws => exact q.elim
    | dt ws => exact q.elim
    | zk ws => exact q.elim
    | zn ws => exact q.elim
    | zt ws => exact q.elim
  | p d => exact q.elim
  | t n => exact q.elim
  | s ds => exact q.elim
  | u ns => exact q.elim
  | q n j => exact q.elim⟩
def scal : PyData → Bool
  | .none => true
  | .bool _ => true
  | .int _ => true
  | .str _ => true
  | _ => false
def plainD (d : PyData) : Prop := d.hasDict = false ∨ ∃ kvs, d = .dict kvs ∧ ∀ kv ∈ kvs, scal kv.2 = true
theorem keys_read0 {P : Program} {w : World} {h : Heap} : ∀ {es : List DictEntry} {vs : List (Key × Value)}, Pairs (mixKind P w) es vs → ReadsAll h (es.map (·.key)) (vs.map fun v => keyD v.1) []
  | _, _, .nil => .nil
  | _, _, .cons (e := e) (kv := kv) hk _ t => by
    have q := keys_read0 (h := h) t
    rcases keyIs_shape hk with ⟨i, t, e1, e2⟩ | ⟨x, t, e1, e2⟩
    · refine ReadsAll.cons (as := []) (bs := []) ?_ q
      show Reads h e.key (keyD kv.1) []
      rw [e1, e2]; exact Reads.int _ _
    · refine ReadsAll.cons (as := []) (bs := []) ?_ q
      show Reads h e.key (keyD kv.1) []
      rw [e1, e2]; exact Reads.str _ _
theorem scal_read {K : PySem.W.Frag} {as : Cs} {H : Hp} {h : Heap} : ∀ {ds : List PyData} {vs : List V} {us : List Value}, DzAll K as H vs ds → (∀ d ∈ ds, scal d = true) → Vals vs us → ReadsAll h us ds []
  | [], _, _, .nil, _, r => by cases r; exact .nil
  | d :: ds, _, _, .cons hd ht, hs, r => by
    cases r with
    | cons r1 r2 =>
      refine ReadsAll.cons (as := []) (bs := []) ?_ (scal_read ht (fun d h => hs d (by simp [h])) r2)
      have := hs d (by simp)
      cases hd with
      | non => cases r1; exact .none
      | bl b => cases r1; exact .bool b
      | int i => obtain ⟨t, rfl⟩ := r1; exact .int i t
      | str x => obtain ⟨t, rfl⟩ := r1; exact .str x t
      | lst _ _ => simp [scal] at this
      | tup _ _ => simp [scal] at this
      | dct _ _ _ _ => simp [scal] at this
def cStrA : SpW := fun ws μ Q => match ws with
  | [.p (.str z)] => Q (.p (.str z)) μ
  | [.p d] => d.showable = true ∧ d.depth ≤ 30 ∧ d.shown.length ≤ sizeLine ∧ plainD d ∧ Q (.p (.str d.shown)) μ
  | _ => False
theorem gc_strA {X : Cx} {k : Nat} (hr : Room k X.A) : GC X (.type "str") cStrA := ⟨by
  intro pins s σ H vs us Q I rx ⟨as, μ, ws, Q0, S, r, h, A⟩
  unfold cStrA at h
  split at h
  · cases r with
    | cons r1 r2 =>
      cases r2
      cases r1
      obtain ⟨u, rfl, t, rfl⟩ := vals1 rx
      exact PySem.P.str_of_str ⟨.str _, H, I, ⟨_, rfl⟩, A.now S h (Dz.str _)⟩
  · rename_i d hno
    obtain ⟨hs, hz, hl, hp, q⟩ := h
    cases r with
    | cons r1 r2 =>
      cases r2
      obtain ⟨u, rfl, ru⟩ := Vals.one rx
      have r1 : Dz X.K as H _ d := r1
      have fin : ∀ (h' : Heap) (t : Tok) (tk : Nat), (∀ b o, s.heap.get? b = some o → h'.get? b = some o) → EP X pins σ Q (.str d.shown t) { s with heap := h', toks := tk } := fun h' t tk k => ⟨.str d.shown, H, I.kept k, ⟨t, rfl⟩, A.now S q (Dz.str _)⟩
      have hu := hr.un
      obtain ⟨bs, rd⟩ := Dp.reads I d _ u r1.dp ru
      cases r1 with
      | non => cases ru; exact PySem.P.str_of_none (fin _ _ _ fun _ _ e => e)
      | bl b => cases ru; cases b <;> exact PySem.P.str_of_bool (fin _ _ _ fun _ _ e => e)
      | int i => obtain ⟨t, rfl⟩ := ru; exact PySem.P.str_of_int (by simpa [PyData.showable] using hs) (fin _ _ _ fun _ _ e => e)
      | str x => obtain ⟨t, rfl⟩ := ru; exact (hno x rfl).elim
      | lst t a =>
        cases ru
        have hd : PyData.hasDict _ = false := hp.elim id fun ⟨_, e, _⟩ => by cases e
        exact str_of_reads rd hs (fun z => by rw [hd] at z; cases z) hr.gd (by omega) (fun _ _ e => e) (fun h' t tk k => fin h' t tk k) hl
      | tup t a =>
        cases ru
        have hd : PyData.hasDict _ = false := hp.elim id fun ⟨_, e, _⟩ => by cases e
        exact str_of_reads rd hs (fun z => by rw [hd] at z; cases z) hr.gd (by omega) (fun _ _ e => e) (fun h' t tk k => fin h' t tk k) hl
      | @dct a us kvs hn hR hk ha =>
        have hR := hR.rd
        cases ru
        have hsc : ∀ kv ∈ kvs, scal kv.2 = true := by
          rcases hp with hp | ⟨kvs', e, hsc⟩
          · simp [PyData.hasDict] at hp
          · cases e; exact hsc
        obtain ⟨_, hsys, vs, rel, o, es, ep, ho, hx, hd, _, pr, _⟩ := dk_rd I.hok hR
        have hq := keys_read0 (h := s.heap) pr
        rw [← rel.ks, hk] at hq
        have hr2 : ReadsAll s.heap (vs.map (·.2)) (kvs.map (·.2)) [] := scal_read ha (fun d h => by obtain ⟨kv, hkv, rfl⟩ := List.mem_map.mp h; exact hsc kv hkv) rel.vs
        rw [← vals_of_pairs pr] at hr2
        have rd2 := Reads.dict ho hx.1 hd hq hr2
        exact str_of_reads rd2 hs (fun _ z => by simp at z; subst z; simp at hsys) hr.gd (by omega) (fun _ _ e => e) (fun h' t tk k => fin h' t tk k) hl
  · exact h.elim⟩
end L2.Ev
set_option maxHeartbeats 4000000
namespace L2.Ev
open PySem PySem.Spec PyProof.Rows
end L2.Ev
set_option maxHeartbeats 4000000
namespace L2.Ev
open PySem PySem.Spec PyProof.Rows
theorem str_eq_declines_dict (b : Str) (u : Tok) (l : Addr) (c : Value) (es : Array DictEntry) (n : Nat) (dd : Option Addr) (sl : Array (Option Value)) :
    Meets (Builtin.«str.__eq__» ⟨[.str b u, .ref l], []⟩) (fun _ R s => s.heap.get? l = some { cls := c, dict := dd, data := .dict es n, slots := sl } ∧ R (.ok (.ret .notImplemented)) s) :=
  .of_wp fun prog w A R s h => by obtain ⟨hp, g, d, tk, os⟩ := s; obtain ⟨hl, h⟩ := h; wp_walk using wpAny_loadPart' hl, wpAny_load hl; exact ⟨_, rfl, h⟩
theorem rc_str_dict {A : Around} {s : Shared} {a : Addr} {es : Array DictEntry} {n : Nat} {dd : Option Addr} {sl : Array (Option Value)} (ho : s.heap.get? a = some ⟨.type "dict", dd, .dict es n, sl⟩) (b : Str) (u : Tok) (hu : A.units < cLine) : SeqAt.RcAt A s (.str b u) (.ref a) false := fun prog w E Q h => by
  have hT : s.TypeIs (.ref a) "dict" := ⟨_, ho, rfl⟩
  refine SeqAt.rc_eq_decline_or (k := false) (typeIs_str s b u) hT (by decide) F.sub_dict_str F.slot_str_eq F.slot_dict_eq_refl
    (fun _ hq => call_meets F.slot_str_eq (typeIs_str s b u) F.entry_str_eq (F.args_str_eq_2 _ _) (str_eq_declines_dict b u a (.type "dict") es n dd sl) ⟨ho, hq⟩)
    (fun _ hq => wpAny_call_entry F.slot_dict_eq_refl hT F.entry_dict_eq ?_ (F.args_dict_eq_2 _ _))
    (fun _ hq => wpAny_of_eq (rfl : isSame (.str b u) (.ref a) = pure false) hq) (.inr hu) h
  show wpAny _ _ (Builtin.Dict.dictSlotArgs "__eq__" ⟨[.ref a, .str b u], []⟩ >>= _) _ _ s
  refine wpAny_bind ?_
  unfold Builtin.Dict.dictSlotArgs
  refine wpAny_bind (wpAny_notOrdered_dict hT ?_)
  show wpAny _ _ (pure (Value.ref a, Value.str b u)) _ _ s
  refine wpAny_pure ?_
  refine wpAny_bind (wpAny_isInstance (T := "str") (typeIs_str s b u) F.sub_str_dict ?_)
  simp only [Bool.not_false, if_true]
  wp_walk
  exact ⟨_, rfl, hq⟩
theorem eqAt_str_dict {A : Around} {s : Shared} {a : Addr} {es : Array DictEntry} {n : Nat} {dd : Option Addr} {sl : Array (Option Value)} (ho : s.heap.get? a = some ⟨.type "dict", dd, .dict es n, sl⟩) (b : Str) (u : Tok) (hu : A.units < cLine) : SeqAt.EqAt A s (.str b u) (.ref a) false := fun prog w E Q h => by
  unfold eqBool
  refine wpAny_holding ?_
  refine wpAny_ite_split (fun hab => absurd (eq_of_beq hab) nofun) (fun _ => ?_)
  exact wpAny_bind (rc_str_dict ho b u hu prog w E _ (wpAny_truthy_bool h))
def isS (d : PyData) (y : Str) : Bool := match d with
  | .str z => y == z
  | _ => false
theorem eqAt_str_any {X : Cx} {pins : List (Addr × Obj)} {σ : St} {H : Hp} {s : Shared} (I : Inv X pins σ H s) {as : Cs} {A : Around} (hu : A.units < cLine) {x : V} {v : Value} {d : PyData} (r : Dz X.K as H x d) (rx : RelV x v) (y : Str) (t : Tok) : SeqAt.EqAt A s (.str y t) v (isS d y) := by
  cases r with
  | non => cases rx; exact SeqAt.EqAt.str_none y t
  | bl b => cases rx; exact SeqAt.EqAt.str_bool y t b
  | int i => obtain ⟨u, rfl⟩ := rx; exact SeqAt.EqAt.str_int y t i u
  | str z => obtain ⟨u, rfl⟩ := rx; exact SeqAt.EqAt.str_str y t z u
  | lst tz a =>
    cases rx
    obtain ⟨its, _, ⟨o, n, e, c, _, hd⟩, _⟩ := I.list tz.sq
    exact SeqAt.EqAt.str_list y t ⟨o, e, c, n, hd⟩ hu
  | tup tz a =>
    cases rx
    obtain ⟨its, _, ⟨o, e, c, n, hd⟩, _⟩ := I.tuple tz.sq
    exact SeqAt.EqAt.str_tuple y t ⟨o, e, c, n, hd⟩ hu
  | dct hn hR hk ha =>
    have hR := hR.rd
    cases rx
    obtain ⟨_, hsys, vs, rel, o, es, ep, ho, hx, hdd, _⟩ := dk_rd I.hok hR
    obtain ⟨cls, dd, data, sl⟩ := o
    have e1 : cls = .type "dict" := hx.1
    have e2 : data = .dict es ep := hdd
    subst e1 e2
    exact eqAt_str_dict ho y t hu
def oNotInS : O2 := fun x y μ Q => match x, y with
  | .p d, .p (.tuple ts) => match strsOf ts with | some ys => Q (.p (.bool (!ys.any (isS d)))) μ | none => False
  | _, _ => False
theorem vals_strs : ∀ {ys : List Str} {us : List Value}, Vals (ys.map V.str) us → ∀ (f : Str → Bool) (g : Value → Bool), (∀ y t, g (.str y t) = f y) → us.any g = ys.any f
  | [], _, r, f, g, h => by cases r; rfl
  | y :: ys, _, r, f, g, h => by
    cases r with
    | cons r1 r2 =>
      obtain ⟨t, rfl⟩ := r1
      rw [List.any_cons, List.any_cons, h, vals_strs r2 f g h]
theorem vals_str_mem : ∀ {ys : List Str} {us : List Value}, Vals (ys.map V.str) us → ∀ u ∈ us, ∃ y t, u = .str y t
  | [], _, r, u, hu => by cases r; simp at hu
  | y :: ys, _, r, u, hu => by
    cases r with
    | cons r1 r2 =>
      rcases List.mem_cons.mp hu with rfl | hu
      · obtain ⟨t, rfl⟩ := r1; exact ⟨y, t, rfl⟩
      · exact vals_str_mem r2 u hu
theorem go_notInS {X : Cx} (hu : X.A.units + 64 < cLine) : GO X (compareOp .NotIn) oNotInS := ⟨fun pins s σ H x y v u Q I rx ry ⟨as, μ, w1, w2, Q0, S, r1, r2, q, A⟩ => by
  unfold oNotInS at q
  split at q
  · rename_i d ts
    split at q
    · rename_i ys ey
      have r1 : Dz X.K as H x d := r1
      have r2 : Dz X.K as H y (.tuple ts) := r2
      cases r2 with
      | tup tz da =>
        cases ry
        have ev := strsOf_dz da ey
        subst ev
        obtain ⟨its, rv, ⟨o, e, c, n, hd⟩, _⟩ := I.tuple tz.sq
        refine SeqAt.notIn_tupleAt (fun u => match u with | .str y _ => isS d y | _ => false) ⟨o, e, c, n, hd⟩ (fun u hu' => ?_) ⟨.bl _, H, I, rfl, ?_⟩
        · obtain ⟨y, t, rfl⟩ := vals_str_mem rv u (by simpa using hu')
          exact eqAt_str_any I (by show X.A.units + 1 < cLine; omega) r1 rx y t
        · have := vals_strs rv (isS d) (fun u => match u with | .str y _ => isS d y | _ => false) fun _ _ => rfl
          rw [List.any_toArray, this]
          exact A.now S q (Dz.bl _)
    · exact q.elim
  · exact q.elim⟩
def oNeE : O2 := fun x y μ Q => match x, y with
  | .p (.tuple xs), .p (.tuple []) => Q (.p (.bool (!xs.isEmpty))) μ
  | .p (.list xs), .p (.list []) => Q (.p (.bool (!xs.isEmpty))) μ
  | _, _ => False
theorem go_neE {X : Cx} (hu : X.A.units + 64 < cLine) : GO X (compareOp .NotEq) oNeE := ⟨fun pins s σ H x y v u Q I rx ry ⟨as, μ, w1, w2, Q0, S, r1, r2, q, A⟩ => by
  unfold oNeE at q
  split at q
  · rename_i xs
    have r1 : Dz X.K as H x (.tuple xs) := r1
    have r2 : Dz X.K as H y (.tuple []) := r2
    cases r1 with
    | tup t1 d1 =>
      cases r2 with
      | tup t2 d2 =>
        cases d2
        cases rx
        cases ry
        obtain ⟨i1, v1, ⟨o1, e1, c1, n1, h1⟩, _⟩ := I.tuple t1.sq
        obtain ⟨i2, v2, ⟨o2, e2, c2, n2, h2⟩, _⟩ := I.tuple t2.sq
        cases v2
        have hl : i1.length = xs.length := by rw [← v1.length, d1.length]
        refine (SeqAt.RcNeAt.tuples (A := X.A) (e := fun _ => true) ⟨o1, e1, c1, n1, h1⟩ ⟨o2, e2, c2, n2, h2⟩ (by omega) (fun j _ h => by simp at h)) X.prog X.w X.xe _ ⟨.bl _, H, I, rfl, ?_⟩
        have : (!((List.range (min i1.toArray.size ([] : List Value).toArray.size)).all (fun _ => true) && i1.toArray.size == ([] : List Value).toArray.size)) = !xs.isEmpty := by
          cases xs with
          | nil => simp at hl; subst hl; rfl
          | cons a l => cases i1 with | nil => simp at hl | cons _ _ => simp
        rw [this]
        exact A.now S q (Dz.bl _)
  · rename_i xs
    have r1 : Dz X.K as H x (.list xs) := r1
    have r2 : Dz X.K as H y (.list []) := r2
    cases r1 with
    | lst t1 d1 =>
      cases r2 with
      | lst t2 d2 =>
        cases d2
        cases rx
        cases ry
        obtain ⟨i1, v1, ⟨o1, n1, e1, c1, _, h1⟩, _⟩ := I.list t1.sq
        obtain ⟨i2, v2, ⟨o2, n2, e2, c2, _, h2⟩, _⟩ := I.list t2.sq
        cases v2
        have hl : i1.length = xs.length := by rw [← v1.length, d1.length]
        cases xs with
        | nil =>
          simp at hl
          subst hl
          refine (SeqAt.RcNeAt.lists (A := X.A) (e := fun _ => true) ⟨o1, e1, c1, n1, h1⟩ ⟨o2, e2, c2, n2, h2⟩ rfl (by omega) (fun j _ h => by simp at h)) X.prog X.w X.xe _ ⟨.bl _, H, I, rfl, ?_⟩
          exact A.now S q (Dz.bl _)
        | cons a l =>
          cases i1 with
          | nil => simp at hl
          | cons b m =>
            refine (SeqAt.RcNeAt.lists_lengths (A := X.A) ⟨o1, e1, c1, n1, h1⟩ ⟨o2, e2, c2, n2, h2⟩ (by simp) (by omega)) X.prog X.w X.xe _ ⟨.bl _, H, I, rfl, ?_⟩
            exact A.now S q (Dz.bl _)
  · exact q.elim⟩
end L2.Ev
set_option maxHeartbeats 4000000
namespace L2.Ev
open PySem PySem.Spec PyProof.Rows
def b2n (b : Bool) : Int := if b = true then 1 else 0
def oAddA : O2 := fun x y μ Q => match x, y with
  | .p (.bool b), .p (.int j) => Q (.p (.int (b2n b + j))) μ
  | x, y => oAdd x y μ Q
def oSubA : O2 := fun x y μ Q => match x, y with
  | .p (.bool b), .p (.int j) => Q (.p (.int (b2n b - j))) μ
  | .p (.int i), .p (.bool b) => Q (.p (.int (i - b2n b))) μ
  | x, y => oSub x y μ Q
theorem go_addA {X : Cx} : GO X (binaryOp .Add) oAddA := ⟨fun pins s σ H x y v u Q I rx ry ⟨as, μ, w1, w2, Q0, S, r1, r2, q, A⟩ => by
  unfold oAddA at q
  split at q
  · rename_i b j
    have r1 : Dz X.K as H x (.bool b) := r1
    have r2 : Dz X.K as H y (.int j) := r2
    cases r1; cases r2; cases rx; obtain ⟨t, rfl⟩ := ry
    exact PySem.IntBool.add_bool_int ⟨.int _, H, I.tok _, ⟨_, rfl⟩, A.now S q (Dz.int _)⟩
  · exact go_add.go pins s σ H x y v u Q I rx ry ⟨as, μ, _, _, Q0, S, r1, r2, q, A⟩⟩
theorem go_subA {X : Cx} : GO X (binaryOp .Sub) oSubA := ⟨fun pins s σ H x y v u Q I rx ry ⟨as, μ, w1, w2, Q0, S, r1, r2, q, A⟩ => by
  unfold oSubA at q
  split at q
  · rename_i b j
    have r1 : Dz X.K as H x (.bool b) := r1
    have r2 : Dz X.K as H y (.int j) := r2
    cases r1; cases r2; cases rx; obtain ⟨t, rfl⟩ := ry
    exact PySem.IntBool.sub_bool_int ⟨.int _, H, I.tok _, ⟨_, rfl⟩, A.now S q (Dz.int _)⟩
  · rename_i i b
    have r1 : Dz X.K as H x (.int i) := r1
    have r2 : Dz X.K as H y (.bool b) := r2
    cases r1; cases r2; cases ry; obtain ⟨t, rfl⟩ := rx
    exact PySem.IntBool.sub_int_bool ⟨.int _, H, I.tok _, ⟨_, rfl⟩, A.now S q (Dz.int _)⟩
  · exact go_sub.go pins s σ H x y v u Q I rx ry ⟨as, μ, _, _, Q0, S, r1, r2, q, A⟩⟩
def wUpper (fo : SE) : SE := fun ρ μ Q => fo ρ μ fun x μ1 => match x with
  | .p (.str z) => z.length ≤ 5592405 ∧ Q (.p (.str (Txt.upper z))) μ1
  | _ => False
theorem ge_upper {X : Cx} {o : Expr} {fo : SE} {apos pos : Pos} (ho : GE X o fo) (hbase : attributeBase o "upper" X.env (eval o X.env) = eval o X.env := by rfl) (hline : (apos.endLine == pos.line) = true := by rfl) :
    GE X (.Call (.Attribute o "upper" apos) [] [] pos) (wUpper fo) := ⟨PE_imp (pe_upper ho.go hbase hline) fun σ H Q ⟨as, ρ, μ, Q0, S, E, h, A⟩ =>
  ⟨as, ρ, μ, _, S, E, h, fun w μ1 as1 v H1 q1 s1 S1 r1 => by
    split at q1
    · rename_i z
      have r1 : Dz X.K as1 H1 v (.str z) := r1
      cases r1
      exact ⟨⟨_, rfl⟩, z, rfl, rfl, q1.1, A _ _ as1 _ _ q1.2 s1 S1 (Dz.str _)⟩
    · exact q1.elim⟩⟩
end L2.Ev
set_option maxHeartbeats 4000000
namespace L2.Ev
open PySem PySem.Spec PyProof.Rows
theorem Rels.append {K : PySem.W.Frag} {as : Cs} {H : Hp} {ws us : List W} {vs zs : List V} (h : Rels K as H ws vs) (k : Rels K as H us zs) : Rels K as H (ws ++ us) (vs ++ zs) := by
  induction h with
  | nil => exact k
  | cons r _ ih => exact .cons r ih
theorem Rels.set {K : PySem.W.Frag} {as : Cs} {H : Hp} {ws : List W} {vs : List V} (h : Rels K as H ws vs) {w : W} {v : V} (r : Rel K as H w v) : ∀ j : Nat, Rels K as H (ws.set j w) (vs.set j v) := by
  induction h with
  | nil => intro j; exact .nil
  | cons r0 h0 ih =>
    intro j
    cases j with
    | zero => exact .cons r h0
    | succ j => exact .cons r0 (ih j)
theorem Rels.ix {K : PySem.W.Frag} {as : Cs} {H : Hp} {ws : List W} {vs : List V} (h : Rels K as H ws vs) {i : Int} {w : W} (e : atI ws i = some w) : ∃ v, atI vs i = some v ∧ Rel K as H w v := by
  unfold atI at e ⊢
  rw [← h.length]
  cases q : ixN ws.length i with
  | none => rw [q] at e; cases e
  | some j => rw [q] at e; exact h.get e
end L2.Ev
set_option maxHeartbeats 4000000
namespace L2.Ev
open PySem PySem.Spec PyProof.Rows
def oAddN : O2 := fun x y μ Q => match lsOf μ x, lsOf μ y with
  | some a, some b => a.length + b.length ≤ sizeLine ∧ Q (.r μ.length) (μ ++ [.lst (a ++ b)])
  | _, _ => False
theorem go_addN {X : Cx} : GO X (binaryOp .Add) oAddN := ⟨OpR_imp op_catL fun x y H Q ⟨as, μ, w1, w2, Q0, S, r1, r2, q, A⟩ => by
  unfold oAddN at q
  split at q
  · rename_i a b h1 h2
    obtain ⟨l1, v1, rfl, s1, d1⟩ := lsOf_sq S r1 h1
    obtain ⟨l2, v2, rfl, s2, d2⟩ := lsOf_sq S r2 h2
    exact ⟨_, _, _, _, rfl, rfl, s1, s2, by rw [d1.length, d2.length]; exact q.1, A.new S (d1.append d2) q.2⟩
  · exact q.elim⟩
end L2.Ev
set_option maxHeartbeats 4000000
namespace L2.Ev
open PySem PySem.Spec PyProof.Rows
namespace En
section
variable {prog : Program} {w : World} {A : Around} {E : Value → Shared → Prop} {s : Shared}
theorem wpAny_alive {M : Model} {A : Around} {E : Value → Shared → Prop} {s : Shared} {a : Addr} {Q : Option Obj → Shared → Prop} (h : Q (s.heap.get? a) s) : wpAny M A (loadIfAlive a) Q E s := by
  intro Γ p hΓ
  show Sem.wp M Γ (Sem.loadIfAlive a Sem.pure) _ _ _ _
  rw [Sem.wp_loadIfAlive]
  exact h
def enO (T : Addr) (b1 : Value) (it : Addr) (i : Int) (old : Value) : Obj := { cls := .type "enumerate", data := .fields #[rawInt (T : Int), b1, .ref it, rawInt i, .none, old] }
theorem next_again {e it t T : Addr} {i : Nat} {its : Array Value} {x b1 old : Value} {oT : Obj} {Q : Option Value → Shared → Prop} (hne : e ≠ it) (hTe : T ≠ e) (hTi : T ≠ it)
    (he : s.heap.get? e = some (enO T b1 it i old)) (hb : b1 = .bool true ∨ b1 = .bool false) (hit : s.heap.IsTupleIter it t i) (ht : s.heap.IsTuple t its) (hT : s.heap.get? T = some oT) (hx : its[i]? = some x)
    (hQ : ∀ (h' : Heap) (tk : Nat), h'.get? e = some (enO T (.bool true) it (i + 1 : Nat) old) → h'.IsTupleIter it t (i + 1) → h'.get? s.heap.objs.size = some { cls := .type "tuple", data := .seq #[.int i tk, x] } → h'.objs.size = s.heap.objs.size + 1 → (∀ b o, b ≠ e → b ≠ it → s.heap.get? b = some o → h'.get? b = some o) → Q (some (.ref s.heap.objs.size)) { s with heap := h', toks := tk + 1 }) :
    wpAny (model prog w) A (pyNext (.ref e)) Q E s := by
  have hTI : s.TypeIs (.ref e) "enumerate" := ⟨_, he, rfl⟩
  unfold pyNext
  refine wpAny_bind (wpAny_attempt (wpAny_callSpecial?_slot (name := Str.ofString "__next__") hTI PySem.F.slot_enumerate_next (wpAny_call_entry PySem.F.slot_enumerate_next hTI PySem.F.entry_enumerate_next ?_ (PySem.F.args_enumerate_next_1 _))))
  refine wpAny_bind (m := field (.ref e) 2) (wpAny_field he rfl (x := .ref it) rfl ?_)
  refine wpAny_bind (Zt.next_item hit ht hx fun h1 hit1 sb1 => ?_)
  have he1 : h1.get? e = some (enO T b1 it i old) := (sb1.2 e hne).trans he
  have hT1 : h1.get? T = some oT := (sb1.2 T hTi).trans hT
  refine wpAny_bind (m := field (.ref e) 3) (wpAny_field he1 rfl (x := rawInt (i : Int)) rfl ?_)
  show wpAny _ _ (field (.ref e) 4 >>= _) _ _ _
  refine wpAny_bind (m := field (.ref e) 4) (wpAny_field he1 rfl (x := .none) rfl ?_)
  rw [if_pos (show ((Value.none == Value.none) = true) from rfl)]
  refine wpAny_bind (wpAny_mkInt ?_)
  refine wpAny_bind (wpAny_setField he1 rfl (show 3 < 6 by decide) ?_)
  have g2 := Heap.get?_update_self (Obj.mapFields fun y => y.setIfInBounds 3 (rawInt ((i : Int) + 1))) he1 rfl
  have o2 : ∀ b, b ≠ e → (h1.update e (Obj.mapFields fun y => y.setIfInBounds 3 (rawInt ((i : Int) + 1)))).get? b = h1.get? b := fun b hb => Heap.get?_update_other _ _ (Ne.symm hb)
  refine wpAny_bind (wpAny_setField g2 rfl (show 4 < 6 by decide) ?_)
  have g3 := Heap.get?_update_self (Obj.mapFields fun y => y.setIfInBounds 4 Value.none) g2 rfl
  have o3 : ∀ b, b ≠ e → ((h1.update e (Obj.mapFields fun y => y.setIfInBounds 3 (rawInt ((i : Int) + 1)))).update e (Obj.mapFields fun y => y.setIfInBounds 4 Value.none)).get? b = h1.get? b := fun b hb => (Heap.get?_update_other _ _ (Ne.symm hb)).trans (o2 b hb)
  have z3 : ((h1.update e (Obj.mapFields fun y => y.setIfInBounds 3 (rawInt ((i : Int) + 1)))).update e (Obj.mapFields fun y => y.setIfInBounds 4 Value.none)).objs.size = h1.objs.size := by simp [Heap.update]
  have g3' : ((h1.update e (Obj.mapFields fun y => y.setIfInBounds 3 (rawInt ((i : Int) + 1)))).update e (Obj.mapFields fun y => y.setIfInBounds 4 Value.none)).get? e = some (enO T b1 it ((i + 1 : Nat) : Int) old) := g3
  generalize (h1.update e (Obj.mapFields fun y => y.setIfInBounds 3 (rawInt ((i : Int) + 1)))).update e (Obj.mapFields fun y => y.setIfInBounds 4 Value.none) = h3 at g3' o3 z3
  have z1 : h1.objs.size = s.heap.objs.size := sb1.1
  have le : e < h3.objs.size := Heap.lt_size g3'
  refine wpAny_bind (m := newTuple _) (wpAny_newObj_type ?_ (by size_fits))
  have g4 : (h3.push { cls := .type "tuple", data := .seq [Value.int i s.toks, x].toArray }).get? e = some (enO T b1 it ((i + 1 : Nat) : Int) old) := Heap.get?_push_of_some _ g3'
  have t4 : (h3.push { cls := .type "tuple", data := .seq [Value.int i s.toks, x].toArray }).get? T = some oT := Heap.get?_push_of_some _ ((o3 T hTe).trans hT1)
  have n4 : (h3.push { cls := .type "tuple", data := .seq [Value.int i s.toks, x].toArray }).get? h3.objs.size = some { cls := .type "tuple", data := .seq [Value.int i s.toks, x].toArray } := Heap.get?_push_size _ rfl
  have s4 : (h3.push { cls := .type "tuple", data := .seq [Value.int i s.toks, x].toArray }).objs.size = h3.objs.size + 1 := Heap.size_push ..
  have k4 : ∀ b o, b ≠ e → b ≠ it → s.heap.get? b = some o → (h3.push { cls := .type "tuple", data := .seq [Value.int i s.toks, x].toArray }).get? b = some o := fun b o hb hb2 ho => Heap.get?_push_of_some _ ((o3 b hb).trans ((sb1.2 b hb2).trans ho))
  have i4 : (h3.push { cls := .type "tuple", data := .seq [Value.int i s.toks, x].toArray }).IsTupleIter it t (i + 1) := Zt.itAt hit1 fun o q => Heap.get?_push_of_some _ ((o3 it (Ne.symm hne)).trans q)
  have hsz : h3.objs.size = s.heap.objs.size := z3.trans z1
  rw [hsz] at n4 s4
  show wpAny _ _ (Builtin.SmallTypes.ownedTupleIsFree (.ref e) >>= _) _ _ _
  rw [show (Value.ref h3.objs.size) = Value.ref s.heap.objs.size from by rw [hsz]]
  generalize h3.push { cls := .type "tuple", data := .seq [Value.int i s.toks, x].toArray } = h4 at g4 t4 n4 s4 k4 i4
  refine wpAny_bind ?_
  unfold Builtin.SmallTypes.ownedTupleIsFree
  refine wpAny_bind (m := field (.ref e) 0) (wpAny_field g4 rfl (x := rawInt (T : Int)) rfl ?_)
  show wpAny _ _ (loadIfAlive ((T : Int)).toNat >>= _) _ _ _
  refine wpAny_bind (wpAny_alive ?_)
  rw [show ((T : Int)).toNat = T from Int.toNat_natCast T]
  rw [show Shared.heap { s with heap := h4, toks := s.toks + 1 } = h4 from rfl, t4]
  rw [if_neg (by simp)]
  refine wpAny_bind (m := field (.ref e) 1) (wpAny_field g4 rfl (x := b1) rfl ?_)
  rcases hb with rfl | rfl
  · rw [if_neg (by decide)]
    refine wpAny_pure ?_
    rw [if_neg (by simp)]
    refine wpAny_pure ⟨_, rfl, wpAny_pure ?_⟩
    exact hQ h4 s.toks g4 i4 n4 s4 k4
  · rw [if_pos (by decide)]
    refine wpAny_bind (wpAny_setField g4 rfl (show 1 < 6 by decide) ?_)
    refine wpAny_pure ?_
    rw [if_neg (by simp)]
    refine wpAny_pure ⟨_, rfl, wpAny_pure ?_⟩
    have g5 := Heap.get?_update_self (Obj.mapFields fun y => y.setIfInBounds 1 (Value.bool true)) g4 rfl
    have ls : s.heap.objs.size ≠ e := Nat.ne_of_gt (Heap.lt_size he)
    refine hQ _ s.toks g5 (Zt.itAt i4 fun o q => (Heap.get?_update_other _ _ hne).trans q) ((Heap.get?_update_other _ _ (Ne.symm ls)).trans n4) (by simp [Heap.update]; exact s4) fun b o hb hb2 ho => (Heap.get?_update_other _ _ (Ne.symm hb)).trans (k4 b o hb hb2 ho)
theorem next_done {e it t : Addr} {i : Nat} {its : Array Value} {f0 f1 f3 f4 f5 : Value} {Q : Option Value → Shared → Prop} (hh : A.handled = none)
    (he : s.heap.get? e = some { cls := .type "enumerate", data := .fields #[f0, f1, .ref it, f3, f4, f5] }) (hit : s.heap.IsTupleIter it t i) (ht : s.heap.IsTuple t its) (hx : its[i]? = none)
    (hQ : ∀ h' : Heap, (∀ b o, b ≠ it → s.heap.get? b = some o → h'.get? b = some o) → Q none { s with heap := h' }) : wpAny (model prog w) A (pyNext (.ref e)) Q E s := by
  have hTI : s.TypeIs (.ref e) "enumerate" := ⟨_, he, rfl⟩
  unfold pyNext
  refine wpAny_bind (wpAny_attempt (wpAny_callSpecial?_slot (name := Str.ofString "__next__") hTI PySem.F.slot_enumerate_next (wpAny_call_entry PySem.F.slot_enumerate_next hTI PySem.F.entry_enumerate_next ?_ (PySem.F.args_enumerate_next_1 _))))
  refine wpAny_bind (m := field (.ref e) 2) (wpAny_field he rfl (x := .ref it) rfl ?_)
  refine wpAny_bind (Zt.next_end hh hit ht hx fun h' x he' hx' => ?_)
  obtain ⟨o, ho, hc'⟩ := hx'
  exact wpAny_bind (wpAny_isInstance (T := "StopIteration") (b := true) ⟨o, ho, hc'⟩ isSubtype_stop (wpAny_pure (hQ h' fun b o hb q => he' b o hb q)))
def Prs (its : Array Value) (e it S : Addr) (h : Heap) (acc : Array Value) (n : Nat) : Prop := acc.size = n ∧ ∀ (j : Nat) (v : Value), acc[j]? = some v → ∃ (b : Addr) (tk : Nat) (x : Value), v = .ref b ∧ b ≠ e ∧ b ≠ it ∧ b ≠ S ∧ its[j]? = some x ∧ h.get? b = some { cls := .type "tuple", data := .seq #[.int j tk, x] }
theorem Prs.keep {its : Array Value} {e it S : Addr} {h h' : Heap} {acc : Array Value} {n : Nat} (p : Prs its e it S h acc n) (k : ∀ b o, b ≠ e → b ≠ it → b ≠ S → h.get? b = some o → h'.get? b = some o) : Prs its e it S h' acc n :=
  ⟨p.1, fun j v hv => let ⟨b, tk, x, e1, e2, e3, e4, e5, e6⟩ := p.2 j v hv; ⟨b, tk, x, e1, e2, e3, e4, e5, k b _ e2 e3 e4 e6⟩⟩
theorem Prs.push {its : Array Value} {e it S : Addr} {h : Heap} {acc : Array Value} {n : Nat} (p : Prs its e it S h acc n) {b : Addr} {tk : Nat} {x : Value} (e2 : b ≠ e) (e3 : b ≠ it) (e4 : b ≠ S) (e5 : its[n]? = some x) (e6 : h.get? b = some { cls := .type "tuple", data := .seq #[.int n tk, x] }) : Prs its e it S h (acc.push (.ref b)) (n + 1) := by
  refine ⟨by simp [p.1], fun j v hv => ?_⟩
  rw [Array.getElem?_push] at hv
  split at hv
  · rename_i hj
    cases hv
    have hj : j = n := hj.trans p.1
    subst hj
    exact ⟨b, tk, x, rfl, e2, e3, e4, e5, e6⟩
  · exact p.2 j v hv
theorem loop {e it t S T : Addr} {its : Array Value} {oT : Obj} {res : Value} {R : Result → Shared → Prop} (hz : its.size ≤ sizeLine) (hh : A.handled = none) (hne : e ≠ it) (hte : t ≠ e) (hti : t ≠ it) (htS : t ≠ S) (heS : e ≠ S) (hiS : it ≠ S) (hTe : T ≠ e) (hTi : T ≠ it) (hTS : T ≠ S) :
    ∀ (k i : Nat) (s : Shared) (acc : Array Value) (c : Nat) (b1 old : Value), its.size - i = k → i ≤ its.size → s.heap.get? e = some (enO T b1 it i old) → (b1 = .bool true ∨ b1 = .bool false) → s.heap.IsTupleIter it t i → s.heap.IsTuple t its → s.heap.get? T = some oT →
      s.heap.get? S = some { cls := .type "list", data := .seq acc c } → Prs its e it S s.heap acc i →
      (∀ (h' : Heap) (tk : Nat) (acc' : Array Value) (c' : Nat), (∀ b o, b ≠ e → b ≠ it → b ≠ S → s.heap.get? b = some o → h'.get? b = some o) → h'.get? S = some { cls := .type "list", data := .seq acc' c' } → Prs its e it S h' acc' its.size → R (.ok (.ret res)) { s with heap := h', toks := tk }) →
      codeAny (model prog w) A (.builtin "list.extend.loop" ⟨[.ref S, .ref e, res], []⟩) R s
  | 0, i, s, acc, c, b1, old, hk, hi, he, hb, hit, ht, hT, hS, hp, hR => by
    refine codeAny_builtin PySem.F.entry_extend_loop ?_
    rw [Around.under_plainId PySem.F.plain_extend_loop _]
    show wpAny _ A.in1 (pyNext (.ref e) >>= _) _ _ _
    have hi' : i = its.size := by omega
    subst hi'
    refine wpAny_bind (next_done hh he hit ht (by simp) fun h' hk' => ?_)
    refine wpAny_pure ?_
    exact hR h' s.toks acc c (fun b o hb hb2 hb3 ho => hk' b o hb2 ho) (hk' S _ (Ne.symm hiS) hS) (hp.keep fun b o hb hb2 hb3 ho => hk' b o hb2 ho)
  | k + 1, i, s, acc, c, b1, old, hk, hi, he, hb, hit, ht, hT, hS, hp, hR => by
    refine codeAny_builtin PySem.F.entry_extend_loop ?_
    rw [Around.under_plainId PySem.F.plain_extend_loop _]
    show wpAny _ A.in1 (pyNext (.ref e) >>= _) _ _ _
    have hlt : i < its.size := by omega
    have lS : S < s.heap.objs.size := Heap.lt_size hS
    have le : e < s.heap.objs.size := Heap.lt_size he
    have li : it < s.heap.objs.size := by obtain ⟨o, ho, _⟩ := id hit; exact Heap.lt_size ho
    refine wpAny_bind (next_again (x := its[i]) hne hTe hTi he hb hit ht hT (by simp [hlt]) fun h' tk he' hit' hn' hsz' hk' => ?_)
    show wpAny _ _ (updateSeq S _ >>= _) _ _ _
    have gS : h'.get? S = some { cls := .type "list", data := .seq acc c } := hk' S _ (Ne.symm heS) (Ne.symm hiS) hS
    refine wpAny_bind (wpAny_updateSeq gS rfl ?_ (by rw [hp.1]; omega) (by simp only [Array.size_push, hp.1]; omega))
    have g2 := Heap.get?_update_self (Obj.mapSeq (·.push (Value.ref s.heap.objs.size))) gS rfl
    have o2 : ∀ b, b ≠ S → (h'.update S (Obj.mapSeq (·.push (Value.ref s.heap.objs.size)))).get? b = h'.get? b := fun b hb => Heap.get?_update_other _ _ (Ne.symm hb)
    refine wpAny_pure ⟨plainId_quiet PySem.F.plain_extend_loop _, ?_⟩
    have hp2 : Prs its e it S (h'.update S (Obj.mapSeq (·.push (Value.ref s.heap.objs.size)))) (acc.push (.ref s.heap.objs.size)) (i + 1) := (hp.keep fun b o hb hb2 hb3 ho => (o2 b hb3).trans (hk' b o hb hb2 ho)).push (tk := tk) (Nat.ne_of_gt le) (Nat.ne_of_gt li) (Nat.ne_of_gt lS) (by simp [hlt]) ((o2 _ (Nat.ne_of_gt lS)).trans hn')
    refine loop (oT := oT) hz hh hne hte hti htS heS hiS hTe hTi hTS k (i + 1) { s with heap := _, toks := _ } (acc.push (.ref s.heap.objs.size)) _ (.bool true) old (by omega) (by omega) ((o2 e heS).trans he') (.inl rfl) (Zt.itAt hit' fun o q => (o2 it hiS).trans q) ?_ ((o2 T hTS).trans (hk' T _ hTe hTi hT)) g2 hp2 fun h2 tk2 acc2 c2 k2 g3 p3 => ?_
    · exact Zt.tupAt ht fun o q => (o2 t htS).trans (hk' t o hte hti q)
    · exact hR h2 tk2 acc2 c2 (fun b o hb hb2 hb3 ho => k2 b o hb hb2 hb3 ((o2 b hb3).trans (hk' b o hb hb2 ho))) g3 p3
end
def enK {α : Type} : Nat → List α → List (Key × α)
  | _, [] => []
  | k, v :: vs => (.inl (k : Int), v) :: enK (k + 1) vs
end En
def mergeD (kvs more : List (Key × PyData)) : List (Key × PyData) := more.foldl (fun acc kv => putD acc kv.1 kv.2) kvs
theorem Prs.merge {K : PySem.W.Frag} {as : Cs} {H : Hp} : ∀ {more : List (Key × V)} {moreD : List (Key × PyData)} {us : List (Key × V)} {kvs : List (Key × PyData)}, Prs K as H more moreD → Prs K as H us kvs → Prs K as H (mergeK us more) (mergeD kvs moreD)
  | [], [], us, kvs, _, h => h
  | [], _ :: _, _, _, h, _ => by have := h.len; simp at this
  | _ :: _, [], _, _, h, _ => by have := h.len; simp at this
  | (a, v) :: more, (b, d) :: moreD, us, kvs, h, h2 => by
    obtain ⟨e, hd, t⟩ := h.inv
    simp only at e
    subst e
    show Prs K as H (mergeK (putK us a v) more) (mergeD (putD kvs a d) moreD)
    exact Prs.merge (more := more) (moreD := moreD) t (h2.put hd)
theorem Prs.en {K : PySem.W.Frag} {as : Cs} {H : Hp} : ∀ {vs : List V} {ds : List PyData} {k : Nat}, DzAll K as H vs ds → Prs K as H (En.enK k vs) (En.enK k ds)
  | _, _, k, .nil => .nil
  | _, _, k, .cons h t => .cons h (Prs.en t)
end L2.Ev
set_option maxHeartbeats 4000000
namespace L2.Ev
open PySem PySem.Spec PyProof.Rows
end L2.Ev
set_option maxHeartbeats 4000000
namespace L2.Ev
open PySem PySem.Spec PyProof.Rows
section
variable {X : Cx}
end
end L2.Ev
set_option maxHeartbeats 4000000
namespace L2.Ev
open PySem PySem.Spec PyProof.Rows
section
variable {prog : Program} {w : World} {A : Around} {R : Result → Shared → Prop}
end
end L2.Ev
set_option maxHeartbeats 4000000
namespace L2.Ev
open PySem PySem.Spec PyProof.Rows
section
variable {X : Cx} {elt tg iter : Expr} {ifs : List Expr} {scope : Scope} {own : List (Str × Nat)} {pos : Pos} {it : SI} {t : Tg} {c : ST} {e : SE}
end
end L2.Ev
set_option maxHeartbeats 4000000
namespace L2.Ev
open PySem PySem.Spec PyProof.Rows
section
variable {X : Cx} {pos : Pos}
end
end L2.Ev
namespace L2.Ev
open PySem PySem.Spec
abbrev Asc (xs : Array Nat) : Prop := xs.toList.Pairwise (· < ·)
theorem Asc.lt {xs : Array Nat} (h : Asc xs) {i j : Nat} (hij : i < j) (hj : j < xs.size) : xs.getD i 0 < xs.getD j 0 := by
  have hi : i < xs.size := by omega
  have e := List.pairwise_iff_getElem.mp h i j (by simpa using hi) (by simpa using hj) hij
  simpa [Array.getD, hi, hj] using e
structure BelowOf (xs : Array Nat) (j r : Nat) : Prop where
  le : r ≤ xs.size
  lo : ∀ i, i < r → xs.getD i 0 < j
  hi : ∀ i, r ≤ i → i < xs.size → j ≤ xs.getD i 0
structure TabOk (w : World) (t : SetTable) : Prop where
  asc : Asc t.place
  led : w.params.followText "set-order" = true ∨ t.led = true
end L2.Ev
namespace L2.Ev
open PySem PySem.Spec PyProof.Rows
abbrev IK (prog : Program) (w : World) := PySem.intKind prog w
def SetW (prog : Program) (w : World) (h : Heap) (a : Addr) (S : Int → Bool) (n : Nat) : Prop :=
  ∃ o es ep t, h.get? a = some o ∧ o.ExactSet ∧ o.data = .set es ep t ∧ ElemsOf (IK prog w) es.toList ∧ (∀ k, S k = true ↔ ∃ e ∈ es.toList, (IK prog w).is k e.2 = true)
    ∧ es.size < scanBound ∧ t.fits es.size = true ∧ es.size = n ∧ TabOk w t
section
variable {prog : Program} {w : World} {A : Around} {E : Value → Shared → Prop} {s : Shared}
theorem SetW.congr {h : Heap} {a : Addr} {S S' : Int → Bool} {n n' : Nat} (x : SetW prog w h a S n) (e : ∀ k, S k = S' k) (en : n = n') : SetW prog w h a S' n' := by
  obtain rfl : S = S' := funext e
  subst en; exact x
theorem SetW.kept {h h' : Heap} {a : Addr} {S : Int → Bool} {n : Nat} (x : SetW prog w h a S n) (e : ∀ o, h.get? a = some o → h'.get? a = some o) : SetW prog w h' a S n := by
  obtain ⟨o, es, ep, t, ho, r⟩ := x
  exact ⟨o, es, ep, t, e o ho, r⟩
end
end L2.Ev
namespace L2.Ev
open PySem PySem.Spec PyProof.Rows
section
variable {prog : Program} {w : World} {A : Around} {R : Result → Shared → Prop} {I : Addr} {fp wr : List Addr} {G : Array GenState → Array GenState → Prop} {n : Nat} {P : Nat → Value → Prop} {St : Nat → Shared → Prop}
end
section
variable {prog : Program} {w : World} {A : Around} {E : Value → Shared → Prop} {s : Shared}
abbrev newSetObj (led : Bool) : Obj := { cls := .type "set", dict := none, data := .set #[] 0 (.fresh 0 0 led) }
end
end L2.Ev
namespace L2.Ev
open PySem PySem.Spec PyProof.Rows
section
variable {M : Model} {A : Around} {E : Value → Shared → Prop}
end
namespace FS
open PySem.F in
theorem owner_set_iterator : Manifest.owners.lookup (String.ofList ['r', 'o', 't', 'a', 'r', 'e', 't', 'i', '_', 't', 'e', 's'].reverse) = some Manifest.sig_set_iterator := by kernel_rfl
theorem slot_next : Slot "set_iterator" "__next__" "set_iterator.__next__" :=
  .of (owner := "set_iterator") (n := "__next__") (by rw [typeLookup_type, builtinLookup_eq_fast]; kernel_rfl) (by decide +kernel) (by decide +kernel) (by decide +kernel)
    (by first | exact .inl (by decide +kernel) | exact .inr (by decide +kernel)) (by rw [isSubtype_type]; kernel_rfl)
theorem entry_next : entryFor table "set_iterator.__next__" = some Builtin.«set_iterator.__next__» := entryFor_of_tree (by kernel_rfl)
theorem args_next (a : Value) : argsOk "set_iterator.__next__" ⟨[a], []⟩ := by
  unfold argsOk; rw [signature?_of (id := "set_iterator.__next__") (n := ['_', '_', 't', 'x', 'e', 'n', '_', '_']) (o := ['r', 'o', 't', 'a', 'r', 'e', 't', 'i', '_', 't', 'e', 's']) (by kernel_rfl) owner_set_iterator]; kernel_rfl
theorem slot_iter : Slot "set_iterator" "__iter__" "set_iterator.__iter__" :=
  .of (owner := "set_iterator") (n := "__iter__") (by rw [typeLookup_type, builtinLookup_eq_fast]; kernel_rfl) (by decide +kernel) (by decide +kernel) (by decide +kernel)
    (by first | exact .inl (by decide +kernel) | exact .inr (by decide +kernel)) (by rw [isSubtype_type]; kernel_rfl)
theorem entry_iter : entryFor table "set_iterator.__iter__" = some Builtin.«dict_keyiterator.__iter__» := entryFor_alias (id' := "dict_keyiterator.__iter__") (by kernel_rfl) rfl (by decide +kernel) (by kernel_rfl)
theorem args_iter (a : Value) : argsOk "set_iterator.__iter__" ⟨[a], []⟩ := by
  unfold argsOk; rw [signature?_of (id := "set_iterator.__iter__") (n := ['_', '_', 'r', 'e', 't', 'i', '_', '_']) (o := ['r', 'o', 't', 'a', 'r', 'e', 't', 'i', '_', 't', 'e', 's']) (by kernel_rfl) owner_set_iterator]; kernel_rfl
end FS
end L2.Ev
namespace L2.Ev
open PySem PySem.Spec PyProof.Rows
def slotAt (t : SetTable) : Nat → Nat
  | 0 => 0
  | i + 1 => t.place.getD i 0 + 1
def FirstAt (w : World) (es : Array (Int × Value)) (ep : Nat) (t : SetTable) (xs : List (Int × Value)) (S T : Addr) (i : Nat) (h : Heap) (first : Value) : Prop :=
  (w.params.followText "set-order" = true ∧ xs = (pickOrder (w.params.setOrder S ep) es).toList ∧ ∃ slot : Nat, first = .int slot 0)
  ∨ (w.params.followText "set-order" = false ∧ (!t.plain && decide (es.size > 1)) = false ∧ xs = es.toList ∧ first = .int (slotAt t i) 0)
  ∨ (w.params.followText "set-order" = false ∧ first = .ref T ∧ ∃ (ps : List Nat) (o : Obj) (n : Nat), h.get? T = some o ∧ o.data = .seq (ps.map fun (p : Nat) => Value.int p 0).toArray n ∧ ps.length = xs.length ∧ ∀ (j p : Nat), ps[j]? = some p → es[p]? = xs[j]?)
def IterAt (w : World) (es : Array (Int × Value)) (ep : Nat) (t : SetTable) (xs : List (Int × Value)) (I S T : Addr) (i : Nat) (h : Heap) : Prop :=
  I ≠ S ∧ I ≠ T ∧ (∃ o, h.get? S = some o ∧ o.data = .set es ep t) ∧ ∃ first, (∃ o, h.get? I = some o ∧ o.cls = .type "set_iterator" ∧ o.data = .fields #[first, .int i 0, .ref S, .int es.size 0, .int ep 0]) ∧ FirstAt w es ep t xs S T i h first
theorem FirstAt.kept {w : World} {es ep t xs S T i} {h h' : Heap} {first : Value} (x : FirstAt w es ep t xs S T i h first) (e : ∀ o, h.get? T = some o → h'.get? T = some o) : FirstAt w es ep t xs S T i h' first := by
  rcases x with x | x | ⟨a, b, ps, o, n, ho, r⟩
  · exact .inl x
  · exact .inr (.inl x)
  · exact .inr (.inr ⟨a, b, ps, o, n, e o ho, r⟩)
theorem IterAt.kept {w : World} {es ep t xs I S T i} {h h' : Heap} (x : IterAt w es ep t xs I S T i h) (e : ∀ b ∈ [I, S, T], ∀ o, h.get? b = some o → h'.get? b = some o) : IterAt w es ep t xs I S T i h' := by
  obtain ⟨n1, n2, ⟨o, ho, hd⟩, first, ⟨oi, hoi, r⟩, hf⟩ := x
  exact ⟨n1, n2, ⟨o, e S (by simp) o ho, hd⟩, first, ⟨oi, e I (by simp) oi hoi, r⟩, hf.kept fun o => e T (by simp) o⟩
theorem IterAt.typeIs {w : World} {es ep t xs I S T i} {s : Shared} (x : IterAt w es ep t xs I S T i s.heap) : s.TypeIs (.ref I) "set_iterator" :=
  let ⟨_, _, _, _, ⟨o, ho, hc, _⟩, _⟩ := x; ⟨o, ho, hc⟩
section
variable {prog : Program} {w : World} {A : Around} {E : Value → Shared → Prop} {s : Shared} {es : Array (Int × Value)} {ep : Nat} {t : SetTable} {xs : List (Int × Value)} {I S T : Addr} {i : Nat}
end
end L2.Ev
namespace L2.Ev
open PySem PySem.Spec PyProof.Rows
section
variable {prog : Program} {w : World} {A : Around} {E : Value → Shared → Prop} {s : Shared} {es : Array (Int × Value)} {ep : Nat} {t : SetTable} {xs : List (Int × Value)} {I S T : Addr} {i : Nat}
end
end L2.Ev
namespace L2.Ev
open PySem PySem.Spec PyProof.Rows
section
variable {prog : Program} {w : World} {A : Around} {E : Value → Shared → Prop} {s : Shared}
end
end L2.Ev
namespace L2.Ev
open PySem PySem.Spec PyProof.Rows
section
variable {prog : Program} {w : World} {A : Around} {E : Value → Shared → Prop} {s : Shared}
end
end L2.Ev
namespace L2.Ev
open PySem PySem.Spec PyProof.Rows
section
variable {prog : Program} {w : World} {A : Around} {E : Value → Shared → Prop} {s : Shared}
end
end L2.Ev
set_option maxHeartbeats 4000000
namespace L2.Ev
open PySem PySem.Spec PyProof.Rows
namespace Ss
theorem len_le : ∀ (l D : List Int), l.Nodup → (∀ x ∈ l, x ∈ D) → l.length ≤ D.length
  | [], D, _, _ => Nat.zero_le _
  | x :: l, D, hn, h => by
    obtain ⟨h1, h2⟩ := List.nodup_cons.mp hn
    have hx := h x (by simp)
    have ih := len_le l (D.erase x) h2 fun y hy => (List.mem_erase_of_ne (fun e : y = x => h1 (by rw [← e]; exact hy))).mpr (h y (by simp [hy]))
    rw [List.length_erase_of_mem hx] at ih
    have : 0 < D.length := List.length_pos_of_mem hx
    simp only [List.length_cons]; omega
theorem vals_ints : ∀ {ns : List Int} {its : List Value}, IntsAre its ns → Vals (ns.map V.int) its
  | _, _, .nil => .nil
  | _, _, .cons n t r => .cons ⟨t, rfl⟩ (vals_ints r)
end Ss
end L2.Ev
namespace L2.Ev
open PySem
theorem runs_gens {M : Model} {Γ : Ctx} {p : Pos} {t : Sem PySem.Fin} {fs : List Frame} {s s' : Shared} {e : End} (h : Runs M Γ p t fs s e s') : s.gens.size ≤ s'.gens.size := by
  induction h <;> (try simp only [Shared.setGen, Array.size_setIfInBounds, Array.size_push] at *) <;> omega
theorem wakes_gens {M : Model} {Γ : Ctx} {p : Pos} {g : Nat} {r : Resume} {s s' : Shared} {res : GenResult} (h : Wakes M Γ p g r s res s') : s.gens.size ≤ s'.gens.size := by
  have e0 : ∀ (s : Shared) (x : GenState), (s.setGen g x).gens.size = s.gens.size := fun s x => by simp [Shared.setGen]
  unfold Wakes at h
  split at h
  · exact h.elim
  · split at h
    · obtain ⟨e₁, s₁, hr, _, _, rfl⟩ := h
      have := runs_gens hr
      rw [e0] at this ⊢
      exact this
    · rw [h.2]; first | exact Nat.le_refl _ | (rw [e0]; exact Nat.le_refl _)
    · rw [h.2]; first | exact Nat.le_refl _ | (rw [e0]; exact Nat.le_refl _)
  · obtain ⟨e₁, s₁, hr, _, _, rfl⟩ := h
    have := runs_gens hr
    rw [e0] at this ⊢
    exact this
  · rw [h.2]; first | exact Nat.le_refl _ | (rw [e0]; exact Nat.le_refl _)
  · rw [h.2]; first | exact Nat.le_refl _ | (rw [e0]; exact Nat.le_refl _)
theorem wp_gens {α : Type} (M : Model) (Γ : Ctx) (n : Nat) (t : Sem α) : ∀ (Q : α → Pos → Shared → Prop) (E : Value → Pos → Shared → Prop) (p : Pos) (s : Shared), n ≤ s.gens.size → Sem.wp M Γ t Q E p s →
    Sem.wp M Γ t (fun a p' s' => n ≤ s'.gens.size ∧ Q a p' s') (fun e p' s' => n ≤ s'.gens.size ∧ E e p' s') p s := by
  induction t with
  | pure a => intro Q E p s hn h; exact ⟨hn, h⟩
  | raise e => intro Q E p s hn h; exact ⟨hn, h⟩
  | unsupported _ => intro Q E p s _ h; exact h
  | finish _ => intro Q E p s _ h; exact h
  | rule _ k ih => intro Q E p s hn h; exact ih () Q E p s hn h
  | «at» p' k ih => intro Q E p s hn h; exact ih () Q E p' s hn h
  | load a _ k ih => intro Q E p s hn h; obtain ⟨o, ho, h⟩ := h; exact ⟨o, ho, ih o Q E p s hn h⟩
  | update a _ f k ih => intro Q E p s hn h; exact ⟨h.1, ih () Q E p _ hn h.2⟩
  | loadIfAlive a k ih => intro Q E p s hn h; exact ih _ Q E p s hn h
  | point _ k ih => intro Q E p s hn h; exact ih () Q E p s hn h
  | register _ _ => intro Q E p s _ h; exact h
  | alloc o k ih => intro Q E p s hn h; exact ih _ Q E p _ hn h
  | fresh k ih => intro Q E p s hn h; exact ih _ Q E p _ hn h
  | ask k ih => intro Q E p s hn h; exact ih _ Q E p s hn h
  | choose src m k ih => intro Q E p s hn h; exact ⟨h.1, ih _ Q E p _ hn h.2⟩
  | os q _ k ih => intro Q E p s hn h; exact ih _ Q E p _ hn h
  | call c hd _ _ k ih => intro Q E p s hn h; obtain ⟨r, s', hr, h⟩ := h; exact ⟨r, s', hr, ih r Q E p s' (Nat.le_trans hn (runs_gens hr)) h⟩
  | handled own k ih => intro Q E p s hn h; exact ih _ Q E p s hn h
  | genState g k ih => intro Q E p s hn h; obtain ⟨st, hs, h⟩ := h; exact ⟨st, hs, ih _ Q E p s hn h⟩
  | newGen c k ih => intro Q E p s hn h; exact ih _ Q E p _ (by simp only [Array.size_push]; omega) h
  | resume g r _ k ih => intro Q E p s hn h; obtain ⟨res, s', hw, h⟩ := h; exact ⟨res, s', hw, ih res Q E p s' (Nat.le_trans hn (wakes_gens hw)) h⟩
  | yield _ _ _ _ => intro Q E p s _ h; exact h
  | stack k ih => intro Q E p s hn h; exact ih _ Q E p s hn h
  | fork _ _ => intro Q E p s _ h; exact h
  | thread k ih => intro Q E p s hn h; exact ih _ Q E p s hn h
  | await _ _ _ _ _ => intro Q E p s _ h; exact h
theorem with_gens {α : Type} {M : Model} {A : Around} {s : Shared} {t : Sem α} {Q : α → Shared → Prop} {E : Value → Shared → Prop} {n : Nat} (hn : n ≤ s.gens.size)
    (h : wpAny M A t (fun a s' => n ≤ s'.gens.size → Q a s') E s) : wpAny M A t Q E s :=
  fun Γ p hΓ => Sem.wp_mono M Γ t (fun _ _ _ x => x.2 x.1) (fun _ _ _ x => x.2) p s (wp_gens M Γ n t _ _ p s hn (h Γ p hΓ))
section
variable {prog : Program} {w : World} {A : Around} {elt iter : Expr} {x : Str} {px : Pos} {scope : Scope} {pos : Pos} {I : Addr} {n₀ : Nat} {cenv : Env} {J : Nat → Shared → Prop} {K : Nat → Value → Shared → Prop} {DE : Shared → Prop}
abbrev jEnd (DE : Shared → Prop) : GenEnd := fun n s₀ r s₁ => r = .ok .next ∧ (n = 0 ∧ DE s₁)
abbrev jProto (n₀ : Nat) (J : Nat → Shared → Prop) (K : Nat → Value → Shared → Prop) : Protocol := fun m s₀ v s kap => K (n₀ - 1 - m) v s ∧ ∀ s'', J (n₀ - m) s'' → kap (.send .none) s''
def AtJ (prog : Program) (w : World) (A : Around) (n₀ : Nat) (J : Nat → Shared → Prop) (K : Nat → Value → Shared → Prop) (DE : Shared → Prop) (g i : Nat) (s : Shared) : Prop :=
  J i s ∧ ∃ gs, s.gens[g]? = some gs ∧ ∀ s'', J i s'' → gs.Goes (model prog w) A.in1 (jEnd DE) (jProto n₀ J K) (n₀ - i) (.send .none) s''
theorem nextJ {a g i : Nat} {s : Shared} {Q : Option Value → Shared → Prop} {E : Value → Shared → Prop} (hh : A.handled = none) (hroom : A.depth < recursionLimit)
    (low : ∀ i s, J i s → s.heap.IsGen a g ∧ s.heap.NoLimit) (Jset : ∀ i s y, y.bare = true → J i s → J i (s.setGen g y)) (Ksz : ∀ i v s, K i v s → g < s.gens.size)
    (h : AtJ prog w A n₀ J K DE g i s) (hi : i < n₀)
    (hQ : ∀ v s₁ gs', gs'.bare = true → K i v s₁ → (∀ s2, J (i + 1) (s₁.setGen g gs') → s2 = s₁.setGen g gs' → AtJ prog w A n₀ J K DE g (i + 1) s2) → Q (some v) (s₁.setGen g gs')) :
    wpAny (model prog w) A (pyNext (.ref a)) Q E s := by
  obtain ⟨hJ, gs, hgs, hgo⟩ := h
  obtain ⟨m, hm⟩ : ∃ m, n₀ - i = m + 1 := ⟨n₀ - i - 1, by omega⟩
  rw [hm] at hgo
  refine wpAny_pyNext_genexpQ (P := fun n s₀ s₁ => n = 0 ∧ DE s₁) hh (low i s hJ).2 hroom (low i s hJ).1 hgs (hgo _ (Jset i s .running rfl hJ)) (fun v s₁ gs' hb hv => ?_) (fun s₁ hp h' hk => ?_)
  · obtain ⟨hK, hkap⟩ := hv
    have e1 : n₀ - 1 - (m + 1 - 1) = i := by omega
    have e2 : n₀ - (m + 1 - 1) = i + 1 := by omega
    have e3 : n₀ - (i + 1) = m := by omega
    rw [e1] at hK
    rw [e2] at hkap
    refine hQ v s₁ gs' hb hK fun s2 hJ2 es => ?_
    subst es
    refine ⟨hJ2, gs', ?_, fun s'' hJ' => ?_⟩
    · have := Ksz i v s₁ hK
      simp [Shared.setGen, this]
    · rw [e3]
      exact hkap s'' hJ'
  · exact absurd hp.1 (Nat.succ_ne_zero m)
theorem endJ {a g : Nat} {s : Shared} {Q : Option Value → Shared → Prop} {E : Value → Shared → Prop} (hh : A.handled = none) (hroom : A.depth < recursionLimit)
    (low : ∀ i s, J i s → s.heap.IsGen a g ∧ s.heap.NoLimit) (Jset : ∀ i s y, y.bare = true → J i s → J i (s.setGen g y))
    (h : AtJ prog w A n₀ J K DE g n₀ s)
    (hQ : ∀ s₁, DE s₁ → ∀ h', (∀ b o, s₁.heap.get? b = some o → h'.get? b = some o) → Q none { s₁.setGen g .finished with heap := h' }) :
    wpAny (model prog w) A (pyNext (.ref a)) Q E s := by
  obtain ⟨hJ, gs, hgs, hgo⟩ := h
  rw [Nat.sub_self] at hgo
  refine wpAny_pyNext_genexpQ (P := fun n s₀ s₁ => n = 0 ∧ DE s₁) hh (low _ s hJ).2 hroom (low _ s hJ).1 hgs (hgo _ (Jset _ s .running rfl hJ)) (fun v s₁ gs' hb hv => ?_) (fun s₁ hp h' hk => ?_)
  · obtain ⟨_, hkap⟩ := hv
    exact (hkap s (by simpa using hJ)).elim
  · exact hQ s₁ hp.2 h' hk
end
end L2.Ev
namespace L2.Ev
open PySem
section
variable {prog : Program} {w : World} {A : Around} {n₀ : Nat} {J : Nat → Shared → Prop} {K : Nat → Value → Shared → Prop} {D DE : Shared → Prop} {R : Result → Shared → Prop}
theorem all_loopJ {a g : Nat} (hh : A.in1.handled = none) (hroom : A.in1.depth < recursionLimit)
    (low : ∀ i s, J i s → s.heap.IsGen a g ∧ s.heap.NoLimit) (Jset : ∀ i s y, y.bare = true → J i s → J i (s.setGen g y)) (Ksz : ∀ i v s, K i v s → g < s.gens.size)
    (hK : ∀ i v s, K i v s → ∃ b, v = .bool b ∧ (b = true → J (i + 1) s) ∧ (b = false → D s))
    (hD : ∀ s y, y.bare = true → D s → R (.ok (.ret (.bool false))) (s.setGen g y))
    (hDE : ∀ s₁, DE s₁ → ∀ h', (∀ b o, s₁.heap.get? b = some o → h'.get? b = some o) → R (.ok (.ret (.bool true))) { s₁.setGen g .finished with heap := h' }) :
    ∀ (k i : Nat) (s : Shared), n₀ - i = k → i ≤ n₀ → AtJ prog w A.in1 n₀ J K DE g i s → codeAny (model prog w) A (.builtin "all.loop" ⟨[.ref a], []⟩) R s := by
  intro k
  induction k with
  | zero =>
    intro i s hk hi hA
    obtain rfl : i = n₀ := by omega
    refine codeAny_builtin F.entry_all_loop ?_
    rw [Around.under_plainId F.plain_all_loop _]
    show wpAny _ A.in1 (pyNext (.ref a) >>= _) _ _ s
    refine wpAny_bind (endJ hh hroom low Jset hA fun s₁ hd h' hk' => ?_)
    exact wpAny_bind (wpAny_rule (wpAny_pure (hDE s₁ hd h' hk')))
  | succ k ih =>
    intro i s hk hi hA
    have hlt : i < n₀ := by omega
    refine codeAny_builtin F.entry_all_loop ?_
    rw [Around.under_plainId F.plain_all_loop _]
    show wpAny _ A.in1 (pyNext (.ref a) >>= _) _ _ s
    refine wpAny_bind (nextJ hh hroom low Jset Ksz hA hlt fun v s₁ gs' hb hv hnext => ?_)
    obtain ⟨b, rfl, h1, h2⟩ := hK i v s₁ hv
    refine wpAny_bind (wpAny_holding (wpAny_truthy_bool ?_))
    refine wpAny_bind (wpAny_letGo ?_)
    cases b with
    | true =>
      simp only [if_true]
      exact wpAny_pure ⟨plainId_quiet F.plain_all_loop _, ih (i + 1) _ (by omega) hlt (hnext _ (Jset _ _ _ hb (h1 rfl)) rfl)⟩
    | false =>
      simp only [Bool.false_eq_true, if_false]
      first
        | exact wpAny_pure (hD s₁ gs' hb (h2 rfl))
        | exact wpAny_bind (wpAny_rule (wpAny_pure (hD s₁ gs' hb (h2 rfl))))
theorem call_allJ {a g : Nat} {s : Shared} {Q : Value → Shared → Prop} {E : Value → Shared → Prop} (hh : A.handled = none) (hroom : A.depth < recursionLimit)
    (low : ∀ i s, J i s → s.heap.IsGen a g ∧ s.heap.NoLimit) (Jset : ∀ i s y, y.bare = true → J i s → J i (s.setGen g y)) (Ksz : ∀ i v s, K i v s → g < s.gens.size)
    (hK : ∀ i v s, K i v s → ∃ b, v = .bool b ∧ (b = true → J (i + 1) s) ∧ (b = false → D s))
    (hD : ∀ s y, y.bare = true → D s → Q (.bool false) (s.setGen g y))
    (hDE : ∀ s₁, DE s₁ → ∀ h', (∀ b o, s₁.heap.get? b = some o → h'.get? b = some o) → Q (.bool true) { s₁.setGen g .finished with heap := h' })
    (hA : AtJ prog w A.in1 n₀ J K DE g 0 s) : wpAny (model prog w) A (call (.builtin "all") [.ref a]) Q E s := by
  refine call_function_tree F.kind_all F.plain_all F.entry_all (F.args_all1 _) ?_
  unfold Builtin.«all»
  refine wpAny_bind (m := oneArg "all" _) (wpAny_pure ?_)
  refine wpAny_bind (wpAny_pyIter_gen (low _ _ hA.1).1 ?_)
  refine wpAny_pure ⟨plainId_quiet F.plain_all_loop _, all_loopJ (by simp [hh]) (by first | exact hroom | simpa using hroom) low Jset Ksz hK (fun s y hy hd => hD s y hy hd) (fun s hd h' hk => hDE s hd h' hk) n₀ 0 s rfl (Nat.zero_le _) ?_⟩
  exact hA
end
end L2.Ev
set_option maxHeartbeats 4000000
namespace L2.Ev
open PySem PySem.Spec PyProof.Rows
def allR (sp : SpW) : List PyData → Mu → (Bool → Mu → Prop) → Prop
  | [], μ, Q => Q true μ
  | d :: ds, μ, Q => sp [.p d] μ fun w μ' => match w with
    | .p (.bool b) => if b = true then allR sp ds μ' Q else Q false μ'
    | _ => False
namespace Al
structure Jt (X : Cx) (pins : List (Addr × Obj)) (σ : List (Option V)) (sp : SpW) (ds : List PyData) (t I C a g : Nat) (as0 : Cs) (H0 : Hp) (Q0 : Bool → Mu → Prop) (i : Nat) (s : Shared) : Prop where
  ex : ∃ as μ H, Inv X pins σ H s ∧ SimH X.K as μ H ∧ Stp as0 H0 as H ∧ Dz X.K as H (.ref t) (.tuple ds) ∧ allR sp (ds.drop i) μ Q0 ∧ H I = none ∧ H C = none ∧ H a = none
  it : s.heap.IsTupleIter I t i
  ns : ∃ m, s.heap.Ns C m
  gen : s.heap.IsGen a g
  gs : g < s.gens.size
structure Dt (X : Cx) (pins : List (Addr × Obj)) (σ : List (Option V)) (g : Nat) (as0 : Cs) (H0 : Hp) (Q0 : Bool → Mu → Prop) (b : Bool) (s : Shared) : Prop where
  ex : ∃ as μ H, Inv X pins σ H s ∧ SimH X.K as μ H ∧ Stp as0 H0 as H ∧ Q0 b μ
  gs : g < s.gens.size
section
variable {X : Cx} {pins : List (Addr × Obj)} {σ : List (Option V)} {sp : SpW} {ds : List PyData} {t I C a g : Nat} {as0 : Cs} {H0 : Hp} {Q0 : Bool → Mu → Prop} {i : Nat} {s : Shared}
theorem bare_set {gs : Array GenState} {g : Nat} {y : GenState} (h : AllBare gs) (hy : y.bare = true) : AllBare (gs.setIfInBounds g y) := fun z hz => by
  rcases Array.mem_or_eq_of_mem_setIfInBounds hz with hz | rfl
  · exact h z hz
  · exact hy
theorem inv_set {H : Hp} {y : GenState} (I : Inv X pins σ H s) (hy : y.bare = true) : Inv X pins σ H (s.setGen g y) :=
  ⟨I.ok, I.os, bare_set I.bare hy, I.base, I.loc, I.cell, I.free, I.freeC, I.pin, I.hok, I.len⟩
theorem Jt.set {y : GenState} (hy : y.bare = true) (h : Jt X pins σ sp ds t I C a g as0 H0 Q0 i s) : Jt X pins σ sp ds t I C a g as0 H0 Q0 i (s.setGen g y) := by
  obtain ⟨⟨as, μ, H, I1, r⟩, h2, h3, h4, h5⟩ := h
  exact ⟨⟨as, μ, H, inv_set I1 hy, r⟩, h2, h3, h4, by simpa [Shared.setGen] using h5⟩
theorem Dt.set {b : Bool} {y : GenState} (hy : y.bare = true) (h : Dt X pins σ g as0 H0 Q0 b s) : Dt X pins σ g as0 H0 Q0 b (s.setGen g y) := by
  obtain ⟨⟨as, μ, H, I1, r⟩, h5⟩ := h
  exact ⟨⟨as, μ, H, inv_set I1 hy, r⟩, by simpa [Shared.setGen] using h5⟩
end
end Al
end L2.Ev
set_option maxHeartbeats 4000000
namespace L2.Ev
open PySem PySem.Spec PyProof.Rows
namespace Al
section
variable {X : Cx} {pins : List (Addr × Obj)} {σ : List (Option V)} {sp : SpW} {ds : List PyData} {t I C a g : Nat} {as0 : Cs} {H0 : Hp} {Q0 : Bool → Mu → Prop}
end
end Al
end L2.Ev
set_option maxHeartbeats 4000000
namespace L2.Ev
open PySem PySem.Spec PyProof.Rows
theorem Al.bare_push {gs : Array GenState} {y : GenState} (h : AllBare gs) (hy : y.bare = true) : AllBare (gs.push y) := fun z hz => by
  rcases Array.mem_push.mp hz with hz | rfl
  · exact h z hz
  · exact hy
theorem Al.inv_gens {X : Cx} {pins : List (Addr × Obj)} {σ : List (Option V)} {H : Hp} {s : Shared} {gs : Array GenState} (I : Inv X pins σ H s) (hb : AllBare gs) : Inv X pins σ H { s with gens := gs } :=
  ⟨I.ok, I.os, hb, I.base, I.loc, I.cell, I.free, I.freeC, I.pin, I.hok, I.len⟩
end L2.Ev
namespace L2.Ev
open PySem
section
variable {prog : Program} {w : World} {A : Around} {elt tg iter : Expr} {scope : Scope} {pos : Pos} {I : Addr} {n₀ : Nat} {cenv : Env} {J : Nat → Shared → Prop} {K : Nat → Value → Shared → Prop} {DE : Shared → Prop}
abbrev gLoop (elt tg iter : Expr) (scope : Scope) (pos : Pos) (I : Addr) (cenv : Env) : Code := .compLoop (.GeneratorExp elt [⟨tg, iter, [], 0⟩] scope pos) 0 (.ref I) .none cenv
abbrev gStart (elt tg iter : Expr) (scope : Scope) (pos : Pos) (I : Addr) (cenv : Env) : Code := .compStart (.GeneratorExp elt [⟨tg, iter, [], 0⟩] scope pos) 0 (.ref I) .none cenv
theorem seg_loopG (hco : cenv.scope.isCoroutine = false)
    (turn : ∀ i s, i < n₀ → J i s → wpAny (model prog w) (A.over (gLoop elt tg iter scope pos I cenv) []) (pyNext (.ref I)) (fun r s1 => ∃ v, r = some v ∧
      wpAny (model prog w) (A.over (gLoop elt tg iter scope pos I cenv) []) (letOwnedTupleGo tg (.ref I) v) (fun _ s2 => wpAny (model prog w) (A.over (gLoop elt tg iter scope pos I cenv) []) (assign tg cenv v) (fun _ s3 =>
        wpAny (model prog w) (A.over (gLoop elt tg iter scope pos I cenv) []) (eval elt cenv) (fun y s4 => K i y s4) (fun _ _ => False) s3) (fun _ _ => False) s2) (fun _ _ => False) s1) (fun _ _ => False) s)
    (stop : ∀ s, J n₀ s → wpAny (model prog w) (A.over (gLoop elt tg iter scope pos I cenv) []) (pyNext (.ref I)) (fun r s1 => r = none ∧ DE s1) (fun _ _ => False) s) :
    ∀ (k i : Nat) (s₀ s : Shared), n₀ - i = k → i ≤ n₀ → J i s →
      Seg (model prog w) A (jEnd DE) (jProto n₀ J K) k s₀ (gLoop elt tg iter scope pos I cenv) ((model prog w).den (gLoop elt tg iter scope pos I cenv)) [] s := by
  intro k
  induction k with
  | zero =>
    intro i s₀ s hk hi hJ
    obtain rfl : i = n₀ := by omega
    show Seg _ A _ _ _ s₀ _ ((compTurn (.GeneratorExp elt [⟨tg, iter, [], 0⟩] scope pos) 0 (.ref I) .none cenv).onRaise (leaving cenv)) [] s
    rw [compTurn_gen, Sem.onRaise_eq_wrap]
    refine seg_bind_wrap (wpAny_standAt ?_)
    refine seg_bind_wrap (wpAny_mono (stop s hJ) (fun r s1 h => ?_) fun _ _ e => e.elim)
    obtain ⟨rfl, h⟩ := h
    exact seg_end (.ok .next) ⟨rfl, rfl, h⟩
  | succ k ih =>
    intro i s₀ s hk hi hJ
    have hlt : i < n₀ := by omega
    show Seg _ A _ _ _ s₀ _ ((compTurn (.GeneratorExp elt [⟨tg, iter, [], 0⟩] scope pos) 0 (.ref I) .none cenv).onRaise (leaving cenv)) [] s
    rw [compTurn_gen, Sem.onRaise_eq_wrap]
    refine seg_bind_wrap (wpAny_standAt ?_)
    refine seg_bind_wrap (wpAny_mono (turn i s hlt hJ) (fun r s1 h => ?_) fun _ _ e => e.elim)
    obtain ⟨v, rfl, h⟩ := h
    refine seg_bind_wrap (wpAny_mono h (fun _ s2 h2 => ?_) fun _ _ e => e.elim)
    refine seg_bind_wrap (wpAny_mono h2 (fun _ s3 h3 => ?_) fun _ _ e => e.elim)
    refine seg_bind_wrap (wpAny_pure ?_)
    simp only [if_true]
    have hy : ∀ v, yieldOut cenv v = yieldValue v := fun v => by simp only [yieldOut, hco, Bool.false_eq_true, if_false]
    simp only [hy]
    rw [Sem.bind_eq_wrap', Sem.bind_eq_wrap', Sem.wrap_wrap, Sem.wrap_wrap]
    refine seg_wrap (wpAny_mono h3 (fun y s₄ h₄ => ?_) fun _ _ e => e.elim)
    have e1 : n₀ - 1 - k = i := by omega
    have e2 : n₀ - k = i + 1 := by omega
    refine seg_at (seg_yield rfl rfl rfl ⟨by rw [e1]; exact h₄, fun s'' hJ' => ?_⟩)
    rw [e2] at hJ'
    exact seg_again rfl (ih (i + 1) s'' s'' (by omega) hlt hJ')
theorem seg_startG (hco : cenv.scope.isCoroutine = false)
    (turn : ∀ i s, i < n₀ → J i s → wpAny (model prog w) (A.over (gLoop elt tg iter scope pos I cenv) []) (pyNext (.ref I)) (fun r s1 => ∃ v, r = some v ∧
      wpAny (model prog w) (A.over (gLoop elt tg iter scope pos I cenv) []) (letOwnedTupleGo tg (.ref I) v) (fun _ s2 => wpAny (model prog w) (A.over (gLoop elt tg iter scope pos I cenv) []) (assign tg cenv v) (fun _ s3 =>
        wpAny (model prog w) (A.over (gLoop elt tg iter scope pos I cenv) []) (eval elt cenv) (fun y s4 => K i y s4) (fun _ _ => False) s3) (fun _ _ => False) s2) (fun _ _ => False) s1) (fun _ _ => False) s)
    (stop : ∀ s, J n₀ s → wpAny (model prog w) (A.over (gLoop elt tg iter scope pos I cenv) []) (pyNext (.ref I)) (fun r s1 => r = none ∧ DE s1) (fun _ _ => False) s)
    (self : ∀ s, J 0 s → wpAny (model prog w) (A.over (gStart elt tg iter scope pos I cenv) []) (pyIter (.ref I)) (fun r s1 => r = .ref I ∧ J 0 s1) (fun _ _ => False) s)
    (s₀ s : Shared) (hJ : J 0 s) :
    Seg (model prog w) A (jEnd DE) (jProto n₀ J K) n₀ s₀ (gStart elt tg iter scope pos I cenv) ((model prog w).den (gStart elt tg iter scope pos I cenv)) [] s := by
  have loop := fun s (hJ : J 0 s) => seg_loopG (prog := prog) (w := w) (A := A) (elt := elt) (tg := tg) (iter := iter) (scope := scope) (pos := pos) (I := I) (DE := DE) (K := K) hco turn stop n₀ 0 s₀ s (Nat.sub_zero _) (Nat.zero_le _) hJ
  show Seg _ A _ _ _ s₀ _ ((compStart (.GeneratorExp elt [⟨tg, iter, [], 0⟩] scope pos) 0 (.ref I) .none cenv).onRaise (leaving cenv)) [] s
  unfold compStart
  rw [Sem.onRaise_eq_wrap]
  show Seg _ A _ _ _ s₀ _ ((ask >>= _).wrap _ _ _ _) [] s
  refine seg_bind_wrap (wpAny_askSetting ?_)
  split
  · exact seg_again rfl (loop s hJ)
  · refine seg_bind_wrap (wpAny_rule ?_)
    first
      | (refine seg_bind_wrap (wpAny_standAt ?_); refine seg_bind_wrap (wpAny_mono (self s hJ) (fun r s1 h => ?_) fun _ _ e => e.elim); obtain ⟨rfl, h⟩ := h; exact seg_again rfl (loop s1 h))
      | (show Seg _ A _ _ _ s₀ _ ((standAt iter.pos >>= _).wrap _ _ _ _) [] s; refine seg_bind_wrap (wpAny_standAt ?_); refine seg_bind_wrap (wpAny_mono (self s hJ) (fun r s1 h => ?_) fun _ _ e => e.elim); obtain ⟨rfl, h⟩ := h; exact seg_again rfl (loop s1 h))
end
end L2.Ev
set_option maxHeartbeats 4000000
namespace L2.Ev
open PySem PySem.Spec PyProof.Rows
abbrev genX (X : Cx) (A' : Around) (s : Shared) (H : Hp) (cenv : Env) (fp : List Addr) : Cx := { X with A := A', s_0 := s, H_0 := H, env := cenv, outer := X.stack, stack := cenv :: X.stack, ex := fp, fn := fun _ => false, pn := [], xe := fun _ _ => False }
def allGR (t : Tg) (e : SE) (ρ0 : Rho) (ok : Mu → Prop) (Q : Bool → Mu → Prop) : List PyData → Mu → Prop
  | [], μ => ok μ ∧ Q true μ
  | x :: xs, μ => ok μ ∧ match bindT t x ρ0 with
    | some ρ2 => e ρ2 μ fun y μ1 => match y with
        | .p (.bool b) => if b = true then allGR t e ρ0 ok Q xs μ1 else Q false μ1
        | _ => False
    | none => False
def wAllG (it : SI) (t : Tg) (e : SE) (vs : List Nat) : SE := fun ρ μ Q => it ρ μ fun xs ok μ1 => allGR t e (wipeW ρ vs) ok (fun b μ2 => Q (.p (.bool b)) μ2) xs μ1
section
variable {X : Cx} {pins : List (Addr × Obj)} {σ : St} {H : Hp}
theorem gen_start {s s5 : Shared} {A' : Around} {scope : Scope} {own : List (Str × Nat)} {fp : List Addr} {a : Addr} {oA : Obj} {code : Value} {m : Str → Option Value} (I : Inv X pins σ H s) (I5 : Inv X pins σ H s5) (hos : s5.os = s.os)
    (k5 : ∀ b o, s.heap.get? b = some o → s5.heap.get? b = some o) (ok : BlkOk X.N X.env.scope scope own) (hN : X.N.Nodup) (hcell : ∀ y ∈ scope.names, y.2 ≠ .cell)
    (hA : A'.frames = some (genEnv scope (cloFrom X.env.cells scope.names []) s.heap.objs.size code builtinsNs X.env :: X.stack)) (hh : X.calm = true → A'.handled = none)
    (hfp : ∀ b ∈ fp, FpOk X pins H b ∧ b < s.heap.objs.size) (hns : s5.heap.Ns s.heap.objs.size m) (hpa : s5.heap.get? a = some oA) (ha : s.heap.objs.size < a) (hoA : ∀ v, oA.data ≠ .cell v) :
    Inv (genX X A' s H (genEnv scope (cloFrom X.env.cells scope.names []) s.heap.objs.size code builtinsNs X.env) fp) [(a, oA)] (wipe σ (own.map (·.2))) H s5 := by
  have hfree : ∀ y ∈ scope.names, y.2 = .free → ∃ c, X.env.cells.lookup y.1 = some c := fun y hy e => by
    rcases ok.free y hy e with k | k
    · exact I.ok.has _ (.inl k)
    · exact I.ok.has _ (.inr k)
  have cm : ∀ {y c}, (cloFrom X.env.cells scope.names []).lookup y = some c → X.env.cells.lookup y = some c := fun {y c} e => by
    rcases cloFrom_mem (PySem.mem_of_lookup e) with hm | ⟨h1, rfl⟩
    · cases hm
    · obtain ⟨c, hc⟩ := hfree _ h1 rfl
      rw [hc]; rfl
  have look : ∀ {y}, scope.names.lookup y = some .free → ∃ c, (cloFrom X.env.cells scope.names []).lookup y = some c ∧ X.env.cells.lookup y = some c := fun {y} hl => by
    obtain ⟨c', e'⟩ := mem_lookup (cloFrom_has (cells := X.env.cells) (acc := []) (PySem.mem_of_lookup hl))
    exact ⟨c', e', cm e'⟩
  have okB : (genX X A' s H (genEnv scope (cloFrom X.env.cells scope.names []) s.heap.objs.size code builtinsNs X.env) fp).Ok := by
    refine ⟨I.ok.mod, ok.kind, I.ok.glob, rfl, Nat.le_refl _, fun y z c e1 e2 => I.ok.inj y z c (cm e1) (cm e2), fun y hy => ?_, fun y c z => (nomatch z), hh, hA, .inr ⟨rfl, rfl⟩, fun b hb => ⟨Nat.ne_of_lt (hfp b hb).2, fun y c e z => (hfp b hb).1.2.2.2.2.1 y c (cm e) z⟩,
      I.bs, Nat.le_trans I.ok.bsz I.sz, fun b o e hb => ?_, fun b hb z => ?_, I.stack, I.stkFree⟩
    · rcases hy with hy | hy
      · exact absurd rfl (hcell _ (PySem.mem_of_lookup (show scope.names.lookup y = some .cell from hy)))
      · obtain ⟨c, h1, _⟩ := look (show scope.names.lookup y = some .free from hy)
        exact ⟨c, h1⟩
    · rcases (hfp b hb).1.2.2.2.1 with z | z
      · exact I.ok.noex b o e z
      · exact absurd (Nat.lt_of_lt_of_le (Heap.lt_size e) (Nat.le_trans I.ok.bsz z)) (Nat.lt_irrefl _)
    · rcases List.mem_cons.mp (I.stkSub b z) with z | z
      · exact (hfp b hb).1.2.1 z
      · exact (hfp b hb).1.2.2.1 z
  refine ⟨okB, hos, I5.bare, Un.kept k5, ⟨m, hns, fun i y v e1 e2 e3 => ?_⟩, fun y c e => I5.cell y c (cm e), I.hok.fresh (Nat.le_refl _), fun y c e => I.freeC y c (cm e), fun p hp => ?_, I5.hok, by rw [wipe_length]; exact I.len⟩
  · obtain ⟨e2, hne⟩ := wipe_some e2
    have e1 : X.N[i]? = some y := e1
    rcases e3 with e3 | e3 | e3
    · rcases ok.own _ (PySem.mem_of_lookup (show scope.names.lookup y = some .local from e3)) (.inl rfl) with z | z
      · obtain ⟨p, hp, rfl⟩ := List.mem_map.mp z
        have := nodup_ix hN (ok.ix p hp) e1
        exact absurd (List.mem_map.mpr ⟨p, hp, this⟩) hne
      · exact absurd (List.mem_of_getElem? e1) z
    · exact absurd rfl (hcell _ (PySem.mem_of_lookup (show scope.names.lookup y = some .cell from e3)))
    · have e3 : scope.names.lookup y = some .free := e3
      obtain ⟨c, h1, h2⟩ := look e3
      have fr := ok.free _ (PySem.mem_of_lookup e3) rfl
      obtain ⟨m5, _, hl⟩ := I5.loc
      obtain ⟨u, r, l⟩ := hl i y v e1 e2 (fr.elim (fun z => .inr (.inl z)) fun z => .inr (.inr z))
      refine ⟨u, r, .inr ⟨.inr e3, c, h1, ?_⟩⟩
      rcases l with ⟨k, _⟩ | ⟨_, c', e, z⟩
      · unfold Env.kindOf at k
        rcases fr with z | z <;> (rw [z] at k; cases k)
      · rw [h2] at e; cases e; exact z
  · have hp : p ∈ [(a, oA)] := hp
    rw [List.mem_singleton] at hp
    subst hp
    refine ⟨hpa, I.hok.fresh (Nat.le_of_lt ha), Nat.ne_of_gt ha, fun z => ?_, hoA⟩
    rcases List.mem_cons.mp (I.stkSub a z) with z | z
    · have q := I.lt
      have z' : a = X.env.locals := z
      exact absurd q (Nat.not_lt.mpr (by rw [← z']; exact Nat.le_of_lt ha))
    · exact I.nofs (Nat.le_of_lt ha) z
theorem room_gen {A : Around} {k : Nat} {c : Code} (hr : Room (k + 4) A) (h1 : c.weight = 1) (h2 : c.cUnits = 3) (hd : (A.in1.in1.over c []).handled = none) (hg : (A.in1.in1.over c []).guards = some []) : Room k (A.in1.in1.over c []) := by
  refine ⟨hd, ?_, ?_, hg⟩
  · have q := hr.dp
    have e : (A.in1.in1.over c []).depth = A.depth + 1 := by show A.depth + 0 + c.weight = _; rw [h1]
    rw [e]; omega
  · have q := hr.un
    have e : (A.in1.in1.over c []).units = A.units + 1 + 1 + 3 := by show A.units + 1 + 1 + 0 + c.cUnits = _; rw [h2]
    rw [e]; omega
end
structure JG (X : Cx) (pg : List (Addr × Obj)) (σ : St) (ρ : Rho) (t : Tg) (e : SE) (ok : Mu → Prop) (xs : List PyData) (fp : List Addr) (tn : Nat → Heap → Prop) (g : Nat) (as0 : Cs) (H0 : Hp) (Q0 : Bool → Mu → Prop) (i : Nat) (s : Shared) : Prop where
  ex : ∃ as μ H, Inv X pg σ H s ∧ SimH X.K as μ H ∧ Stp as0 H0 as H ∧ EnvOk X.K as H ρ σ ∧ (∀ b ∈ fp, H b = none) ∧ allGR t e ρ ok Q0 (xs.drop i) μ
  tn : tn i s.heap
  gs : g < s.gens.size
structure DG (X : Cx) (pg : List (Addr × Obj)) (σ : St) (g : Nat) (as0 : Cs) (H0 : Hp) (Q0 : Bool → Mu → Prop) (b : Bool) (s : Shared) : Prop where
  ex : ∃ as μ H σ', Inv X pg σ' H s ∧ SimH X.K as μ H ∧ Stp as0 H0 as H ∧ Q0 b μ
  gs : g < s.gens.size
abbrev KG (X : Cx) (pg : List (Addr × Obj)) (σ : St) (ρ : Rho) (t : Tg) (e : SE) (ok : Mu → Prop) (xs : List PyData) (fp : List Addr) (tn : Nat → Heap → Prop) (g : Nat) (as0 : Cs) (H0 : Hp) (Q0 : Bool → Mu → Prop) (i : Nat) (y : Value) (s : Shared) : Prop :=
  g < s.gens.size ∧ ∃ b, y = .bool b ∧ (b = true → JG X pg σ ρ t e ok xs fp tn g as0 H0 Q0 (i + 1) s) ∧ (b = false → DG X pg σ g as0 H0 Q0 false s)
section
variable {X : Cx} {pg : List (Addr × Obj)} {σ : St} {ρ : Rho} {t : Tg} {e : SE} {ok : Mu → Prop} {xs : List PyData} {fp : List Addr} {tn : Nat → Heap → Prop} {g : Nat} {as0 as1 : Cs} {H0 H1 : Hp} {Q0 : Bool → Mu → Prop} {i : Nat} {s : Shared} {tg elt : Expr} {it : Addr} {J : It} {vs : List Nat}
theorem JG.set {y : GenState} (hy : y.bare = true) (h : JG X pg σ ρ t e ok xs fp tn g as0 H0 Q0 i s) : JG X pg σ ρ t e ok xs fp tn g as0 H0 Q0 i (s.setGen g y) := by
  obtain ⟨⟨as, μ, H, I1, r⟩, h2, h5⟩ := h
  exact ⟨⟨as, μ, H, Al.inv_set I1 hy, r⟩, h2, by simpa [Shared.setGen] using h5⟩
theorem stat_gen {X0 : Cx} {A' : Around} {sa : Shared} {Ha : Hp} {cenv : Env} {H' : Hp} {s' : Shared} {pgl : List (Addr × Obj)} (hpg : ∀ p ∈ pgl, p.1 ∉ fp) (I' : Inv (genX X0 A' sa Ha cenv fp) pgl σ H' s') (hn : ∀ b ∈ fp, H' b = none) : ∀ b ∈ fp, FpOk (genX X0 A' sa Ha cenv fp) pgl H' b := fun b hb =>
  ⟨hn b hb, (I'.ok.exf b hb).1, I'.ok.exfs b hb, .inl hb, fun x c e => (I'.ok.exf b hb).2 x c e, fun p hp z => by
    have hp : p ∈ pgl := by simpa using hp
    exact hpg p hp (by rw [z]; exact hb)⟩
theorem turnG {X0 : Cx} {A' : Around} {sa : Shared} {Ha : Hp} {cenv : Env} {pgl : List (Addr × Obj)} (hcalm : X0.calm = true) (hpg : ∀ p ∈ pgl, p.1 ∉ fp) (T : Turn X0.prog X0.w X0.K tg J fp it tn) (w : Walks X0.K as0 H0 xs ok J)
    (hv : ∀ i ∈ t.ix, i ∈ vs) (hgT : PG (genX X0 A' sa Ha cenv fp) tg (tgL X0.K t)) (he : GE (genX X0 A' sa Ha cenv fp) elt e) (hσ : wipe σ vs = σ)
    (hi : i < xs.length) (hJ : JG (genX X0 A' sa Ha cenv fp) pgl σ ρ t e ok xs fp tn g as0 H0 Q0 i s) :
    wpAny (model X0.prog X0.w) A' (pyNext (.ref it)) (fun r s1 => ∃ v, r = some v ∧ wpAny (model X0.prog X0.w) A' (letOwnedTupleGo tg (.ref it) v) (fun _ s2 => wpAny (model X0.prog X0.w) A' (assign tg cenv v) (fun _ s3 =>
      wpAny (model X0.prog X0.w) A' (eval elt cenv) (fun y s4 => KG (genX X0 A' sa Ha cenv fp) pgl σ ρ t e ok xs fp tn g as0 H0 Q0 i y s4) (fun _ _ => False) s3) (fun _ _ => False) s2) (fun _ _ => False) s1) (fun _ _ => False) s := by
  obtain ⟨⟨as2, μ2, H2, I2, S2, st, E2, nf, hall⟩, htn, hgs⟩ := hJ
  have ed : xs.drop i = xs[i] :: xs.drop (i + 1) := List.drop_eq_getElem_cons hi
  rw [ed] at hall
  obtain ⟨o2, hall⟩ := hall
  have ex : xs[i]? = some xs[i] := List.getElem?_eq_getElem hi
  refine with_gens (n := g + 1) hgs (thn (T.item (genX X0 A' sa Ha cenv fp) rfl rfl rfl hcalm i pgl s σ H2 (fun _ _ => False) I2 (stat_gen hpg I2 nf) htn (w.go i _ as2 μ2 H2 st.grow S2 o2 ex)) fun r s1 ⟨u, hr, h6⟩ hg1 => ⟨u, hr, ?_⟩)
  refine with_gens (n := g + 1) hg1 (thn h6 fun _ s3 ⟨x, H7, I7, r7, y7, st7, n7⟩ hg2 => ?_)
  have I7' := I7.pinned (stat_gen hpg I7 n7) (T.obj _ _ st7)
  obtain ⟨s8, S3, d3⟩ := w.yld i _ as2 μ2 H2 x H7 st.grow S2 o2 ex y7
  split at hall
  · rename_i ρ2 hb
    refine with_gens (n := g + 1) hg2 (thn (hgT _ s3 σ H7 x u (fun σ2 H' => H' = H7 ∧ EnvOk X0.K as2 H7 ρ2 σ2 ∧ wipe σ2 vs = wipe σ vs) I7' r7 (tgL_of hv d3 (E2.mono s8) hb fun σ2 E3 hw => ⟨rfl, E3, hw⟩)) fun _ s4 ⟨σ2, H8, I8, e8, E3, hw⟩ hg3 => ?_)
    subst e8
    refine with_gens (n := g + 1) hg3 (thn (he.go _ s4 σ2 H8 (fun v H' => ∃ b as' μ', v = .bl b ∧ SimH X0.K as' μ' H' ∧ Stp as2 H8 as' H' ∧ (if b = true then allGR t e ρ ok Q0 (xs.drop (i + 1)) μ' else Q0 false μ')) I8 ⟨as2, ρ2, μ2, _, S3, E3, hall, fun y μ' as' v H' q s' S' rr => ?_⟩) fun y s5 ⟨v, H9, I9, r9, b, as', μ', ev, S', s', hb'⟩ hg4 => ?_)
    · split at q
      · rename_i b
        cases rr
        exact ⟨b, as', μ', rfl, S', s', q⟩
      · exact q.elim
    · subst ev
      cases r9
      have pin' : ∀ b ∈ fp, ∀ o, s3.heap.get? b = some o → s5.heap.get? b = some o ∧ H9 b = none := fun b hb o e =>
        let z := I9.pin (b, o) (List.mem_append_right _ (List.mem_append_right _ (mem_pinsAt hb e)))
        ⟨z.1, z.2.1⟩
      have hl : σ.length = σ2.length := by have := congrArg List.length hw; rw [wipe_length, wipe_length] at this; exact this.symm
      refine ⟨hg4, b, rfl, fun eb => ?_, fun eb => ?_⟩
      · subst eb
        refine ⟨⟨as', μ', H9, (I9.unpinned (pins := pgl)).weak hl (fun j v e => ?_), S', st.trans (s8.trans s'), (E2.mono s8).mono s', fun b hb => ?_, by simpa using hb'⟩, T.keep _ _ _ st7 fun b hb o e => (pin' b hb o e).1, hg4⟩
        · rw [← hσ, ← hw] at e
          exact (wipe_some e).1
        · obtain ⟨o, e, _⟩ := T.obj _ _ st7 b hb
          exact (pin' b hb o e).2
      · subst eb
        exact ⟨⟨as', μ', H9, σ2, I9.unpinned (pins := pgl), S', st.trans (s8.trans s'), by simpa using hb'⟩, hg4⟩
  · exact hall.elim
theorem stopG {X0 : Cx} {A' : Around} {sa : Shared} {Ha : Hp} {cenv : Env} {pgl : List (Addr × Obj)} (hcalm : X0.calm = true) (hpg : ∀ p ∈ pgl, p.1 ∉ fp) (T : Turn X0.prog X0.w X0.K tg J fp it tn) (w : Walks X0.K as0 H0 xs ok J)
    (hJ : JG (genX X0 A' sa Ha cenv fp) pgl σ ρ t e ok xs fp tn g as0 H0 Q0 xs.length s) :
    wpAny (model X0.prog X0.w) A' (pyNext (.ref it)) (fun r s1 => r = none ∧ DG (genX X0 A' sa Ha cenv fp) pgl σ g as0 H0 Q0 true s1) (fun _ _ => False) s := by
  obtain ⟨⟨as2, μ2, H2, I2, S2, st, E2, nf, hall⟩, htn, hgs⟩ := hJ
  rw [List.drop_length] at hall
  exact with_gens (n := g + 1) hgs (thn (T.done (genX X0 A' sa Ha cenv fp) rfl rfl rfl hcalm _ pgl s σ H2 (fun _ _ => False) I2 (stat_gen hpg I2 nf) htn (w.stop _ as2 μ2 H2 st.grow S2 hall.1 (Nat.le_refl _))) fun r s1 ⟨hr, I'⟩ hg1 => ⟨hr, ⟨as2, μ2, H2, σ, I', S2, st, hall.2⟩, hg1⟩)
end
end L2.Ev
set_option maxHeartbeats 4000000
namespace L2.Ev
open PySem PySem.Spec PyProof.Rows
theorem wipe_wipe (σ : St) (vs : List Nat) : wipe (wipe σ vs) vs = wipe σ vs := by
  apply List.ext_getElem?
  intro j
  rw [wipe_get, wipe_get, wipe_length]
  by_cases z : j ∈ vs <;> simp [z]
theorem ge_allG {X : Cx} {tg iter elt : Expr} {it : SI} {t : Tg} {e : SE} {P : Addr} {cv : Value} {scope : Scope} {own : List (Str × Nat)} {p gpos pos : Pos} {k : Nat}
    (hcalm : X.calm = true) (hN : X.N.Nodup) (hr : Room (k + 4) X.A) (hg : Gl X "all") (hm : X.mg "all" = none) (ht : tabK X.K cv = some P) (hcode : cv = X.env.code) (hB : GenB X.K X.mg X.base) (hi : GIt X tg iter it) (ok : BlkOk X.N X.env.scope scope own)
    (hgT : ∀ (A' : Around) (s : Shared) (H : Hp) (code : Value) (C : Addr) (cl : List (Str × Addr)) (fp : List Addr), PG (genX X A' s H (genEnv scope cl C code builtinsNs X.env) fp) tg (tgL X.K t))
    (he : ∀ (A' : Around) (s : Shared) (H : Hp) (code : Value) (C : Addr) (cl : List (Str × Addr)) (fp : List Addr), Room k A' → GE (genX X A' s H (genEnv scope cl C code builtinsNs X.env) fp) elt e)
    (hv : ∀ i ∈ t.ix, i ∈ own.map (·.2)) (hco : scope.isCoroutine = false := by rfl) (hcell : ∀ y ∈ scope.names, y.2 ≠ .cell := by decide +kernel) (h0 : scope.names.lookup (".0" : Str) = some NameKind.local := by rfl) (hs : ∀ v, genFold iter X.env v = pure v := by intro _; rfl)
    (hst : starEach [Expr.GeneratorExp elt [⟨tg, iter, [], 0⟩] scope gpos] X.env = [(false, eval (.GeneratorExp elt [⟨tg, iter, [], 0⟩] scope gpos) X.env)] := by rfl) :
    GE X (.Call (.Name "all" p) [.GeneratorExp elt [⟨tg, iter, [], 0⟩] scope gpos] [] pos) (wAllG it t e (own.map (·.2))) := by
  obtain ⟨c, o, rfl, e1, e2, e3⟩ := tabK_some ht
  have hC := hB.code c o P e1 e2
  refine ⟨fun pins s σ H Q I h => ?_⟩
  obtain ⟨as, ρ, μ, Q0, S, En, h, A⟩ := h
  have hh : X.A.handled = none := I.ok.hd hcalm
  have hfree : ∀ y ∈ scope.names, y.2 = .free → ∃ c, X.env.cells.lookup y.1 = some c := fun y hy e => by
    rcases ok.free y hy e with k | k
    · exact I.ok.has _ (.inl k)
    · exact I.ok.has _ (.inr k)
  refine wpAny_Call_Name_kw (ld_blt I hg hm (by decide +kernel : bootBuiltins "all" = some (.builtin "all")) ?_ (by decide) (by decide))
  refine PyProof.Rows.callWith_builtin1 ?_ hst (by rfl)
  rw [hst]
  refine Calls.spliced_cons ?_
  refine wpAny_GeneratorExp_make hco (closure_ok hfree) hcell h0 ok.kind hr.depth ?_ hs
  refine thn (hi.go pins s σ H (fun J H1 => ∃ as1 μ1 xs okk, SimH X.K as1 μ1 H1 ∧ Stp as H as1 H1 ∧ Walks X.K as1 H1 xs okk J ∧ allGR t e (wipeW ρ (own.map (·.2))) okk (fun b μ2 => Q0 (.p (.bool b)) μ2) xs μ1) I ⟨as, ρ, μ, _, S, En, h, fun xs okk μ' as' H' J q s' S' w => ⟨as', μ', xs, okk, S', s', w, q⟩⟩) fun xv s1 hx => thn hx fun itv s2 h2 => ?_
  obtain ⟨it0, fp, tn, J, H1, e, I1, T, st1, f1, as1, μ1, xs, okk, S1, sp1, w, hall⟩ := h2
  subst e
  obtain ⟨ps0, hP, htr⟩ := S1.tab P e3
  have oP : s2.heap.get? P = some (PySem.W.tabObj ps0) := I1.hok P _ hP
  have lP : P < s2.heap.objs.size := Heap.lt_size oP
  have bP : ∀ b o, X.base.get? b = some o → b ≠ P := fun b o e z => by have := (I1.bs b o e).2; rw [z, hP] at this; cases this
  obtain ⟨bm, ob, B⟩ := hB.bmod
  refine ⟨I1.nolimit, ?_⟩
  have hC2 : PySem.W.CodeHd s2.heap c P := hC.keeps I1.bk
  refine gen_code hcode.symm (hC2.code oP htr) (hC2.tab oP) fun code h3 tk more hx3 htr3 hnew => ?_
  have k3 : ∀ b o, b ≠ P → s2.heap.get? b = some o → h3.get? b = some o := fun b o hb e => hx3 b o hb e
  have kb : ∀ b o, X.base.get? b = some o → h3.get? b = some o := fun b o e => k3 b o (bP b o e) (I1.bk b o e)
  have B3 := B.keeps kb
  refine wpAny_builtinsFor (s := { s2 with heap := h3, toks := tk }) (bm := bm) (m := X.mg) (by rw [I1.ok.glob]; exact B3.ns) B3.name B3.ne B3.obj B3.cls B3.dict B3.data ?_
  intro h' hn' hs'
  have I3 : Inv X pins σ (upd H1 P (.tbl (ps0 ++ more))) { s2 with heap := h3, gens := s2.gens, drawn := s2.drawn, toks := tk } := Inv.tab (more := more) (h' := h3) (g' := s2.gens) (t' := tk) (d' := s2.drawn) I1 hP k3 hnew I1.bare
  have nP : ∀ b ∈ fp, b ≠ P := fun b hb z => by have := (f1 b hb).1; rw [z, hP] at this; cases this
  have st3 : tn 0 h3 := T.keep _ _ _ st1 fun b hb o e => k3 b o (nP b hb) e
  have f3 : ∀ b ∈ fp, FpOk X pins (upd H1 P (.tbl (ps0 ++ more))) b ∧ b < h3.objs.size := fun b hb => by
    obtain ⟨o, e, _⟩ := T.obj _ _ st3 b hb
    exact ⟨⟨by rw [upd_ne (nP b hb)]; exact (f1 b hb).1, (f1 b hb).2⟩, Heap.lt_size e⟩
  have hC' : h'.objs.size = h3.objs.size + 1 := by rw [hs'.1, Heap.size_push]
  have k4 : ∀ b o, h3.get? b = some o → h'.get? b = some o := fun b o e => hs'.extBut b o (Nat.ne_of_lt (Heap.lt_size e)) (Heap.get?_push_of_some _ e)
  generalize hoA : ({ cls := .type "generator", data := .fields #[.int s2.gens.size 0, .str "<genexpr>" (tk + 1), .str (X.env.qual ++ "<genexpr>") (tk + 1 + 1)] } : Obj) = oA
  have gen5 : (h'.push oA).IsGen h'.objs.size s2.gens.size := by rw [← hoA]; exact ⟨_, _, _, Heap.get?_push_size _ rfl, rfl, rfl, rfl⟩
  have k5 : ∀ b o, h'.get? b = some o → (h'.push oA).get? b = some o := fun b o e => Heap.get?_push_of_some _ e
  have hpa : (h'.push oA).get? h'.objs.size = some oA := by rw [← hoA]; exact Heap.get?_push_size _ rfl
  have I5 : Inv X pins σ (upd H1 P (.tbl (ps0 ++ more))) { s2 with gens := s2.gens.push (.fresh (gStart elt tg iter scope gpos it0 (genEnv scope (cloFrom X.env.cells scope.names []) h3.objs.size code builtinsNs X.env))), toks := tk + 1 + 1 + 1, heap := h'.push oA } :=
    Al.inv_gens (s := { s2 with heap := h'.push oA, toks := tk + 1 + 1 + 1 }) (I3.kept (t' := tk + 1 + 1 + 1) fun b o e => k5 b o (k4 b o e)) (Al.bare_push I1.bare rfl)
  have hfr : ∀ c' : Code, c'.envs = [genEnv scope (cloFrom X.env.cells scope.names []) h3.objs.size code builtinsNs X.env] → ((X.A.in1.in1).over c' []).frames = some (genEnv scope (cloFrom X.env.cells scope.names []) h3.objs.size code builtinsNs X.env :: X.stack) := fun c' e => by
    show pushEnvs c'.envs (pushEnvs [] X.A.frames) = _
    rw [e, I.ok.frames]; rfl
  have Ig := gen_start (A' := (X.A.in1.in1).over (gLoop elt tg iter scope gpos it0 (genEnv scope (cloFrom X.env.cells scope.names []) h3.objs.size code builtinsNs X.env)) []) (code := code) I3 I5 rfl (fun b o e => k5 b o (k4 b o e)) ok hN hcell (hfr _ rfl) (fun _ => hh) f3
    (hn'.at' fun o e => k5 _ o e) hpa (by rw [hC']; exact Nat.lt_succ_self _) (by rw [← hoA]; intro v z; cases z)
  have hpg : ∀ p ∈ [(h'.objs.size, oA)], p.1 ∉ fp := fun p hp z => by
    rw [List.mem_singleton] at hp
    subst hp
    have := (f3 _ z).2
    have z2 : h'.objs.size < h3.objs.size := this
    omega
  refine Calls.spliced_nil ?_
  have back : ∀ {b : Bool} {s' : Shared}, DG (genX X ((X.A.in1.in1).over (gLoop elt tg iter scope gpos it0 (genEnv scope (cloFrom X.env.cells scope.names []) h3.objs.size code builtinsNs X.env)) []) { s2 with heap := h3, gens := s2.gens, drawn := s2.drawn, toks := tk } (upd H1 P (.tbl (ps0 ++ more))) (genEnv scope (cloFrom X.env.cells scope.names []) h3.objs.size code builtinsNs X.env) fp) [(h'.objs.size, oA)] (wipe σ (own.map (·.2))) s2.gens.size as1 H1 (fun b μ2 => Q0 (.p (.bool b)) μ2) b s' → ∃ as9 μ9 H9, Inv X pins σ H9 s' ∧ SimH X.K as9 μ9 H9 ∧ Stp as1 H1 as9 H9 ∧ Q0 (.p (.bool b)) μ9 := fun {b s'} ⟨⟨as9, μ9, H9, σ9, I9, S9, t9, q9⟩, _⟩ =>
    ⟨as9, μ9, H9, I3.call' (ch := fp) I9.os I9.base I9.hok I9.bare fun b hb => ⟨(f3 b hb).1.2.2.2.1, (f3 b hb).1.2.1, (f3 b hb).1.2.2.2.2.1, (f3 b hb).1.2.2.2.2.2⟩, S9, t9, q9⟩
  refine call_allJ (A := X.A) (n₀ := xs.length)
    (J := JG (genX X ((X.A.in1.in1).over (gLoop elt tg iter scope gpos it0 (genEnv scope (cloFrom X.env.cells scope.names []) h3.objs.size code builtinsNs X.env)) []) { s2 with heap := h3, gens := s2.gens, drawn := s2.drawn, toks := tk } (upd H1 P (.tbl (ps0 ++ more))) (genEnv scope (cloFrom X.env.cells scope.names []) h3.objs.size code builtinsNs X.env) fp) [(h'.objs.size, oA)] (wipe σ (own.map (·.2))) (wipeW ρ (own.map (·.2))) t e okk xs fp tn s2.gens.size as1 H1 (fun b μ2 => Q0 (.p (.bool b)) μ2))
    (K := KG (genX X ((X.A.in1.in1).over (gLoop elt tg iter scope gpos it0 (genEnv scope (cloFrom X.env.cells scope.names []) h3.objs.size code builtinsNs X.env)) []) { s2 with heap := h3, gens := s2.gens, drawn := s2.drawn, toks := tk } (upd H1 P (.tbl (ps0 ++ more))) (genEnv scope (cloFrom X.env.cells scope.names []) h3.objs.size code builtinsNs X.env) fp) [(h'.objs.size, oA)] (wipe σ (own.map (·.2))) (wipeW ρ (own.map (·.2))) t e okk xs fp tn s2.gens.size as1 H1 (fun b μ2 => Q0 (.p (.bool b)) μ2))
    (D := DG (genX X ((X.A.in1.in1).over (gLoop elt tg iter scope gpos it0 (genEnv scope (cloFrom X.env.cells scope.names []) h3.objs.size code builtinsNs X.env)) []) { s2 with heap := h3, gens := s2.gens, drawn := s2.drawn, toks := tk } (upd H1 P (.tbl (ps0 ++ more))) (genEnv scope (cloFrom X.env.cells scope.names []) h3.objs.size code builtinsNs X.env) fp) [(h'.objs.size, oA)] (wipe σ (own.map (·.2))) s2.gens.size as1 H1 (fun b μ2 => Q0 (.p (.bool b)) μ2) false)
    (DE := DG (genX X ((X.A.in1.in1).over (gLoop elt tg iter scope gpos it0 (genEnv scope (cloFrom X.env.cells scope.names []) h3.objs.size code builtinsNs X.env)) []) { s2 with heap := h3, gens := s2.gens, drawn := s2.drawn, toks := tk } (upd H1 P (.tbl (ps0 ++ more))) (genEnv scope (cloFrom X.env.cells scope.names []) h3.objs.size code builtinsNs X.env) fp) [(h'.objs.size, oA)] (wipe σ (own.map (·.2))) s2.gens.size as1 H1 (fun b μ2 => Q0 (.p (.bool b)) μ2) true)
    hh hr.depth (fun i s hJ => ?_) (fun i s y hy hJ => JG.set hy hJ) (fun i v s h => h.1) (fun i v s h => h.2) (fun s y hy hdt => ?_) (fun s₁ hdt h6 hk6 => ?_) ⟨?_, _, Array.getElem?_push_size .., fun s'' hJ => ⟨rfl, ?_⟩⟩
  · obtain ⟨⟨_, _, _, I9, _⟩, _, _⟩ := hJ
    have hp := (I9.pin (h'.objs.size, oA) (by simp)).1
    refine ⟨?_, I9.nolimit⟩
    rw [← hoA] at hp
    exact ⟨_, _, _, hp, rfl, rfl, rfl⟩
  · obtain ⟨as9, μ9, H9, I9, S9, t9, q9⟩ := back hdt
    exact ⟨.bl false, H9, Al.inv_set I9 hy, rfl, A _ _ _ _ _ q9 (sp1.trans t9) S9 (Dz.bl false)⟩
  · obtain ⟨as9, μ9, H9, I9, S9, t9, q9⟩ := back hdt
    exact ⟨.bl true, H9, (Al.inv_set (g := s2.gens.size) (y := .finished) I9 rfl).kept (t' := s₁.toks) hk6, rfl, A _ _ _ _ _ q9 (sp1.trans t9) S9 (Dz.bl true)⟩
  · refine ⟨⟨as1, μ1, _, Ig, S1.tabGrow hP htr3, Stp.tab hP _, ((En.mono sp1).mono (Stp.tab hP _)).wipe _, fun b hb => (f3 b hb).1.1, by simpa using hall⟩, T.keep _ _ _ st3 fun b hb o e => k5 b o (k4 b o e), ?_⟩
    show s2.gens.size < (s2.gens.push _).size
    rw [Array.size_push]; exact Nat.lt_succ_self _
  · refine seg_startG (A := X.A.in1.in1) hco (fun i s hi hJ => ?_) (fun s hJ => ?_) (fun s hJ => ?_) s'' s'' hJ
    · exact turnG hcalm hpg T w hv (hgT _ _ _ _ _ _ _) (he _ _ _ _ _ _ _ (room_gen hr rfl rfl hh hr.gd)) (wipe_wipe _ _) hi hJ
    · exact stopG hcalm hpg T w hJ
    · exact T.self _ 0 _ _ _ hJ.tn ⟨rfl, hJ⟩
end L2.Ev
set_option maxHeartbeats 4000000
namespace L2.Ev
open PySem PySem.Spec PyProof.Rows
section
variable {K : PySem.W.Frag} {as : Cs} {μ : Mu} {H : Hp}
theorem Stp.writeOwn {b : Addr} {j n : Nat} (hb : as.own[j]? = some (b, n)) (o : HO) (nf : nfz (H b) := by first | exact nf_lst (by assumption) | exact nf_dK (by assumption) | exact nf_dT (by assumption)) : Stp as H as (upd H b o) :=
  ⟨rfl, ⟨[], by simp⟩, fun a u _ q k => ⟨k, by rw [upd_ne (fun e => k (by rw [e]; exact Cs.ao_own hb))]; exact q⟩, ⟨[], by simp⟩, fun a u v q => by rw [upd_ne (fun e => nf u v (by rw [← e]; exact q))]; exact q⟩
theorem SimH.own_nf (S : SimH K as μ H) {b : Addr} {j n : Nat} (hb : as.own[j]? = some (b, n)) : nfz (H b) := fun o u z => by
  rcases S.ownd (b, n) (List.mem_of_getElem? hb) with ⟨xs, e⟩ | ⟨us, e⟩
  · have e : H b = some (.lst xs) := e
    rw [e] at z; cases z
  · have e : H b = some (.dK us) := e
    rw [e] at z; cases z
theorem SimH.writeOwn (S : SimH K as μ H) {n j : Nat} {a b : Addr} (ha : as.as[n]? = some a) (hb : as.own[j]? = some (b, n)) (o : HO) (ho : OwnOk (some o)) (c : Cell) (h : Cok K as (upd H b o) n a c) : SimH K as (μ.set n c) (upd H b o) := by
  have hm := List.mem_of_getElem? ha
  have hob : b ∈ as.own.map (·.1) := List.mem_map.mpr ⟨_, List.mem_of_getElem? hb, rfl⟩
  refine ⟨S.nd, by simp [S.len], fun a' h' => ?_, S.tabUpd (fun ps z => by obtain ⟨o', e', no⟩ := S.own_some hb; rw [z] at e'; cases e'; exact no ps rfl), fun m a' c' h1 h2 => ?_, fun x hx => ?_⟩
  · rw [upd_ne (fun z => (List.nodup_append.mp S.nd).2.2 a' h' b (Cs.ao_own hb) z)]; exact S.hide a' h'
  · by_cases e : n = m
    · subst e
      rw [ha] at h1
      cases h1
      have hl : n < μ.length := by rw [← S.len]; exact (List.getElem?_eq_some_iff.mp ha).1
      rw [List.getElem?_set_self hl] at h2
      cases h2
      exact h
    · rw [List.getElem?_set_ne e] at h2
      refine (S.cell m a' c' h1 h2).mono (Stp.writeOwn hb o (S.own_nf hb)) (upd_ne fun z => S.ne_own (List.mem_of_getElem? h1) hb z.symm) fun j' b' hb' => upd_ne fun z => ?_
      subst z
      have := S.own_inj hb hb'
      subst this
      rw [hb] at hb'
      cases hb'
      exact e rfl
  · by_cases z : x.1 = b
    · rw [z, upd_same]; exact ho
    · rw [upd_ne z]; exact S.ownd x hx
theorem SubsOk.length {n : Nat} {vs : List V} {us : List Sub} (h : SubsOk K as H n vs us) : vs.length = us.length := by
  induction h with
  | nil => rfl
  | cons _ _ ih => simp [ih]
theorem SubsOk.append {n : Nat} {vs ws : List V} {us zs : List Sub} (h : SubsOk K as H n vs us) (k : SubsOk K as H n ws zs) : SubsOk K as H n (vs ++ ws) (us ++ zs) := by
  induction h with
  | nil => exact k
  | cons h _ ih => exact .cons h ih
end
def valS {κ : Type} [DecidableEq κ] (kvs : List (κ × Sub)) (k : κ) : Option Sub := (kvs.find? fun kv => decide (kv.1 = k)).map (·.2)
theorem valS_cons {κ : Type} [DecidableEq κ] (a k : κ) (s : Sub) (r : List (κ × Sub)) : valS ((a, s) :: r) k = if a = k then some s else valS r k := by
  unfold valS
  rw [List.find?_cons]
  by_cases h : a = k <;> simp [h]
section
variable {K : PySem.W.Frag} {as : Cs} {μ : Mu} {H : Hp}
theorem SubsOk.val {n : Nat} (k : Key) : ∀ {us : List (Key × V)} {kvs : List (Key × Sub)}, us.map (·.1) = kvs.map (·.1) → SubsOk K as H n (us.map (·.2)) (kvs.map (·.2)) → (valV us k = none ∧ valS kvs k = none) ∨ ∃ v s, valV us k = some v ∧ valS kvs k = some s ∧ SubOk K as H n v s
  | [], [], _, _ => .inl ⟨rfl, rfl⟩
  | [], _ :: _, e, _ => by simp at e
  | _ :: _, [], e, _ => by simp at e
  | (a, v) :: us, (b, s) :: kvs, e, h => by
    simp only [List.map_cons, List.cons.injEq] at e
    obtain ⟨e1, e2⟩ := e
    subst e1
    cases h with
    | cons h t =>
      rw [valS_cons]
      by_cases q : a = k
      · exact .inr ⟨v, s, valV_pos q, by rw [if_pos q], h⟩
      · rw [if_neg q]
        have : valV ((a, v) :: us) k = valV us k := by unfold valV; rw [List.find?_cons]; simp [q]
        rw [this]
        exact SubsOk.val k e2 t
theorem SubOk.ref {n : Nat} {v : V} {s : Sub} {j : Nat} (h : SubOk K as H n v s) (hj : s.isJ j = true) : ∃ b, v = .ref b ∧ as.own[j]? = some (b, n) := by
  cases s with
  | d x => simp [Sub.isJ] at hj
  | l i xs => obtain ⟨b, vs, e, q, _⟩ := h; have : i = j := by simpa [Sub.isJ] using hj
              subst this; exact ⟨b, e, q⟩
  | k i xs => obtain ⟨b, vs, e, q, _⟩ := h; have : i = j := by simpa [Sub.isJ] using hj
              subst this; exact ⟨b, e, q⟩
end
section
variable {X : Cx} {pins : List (Addr × Obj)} {σ : St} {H : Hp} {s : Shared} {a : Addr} {kvs : List (Key × V)} {k : Key} {u r : Value} {d : V} {A : Around} {E : Value → Shared → Prop}
end
section
variable {X : Cx} {o e f : Expr} {apos cpos : Pos} {to te tf : TE}
end
theorem jsOf_snoc (ss : List Sub) (s : Sub) : jsOf (ss ++ [s]) = jsOf ss ++ s.js := by simp [jsOf]
section
variable {X : Cx} {o e : Expr} {apos cpos lpos : Pos} {fo fe : SE}
end
end L2.Ev
namespace L2
open PySem PySem.Spec PyProof.Rows
section
variable {X : Cx} {pins : List (Addr × Obj)} {σ : St} {H : Hp} {s : Shared} {a : Addr} {kvs : List (Key × V)} {k : Key} {u r : Value} {v y : V} {A : Around} {E : Value → Shared → Prop}
end
section
variable {X : Cx}
end
end L2
namespace L2
open PySem PySem.Spec PyProof.Rows
open L2.Ev (SetW newSetObj TabOk)
section
variable {prog : Program} {w : World} {A : Around} {E : Value → Shared → Prop} {R : Result → Shared → Prop} {s : Shared}
end
section
variable {X : Cx} {pins : List (Addr × Obj)} {σ : St} {H : Hp} {s : Shared} {A : Around} {E : Value → Shared → Prop}
end
section
variable {X : Cx}
end
end L2
set_option maxHeartbeats 4000000
namespace L2.Ev
open PySem PySem.Spec PyProof.Rows
section
variable {K : PySem.W.Frag} {as : Cs} {μ : Mu} {H : Hp}
theorem js_isJ {x : Sub} {j : Nat} : x.isJ j = true ↔ j ∈ x.js := by
  cases x with
  | d _ => simp [Sub.isJ, Sub.js]
  | l i _ => simp only [Sub.isJ, Sub.js, beq_iff_eq, List.mem_singleton]; exact ⟨Eq.symm, Eq.symm⟩
  | k i _ => simp only [Sub.isJ, Sub.js, beq_iff_eq, List.mem_singleton]; exact ⟨Eq.symm, Eq.symm⟩
theorem SubOk.other (S : SimH K as μ H) {n j : Nat} {b : Addr} (hb : as.own[j]? = some (b, n)) (o : HO) {v : V} {x : Sub} (h : SubOk K as H n v x) (hx : x.isJ j = false) : SubOk K as (upd H b o) n v x := by
  have st := Stp.writeOwn (H := H) hb o (S.own_nf hb)
  have ne : ∀ i b', as.own[i]? = some (b', n) → i ≠ j → b' ≠ b := fun i b' q hi z => hi (S.own_inj (by rw [← z]; exact q) hb)
  cases x with
  | d x => exact Dz.mono st h
  | l i xs =>
    have hi : i ≠ j := by simpa [Sub.isJ] using hx
    obtain ⟨b', vs, e, q, h1, h2⟩ := h
    exact ⟨b', vs, e, q, by rw [upd_ne (ne i b' q hi)]; exact h1, h2.mono st⟩
  | k i xs =>
    have hi : i ≠ j := by simpa [Sub.isJ] using hx
    obtain ⟨b', vs, e, q, h1, h3, h2⟩ := h
    exact ⟨b', vs, e, q, by rw [upd_ne (ne i b' q hi)]; exact h1, h3, h2.mono st⟩
theorem jsOf_setSub {j : Nat} {s : Sub} (hs : s.js = [j]) (us : List Sub) : jsOf (us.map fun x => if x.isJ j = true then s else x) = jsOf us := by
  induction us with
  | nil => rfl
  | cons x us ih =>
    unfold jsOf at ih ⊢
    simp only [List.map_cons, List.flatMap_cons, ih]
    congr 1
    cases hx : x.isJ j with
    | false => simp
    | true =>
      simp only [if_true, hs]
      cases x with
      | d _ => simp [Sub.isJ] at hx
      | l i _ => simp only [Sub.isJ, beq_iff_eq] at hx; subst hx; rfl
      | k i _ => simp only [Sub.isJ, beq_iff_eq] at hx; subst hx; rfl
end
section
variable {X : Cx}
end
end L2.Ev
set_option maxHeartbeats 4000000
namespace L2.Ev
open PySem PySem.Spec PyProof.Rows
theorem Dz.key {K : PySem.W.Frag} {as : Cs} {H : Hp} (k : Key) : Dz K as H (kV k) (keyD k) := by
  cases k with
  | inl i => exact Dz.int i
  | inr x => exact Dz.str x
section
variable {X : Cx}
end
section
variable {X : Cx}
end
section
variable {X : Cx}
end
end L2.Ev
set_option maxHeartbeats 4000000
namespace L2.Ev
open PySem PySem.Spec PyProof.Rows
section
variable {X : Cx} {kx vx tg iter : Expr} {ifs : List Expr} {scope : Scope} {own : List (Str × Nat)} {pos : Pos} {it : SI} {t : Tg} {c : ST} {ek ev : SE}
end
section
variable {κ : Type} [DecidableEq κ] {K : PySem.W.Frag} {as : Cs} {H : Hp}
def valG (kvs : List (κ × PyData)) (k : κ) : Option PyData := (kvs.find? fun kv => decide (kv.1 = k)).map (·.2)
def putG (kvs : List (κ × PyData)) (k : κ) (d : PyData) : List (κ × PyData) :=
  if (kvs.any fun kv => decide (kv.1 = k)) = true then kvs.map (fun kv => if kv.1 = k then (kv.1, d) else kv) else kvs ++ [(k, d)]
def PrG (K : PySem.W.Frag) (as : Cs) (H : Hp) (us : List (κ × V)) (kvs : List (κ × PyData)) : Prop := us.map (·.1) = kvs.map (·.1) ∧ DzAll K as H (us.map (·.2)) (kvs.map (·.2))
theorem PrG.len {us : List (κ × V)} {kvs : List (κ × PyData)} (h : PrG K as H us kvs) : us.length = kvs.length := by have := congrArg List.length h.1; simpa using this
theorem PrG.cons {k : κ} {v : V} {d : PyData} {us : List (κ × V)} {kvs : List (κ × PyData)} (h : Dz K as H v d) (p : PrG K as H us kvs) : PrG K as H ((k, v) :: us) ((k, d) :: kvs) := ⟨by simp [p.1], .cons h p.2⟩
theorem PrG.inv {u : κ × V} {us : List (κ × V)} {kv : κ × PyData} {kvs : List (κ × PyData)} (h : PrG K as H (u :: us) (kv :: kvs)) : u.1 = kv.1 ∧ Dz K as H u.2 kv.2 ∧ PrG K as H us kvs := by
  obtain ⟨h1, h2⟩ := h
  simp only [List.map_cons, List.cons.injEq] at h1
  cases h2 with
  | cons a b => exact ⟨h1.1, a, h1.2, b⟩
theorem PrG.val : ∀ {us : List (κ × V)} {kvs : List (κ × PyData)} (k : κ), PrG K as H us kvs → (valV us k = none ∧ valG kvs k = none) ∨ ∃ v d, valV us k = some v ∧ valG kvs k = some d ∧ Dz K as H v d
  | [], [], k, _ => .inl ⟨rfl, rfl⟩
  | [], _ :: _, _, h => by have := h.len; simp at this
  | _ :: _, [], _, h => by have := h.len; simp at this
  | (a, v) :: us, (b, d) :: kvs, k, h => by
    obtain ⟨e, hd, t⟩ := h.inv
    simp only at e
    subst e
    by_cases hk : a = k
    · exact .inr ⟨v, d, by simp [valV, List.find?_cons, hk], by simp [valG, List.find?_cons, hk], hd⟩
    · have := PrG.val k t
      simp only [valV, valG, List.find?_cons, hk, decide_false] at this ⊢
      exact this
theorem PrG.any {us : List (κ × V)} {kvs : List (κ × PyData)} (k : κ) (h : PrG K as H us kvs) : (us.any fun kv => decide (kv.1 = k)) = kvs.any fun kv => decide (kv.1 = k) := by
  have e : ∀ {β : Type} (xs : List (κ × β)), (xs.any fun kv => decide (kv.1 = k)) = (xs.map (·.1)).any fun x => decide (x = k) := fun xs => by rw [List.any_map]; rfl
  rw [e, e, h.1]
theorem PrG.mapIf {k : κ} {v : V} {d : PyData} (hd : Dz K as H v d) : ∀ {us : List (κ × V)} {kvs : List (κ × PyData)}, PrG K as H us kvs → PrG K as H (us.map (fun kv => if kv.1 = k then (kv.1, v) else kv)) (kvs.map (fun kv => if kv.1 = k then (kv.1, d) else kv))
  | [], [], h => h
  | [], _ :: _, h => by have := h.len; simp at this
  | _ :: _, [], h => by have := h.len; simp at this
  | (a, v0) :: us, (b, d0) :: kvs, h => by
    obtain ⟨e, h0, t⟩ := h.inv
    simp only at e
    subst e
    have ih := PrG.mapIf (k := k) hd t
    by_cases hk : a = k
    · simp only [List.map_cons, hk, if_true]; exact PrG.cons hd (by simpa [hk] using ih)
    · simp only [List.map_cons, hk, if_false]; exact PrG.cons h0 ih
theorem PrG.put {us : List (κ × V)} {kvs : List (κ × PyData)} {k : κ} {v : V} {d : PyData} (h : PrG K as H us kvs) (hd : Dz K as H v d) : PrG K as H (putK us k v) (putG kvs k d) := by
  unfold putK putG
  rw [h.any k]
  split
  · exact h.mapIf hd
  · exact ⟨by rw [List.map_append, List.map_append, h.1]; rfl, by rw [List.map_append, List.map_append]; exact h.2.append (.cons hd .nil)⟩
theorem PrG.mono {as' : Cs} {H' : Hp} {us : List (κ × V)} {kvs : List (κ × PyData)} (s : Stp as H as' H') (h : PrG K as H us kvs) : PrG K as' H' us kvs := ⟨h.1, h.2.mono s⟩
end
section
variable {X : Cx} {pos : Pos}
end
end L2.Ev
set_option maxHeartbeats 4000000
namespace L2.Ev
open PySem PySem.Spec PyProof.Rows
theorem perm_of : ∀ (L ms : List Int), L.Nodup → (∀ x ∈ L, x ∈ ms) → ms.length = L.length → ms.Perm L
  | [], ms, _, _, h => by rw [List.length_eq_zero_iff.mp h]
  | x :: L, ms, hn, hs, h => by
    obtain ⟨h1, h2⟩ := List.nodup_cons.mp hn
    have hx := hs x (by simp)
    have pe := List.perm_cons_erase hx
    refine pe.trans (.cons x (perm_of L (ms.erase x) h2 (fun y hy => (List.mem_erase_of_ne (fun e : y = x => h1 (by rw [← e]; exact hy))).mpr (hs y (by simp [hy]))) ?_))
    rw [List.length_erase_of_mem hx, h]; simp
structure SetL (S : Int → Bool) (n : Nat) (L acc Dm : List Int) : Prop where
  nd : L.Nodup
  len : n = L.length
  S : ∀ k, S k = true ↔ k ∈ L
  mem : ∀ k, k ∈ L ↔ k ∈ acc
  sub : ∀ k ∈ L, k ∈ Dm
theorem SetL.nil {Dm : List Int} : SetL (fun _ => false) 0 [] [] Dm := ⟨.nil, rfl, by simp, by simp, by simp⟩
theorem SetL.add {S : Int → Bool} {n : Nat} {L acc Dm : List Int} (h : SetL S n L acc Dm) {k : Int} (hk : k ∈ Dm) : SetL (fun k' => S k' || decide (k' = k)) (if S k then n else n + 1) (if S k = true then L else L ++ [k]) (acc ++ [k]) Dm := by
  by_cases e : S k = true
  · have hl := (h.S k).mp e
    refine ⟨by rw [if_pos e]; exact h.nd, by rw [if_pos e, if_pos e]; exact h.len, fun k' => ?_, fun k' => ?_, by rw [if_pos e]; exact h.sub⟩
    · rw [if_pos e, Bool.or_eq_true, decide_eq_true_eq, h.S]
      exact ⟨fun z => z.elim id fun z => z ▸ hl, .inl⟩
    · rw [if_pos e, List.mem_append, List.mem_singleton, h.mem]
      exact ⟨.inl, fun z => z.elim id fun z => z ▸ (h.mem k).mp hl⟩
  · have hn : k ∉ L := fun z => e ((h.S k).mpr z)
    refine ⟨?_, ?_, fun k' => ?_, fun k' => ?_, ?_⟩
    · rw [if_neg e, List.nodup_append]
      exact ⟨h.nd, by simp, fun a ha b hb z => by simp at hb; subst hb; subst z; exact hn ha⟩
    · rw [if_neg e, if_neg e, List.length_append, h.len]; rfl
    · rw [if_neg e, Bool.or_eq_true, decide_eq_true_eq, h.S, List.mem_append, List.mem_singleton]
    · rw [if_neg e, List.mem_append, List.mem_append, List.mem_singleton, h.mem]
    · rw [if_neg e]
      intro x hx
      rcases List.mem_append.mp hx with hx | hx
      · exact h.sub x hx
      · rw [List.mem_singleton.mp hx]; exact hk
theorem SetL.fin {S : Int → Bool} {n : Nat} {L acc Dm ms : List Int} (h : SetL S n L acc Dm) (l1 : ms.length = n) (l2 : ∀ k, k ∈ ms ↔ S k = true) (l3 : ms.Pairwise (· ≤ ·)) : ms.Pairwise (· < ·) ∧ (∀ k, k ∈ ms ↔ k ∈ acc) ∧ ms.length ≤ acc.length := by
  have pm := perm_of L ms h.nd (fun x hx => (l2 x).mpr ((h.S x).mpr hx)) (l1.trans h.len)
  have nd := pm.nodup_iff.mpr h.nd
  refine ⟨?_, fun k => (l2 k).trans ((h.S k).trans (h.mem k)), ?_⟩
  · have := l3.and nd
    exact this.imp fun {a b} ⟨h1, h2⟩ => by omega
  · rw [l1, h.len]
    exact Ss.len_le _ _ h.nd fun x hx => (h.mem x).mp hx
section
variable {X : Cx} {elt tg iter : Expr} {ifs : List Expr} {scope : Scope} {own : List (Str × Nat)} {it : SI} {t : Tg} {c : ST} {e : SE}
end
end L2.Ev
set_option maxHeartbeats 4000000
namespace L2.Ev
open PySem
structure DnI (kvs : List (Key × Sub)) (g : Int → Option (List PyData)) : Prop where
  nd : (jsOf (kvs.map (·.2))).Nodup
  all : ∀ kv ∈ kvs, ∃ p j xs, kv = (.inl p, Sub.l j xs)
  ks : (kvs.map (·.1)).Nodup
  val : ∀ p, (valS kvs (.inl p)).isSome = (g p).isSome
  mem : ∀ p j xs, (Sum.inl p, Sub.l j xs) ∈ kvs → g p = some xs
theorem DnI.nil : DnI [] (fun _ => none) := ⟨by simp [jsOf], by simp, by simp, fun _ => rfl, by simp⟩
theorem valS_mem {kvs : List (Key × Sub)} {k : Key} {s : Sub} (h : valS kvs k = some s) : (k, s) ∈ kvs := by
  unfold valS at h
  rw [Option.map_eq_some_iff] at h
  obtain ⟨kv, h1, rfl⟩ := h
  have := List.find?_some h1
  simp only [decide_eq_true_eq] at this
  rw [← this]
  exact List.mem_of_find?_eq_some h1
theorem valS_none {kvs : List (Key × Sub)} {k : Key} (h : valS kvs k = none) : k ∉ kvs.map (·.1) := fun z => by
  unfold valS at h
  rw [Option.map_eq_none_iff, List.find?_eq_none] at h
  obtain ⟨kv, hm, e⟩ := List.mem_map.mp z
  exact h kv hm (by simp [e])
theorem mem_valS {kvs : List (Key × Sub)} (nd : (kvs.map (·.1)).Nodup) {k : Key} {s : Sub} (h : (k, s) ∈ kvs) : valS kvs k = some s := by
  induction kvs with
  | nil => cases h
  | cons a kvs ih =>
    obtain ⟨b, s'⟩ := a
    rw [valS_cons]
    rw [List.map_cons, List.nodup_cons] at nd
    rcases List.mem_cons.mp h with e | h
    · cases e; rw [if_pos rfl]
    · rw [if_neg, ih nd.2 h]
      rintro rfl
      exact nd.1 (List.mem_map.mpr ⟨_, h, rfl⟩)
theorem DnI.at_some {kvs : List (Key × Sub)} {g : Int → Option (List PyData)} (h : DnI kvs g) {p : Int} {xs : List PyData} (e : g p = some xs) : ∃ j, valS kvs (.inl p) = some (.l j xs) := by
  have := h.val p
  rw [e] at this
  obtain ⟨s, hs⟩ := Option.isSome_iff_exists.mp this
  have hm := valS_mem hs
  obtain ⟨p', j, xs', e'⟩ := h.all _ hm
  cases e'
  have := h.mem _ _ _ hm
  rw [e] at this
  cases this
  exact ⟨j, hs⟩
theorem DnI.at_none {kvs : List (Key × Sub)} {g : Int → Option (List PyData)} (h : DnI kvs g) {p : Int} (e : g p = none) : valS kvs (.inl p) = none := by
  have := h.val p
  rw [e] at this
  cases q : valS kvs (.inl p) with
  | none => rfl
  | some s => rw [q] at this; cases this
def AtJ' (kvs : List (Key × Sub)) (j : Nat) (p : Int) : Prop := ∃ xs, (Sum.inl p, Sub.l j xs) ∈ kvs
theorem js_inj : ∀ {ss : List Sub}, (jsOf ss).Nodup → ∀ {j : Nat} {a b : Sub}, a ∈ ss → b ∈ ss → a.isJ j = true → b.isJ j = true → a = b
  | [], _, _, _, _, h, _, _, _ => by cases h
  | s :: ss, nd, j, a, b, ha, hb, ja, jb => by
    unfold jsOf at nd
    rw [List.flatMap_cons, List.nodup_append] at nd
    have out : ∀ x ∈ ss, x.isJ j = true → s.isJ j = true → False := fun x hx jx js => nd.2.2 j (js_isJ.mp js) j (List.mem_flatMap.mpr ⟨x, hx, js_isJ.mp jx⟩) rfl
    rcases List.mem_cons.mp ha with ea | ha
    · rcases List.mem_cons.mp hb with eb | hb
      · rw [ea, eb]
      · exact (out b hb jb (ea ▸ ja)).elim
    · rcases List.mem_cons.mp hb with eb | hb
      · exact (out a ha ja (eb ▸ jb)).elim
      · exact js_inj nd.2.1 ha hb ja jb
theorem isJ_l {j : Nat} {xs : List PyData} : (Sub.l j xs).isJ j = true := by simp [Sub.isJ]
theorem DnI.find {kvs : List (Key × Sub)} {g : Int → Option (List PyData)} (h : DnI kvs g) {p : Int} {j : Nat} {xs : List PyData} (hm : (Sum.inl p, Sub.l j xs) ∈ kvs) : (kvs.map (·.2)).find? (Sub.isJ j) = some (.l j xs) := by
  have hin : Sub.l j xs ∈ kvs.map (·.2) := List.mem_map.mpr ⟨_, hm, rfl⟩
  cases e : (kvs.map (·.2)).find? (Sub.isJ j) with
  | none => rw [List.find?_eq_none] at e; exact absurd isJ_l (e _ hin)
  | some s => rw [js_inj h.nd (List.mem_of_find?_eq_some e) hin (List.find?_some e) isJ_l]
theorem DnI.sub {kvs : List (Key × Sub)} {g : Int → Option (List PyData)} (h : DnI kvs g) {μ : Mu} {n : Nat} (hc : μ[n]? = some (.dn kvs)) {p : Int} {j : Nat} (ha : AtJ' kvs j p) : ∃ xs, g p = some xs ∧ subAt μ n j = some (.l j xs) := by
  obtain ⟨xs, hm⟩ := ha
  refine ⟨xs, h.mem _ _ _ hm, ?_⟩
  unfold subAt
  rw [hc]
  exact h.find hm
theorem DnI.key {kvs : List (Key × Sub)} {g : Int → Option (List PyData)} (h : DnI kvs g) : ∃ ps : List Int, kvs.map (·.1) = ps.map Sum.inl ∧ ps.Nodup ∧ ∀ p, p ∈ ps ↔ (g p).isSome = true := by
  have : ∀ {l : List (Key × Sub)}, (∀ kv ∈ l, ∃ p j xs, kv = (Sum.inl p, Sub.l j xs)) → ∃ ps : List Int, l.map (·.1) = ps.map Sum.inl := fun {l} => by
    induction l with
    | nil => intro _; exact ⟨[], rfl⟩
    | cons a l ih =>
      intro hl
      obtain ⟨p, j, xs, rfl⟩ := hl a (by simp)
      obtain ⟨ps, e⟩ := ih fun kv hk => hl kv (by simp [hk])
      exact ⟨p :: ps, by simp [e]⟩
  obtain ⟨ps, e⟩ := this h.all
  have nd := h.ks
  rw [e] at nd
  refine ⟨ps, e, ?_, fun p => ?_⟩
  · exact (List.pairwise_map.mp nd).imp fun hne z => hne (by rw [z])
  · constructor
    · intro hp
      have : (Sum.inl p : Key) ∈ kvs.map (·.1) := by rw [e]; exact List.mem_map.mpr ⟨p, hp, rfl⟩
      obtain ⟨kv, hm, ek⟩ := List.mem_map.mp this
      obtain ⟨p', j, xs, rfl⟩ := h.all kv hm
      cases ek
      rw [h.mem _ _ _ hm]; rfl
    · intro hp
      obtain ⟨xs, hx⟩ := Option.isSome_iff_exists.mp hp
      obtain ⟨j, hj⟩ := h.at_some hx
      have : (Sum.inl p : Key) ∈ kvs.map (·.1) := List.mem_map.mpr ⟨_, valS_mem hj, rfl⟩
      rw [e] at this
      obtain ⟨p', hp', e'⟩ := List.mem_map.mp this
      cases e'; exact hp'
def putL (g : Int → Option (List PyData)) (p : Int) (xs : List PyData) : Int → Option (List PyData) := fun q => if q = p then some xs else g q
theorem DnI.new {kvs : List (Key × Sub)} {g : Int → Option (List PyData)} (h : DnI kvs g) {p : Int} (e : g p = none) {j : Nat} (hj : j ∉ jsOf (kvs.map (·.2))) : DnI (kvs ++ [(.inl p, .l j [])]) (putL g p []) := by
  have hn := valS_none (h.at_none e)
  refine ⟨?_, fun kv hk => ?_, ?_, fun q => ?_, fun q i xs hm => ?_⟩
  · rw [List.map_append, List.map_cons, List.map_nil, jsOf_snoc, List.nodup_append]
    exact ⟨h.nd, by simp [Sub.js], fun a ha b hb z => by simp [Sub.js] at hb; subst hb; subst z; exact hj ha⟩
  · rcases List.mem_append.mp hk with hk | hk
    · exact h.all kv hk
    · rw [List.mem_singleton.mp hk]; exact ⟨p, j, [], rfl⟩
  · rw [List.map_append, List.nodup_append]
    exact ⟨h.ks, by simp, fun a ha b hb z => by simp at hb; subst hb; subst z; exact hn ha⟩
  · have : valS (kvs ++ [(Sum.inl p, Sub.l j [])]) (.inl q) = (valS kvs (.inl q)).or (if q = p then some (.l j []) else none) := by
      unfold valS
      rw [List.find?_append]
      cases kvs.find? fun kv => decide (kv.1 = Sum.inl q) with
      | some a => simp
      | none =>
        by_cases z : q = p
        · subst z; simp
        · have : (Sum.inl p : Key) ≠ Sum.inl q := fun y => z (by injection y with y; exact y.symm)
          simp [z, this]
    rw [this]
    unfold putL
    by_cases z : q = p
    · subst z; rw [h.at_none e]; simp
    · simp only [z, if_false, Option.or_none]; exact h.val q
  · unfold putL
    rcases List.mem_append.mp hm with hm1 | hm1
    · by_cases z : q = p
      · exact (hn (List.mem_map.mpr ⟨(Sum.inl q, Sub.l i xs), hm1, by rw [z]⟩)).elim
      · rw [if_neg z]; exact h.mem _ _ _ hm1
    · rw [List.mem_singleton] at hm1; cases hm1; rw [if_pos rfl]
theorem DnI.app {kvs : List (Key × Sub)} {g : Int → Option (List PyData)} (h : DnI kvs g) {p : Int} {j : Nat} {xs : List PyData} (hm : (Sum.inl p, Sub.l j xs) ∈ kvs) (ys : List PyData) :
    DnI (kvs.map fun kv => if kv.2.isJ j = true then (kv.1, .l j ys) else kv) (putL g p ys) := by
  have keys : (kvs.map fun kv => if kv.2.isJ j = true then (kv.1, Sub.l j ys) else kv).map (·.1) = kvs.map (·.1) := by
    rw [List.map_map]; apply List.map_congr_left; intro kv _; simp only [Function.comp_apply]; split <;> rfl
  have hmap : (kvs.map fun kv => if kv.2.isJ j = true then (kv.1, Sub.l j ys) else kv).map (·.2) = (kvs.map (·.2)).map fun x => if x.isJ j = true then .l j ys else x := by
    rw [List.map_map, List.map_map]
    apply List.map_congr_left; intro kv _; simp only [Function.comp_apply]; split <;> rfl
  have only : ∀ q i zs, (Sum.inl q, Sub.l i zs) ∈ kvs → i = j → q = p ∧ zs = xs := fun q i zs hq ei => by
    subst ei
    have e2 := js_inj h.nd (List.mem_map.mpr ⟨_, hq, rfl⟩) (List.mem_map.mpr ⟨_, hm, rfl⟩) (isJ_l (j := i)) (isJ_l (j := i))
    cases e2
    refine ⟨?_, rfl⟩
    -- two places that hold the same list: its number stands twice
    have : ∀ {l : List (Key × Sub)}, (jsOf (l.map (·.2))).Nodup → ∀ {a b : Key} {s : Sub}, s.js = [i] → (a, s) ∈ l → (b, s) ∈ l → a = b := fun {l} => by
      induction l with
      | nil => intro _ a b s _ ha _; cases ha
      | cons x l ih =>
        intro nd a b s es ha hb
        unfold jsOf at nd
        rw [List.map_cons, List.flatMap_cons, List.nodup_append] at nd
        have out : ∀ c, (c, s) ∈ l → x.2 = s → False := fun c hc ex => nd.2.2 i (by rw [ex, es]; simp) i (List.mem_flatMap.mpr ⟨s, List.mem_map.mpr ⟨_, hc, rfl⟩, by rw [es]; simp⟩) rfl
        rcases List.mem_cons.mp ha with e1 | ha
        · rcases List.mem_cons.mp hb with e2 | hb
          · rw [← e1] at e2; cases e2; rfl
          · exact (out b hb (by rw [← e1])).elim
        · rcases List.mem_cons.mp hb with e2 | hb
          · exact (out a ha (by rw [← e2])).elim
          · exact ih nd.2.1 es ha hb
    have := this h.nd (s := .l i xs) rfl hq hm
    injection this
  refine ⟨by rw [hmap, jsOf_setSub rfl]; exact h.nd, fun kv hk => ?_, by rw [keys]; exact h.ks, fun q => ?_, fun q i zs hq => ?_⟩
  · obtain ⟨kv0, h0, rfl⟩ := List.mem_map.mp hk
    obtain ⟨q, i, zs, rfl⟩ := h.all kv0 h0
    dsimp only
    split
    · exact ⟨_, _, _, rfl⟩
    · exact ⟨_, _, _, rfl⟩
  · have isS : ∀ (l : List (Key × Sub)) (k : Key), (valS l k).isSome = (l.map (·.1)).any fun x => decide (x = k) := fun l k => by
      unfold valS
      induction l with
      | nil => rfl
      | cons a l ih =>
        rw [List.find?_cons, List.map_cons, List.any_cons]
        by_cases z : a.1 = k
        · simp [z]
        · simp only [z, decide_false, Bool.false_or]; exact ih
    rw [isS, keys, ← isS, h.val q]
    unfold putL
    by_cases z : q = p
    · subst z; rw [h.mem _ _ _ hm]; simp
    · simp [z]
  · unfold putL
    obtain ⟨kv0, h0, e0⟩ := List.mem_map.mp hq
    obtain ⟨q0, i0, zs0, rfl⟩ := h.all kv0 h0
    dsimp only at e0
    split at e0
    · rename_i hj
      have hj : i0 = j := by simpa [Sub.isJ] using hj
      obtain ⟨e1, _⟩ := only _ _ _ h0 hj
      cases e0
      rw [if_pos e1]
    · rename_i hj
      cases e0
      have hij : i ≠ j := fun z => hj (by subst z; exact isJ_l)
      by_cases z : q = p
      · subst z
        have := mem_valS h.ks h0
        rw [mem_valS h.ks hm] at this
        cases this
        exact absurd rfl hij
      · rw [if_neg z]; exact h.mem _ _ _ h0
end L2.Ev
set_option maxHeartbeats 4000000
namespace L2.Ev
open PySem PySem.Spec PyProof.Rows
section
variable {X : Cx} {tg : Expr}
end
end L2.Ev
set_option maxHeartbeats 1000000
namespace L2.Ev
open PySem
theorem allGR_of {t : Tg} {e : SE} {ρ0 : Rho} {ok : Mu → Prop} {Q : Bool → Mu → Prop} (I : List PyData → Mu → Prop) (hok : ∀ xs μ, I xs μ → ok μ) (hn : ∀ μ, I [] μ → Q true μ)
    (hs : ∀ x xs μ (R : Mu → Prop), (∀ μ, I xs μ → R μ) → I (x :: xs) μ → ∃ ρ2, bindT t x ρ0 = some ρ2 ∧ e ρ2 μ fun y μ1 => match y with
        | .p (.bool b) => if b = true then R μ1 else Q false μ1
        | _ => False) : ∀ xs μ, I xs μ → allGR t e ρ0 ok Q xs μ
  | [], μ, h => ⟨hok _ _ h, hn μ h⟩
  | x :: xs, μ, h => by
    obtain ⟨ρ2, e1, q⟩ := hs x xs μ _ (fun μ' h' => allGR_of I hok hn hs xs μ' h') h
    refine ⟨hok _ _ h, ?_⟩
    rw [e1]
    exact q
def KI (kvs : List (Key × PyData)) : Prop := ∃ ps : List Int, kvs.map (·.1) = ps.map Sum.inl ∧ ps.Nodup
theorem valD_some {kvs : List (Key × PyData)} {k : Key} : (valD kvs k).isSome = true ↔ k ∈ kvs.map (·.1) := by
  unfold valD
  rw [Option.isSome_map, List.find?_isSome, List.mem_map]
  exact ⟨fun ⟨x, h1, h2⟩ => ⟨x, h1, by simpa using h2⟩, fun ⟨x, h1, h2⟩ => ⟨x, h1, by simpa using h2⟩⟩
theorem inl_mem {ps : List Int} {p : Int} : (Sum.inl p : Key) ∈ ps.map Sum.inl ↔ p ∈ ps := by
  rw [List.mem_map]
  exact ⟨fun ⟨x, h1, h2⟩ => by injection h2 with h2; exact h2 ▸ h1, fun h => ⟨p, h, rfl⟩⟩
theorem KI.nil : KI [] := ⟨[], rfl, .nil⟩
theorem KI.one (p : Int) (d : PyData) : KI [(.inl p, d)] := ⟨[p], rfl, by simp⟩
theorem KI.put {kvs : List (Key × PyData)} (h : KI kvs) (p : Int) (d : PyData) : KI (putD kvs (.inl p) d) := by
  obtain ⟨ps, e, nd⟩ := h
  have any : (kvs.any fun kv => decide (kv.1 = Sum.inl p)) = true ↔ (Sum.inl p : Key) ∈ kvs.map (·.1) := by
    rw [List.any_eq_true, List.mem_map]
    exact ⟨fun ⟨x, h1, h2⟩ => ⟨x, h1, by simpa using h2⟩, fun ⟨x, h1, h2⟩ => ⟨x, h1, by simpa using h2⟩⟩
  unfold putD
  split
  · refine ⟨ps, ?_, nd⟩
    rw [← e, List.map_map]
    apply List.map_congr_left; intro kv _; simp only [Function.comp_apply]; split <;> simp_all
  · rename_i h
    have hn : p ∉ ps := fun z => h (any.mpr (by rw [e]; exact inl_mem.mpr z))
    refine ⟨ps ++ [p], by rw [List.map_append, List.map_append, e]; rfl, ?_⟩
    rw [List.nodup_append]
    exact ⟨nd, by simp, fun a ha b hb z => by simp at hb; subst hb; subst z; exact hn ha⟩
theorem KI.keys {kvs : List (Key × PyData)} (h : KI kvs) : ∃ ps : List Int, kvs.map (·.1) = ps.map Sum.inl ∧ ps.Nodup ∧ ∀ p, p ∈ ps ↔ (valD kvs (.inl p)).isSome = true := by
  obtain ⟨ps, e, nd⟩ := h
  exact ⟨ps, e, nd, fun p => by rw [valD_some, e, inl_mem]⟩
end L2.Ev
set_option maxHeartbeats 4000000
namespace L2.Ev
open PySem PySem.Spec PyProof.Rows
def oEqE : O2 := fun x y μ Q => match x, y with
  | .p (.list xs), .p (.list []) => Q (.p (.bool xs.isEmpty)) μ
  | _, _ => False
theorem go_eqE {X : Cx} (hu : X.A.units + 64 < cLine) : GO X (compareOp .Eq) oEqE := ⟨fun pins s σ H x y v u Q I rx ry ⟨as, μ, w1, w2, Q0, S, r1, r2, q, A⟩ => by
  unfold oEqE at q
  split at q
  · rename_i xs
    have r1 : Dz X.K as H x (.list xs) := r1
    have r2 : Dz X.K as H y (.list []) := r2
    cases r1 with
    | lst t1 d1 =>
      cases r2 with
      | lst t2 d2 =>
        cases d2
        cases rx
        cases ry
        obtain ⟨i1, v1, ⟨o1, n1, e1, c1, _, h1⟩, _⟩ := I.list t1.sq
        obtain ⟨i2, v2, ⟨o2, n2, e2, c2, _, h2⟩, _⟩ := I.list t2.sq
        cases v2
        have hl : i1.length = xs.length := by rw [← v1.length, d1.length]
        cases xs with
        | nil =>
          simp at hl
          subst hl
          refine (SeqAt.RcAt.lists (A := X.A) (e := fun _ => true) ⟨o1, e1, c1, n1, h1⟩ ⟨o2, e2, c2, n2, h2⟩ rfl (by omega) (fun j _ h => by simp at h)) X.prog X.w X.xe _ ⟨.bl _, H, I, rfl, ?_⟩
          exact A.now S q (Dz.bl _)
        | cons a l =>
          cases i1 with
          | nil => simp at hl
          | cons b m =>
            refine (SeqAt.RcAt.lists_lengths (A := X.A) ⟨o1, e1, c1, n1, h1⟩ ⟨o2, e2, c2, n2, h2⟩ (by simp) (by omega)) X.prog X.w X.xe _ ⟨.bl _, H, I, rfl, ?_⟩
            exact A.now S q (Dz.bl _)
  · exact q.elim⟩
end L2.Ev
set_option maxHeartbeats 4000000
namespace K02
open PySem L2 L2.Ev
def top (i : Nat) : Stmt := PySem.Challenge.pw_meetways_k02_what_is_a_net.main.body.getD i (.Pass ⟨0, 0, 0, 0⟩)
abbrev s_is_whole : Stmt := top 1
abbrev s__law_deck : Stmt := top 8
abbrev s__law_draw : Stmt := top 9
abbrev s__law_is_whole : Stmt := top 15
abbrev s_is_number_below : Stmt := top 2
abbrev s__law_far : Stmt := top 10
abbrev s__law_many : Stmt := top 13
abbrev s__law_is_meeting : Stmt := top 16
abbrev s__law_odd : Stmt := top 18
abbrev s_is_meeting : Stmt := top 5
abbrev s__law_begin : Stmt := top 11
abbrev s__law_is_net : Stmt := top 17
abbrev s__law_bent_row : Stmt := top 20
abbrev s__law_meeting : Stmt := top 12
abbrev s__law_net : Stmt := top 14
abbrev s_is_net : Stmt := top 6
abbrev s__law_told : Stmt := top 21
abbrev s__law_long_right : Stmt := top 23
abbrev s__law_bent : Stmt := top 19
abbrev s__law_things : Stmt := top 22
abbrev s_law : Stmt := top 24
abbrev N_is_whole : List Str := ["thing"]
abbrev P_is_whole : List Str := ["thing"]
theorem sc_is_whole : FnScope N_is_whole P_is_whole (defScope s_is_whole) := ⟨rfl, rfl, rfl, by decide +kernel, rfl, by decide +kernel, by decide +kernel⟩
abbrev N__law_deck : List Str := ["_law_cell"]
abbrev P__law_deck : List Str := ["_law_cell"]
theorem sc__law_deck : FnScope N__law_deck P__law_deck (defScope s__law_deck) := ⟨rfl, rfl, rfl, by decide +kernel, rfl, by decide +kernel, by decide +kernel⟩
abbrev N__law_draw : List Str := ["_law_deck_here", "_law_most", "_law_got", "_law_mixed"]
abbrev P__law_draw : List Str := ["_law_deck_here", "_law_most"]
theorem sc__law_draw : FnScope N__law_draw P__law_draw (defScope s__law_draw) := ⟨rfl, rfl, rfl, by decide +kernel, rfl, by decide +kernel, by decide +kernel⟩
abbrev N__law_is_whole : List Str := ["_law_thing", "_law_least"]
abbrev P__law_is_whole : List Str := ["_law_thing", "_law_least"]
theorem sc__law_is_whole : FnScope N__law_is_whole P__law_is_whole (defScope s__law_is_whole) := ⟨rfl, rfl, rfl, by decide +kernel, rfl, by decide +kernel, by decide +kernel⟩
abbrev N_is_number_below : List Str := ["many", "thing"]
abbrev P_is_number_below : List Str := ["many", "thing"]
theorem sc_is_number_below : FnScope N_is_number_below P_is_number_below (defScope s_is_number_below) := ⟨rfl, rfl, rfl, by decide +kernel, rfl, by decide +kernel, by decide +kernel⟩
abbrev N__law_far : List Str := ["_law_deck_here", "_law_way", "_law_far_here"]
abbrev P__law_far : List Str := ["_law_deck_here"]
theorem sc__law_far : FnScope N__law_far P__law_far (defScope s__law_far) := ⟨rfl, rfl, rfl, by decide +kernel, rfl, by decide +kernel, by decide +kernel⟩
abbrev N__law_many : List Str := ["_law_deck_here"]
abbrev P__law_many : List Str := ["_law_deck_here"]
theorem sc__law_many : FnScope N__law_many P__law_many (defScope s__law_many) := ⟨rfl, rfl, rfl, by decide +kernel, rfl, by decide +kernel, by decide +kernel⟩
abbrev N__law_is_meeting : List Str := ["_law_many_here", "_law_thing", "_law_one"]
abbrev P__law_is_meeting : List Str := ["_law_many_here", "_law_thing"]
theorem sc__law_is_meeting : FnScope N__law_is_meeting P__law_is_meeting (defScope s__law_is_meeting) := ⟨rfl, rfl, rfl, by decide +kernel, rfl, by decide +kernel, by decide +kernel⟩
abbrev N__law_odd : List Str := ["_law_deck_here", "_law_deep", "_law_k", "_law_some"]
abbrev P__law_odd : List Str := ["_law_deck_here"]
theorem sc__law_odd : FnScope N__law_odd P__law_odd (defScope s__law_odd) := ⟨rfl, rfl, rfl, by decide +kernel, rfl, by decide +kernel, by decide +kernel⟩
abbrev N_is_meeting : List Str := ["many", "thing", "word", "one", "other", "begin", "long"]
abbrev P_is_meeting : List Str := ["many", "thing"]
theorem sc_is_meeting : FnScope N_is_meeting P_is_meeting (defScope s_is_meeting) := ⟨rfl, rfl, rfl, by decide +kernel, rfl, by decide +kernel, by decide +kernel⟩
abbrev N__law_begin : List Str := ["_law_deck_here", "_law_way", "_law_meetings", "_law_some"]
abbrev P__law_begin : List Str := ["_law_deck_here", "_law_way", "_law_meetings"]
theorem sc__law_begin : FnScope N__law_begin P__law_begin (defScope s__law_begin) := ⟨rfl, rfl, rfl, by decide +kernel, rfl, by decide +kernel, by decide +kernel⟩
abbrev N__law_is_net : List Str := ["_law_thing", "_law_one"]
abbrev P__law_is_net : List Str := ["_law_thing"]
theorem sc__law_is_net : FnScope N__law_is_net P__law_is_net (defScope s__law_is_net) := ⟨rfl, rfl, rfl, by decide +kernel, rfl, by decide +kernel, by decide +kernel⟩
abbrev N__law_bent_row : List Str := ["_law_deck_here", "_law_thing", "_law_way", "_law_at"]
abbrev P__law_bent_row : List Str := ["_law_deck_here", "_law_thing"]
theorem sc__law_bent_row : FnScope N__law_bent_row P__law_bent_row (defScope s__law_bent_row) := ⟨rfl, rfl, rfl, by decide +kernel, rfl, by decide +kernel, by decide +kernel⟩
abbrev N__law_meeting : List Str := ["_law_deck_here", "_law_many_here", "_law_meetings", "_law_way", "_law_again", "_law_chained", "_law_word", "_law_one", "_law_other", "_law_begin_here", "_law_long"]
abbrev P__law_meeting : List Str := ["_law_deck_here", "_law_many_here", "_law_meetings", "_law_way"]
theorem sc__law_meeting : FnScope N__law_meeting P__law_meeting (defScope s__law_meeting) := ⟨rfl, rfl, rfl, by decide +kernel, rfl, by decide +kernel, by decide +kernel⟩
abbrev N__law_net : List Str := ["_law_deck_here", "_law_way", "_law_great", "_law_many_here", "_law_meetings", "_law_k"]
abbrev P__law_net : List Str := ["_law_deck_here"]
theorem sc__law_net : FnScope N__law_net P__law_net (defScope s__law_net) := ⟨rfl, rfl, rfl, by decide +kernel, rfl, by decide +kernel, by decide +kernel⟩
abbrev N_is_net : List Str := ["thing", "many", "meetings", "meeting"]
abbrev P_is_net : List Str := ["thing"]
theorem sc_is_net : FnScope N_is_net P_is_net (defScope s_is_net) := ⟨rfl, rfl, rfl, by decide +kernel, rfl, by decide +kernel, by decide +kernel⟩
abbrev N__law_told : List Str := ["_law_thing", "_law_due", "_law_turn", "_law_found"]
abbrev P__law_told : List Str := ["_law_thing"]
theorem sc__law_told : FnScope N__law_told P__law_told (defScope s__law_told) := ⟨rfl, rfl, rfl, by decide +kernel, rfl, by decide +kernel, by decide +kernel⟩
abbrev N__law_long_right : List Str := ["_law_deck_here", "_law_long", "_law_at", "_law_wrong"]
abbrev P__law_long_right : List Str := ["_law_deck_here"]
theorem sc__law_long_right : FnScope N__law_long_right P__law_long_right (defScope s__law_long_right) := ⟨rfl, rfl, rfl, by decide +kernel, rfl, by decide +kernel, by decide +kernel⟩
abbrev N__law_bent : List Str := ["_law_deck_here", "_law_thing", "_law_way", "_law_last", "_law_at"]
abbrev P__law_bent : List Str := ["_law_deck_here", "_law_thing"]
theorem sc__law_bent : FnScope N__law_bent P__law_bent (defScope s__law_bent) := ⟨rfl, rfl, rfl, by decide +kernel, rfl, by decide +kernel, by decide +kernel⟩
abbrev N__law_things : List Str := ["_law_deck_here", "_law_net_here", "_law_many_here", "_law_meetings", "_law_some", "_law_more", "_law_k", "_law_bent_here"]
abbrev P__law_things : List Str := ["_law_deck_here", "_law_net_here"]
theorem sc__law_things : FnScope N__law_things P__law_things (defScope s__law_things) := ⟨rfl, rfl, rfl, by decide +kernel, rfl, by decide +kernel, by decide +kernel⟩
abbrev N_law : List Str := ["_law_script", "_law_cell", "_law_deck_here", "_law_net_here", "_law_thing"]
abbrev P_law : List Str := ["_law_script"]
theorem sc_law : FnScope N_law P_law (defScope s_law) := ⟨rfl, rfl, rfl, by decide +kernel, rfl, by decide +kernel, by decide +kernel⟩
structure Ad where
  f_is_whole : Addr
  d_is_whole : FuncData
  f__law_deck : Addr
  d__law_deck : FuncData
  f__law_draw : Addr
  d__law_draw : FuncData
  f__law_is_whole : Addr
  d__law_is_whole : FuncData
  f_is_number_below : Addr
  d_is_number_below : FuncData
  f__law_far : Addr
  d__law_far : FuncData
  f__law_many : Addr
  d__law_many : FuncData
  f__law_is_meeting : Addr
  d__law_is_meeting : FuncData
  f__law_odd : Addr
  d__law_odd : FuncData
  f_is_meeting : Addr
  d_is_meeting : FuncData
  f__law_begin : Addr
  d__law_begin : FuncData
  f__law_is_net : Addr
  d__law_is_net : FuncData
  f__law_bent_row : Addr
  d__law_bent_row : FuncData
  f__law_meeting : Addr
  d__law_meeting : FuncData
  f__law_net : Addr
  d__law_net : FuncData
  f_is_net : Addr
  d_is_net : FuncData
  f__law_told : Addr
  d__law_told : FuncData
  f__law_long_right : Addr
  d__law_long_right : FuncData
  f__law_bent : Addr
  d__law_bent : FuncData
  f__law_things : Addr
  d__law_things : FuncData
  f_law : Addr
  d_law : FuncData
structure Tx (K : PySem.W.Frag) (mg : Str → Option Value) (a : Ad) : Prop where
  F_is_whole : Fun K "is_whole" "is_whole" s_is_whole a.f_is_whole a.d_is_whole
  m_is_whole : mg "is_whole" = some (.ref a.f_is_whole)
  B_is_whole : Binds K a.d_is_whole P_is_whole []
  F__law_deck : Fun K "_law_deck" "_law_deck" s__law_deck a.f__law_deck a.d__law_deck
  m__law_deck : mg "_law_deck" = some (.ref a.f__law_deck)
  B__law_deck : Binds K a.d__law_deck P__law_deck []
  F__law_draw : Fun K "_law_draw" "_law_draw" s__law_draw a.f__law_draw a.d__law_draw
  m__law_draw : mg "_law_draw" = some (.ref a.f__law_draw)
  B__law_draw : Binds K a.d__law_draw P__law_draw []
  F__law_is_whole : Fun K "_law_is_whole" "_law_is_whole" s__law_is_whole a.f__law_is_whole a.d__law_is_whole
  m__law_is_whole : mg "_law_is_whole" = some (.ref a.f__law_is_whole)
  B__law_is_whole : Binds K a.d__law_is_whole P__law_is_whole []
  F_is_number_below : Fun K "is_number_below" "is_number_below" s_is_number_below a.f_is_number_below a.d_is_number_below
  m_is_number_below : mg "is_number_below" = some (.ref a.f_is_number_below)
  B_is_number_below : Binds K a.d_is_number_below P_is_number_below []
  F__law_far : Fun K "_law_far" "_law_far" s__law_far a.f__law_far a.d__law_far
  m__law_far : mg "_law_far" = some (.ref a.f__law_far)
  B__law_far : Binds K a.d__law_far P__law_far []
  F__law_many : Fun K "_law_many" "_law_many" s__law_many a.f__law_many a.d__law_many
  m__law_many : mg "_law_many" = some (.ref a.f__law_many)
  B__law_many : Binds K a.d__law_many P__law_many []
  F__law_is_meeting : Fun K "_law_is_meeting" "_law_is_meeting" s__law_is_meeting a.f__law_is_meeting a.d__law_is_meeting
  m__law_is_meeting : mg "_law_is_meeting" = some (.ref a.f__law_is_meeting)
  B__law_is_meeting : Binds K a.d__law_is_meeting P__law_is_meeting []
  F__law_odd : Fun K "_law_odd" "_law_odd" s__law_odd a.f__law_odd a.d__law_odd
  m__law_odd : mg "_law_odd" = some (.ref a.f__law_odd)
  B__law_odd : Binds K a.d__law_odd P__law_odd []
  F_is_meeting : Fun K "is_meeting" "is_meeting" s_is_meeting a.f_is_meeting a.d_is_meeting
  m_is_meeting : mg "is_meeting" = some (.ref a.f_is_meeting)
  B_is_meeting : Binds K a.d_is_meeting P_is_meeting []
  F__law_begin : Fun K "_law_begin" "_law_begin" s__law_begin a.f__law_begin a.d__law_begin
  m__law_begin : mg "_law_begin" = some (.ref a.f__law_begin)
  B__law_begin : Binds K a.d__law_begin P__law_begin []
  F__law_is_net : Fun K "_law_is_net" "_law_is_net" s__law_is_net a.f__law_is_net a.d__law_is_net
  m__law_is_net : mg "_law_is_net" = some (.ref a.f__law_is_net)
  B__law_is_net : Binds K a.d__law_is_net P__law_is_net []
  F__law_bent_row : Fun K "_law_bent_row" "_law_bent_row" s__law_bent_row a.f__law_bent_row a.d__law_bent_row
  m__law_bent_row : mg "_law_bent_row" = some (.ref a.f__law_bent_row)
  B__law_bent_row : Binds K a.d__law_bent_row P__law_bent_row []
  F__law_meeting : Fun K "_law_meeting" "_law_meeting" s__law_meeting a.f__law_meeting a.d__law_meeting
  m__law_meeting : mg "_law_meeting" = some (.ref a.f__law_meeting)
  B__law_meeting : Binds K a.d__law_meeting P__law_meeting []
  F__law_net : Fun K "_law_net" "_law_net" s__law_net a.f__law_net a.d__law_net
  m__law_net : mg "_law_net" = some (.ref a.f__law_net)
  B__law_net : Binds K a.d__law_net P__law_net []
  F_is_net : Fun K "is_net" "is_net" s_is_net a.f_is_net a.d_is_net
  m_is_net : mg "is_net" = some (.ref a.f_is_net)
  B_is_net : Binds K a.d_is_net P_is_net []
  F__law_told : Fun K "_law_told" "_law_told" s__law_told a.f__law_told a.d__law_told
  m__law_told : mg "_law_told" = some (.ref a.f__law_told)
  B__law_told : Binds K a.d__law_told P__law_told []
  F__law_long_right : Fun K "_law_long_right" "_law_long_right" s__law_long_right a.f__law_long_right a.d__law_long_right
  m__law_long_right : mg "_law_long_right" = some (.ref a.f__law_long_right)
  B__law_long_right : Binds K a.d__law_long_right P__law_long_right []
  F__law_bent : Fun K "_law_bent" "_law_bent" s__law_bent a.f__law_bent a.d__law_bent
  m__law_bent : mg "_law_bent" = some (.ref a.f__law_bent)
  B__law_bent : Binds K a.d__law_bent P__law_bent []
  F__law_things : Fun K "_law_things" "_law_things" s__law_things a.f__law_things a.d__law_things
  m__law_things : mg "_law_things" = some (.ref a.f__law_things)
  B__law_things : Binds K a.d__law_things P__law_things []
  F_law : Fun K "law" "law" s_law a.f_law a.d_law
  m_law : mg "law" = some (.ref a.f_law)
  B_law : Binds K a.d_law P_law []
  z_all : mg "all" = none
  z_bool : mg "bool" = none
  z_int : mg "int" = none
  z_isinstance : mg "isinstance" = none
  z_len : mg "len" = none
  z_list : mg "list" = none
  z_max : mg "max" = none
  z_min : mg "min" = none
  z_range : mg "range" = none
  z_str : mg "str" = none
  z_tuple : mg "tuple" = none
  g_WORDS : ∃ u, mg "WORDS" = some u ∧ TupK K u ["to", "both"]
  t_is_net : ∃ P, tabK K a.d_is_net.code = some P
section
variable {P : Program} {w : World} {K : PySem.W.Frag} {mg : Str → Option Value} {base : Heap} {a : Ad}
def b_is_whole : SS :=
  sRet (wAndV (wCall cIsi (aCons (wVar 0) (aCons (wTy "int") (aNil)))) (wNotV (wCall cIsi (aCons (wVar 0) (aCons (wTy "bool") (aNil))))))
theorem ok_is_whole (T : Tx K mg a) : FnOk P w K mg base CX0 1 a.f_is_whole a.d_is_whole P_is_whole (rdSp K (spBody N_is_whole 1 (b_is_whole))) :=
  Fun.okW T.F_is_whole sc_is_whole fun cdv A outer s H E hr hcd =>
    gb_one (gs_ret (ge_and (ge_callB (gc_isi) rfl T.z_isinstance (by decide +kernel) (ga_cons (ge_var (pv 0)) (ga_cons (ge_ty rfl T.z_int (by decide +kernel)) (ga_nil)))) (ge_one (ge_not (ge_callB (gc_isi) rfl T.z_isinstance (by decide +kernel) (ga_cons (ge_var (pv 0)) (ga_cons (ge_ty rfl T.z_bool (by decide +kernel)) (ga_nil))))))))
def b__law_deck : SS :=
  sRet (wNew (aCons (wOp oMul (wVar 0) (wCall cInt (aCons (wOp oGe (wVar 0) (wOp oPow (wC (.int 10)) (wC (.int 18)))) (aNil)))) (aCons (wOp oMod (wVar 0) (wC (.int 2147483629))) (aCons (wC (.int 0)) (aNil)))))
theorem ok__law_deck (T : Tx K mg a) : FnOk P w K mg base CX0 1 a.f__law_deck a.d__law_deck P__law_deck (rdSp K (spBody N__law_deck 1 (b__law_deck))) :=
  Fun.okW T.F__law_deck sc__law_deck fun cdv A outer s H E hr hcd =>
    gb_one (gs_ret (ge_new (ga_cons (ge_op go_mul (ge_var (pv 0)) (ge_callTy gc_int rfl T.z_int (by decide +kernel) (ga_cons (ge_cmp go_ge (ge_var (pv 0)) (ge_op go_pow (ge_int) (ge_int)) (nomark _)) (ga_nil)))) (ga_cons (ge_op go_mod (ge_var (pv 0)) (ge_int)) (ga_cons (ge_int) (ga_nil))))))
def b__law_draw : SS :=
  sSeq (sIf (wTest (wOp oGt (wOp oIx (wVar 0) (wC (.int 0))) (wC (.int 0)))) (sSeq (sSet 2 (wOp oMod (wOp oIx (wVar 0) (wC (.int 0))) (wVar 1))) (sSeq (sAsg (wOp oDiv (wOp oIx (wVar 0) (wC (.int 0))) (wVar 1)) (nSub (wVar 0) (wC (.int 0)))) (sRet (wVar 2)))) (sNext)) (sSeq (sAsg (wOp oAdd (wOp oIx (wVar 0) (wC (.int 2))) (wC (.int 1))) (nSub (wVar 0) (wC (.int 2)))) (sSeq (sSet 3 (wOp oMod (wOp oMul (wOp oAdd (wOp oAdd (wOp oIx (wVar 0) (wC (.int 1))) (wOp oMul (wOp oMul (wC (.int 7919)) (wOp oIx (wVar 0) (wC (.int 2)))) (wOp oIx (wVar 0) (wC (.int 2))))) (wC (.int 13))) (wC (.int 48271))) (wC (.int 2147483647)))) (sSeq (sSet 3 (wOp oMod (wOp oMul (wVar 3) (wOp oAdd (wVar 3) (wC (.int 69621)))) (wC (.int 2147483587)))) (sRet (wOp oMod (wOp oDiv (wOp oMod (wOp oMul (wVar 3) (wC (.int 39373))) (wC (.int 2147483563))) (wC (.int 64))) (wVar 1))))))
theorem ok__law_draw (T : Tx K mg a) : FnOk P w K mg base CX0 1 a.f__law_draw a.d__law_draw P__law_draw (rdSp K (spBody N__law_draw 2 (b__law_draw))) :=
  Fun.okW T.F__law_draw sc__law_draw fun cdv A outer s H E hr hcd =>
    gb_cons (gs_if (gt_cmp go_gt (ge_ix gi_ix (ge_var (pv 0)) (ge_int) (fun _ _ => rfl)) (ge_int) (nomark _)) (gb_cons (gs_set (i := 2) sc__law_draw.nd rfl (by first | exact Or.inl rfl | exact Or.inr rfl) (ge_op go_mod (ge_ix gi_ix (ge_var (pv 0)) (ge_int) (fun _ _ => rfl)) (ge_var (pv 1)))) (gb_cons (gs_asg (ge_op go_div (ge_ix gi_ix (ge_var (pv 0)) (ge_int) (fun _ _ => rfl)) (ge_var (pv 1))) (gg_sub (ge_var (pv 0)) (ge_int))) (gb_one (gs_ret (ge_var (pv 2)))))) (gb_nil)) (gb_cons (gs_asg (ge_op go_add (ge_ix gi_ix (ge_var (pv 0)) (ge_int) (fun _ _ => rfl)) (ge_int)) (gg_sub (ge_var (pv 0)) (ge_int))) (gb_cons (gs_set (i := 3) sc__law_draw.nd rfl (by first | exact Or.inl rfl | exact Or.inr rfl) (ge_op go_mod (ge_op go_mul (ge_op go_add (ge_op go_add (ge_ix gi_ix (ge_var (pv 0)) (ge_int) (fun _ _ => rfl)) (ge_op go_mul (ge_op go_mul (ge_int) (ge_ix gi_ix (ge_var (pv 0)) (ge_int) (fun _ _ => rfl))) (ge_ix gi_ix (ge_var (pv 0)) (ge_int) (fun _ _ => rfl)))) (ge_int)) (ge_int)) (ge_int))) (gb_cons (gs_set (i := 3) sc__law_draw.nd rfl (by first | exact Or.inl rfl | exact Or.inr rfl) (ge_op go_mod (ge_op go_mul (ge_var (pv 3)) (ge_op go_add (ge_var (pv 3)) (ge_int))) (ge_int))) (gb_one (gs_ret (ge_op go_mod (ge_op go_div (ge_op go_mod (ge_op go_mul (ge_var (pv 3)) (ge_int)) (ge_int)) (ge_int)) (ge_var (pv 1))))))))
def b__law_is_whole : SS :=
  sRet (wAndV (wCall cIsi (aCons (wVar 0) (aCons (wTy "int") (aNil)))) (wAndV (wNotV (wCall cIsi (aCons (wVar 0) (aCons (wTy "bool") (aNil))))) (wOp oGe (wVar 0) (wVar 1))))
theorem ok__law_is_whole (T : Tx K mg a) : FnOk P w K mg base CX0 1 a.f__law_is_whole a.d__law_is_whole P__law_is_whole (rdSp K (spBody N__law_is_whole 2 (b__law_is_whole))) :=
  Fun.okW T.F__law_is_whole sc__law_is_whole fun cdv A outer s H E hr hcd =>
    gb_one (gs_ret (ge_and (ge_callB (gc_isi) rfl T.z_isinstance (by decide +kernel) (ga_cons (ge_var (pv 0)) (ga_cons (ge_ty rfl T.z_int (by decide +kernel)) (ga_nil)))) (ge_and (ge_not (ge_callB (gc_isi) rfl T.z_isinstance (by decide +kernel) (ga_cons (ge_var (pv 0)) (ga_cons (ge_ty rfl T.z_bool (by decide +kernel)) (ga_nil))))) (ge_one (ge_cmp go_ge (ge_var (pv 0)) (ge_var (pv 1)) (nomark _))))))
def b_is_number_below (sp_is_whole : SpW) : SS :=
  sRet (wAndV (wCall sp_is_whole (aCons (wVar 1) (aNil))) (wChain oLe oLt (wC (.int 0)) (wVar 1) (wVar 0)))
theorem ok_is_number_below {sp_is_whole : SpW} (T : Tx K mg a) (G_is_whole : FnOk P w K mg base CX0 1 a.f_is_whole a.d_is_whole P_is_whole (rdSp K sp_is_whole)) : FnOk P w K mg base CX0 2 a.f_is_number_below a.d_is_number_below P_is_number_below (rdSp K (spBody N_is_number_below 2 (b_is_number_below sp_is_whole))) :=
  Fun.okW T.F_is_number_below sc_is_number_below fun cdv A outer s H E hr hcd =>
    gb_one (gs_ret (ge_and (ge_call G_is_whole (hr.mono (by decide)) rfl T.m_is_whole T.F_is_whole.kp T.B_is_whole pass0 (ga_cons (ge_var (pv 1)) (ga_nil))) (ge_one (ge_chain go_le go_lt (ge_int) (ge_var (pv 1)) (ge_var (pv 0))))))
def b__law_far (sp__law_draw : SpW) : SS :=
  sSeq (sSet 1 (wCall sp__law_draw (aCons (wVar 0) (aCons (wC (.int 4)) (aNil))))) (sSeq (sSet 2 (wOp oAdd (wOp oAdd (wOp oMul (wCall sp__law_draw (aCons (wVar 0) (aCons (wC (.int 10)) (aNil)))) (wOp oPow (wC (.int 10)) (wC (.int 12)))) (wOp oMul (wCall sp__law_draw (aCons (wVar 0) (aCons (wOp oPow (wC (.int 10)) (wC (.int 6))) (aNil)))) (wOp oPow (wC (.int 10)) (wC (.int 6))))) (wCall sp__law_draw (aCons (wVar 0) (aCons (wOp oPow (wC (.int 10)) (wC (.int 6))) (aNil)))))) (sRet (wOp oIx (wLst (aCons (wVar 2) (aCons (wVar 2) (aCons (wOp oPow (wC (.int 10)) (wC (.int 13))) (aCons (wOp oDiv (wVar 2) (wOp oPow (wC (.int 10)) (wC (.int 6)))) (aNil)))))) (wVar 1))))
theorem ok__law_far {sp__law_draw : SpW} (T : Tx K mg a) (G__law_draw : FnOk P w K mg base CX0 1 a.f__law_draw a.d__law_draw P__law_draw (rdSp K sp__law_draw)) : FnOk P w K mg base CX0 2 a.f__law_far a.d__law_far P__law_far (rdSp K (spBody N__law_far 1 (b__law_far sp__law_draw))) :=
  Fun.okW T.F__law_far sc__law_far fun cdv A outer s H E hr hcd =>
    gb_cons (gs_set (i := 1) sc__law_far.nd rfl (by first | exact Or.inl rfl | exact Or.inr rfl) (ge_call G__law_draw (hr.mono (by decide)) rfl T.m__law_draw T.F__law_draw.kp T.B__law_draw pass0 (ga_cons (ge_var (pv 0)) (ga_cons (ge_int) (ga_nil))))) (gb_cons (gs_set (i := 2) sc__law_far.nd rfl (by first | exact Or.inl rfl | exact Or.inr rfl) (ge_op go_add (ge_op go_add (ge_op go_mul (ge_call G__law_draw (hr.mono (by decide)) rfl T.m__law_draw T.F__law_draw.kp T.B__law_draw pass0 (ga_cons (ge_var (pv 0)) (ga_cons (ge_int) (ga_nil)))) (ge_op go_pow (ge_int) (ge_int))) (ge_op go_mul (ge_call G__law_draw (hr.mono (by decide)) rfl T.m__law_draw T.F__law_draw.kp T.B__law_draw pass0 (ga_cons (ge_var (pv 0)) (ga_cons (ge_op go_pow (ge_int) (ge_int)) (ga_nil)))) (ge_op go_pow (ge_int) (ge_int)))) (ge_call G__law_draw (hr.mono (by decide)) rfl T.m__law_draw T.F__law_draw.kp T.B__law_draw pass0 (ga_cons (ge_var (pv 0)) (ga_cons (ge_op go_pow (ge_int) (ge_int)) (ga_nil)))))) (gb_one (gs_ret (ge_ix gi_ix (ge_lst (ga_cons (ge_var (pv 2)) (ga_cons (ge_var (pv 2)) (ga_cons (ge_op go_pow (ge_int) (ge_int)) (ga_cons (ge_op go_div (ge_var (pv 2)) (ge_op go_pow (ge_int) (ge_int))) (ga_nil)))))) (ge_var (pv 1)) (fun _ _ => rfl)))))
def b__law_many (sp__law_draw : SpW) : SS :=
  sRet (wOp oIx (wLst (aCons (wOp oAdd (wC (.int 1)) (wCall sp__law_draw (aCons (wVar 0) (aCons (wC (.int 6)) (aNil))))) (aCons (wC (.int 10)) (aNil)))) (wCall cInt (aCons (wOp oEq (wCall sp__law_draw (aCons (wVar 0) (aCons (wC (.int 8)) (aNil)))) (wC (.int 5))) (aNil))))
theorem ok__law_many {sp__law_draw : SpW} (T : Tx K mg a) (G__law_draw : FnOk P w K mg base CX0 1 a.f__law_draw a.d__law_draw P__law_draw (rdSp K sp__law_draw)) : FnOk P w K mg base CX0 2 a.f__law_many a.d__law_many P__law_many (rdSp K (spBody N__law_many 1 (b__law_many sp__law_draw))) :=
  Fun.okW T.F__law_many sc__law_many fun cdv A outer s H E hr hcd =>
    gb_one (gs_ret (ge_ix gi_ix (ge_lst (ga_cons (ge_op go_add (ge_int) (ge_call G__law_draw (hr.mono (by decide)) rfl T.m__law_draw T.F__law_draw.kp T.B__law_draw pass0 (ga_cons (ge_var (pv 0)) (ga_cons (ge_int) (ga_nil))))) (ga_cons (ge_int) (ga_nil)))) (ge_callTy gc_int rfl T.z_int (by decide +kernel) (ga_cons (ge_cmp (go_eq hr.units) (ge_call G__law_draw (hr.mono (by decide)) rfl T.m__law_draw T.F__law_draw.kp T.B__law_draw pass0 (ga_cons (ge_var (pv 0)) (ga_cons (ge_int) (ga_nil)))) (ge_int) (nomark _)) (ga_nil))) (fun _ _ => rfl)))
def b__law_is_meeting (sp__law_is_whole : SpW) : SS :=
  sSeq (sIf (wOr (wNot (wTest (wCall cIsi (aCons (wVar 1) (aCons (wTy "tuple") (aNil)))))) (wOr (wTest (wOp oNe (wCall cLen (aCons (wVar 1) (aNil))) (wC (.int 5)))) (wNot (wTest (wCall cIsi (aCons (wOp oIx (wVar 1) (wC (.int 0))) (aCons (wTy "str") (aNil)))))))) (sRet (wC (.bool false))) (sNext)) (sSeq (sIf (wOr (wTest (wOp oNotInS (wOp oIx (wVar 1) (wC (.int 0))) (wTup (aCons (wC (.str "to")) (aCons (wC (.str "both")) (aNil)))))) (wTest (wOp oNeE (wLc (iSeq (wSl oSl (wVar 1) (wP (wC (.int 1))) (wP (wC (.int 4))))) (.nm 2) (wNot (wTest (wCall sp__law_is_whole (aCons (wVar 2) (aCons (wC (.int 0)) (aNil)))))) (wVar 2) [2]) (wLst (aNil))))) (sRet (wC (.bool false))) (sNext)) (sSeq (sIf (wOr (wTest (wOp oGe (wOp oIx (wVar 1) (wC (.int 1))) (wVar 0))) (wOr (wTest (wOp oGe (wOp oIx (wVar 1) (wC (.int 2))) (wVar 0))) (wTest (wOp oEq (wOp oIx (wVar 1) (wC (.int 1))) (wOp oIx (wVar 1) (wC (.int 2))))))) (sRet (wC (.bool false))) (sNext)) (sRet (wCall sp__law_is_whole (aCons (wOp oIx (wVar 1) (wC (.int 4))) (aCons (wC (.int 1)) (aNil)))))))
theorem ok__law_is_meeting {sp__law_is_whole : SpW} (T : Tx K mg a) (G__law_is_whole : FnOk P w K mg base CX0 1 a.f__law_is_whole a.d__law_is_whole P__law_is_whole (rdSp K sp__law_is_whole)) : FnOk P w K mg base CX0 2 a.f__law_is_meeting a.d__law_is_meeting P__law_is_meeting (rdSp K (spBody N__law_is_meeting 2 (b__law_is_meeting sp__law_is_whole))) :=
  Fun.okW T.F__law_is_meeting sc__law_is_meeting fun cdv A outer s H E hr hcd =>
    gb_cons (gs_if (GW.gt (gw_or (gt_not (gt_val (ge_callB (gc_isi) rfl T.z_isinstance (by decide +kernel) (ga_cons (ge_var (pv 1)) (ga_cons (ge_ty rfl T.z_tuple (by decide +kernel)) (ga_nil)))))) (gw_or (gt_cmp (go_ne hr.units) (ge_callB (gc_len) rfl T.z_len (by decide +kernel) (ga_cons (ge_var (pv 1)) (ga_nil))) (ge_int) (nomark _)) (gw_or1 (gt_not (gt_val (ge_callB (gc_isi) rfl T.z_isinstance (by decide +kernel) (ga_cons (ge_ix gi_ix (ge_var (pv 1)) (ge_int) (fun _ _ => rfl)) (ga_cons (ge_ty rfl T.z_str (by decide +kernel)) (ga_nil)))))))))) (gb_one (gs_ret (ge_bl))) (gb_nil)) (gb_cons (gs_if (GW.gt (gw_or (gt_cmp (go_notInS hr.units) (ge_ix gi_ix (ge_var (pv 1)) (ge_int) (fun _ _ => rfl)) (ge_tup (ga_cons (ge_str) (ga_cons (ge_str) (ga_nil)))) (by with_unfolding_all rfl)) (gw_or1 (gt_cmp (go_neE hr.units) (ge_lc (own := [("_law_one", 2)]) (t := .nm 2) rfl sc__law_is_meeting.nd (gi_seq (ge_sl gl_sl (ge_var (pv 1)) (gp_some (ge_int)) (gp_some (ge_int)))) (blkOk_by (own := [("_law_one", 2)]) (N := N__law_is_meeting) (sc := defScope s__law_is_meeting) (by decide +kernel)) (fun _ _ _ _ _ => pg_name (i := 2) sc__law_is_meeting.nd rfl (Or.inl rfl)) (fun _ _ _ _ _ => gts_one (gt_not (gt_val (ge_call G__law_is_whole (hr.mono (by decide)) rfl T.m__law_is_whole T.F__law_is_whole.kp T.B__law_is_whole pass0 (ga_cons (ge_var (pv 2)) (ga_cons (ge_int) (ga_nil))))))) (fun _ _ _ _ _ => ge_var (pv 2)) (by decide)) (ge_lst (ga_nil)) (nomark _))))) (gb_one (gs_ret (ge_bl))) (gb_nil)) (gb_cons (gs_if (GW.gt (gw_or (gt_cmp go_ge (ge_ix gi_ix (ge_var (pv 1)) (ge_int) (fun _ _ => rfl)) (ge_var (pv 0)) (nomark _)) (gw_or (gt_cmp go_ge (ge_ix gi_ix (ge_var (pv 1)) (ge_int) (fun _ _ => rfl)) (ge_var (pv 0)) (nomark _)) (gw_or1 (gt_cmp (go_eq hr.units) (ge_ix gi_ix (ge_var (pv 1)) (ge_int) (fun _ _ => rfl)) (ge_ix gi_ix (ge_var (pv 1)) (ge_int) (fun _ _ => rfl)) (nomark _)))))) (gb_one (gs_ret (ge_bl))) (gb_nil)) (gb_one (gs_ret (ge_call G__law_is_whole (hr.mono (by decide)) rfl T.m__law_is_whole T.F__law_is_whole.kp T.B__law_is_whole pass0 (ga_cons (ge_ix gi_ix (ge_var (pv 1)) (ge_int) (fun _ _ => rfl)) (ga_cons (ge_int) (ga_nil))))))))
def b__law_odd (sp__law_draw : SpW) : SS :=
  sSeq (sSet 1 (wC (.int 1))) (sSeq (sFor (iRng (aCons (wC (.int 12)) (aNil))) (nName 2) (sSet 1 (wOp oIx (wLst (aCons (wTup (aCons (wVar 1) (aNil))) (aCons (wLst (aCons (wVar 1) (aNil))) (aCons (wFrz (wDict1 (wC (.str "a")) (wVar 1))) (aNil))))) (wCall sp__law_draw (aCons (wVar 0) (aCons (wC (.int 3)) (aNil))))))) (sSeq (sSet 3 (wLst (aCons (wC .none) (aCons (wC (.bool true)) (aCons (wC (.bool false)) (aCons (wC (.int 0)) (aCons (wC (.int 1)) (aCons (wC (.int 2)) (aCons (wNeg (wC (.int 1))) (aCons (wC (.int 10)) (aCons (wC (.int 11)) (aCons (wOp oAdd (wOp oPow (wC (.int 10)) (wC (.int 13))) (wC (.int 1))) (aCons (wOp oPow (wC (.int 10)) (wC (.int 39))) (aCons (wC (.str "")) (aCons (wC (.str "to")) (aCons (wC (.str "both")) (aCons (wC (.str "To")) (aCons (wC (.str "to ")) (aCons (wC (.str "0")) (aCons (wC (.str "tos")) (aNil))))))))))))))))))))) (sSeq (sSet 3 (wOp oAdd (wVar 3) (wLst (aCons (wTup (aNil)) (aCons (wTup (aCons (wC (.int 0)) (aNil))) (aCons (wTup (aCons (wC (.str "to")) (aCons (wC (.int 0)) (aCons (wC (.int 1)) (aCons (wC (.int 0)) (aCons (wC (.int 1)) (aNil))))))) (aCons (wLst (aNil)) (aCons (wLst (aCons (wC (.int 0)) (aNil))) (aCons (wFrz (wDict0)) (aCons (wFrz (wDict1 (wC (.str "to")) (wC (.int 0)))) (aCons (wTup (aCons (wTup (aNil)) (aNil))) (aCons (wVar 1) (aNil))))))))))))) (sRet (wOp oIx (wVar 3) (wCall sp__law_draw (aCons (wVar 0) (aCons (wCall cLen (aCons (wVar 3) (aNil))) (aNil)))))))))
theorem ok__law_odd {sp__law_draw : SpW} (T : Tx K mg a) (G__law_draw : FnOk P w K mg base CX0 1 a.f__law_draw a.d__law_draw P__law_draw (rdSp K sp__law_draw)) : FnOk P w K mg base CX0 2 a.f__law_odd a.d__law_odd P__law_odd (rdSp K (spBody N__law_odd 1 (b__law_odd sp__law_draw))) :=
  Fun.okW T.F__law_odd sc__law_odd fun cdv A outer s H E hr hcd =>
    gb_cons (gs_set (i := 1) sc__law_odd.nd rfl (by first | exact Or.inl rfl | exact Or.inr rfl) (ge_int)) (gb_cons (gs_for PassesOwn.never rfl (gi_rng rfl T.z_range (ga_cons (ge_int) (ga_nil))) (gg_name (pg_name (i := 2) sc__law_odd.nd rfl (by first | exact Or.inl rfl | exact Or.inr rfl))) (gb_one (gs_set (i := 1) sc__law_odd.nd rfl (by first | exact Or.inl rfl | exact Or.inr rfl) (ge_ix gi_ix (ge_lst (ga_cons (ge_tup (ga_cons (ge_var (pv 1)) (ga_nil))) (ga_cons (ge_lst (ga_cons (ge_var (pv 1)) (ga_nil))) (ga_cons (ge_frz (ge_dict1 (ge_str) (ge_var (pv 1)))) (ga_nil))))) (ge_call G__law_draw (hr.mono (by decide)) rfl T.m__law_draw T.F__law_draw.kp T.B__law_draw pass0 (ga_cons (ge_var (pv 0)) (ga_cons (ge_int) (ga_nil)))) (fun _ _ => rfl))))) (gb_cons (gs_set (i := 3) sc__law_odd.nd rfl (by first | exact Or.inl rfl | exact Or.inr rfl) (ge_lst (ga_cons (ge_non) (ga_cons (ge_bl) (ga_cons (ge_bl) (ga_cons (ge_int) (ga_cons (ge_int) (ga_cons (ge_int) (ga_cons (ge_neg (ge_int)) (ga_cons (ge_int) (ga_cons (ge_int) (ga_cons (ge_op go_add (ge_op go_pow (ge_int) (ge_int)) (ge_int)) (ga_cons (ge_op go_pow (ge_int) (ge_int)) (ga_cons (ge_str) (ga_cons (ge_str) (ga_cons (ge_str) (ga_cons (ge_str) (ga_cons (ge_str) (ga_cons (ge_str) (ga_cons (ge_str) (ga_nil))))))))))))))))))))) (gb_cons (gs_set (i := 3) sc__law_odd.nd rfl (by first | exact Or.inl rfl | exact Or.inr rfl) (ge_op go_add (ge_var (pv 3)) (ge_lst (ga_cons (ge_tup (ga_nil)) (ga_cons (ge_tup (ga_cons (ge_int) (ga_nil))) (ga_cons (ge_tup (ga_cons (ge_str) (ga_cons (ge_int) (ga_cons (ge_int) (ga_cons (ge_int) (ga_cons (ge_int) (ga_nil))))))) (ga_cons (ge_lst (ga_nil)) (ga_cons (ge_lst (ga_cons (ge_int) (ga_nil))) (ga_cons (ge_frz (ge_dict0)) (ga_cons (ge_frz (ge_dict1 (ge_str) (ge_int))) (ga_cons (ge_tup (ga_cons (ge_tup (ga_nil)) (ga_nil))) (ga_cons (ge_var (pv 1)) (ga_nil))))))))))))) (gb_one (gs_ret (ge_ix gi_ix (ge_var (pv 3)) (ge_call G__law_draw (hr.mono (by decide)) rfl T.m__law_draw T.F__law_draw.kp T.B__law_draw pass0 (ga_cons (ge_var (pv 0)) (ga_cons (ge_callB (gc_len) rfl T.z_len (by decide +kernel) (ga_cons (ge_var (pv 3)) (ga_nil))) (ga_nil)))) (fun _ _ => rfl)))))))
def b_is_meeting (sp_is_whole : SpW) (sp_is_number_below : SpW) : SS :=
  sSeq (sIf (wOr (wNot (wTest (wCall cIsi (aCons (wVar 1) (aCons (wTy "tuple") (aNil)))))) (wTest (wOp oNe (wCall cLen (aCons (wVar 1) (aNil))) (wC (.int 5))))) (sRet (wC (.bool false))) (sNext)) (sSeq (sAsg (wVar 1) (nTup 5 (nCons (nName 2) (nCons (nName 3) (nCons (nName 4) (nCons (nName 5) (nCons (nName 6) (nNil)))))))) (sSeq (sIf (wTest (wOp oNotInS (wVar 2) (wC (.tuple (txs ["to", "both"]))))) (sRet (wC (.bool false))) (sNext)) (sSeq (sIf (wOr (wNot (wTest (wCall sp_is_number_below (aCons (wVar 0) (aCons (wVar 3) (aNil)))))) (wOr (wNot (wTest (wCall sp_is_number_below (aCons (wVar 0) (aCons (wVar 4) (aNil)))))) (wTest (wOp oEq (wVar 3) (wVar 4))))) (sRet (wC (.bool false))) (sNext)) (sRet (wAndV (wCall sp_is_whole (aCons (wVar 5) (aNil))) (wAndV (wOp oGe (wVar 5) (wC (.int 0))) (wAndV (wCall sp_is_whole (aCons (wVar 6) (aNil))) (wOp oGe (wVar 6) (wC (.int 1))))))))))
theorem ok_is_meeting {sp_is_whole : SpW} {sp_is_number_below : SpW} (T : Tx K mg a) (G_is_whole : FnOk P w K mg base CX0 1 a.f_is_whole a.d_is_whole P_is_whole (rdSp K sp_is_whole)) (G_is_number_below : FnOk P w K mg base CX0 2 a.f_is_number_below a.d_is_number_below P_is_number_below (rdSp K sp_is_number_below)) : FnOk P w K mg base CX0 3 a.f_is_meeting a.d_is_meeting P_is_meeting (rdSp K (spBody N_is_meeting 2 (b_is_meeting sp_is_whole sp_is_number_below))) :=
  Fun.okW T.F_is_meeting sc_is_meeting fun cdv A outer s H E hr hcd =>
    gb_cons (gs_if (GW.gt (gw_or (gt_not (gt_val (ge_callB (gc_isi) rfl T.z_isinstance (by decide +kernel) (ga_cons (ge_var (pv 1)) (ga_cons (ge_ty rfl T.z_tuple (by decide +kernel)) (ga_nil)))))) (gw_or1 (gt_cmp (go_ne hr.units) (ge_callB (gc_len) rfl T.z_len (by decide +kernel) (ga_cons (ge_var (pv 1)) (ga_nil))) (ge_int) (nomark _))))) (gb_one (gs_ret (ge_bl))) (gb_nil)) (gb_cons (gs_asg (ge_var (pv 1)) (gg_tup rfl (ggs_cons (gg_name (pg_name (i := 2) sc_is_meeting.nd rfl (by first | exact Or.inl rfl | exact Or.inr rfl))) (ggs_cons (gg_name (pg_name (i := 3) sc_is_meeting.nd rfl (by first | exact Or.inl rfl | exact Or.inr rfl))) (ggs_cons (gg_name (pg_name (i := 4) sc_is_meeting.nd rfl (by first | exact Or.inl rfl | exact Or.inr rfl))) (ggs_cons (gg_name (pg_name (i := 5) sc_is_meeting.nd rfl (by first | exact Or.inl rfl | exact Or.inr rfl))) (ggs_cons (gg_name (pg_name (i := 6) sc_is_meeting.nd rfl (by first | exact Or.inl rfl | exact Or.inr rfl))) (ggs_nil)))))))) (gb_cons (gs_if (gt_cmp (go_notInS hr.units) (ge_var (pv 2)) (ge_gtup T.g_WORDS) (by with_unfolding_all rfl)) (gb_one (gs_ret (ge_bl))) (gb_nil)) (gb_cons (gs_if (GW.gt (gw_or (gt_not (gt_val (ge_call G_is_number_below (hr.mono (by decide)) rfl T.m_is_number_below T.F_is_number_below.kp T.B_is_number_below pass0 (ga_cons (ge_var (pv 0)) (ga_cons (ge_var (pv 3)) (ga_nil)))))) (gw_or (gt_not (gt_val (ge_call G_is_number_below (hr.mono (by decide)) rfl T.m_is_number_below T.F_is_number_below.kp T.B_is_number_below pass0 (ga_cons (ge_var (pv 0)) (ga_cons (ge_var (pv 4)) (ga_nil)))))) (gw_or1 (gt_cmp (go_eq hr.units) (ge_var (pv 3)) (ge_var (pv 4)) (nomark _)))))) (gb_one (gs_ret (ge_bl))) (gb_nil)) (gb_one (gs_ret (ge_and (ge_call G_is_whole (hr.mono (by decide)) rfl T.m_is_whole T.F_is_whole.kp T.B_is_whole pass0 (ga_cons (ge_var (pv 5)) (ga_nil))) (ge_and (ge_cmp go_ge (ge_var (pv 5)) (ge_int) (nomark _)) (ge_and (ge_call G_is_whole (hr.mono (by decide)) rfl T.m_is_whole T.F_is_whole.kp T.B_is_whole pass0 (ga_cons (ge_var (pv 6)) (ga_nil))) (ge_one (ge_cmp go_ge (ge_var (pv 6)) (ge_int) (nomark _)))))))))))
def b__law_begin (sp__law_draw : SpW) (sp__law_far : SpW) : SS :=
  sSeq (sIf (wAnd (wTest (wOp oEq (wVar 1) (wC (.int 1)))) (wTest (wOp oNe (wVar 2) (wLst (aNil))))) (sSeq (sSet 3 (wOp oIx (wVar 2) (wCall sp__law_draw (aCons (wVar 0) (aCons (wCall cLen (aCons (wVar 2) (aNil))) (aNil)))))) (sRet (wCall cMax (aCons (wC (.int 0)) (aCons (wCall cMin (aCons (wOp oPow (wC (.int 10)) (wC (.int 13))) (aCons (wOp oSub (wOp oAdd (wOp oAdd (wOp oIx (wVar 3) (wC (.int 3))) (wOp oIx (wVar 3) (wC (.int 4)))) (wCall sp__law_draw (aCons (wVar 0) (aCons (wC (.int 3)) (aNil))))) (wC (.int 1))) (aNil)))) (aNil)))))) (sNext)) (sSeq (sIf (wTest (wOp oEq (wVar 1) (wC (.int 2)))) (sRet (wOp oIx (wLst (aCons (wC (.int 7)) (aCons (wC (.int 8)) (aNil)))) (wCall cInt (aCons (wOp oEq (wCall sp__law_draw (aCons (wVar 0) (aCons (wC (.int 6)) (aNil)))) (wC (.int 0))) (aNil))))) (sNext)) (sSeq (sIf (wTest (wOp oEq (wVar 1) (wC (.int 3)))) (sRet (wCall sp__law_far (aCons (wVar 0) (aNil)))) (sNext)) (sRet (wCall sp__law_draw (aCons (wVar 0) (aCons (wC (.int 31)) (aNil)))))))
theorem ok__law_begin {sp__law_draw : SpW} {sp__law_far : SpW} (T : Tx K mg a) (G__law_draw : FnOk P w K mg base CX0 1 a.f__law_draw a.d__law_draw P__law_draw (rdSp K sp__law_draw)) (G__law_far : FnOk P w K mg base CX0 2 a.f__law_far a.d__law_far P__law_far (rdSp K sp__law_far)) : FnOk P w K mg base CX0 3 a.f__law_begin a.d__law_begin P__law_begin (rdSp K (spBody N__law_begin 3 (b__law_begin sp__law_draw sp__law_far))) :=
  Fun.okW T.F__law_begin sc__law_begin fun cdv A outer s H E hr hcd =>
    gb_cons (gs_if (GW.gt (gw_and (gt_cmp (go_eq hr.units) (ge_var (pv 1)) (ge_int) (nomark _)) (gw_and1 (gt_cmp (go_ne hr.units) (ge_var (pv 2)) (ge_lst (ga_nil)) (nomark _))))) (gb_cons (gs_set (i := 3) sc__law_begin.nd rfl (by first | exact Or.inl rfl | exact Or.inr rfl) (ge_ix gi_ix (ge_var (pv 2)) (ge_call G__law_draw (hr.mono (by decide)) rfl T.m__law_draw T.F__law_draw.kp T.B__law_draw pass0 (ga_cons (ge_var (pv 0)) (ga_cons (ge_callB (gc_len) rfl T.z_len (by decide +kernel) (ga_cons (ge_var (pv 2)) (ga_nil))) (ga_nil)))) (fun _ _ => rfl))) (gb_one (gs_ret (ge_callB (gc_max rfl) rfl T.z_max (by decide +kernel) (ga_cons (ge_int) (ga_cons (ge_callB (gc_min rfl) rfl T.z_min (by decide +kernel) (ga_cons (ge_op go_pow (ge_int) (ge_int)) (ga_cons (ge_op go_sub (ge_op go_add (ge_op go_add (ge_ix gi_ix (ge_var (pv 3)) (ge_int) (fun _ _ => rfl)) (ge_ix gi_ix (ge_var (pv 3)) (ge_int) (fun _ _ => rfl))) (ge_call G__law_draw (hr.mono (by decide)) rfl T.m__law_draw T.F__law_draw.kp T.B__law_draw pass0 (ga_cons (ge_var (pv 0)) (ga_cons (ge_int) (ga_nil))))) (ge_int)) (ga_nil)))) (ga_nil))))))) (gb_nil)) (gb_cons (gs_if (gt_cmp (go_eq hr.units) (ge_var (pv 1)) (ge_int) (nomark _)) (gb_one (gs_ret (ge_ix gi_ix (ge_lst (ga_cons (ge_int) (ga_cons (ge_int) (ga_nil)))) (ge_callTy gc_int rfl T.z_int (by decide +kernel) (ga_cons (ge_cmp (go_eq hr.units) (ge_call G__law_draw (hr.mono (by decide)) rfl T.m__law_draw T.F__law_draw.kp T.B__law_draw pass0 (ga_cons (ge_var (pv 0)) (ga_cons (ge_int) (ga_nil)))) (ge_int) (nomark _)) (ga_nil))) (fun _ _ => rfl)))) (gb_nil)) (gb_cons (gs_if (gt_cmp (go_eq hr.units) (ge_var (pv 1)) (ge_int) (nomark _)) (gb_one (gs_ret (ge_call G__law_far (hr.mono (by decide)) rfl T.m__law_far T.F__law_far.kp T.B__law_far pass0 (ga_cons (ge_var (pv 0)) (ga_nil))))) (gb_nil)) (gb_one (gs_ret (ge_call G__law_draw (hr.mono (by decide)) rfl T.m__law_draw T.F__law_draw.kp T.B__law_draw pass0 (ga_cons (ge_var (pv 0)) (ga_cons (ge_int) (ga_nil))))))))
def b__law_is_net (sp__law_is_whole : SpW) (sp__law_is_meeting : SpW) : SS :=
  sSeq (sIf (wOr (wNot (wTest (wCall cIsi (aCons (wVar 0) (aCons (wTy "tuple") (aNil)))))) (wOr (wTest (wOp oNe (wCall cLen (aCons (wVar 0) (aNil))) (wC (.int 2)))) (wNot (wTest (wCall sp__law_is_whole (aCons (wOp oIx (wVar 0) (wC (.int 0))) (aCons (wC (.int 1)) (aNil)))))))) (sRet (wC (.bool false))) (sNext)) (sSeq (sIf (wNot (wTest (wCall cIsi (aCons (wOp oIx (wVar 0) (wC (.int 1))) (aCons (wTy "tuple") (aNil)))))) (sRet (wC (.bool false))) (sNext)) (sRet (wOp oEqE (wLc (iSeq (wOp oIx (wVar 0) (wC (.int 1)))) (.nm 1) (wNot (wTest (wCall sp__law_is_meeting (aCons (wOp oIx (wVar 0) (wC (.int 0))) (aCons (wVar 1) (aNil)))))) (wVar 1) [1]) (wLst (aNil)))))
theorem ok__law_is_net {sp__law_is_whole : SpW} {sp__law_is_meeting : SpW} (T : Tx K mg a) (G__law_is_whole : FnOk P w K mg base CX0 1 a.f__law_is_whole a.d__law_is_whole P__law_is_whole (rdSp K sp__law_is_whole)) (G__law_is_meeting : FnOk P w K mg base CX0 2 a.f__law_is_meeting a.d__law_is_meeting P__law_is_meeting (rdSp K sp__law_is_meeting)) : FnOk P w K mg base CX0 3 a.f__law_is_net a.d__law_is_net P__law_is_net (rdSp K (spBody N__law_is_net 1 (b__law_is_net sp__law_is_whole sp__law_is_meeting))) :=
  Fun.okW T.F__law_is_net sc__law_is_net fun cdv A outer s H E hr hcd =>
    gb_cons (gs_if (GW.gt (gw_or (gt_not (gt_val (ge_callB (gc_isi) rfl T.z_isinstance (by decide +kernel) (ga_cons (ge_var (pv 0)) (ga_cons (ge_ty rfl T.z_tuple (by decide +kernel)) (ga_nil)))))) (gw_or (gt_cmp (go_ne hr.units) (ge_callB (gc_len) rfl T.z_len (by decide +kernel) (ga_cons (ge_var (pv 0)) (ga_nil))) (ge_int) (nomark _)) (gw_or1 (gt_not (gt_val (ge_call G__law_is_whole (hr.mono (by decide)) rfl T.m__law_is_whole T.F__law_is_whole.kp T.B__law_is_whole pass0 (ga_cons (ge_ix gi_ix (ge_var (pv 0)) (ge_int) (fun _ _ => rfl)) (ga_cons (ge_int) (ga_nil)))))))))) (gb_one (gs_ret (ge_bl))) (gb_nil)) (gb_cons (gs_if (gt_not (gt_val (ge_callB (gc_isi) rfl T.z_isinstance (by decide +kernel) (ga_cons (ge_ix gi_ix (ge_var (pv 0)) (ge_int) (fun _ _ => rfl)) (ga_cons (ge_ty rfl T.z_tuple (by decide +kernel)) (ga_nil)))))) (gb_one (gs_ret (ge_bl))) (gb_nil)) (gb_one (gs_ret (ge_cmp (go_eqE hr.units) (ge_lc (own := [("_law_one", 1)]) (t := .nm 1) rfl sc__law_is_net.nd (gi_seq (ge_ix gi_ix (ge_var (pv 0)) (ge_int) (fun _ _ => rfl))) (blkOk_by (own := [("_law_one", 1)]) (N := N__law_is_net) (sc := defScope s__law_is_net) (by decide +kernel)) (fun _ _ _ _ _ => pg_name (i := 1) sc__law_is_net.nd rfl (Or.inl rfl)) (fun _ _ _ _ _ => gts_one (gt_not (gt_val (ge_call G__law_is_meeting (hr.mono (by decide)) rfl T.m__law_is_meeting T.F__law_is_meeting.kp T.B__law_is_meeting pass0 (ga_cons (ge_ix gi_ix (ge_var (pv 0)) (ge_int) (fun _ _ => rfl)) (ga_cons (ge_var (pv 1)) (ga_nil))))))) (fun _ _ _ _ _ => ge_var (pv 1)) (by decide)) (ge_lst (ga_nil)) (nomark _)))))
def b__law_bent_row (sp__law_draw : SpW) (sp__law_odd : SpW) : SS :=
  sSeq (sSet 2 (wCall sp__law_draw (aCons (wVar 0) (aCons (wC (.int 6)) (aNil))))) (sSeq (sSet 3 (wCall sp__law_draw (aCons (wVar 0) (aCons (wOp oAdd (wCall cLen (aCons (wVar 1) (aNil))) (wC (.int 1))) (aNil))))) (sSeq (sIf (wTest (wOp oEq (wVar 2) (wC (.int 0)))) (sRet (wOp oAdd (wOp oAdd (wSl oSl (wVar 1) (wNoP) (wP (wVar 3))) (wSl oSl (wVar 1) (wP (wVar 3)) (wP (wOp oAdd (wVar 3) (wC (.int 1)))))) (wSl oSl (wVar 1) (wP (wVar 3)) (wNoP)))) (sNext)) (sSeq (sIf (wTest (wOp oEq (wVar 2) (wC (.int 1)))) (sRet (wOp oAdd (wSl oSl (wVar 1) (wNoP) (wP (wVar 3))) (wSl oSl (wVar 1) (wP (wOp oAdd (wVar 3) (wC (.int 1)))) (wNoP)))) (sNext)) (sSeq (sIf (wTest (wOp oEq (wVar 2) (wC (.int 2)))) (sRet (wOp oAdd (wOp oAdd (wSl oSl (wVar 1) (wNoP) (wP (wVar 3))) (wTup (aCons (wCall sp__law_odd (aCons (wVar 0) (aNil))) (aNil)))) (wSl oSl (wVar 1) (wP (wVar 3)) (wNoP)))) (sNext)) (sSeq (sIf (wTest (wOp oEq (wVar 2) (wC (.int 3)))) (sRet (wOp oAdd (wSl oSl (wVar 1) (wNoP) (wP (wVar 3))) (wRev (wSl oSl (wVar 1) (wP (wVar 3)) (wNoP)) (wNeg (wC (.int 1)))))) (sNext)) (sRet (wOp oIx (wLst (aCons (wCall cList (aCons (wVar 1) (aNil))) (aCons (wOp oAdd (wSl oSl (wVar 1) (wP (wVar 3)) (wNoP)) (wSl oSl (wVar 1) (wNoP) (wP (wVar 3)))) (aNil)))) (wOp oSub (wVar 2) (wC (.int 4))))))))))
theorem ok__law_bent_row {sp__law_draw : SpW} {sp__law_odd : SpW} (T : Tx K mg a) (G__law_draw : FnOk P w K mg base CX0 1 a.f__law_draw a.d__law_draw P__law_draw (rdSp K sp__law_draw)) (G__law_odd : FnOk P w K mg base CX0 2 a.f__law_odd a.d__law_odd P__law_odd (rdSp K sp__law_odd)) : FnOk P w K mg base CX0 3 a.f__law_bent_row a.d__law_bent_row P__law_bent_row (rdSp K (spBody N__law_bent_row 2 (b__law_bent_row sp__law_draw sp__law_odd))) :=
  Fun.okW T.F__law_bent_row sc__law_bent_row fun cdv A outer s H E hr hcd =>
    gb_cons (gs_set (i := 2) sc__law_bent_row.nd rfl (by first | exact Or.inl rfl | exact Or.inr rfl) (ge_call G__law_draw (hr.mono (by decide)) rfl T.m__law_draw T.F__law_draw.kp T.B__law_draw pass0 (ga_cons (ge_var (pv 0)) (ga_cons (ge_int) (ga_nil))))) (gb_cons (gs_set (i := 3) sc__law_bent_row.nd rfl (by first | exact Or.inl rfl | exact Or.inr rfl) (ge_call G__law_draw (hr.mono (by decide)) rfl T.m__law_draw T.F__law_draw.kp T.B__law_draw pass0 (ga_cons (ge_var (pv 0)) (ga_cons (ge_op go_add (ge_callB (gc_len) rfl T.z_len (by decide +kernel) (ga_cons (ge_var (pv 1)) (ga_nil))) (ge_int)) (ga_nil))))) (gb_cons (gs_if (gt_cmp (go_eq hr.units) (ge_var (pv 2)) (ge_int) (nomark _)) (gb_one (gs_ret (ge_op go_add (ge_op go_add (ge_sl gl_sl (ge_var (pv 1)) (gp_none) (gp_some (ge_var (pv 3)))) (ge_sl gl_sl (ge_var (pv 1)) (gp_some (ge_var (pv 3))) (gp_some (ge_op go_add (ge_var (pv 3)) (ge_int))))) (ge_sl gl_sl (ge_var (pv 1)) (gp_some (ge_var (pv 3))) (gp_none))))) (gb_nil)) (gb_cons (gs_if (gt_cmp (go_eq hr.units) (ge_var (pv 2)) (ge_int) (nomark _)) (gb_one (gs_ret (ge_op go_add (ge_sl gl_sl (ge_var (pv 1)) (gp_none) (gp_some (ge_var (pv 3)))) (ge_sl gl_sl (ge_var (pv 1)) (gp_some (ge_op go_add (ge_var (pv 3)) (ge_int))) (gp_none))))) (gb_nil)) (gb_cons (gs_if (gt_cmp (go_eq hr.units) (ge_var (pv 2)) (ge_int) (nomark _)) (gb_one (gs_ret (ge_op go_add (ge_op go_add (ge_sl gl_sl (ge_var (pv 1)) (gp_none) (gp_some (ge_var (pv 3)))) (ge_tup (ga_cons (ge_call G__law_odd (hr.mono (by decide)) rfl T.m__law_odd T.F__law_odd.kp T.B__law_odd pass0 (ga_cons (ge_var (pv 0)) (ga_nil))) (ga_nil)))) (ge_sl gl_sl (ge_var (pv 1)) (gp_some (ge_var (pv 3))) (gp_none))))) (gb_nil)) (gb_cons (gs_if (gt_cmp (go_eq hr.units) (ge_var (pv 2)) (ge_int) (nomark _)) (gb_one (gs_ret (ge_op go_add (ge_sl gl_sl (ge_var (pv 1)) (gp_none) (gp_some (ge_var (pv 3)))) (ge_rev (ge_sl gl_sl (ge_var (pv 1)) (gp_some (ge_var (pv 3))) (gp_none)) (ge_neg (ge_int)))))) (gb_nil)) (gb_one (gs_ret (ge_ix gi_ix (ge_lst (ga_cons (ge_callTy gc_list rfl T.z_list (by decide +kernel) (ga_cons (ge_var (pv 1)) (ga_nil))) (ga_cons (ge_op go_add (ge_sl gl_sl (ge_var (pv 1)) (gp_some (ge_var (pv 3))) (gp_none)) (ge_sl gl_sl (ge_var (pv 1)) (gp_none) (gp_some (ge_var (pv 3))))) (ga_nil)))) (ge_op go_sub (ge_var (pv 2)) (ge_int)) (fun _ _ => rfl)))))))))
def b__law_meeting (sp__law_draw : SpW) (sp__law_begin : SpW) (sp__law_far : SpW) : SS :=
  sSeq (sSet 4 (wCall sp__law_draw (aCons (wVar 0) (aCons (wC (.int 12)) (aNil))))) (sSeq (sSet 5 (wOp oEq (wCall sp__law_draw (aCons (wVar 0) (aCons (wC (.int 4)) (aNil)))) (wC (.int 1)))) (sSeq (sSet 6 (wOp oIx (wLst (aCons (wC (.str "to")) (aCons (wC (.str "both")) (aNil)))) (wCall sp__law_draw (aCons (wVar 0) (aCons (wC (.int 2)) (aNil)))))) (sSeq (sSet 7 (wCall sp__law_draw (aCons (wVar 0) (aCons (wVar 1) (aNil))))) (sSeq (sSet 8 (wOp oMod (wOp oAdd (wOp oAdd (wVar 7) (wC (.int 1))) (wCall sp__law_draw (aCons (wVar 0) (aCons (wOp oSub (wVar 1) (wC (.int 1))) (aNil))))) (wVar 1))) (sSeq (sIf (wTest (wVar 5)) (sSeq (sSet 7 (wOp oMod (wCall cLen (aCons (wVar 2) (aNil))) (wVar 1))) (sSet 8 (wOp oMod (wOp oAdd (wVar 7) (wC (.int 1))) (wVar 1)))) (sNext)) (sSeq (sSet 9 (wCall sp__law_begin (aCons (wVar 0) (aCons (wVar 3) (aCons (wVar 2) (aNil)))))) (sSeq (sSet 10 (wOp oAdd (wC (.int 1)) (wCall sp__law_draw (aCons (wVar 0) (aCons (wOp oIx (wLst (aCons (wC (.int 4)) (aCons (wC (.int 12)) (aNil)))) (wCall sp__law_draw (aCons (wVar 0) (aCons (wC (.int 2)) (aNil))))) (aNil)))))) (sSeq (sIf (wAnd (wTest (wOp oEq (wVar 3) (wC (.int 3)))) (wTest (wOp oEq (wCall sp__law_draw (aCons (wVar 0) (aCons (wC (.int 3)) (aNil)))) (wC (.int 0))))) (sSet 10 (wCall cMax (aCons (wC (.int 1)) (aCons (wCall sp__law_far (aCons (wVar 0) (aNil))) (aNil))))) (sNext)) (sSeq (sIf (wAnd (wTest (wOp oEq (wVar 4) (wC (.int 5)))) (wTest (wOp oNe (wVar 2) (wLst (aNil))))) (sRet (wOp oIx (wVar 2) (wCall sp__law_draw (aCons (wVar 0) (aCons (wCall cLen (aCons (wVar 2) (aNil))) (aNil)))))) (sNext)) (sRet (wTup (aCons (wVar 6) (aCons (wVar 7) (aCons (wVar 8) (aCons (wVar 9) (aCons (wVar 10) (aNil)))))))))))))))))
theorem ok__law_meeting {sp__law_draw : SpW} {sp__law_begin : SpW} {sp__law_far : SpW} (T : Tx K mg a) (G__law_draw : FnOk P w K mg base CX0 1 a.f__law_draw a.d__law_draw P__law_draw (rdSp K sp__law_draw)) (G__law_begin : FnOk P w K mg base CX0 3 a.f__law_begin a.d__law_begin P__law_begin (rdSp K sp__law_begin)) (G__law_far : FnOk P w K mg base CX0 2 a.f__law_far a.d__law_far P__law_far (rdSp K sp__law_far)) : FnOk P w K mg base CX0 4 a.f__law_meeting a.d__law_meeting P__law_meeting (rdSp K (spBody N__law_meeting 4 (b__law_meeting sp__law_draw sp__law_begin sp__law_far))) :=
  Fun.okW T.F__law_meeting sc__law_meeting fun cdv A outer s H E hr hcd =>
    gb_cons (gs_set (i := 4) sc__law_meeting.nd rfl (by first | exact Or.inl rfl | exact Or.inr rfl) (ge_call G__law_draw (hr.mono (by decide)) rfl T.m__law_draw T.F__law_draw.kp T.B__law_draw pass0 (ga_cons (ge_var (pv 0)) (ga_cons (ge_int) (ga_nil))))) (gb_cons (gs_set (i := 5) sc__law_meeting.nd rfl (by first | exact Or.inl rfl | exact Or.inr rfl) (ge_cmp (go_eq hr.units) (ge_call G__law_draw (hr.mono (by decide)) rfl T.m__law_draw T.F__law_draw.kp T.B__law_draw pass0 (ga_cons (ge_var (pv 0)) (ga_cons (ge_int) (ga_nil)))) (ge_int) (nomark _))) (gb_cons (gs_set (i := 6) sc__law_meeting.nd rfl (by first | exact Or.inl rfl | exact Or.inr rfl) (ge_ix gi_ix (ge_lst (ga_cons (ge_str) (ga_cons (ge_str) (ga_nil)))) (ge_call G__law_draw (hr.mono (by decide)) rfl T.m__law_draw T.F__law_draw.kp T.B__law_draw pass0 (ga_cons (ge_var (pv 0)) (ga_cons (ge_int) (ga_nil)))) (fun _ _ => rfl))) (gb_cons (gs_set (i := 7) sc__law_meeting.nd rfl (by first | exact Or.inl rfl | exact Or.inr rfl) (ge_call G__law_draw (hr.mono (by decide)) rfl T.m__law_draw T.F__law_draw.kp T.B__law_draw pass0 (ga_cons (ge_var (pv 0)) (ga_cons (ge_var (pv 1)) (ga_nil))))) (gb_cons (gs_set (i := 8) sc__law_meeting.nd rfl (by first | exact Or.inl rfl | exact Or.inr rfl) (ge_op go_mod (ge_op go_add (ge_op go_add (ge_var (pv 7)) (ge_int)) (ge_call G__law_draw (hr.mono (by decide)) rfl T.m__law_draw T.F__law_draw.kp T.B__law_draw pass0 (ga_cons (ge_var (pv 0)) (ga_cons (ge_op go_sub (ge_var (pv 1)) (ge_int)) (ga_nil))))) (ge_var (pv 1)))) (gb_cons (gs_if (gt_val (ge_var (pv 5))) (gb_cons (gs_set (i := 7) sc__law_meeting.nd rfl (by first | exact Or.inl rfl | exact Or.inr rfl) (ge_op go_mod (ge_callB (gc_len) rfl T.z_len (by decide +kernel) (ga_cons (ge_var (pv 2)) (ga_nil))) (ge_var (pv 1)))) (gb_one (gs_set (i := 8) sc__law_meeting.nd rfl (by first | exact Or.inl rfl | exact Or.inr rfl) (ge_op go_mod (ge_op go_add (ge_var (pv 7)) (ge_int)) (ge_var (pv 1)))))) (gb_nil)) (gb_cons (gs_set (i := 9) sc__law_meeting.nd rfl (by first | exact Or.inl rfl | exact Or.inr rfl) (ge_call G__law_begin (hr.mono (by decide)) rfl T.m__law_begin T.F__law_begin.kp T.B__law_begin pass0 (ga_cons (ge_var (pv 0)) (ga_cons (ge_var (pv 3)) (ga_cons (ge_var (pv 2)) (ga_nil)))))) (gb_cons (gs_set (i := 10) sc__law_meeting.nd rfl (by first | exact Or.inl rfl | exact Or.inr rfl) (ge_op go_add (ge_int) (ge_call G__law_draw (hr.mono (by decide)) rfl T.m__law_draw T.F__law_draw.kp T.B__law_draw pass0 (ga_cons (ge_var (pv 0)) (ga_cons (ge_ix gi_ix (ge_lst (ga_cons (ge_int) (ga_cons (ge_int) (ga_nil)))) (ge_call G__law_draw (hr.mono (by decide)) rfl T.m__law_draw T.F__law_draw.kp T.B__law_draw pass0 (ga_cons (ge_var (pv 0)) (ga_cons (ge_int) (ga_nil)))) (fun _ _ => rfl)) (ga_nil)))))) (gb_cons (gs_if (GW.gt (gw_and (gt_cmp (go_eq hr.units) (ge_var (pv 3)) (ge_int) (nomark _)) (gw_and1 (gt_cmp (go_eq hr.units) (ge_call G__law_draw (hr.mono (by decide)) rfl T.m__law_draw T.F__law_draw.kp T.B__law_draw pass0 (ga_cons (ge_var (pv 0)) (ga_cons (ge_int) (ga_nil)))) (ge_int) (nomark _))))) (gb_one (gs_set (i := 10) sc__law_meeting.nd rfl (by first | exact Or.inl rfl | exact Or.inr rfl) (ge_callB (gc_max rfl) rfl T.z_max (by decide +kernel) (ga_cons (ge_int) (ga_cons (ge_call G__law_far (hr.mono (by decide)) rfl T.m__law_far T.F__law_far.kp T.B__law_far pass0 (ga_cons (ge_var (pv 0)) (ga_nil))) (ga_nil)))))) (gb_nil)) (gb_cons (gs_if (GW.gt (gw_and (gt_cmp (go_eq hr.units) (ge_var (pv 4)) (ge_int) (nomark _)) (gw_and1 (gt_cmp (go_ne hr.units) (ge_var (pv 2)) (ge_lst (ga_nil)) (nomark _))))) (gb_one (gs_ret (ge_ix gi_ix (ge_var (pv 2)) (ge_call G__law_draw (hr.mono (by decide)) rfl T.m__law_draw T.F__law_draw.kp T.B__law_draw pass0 (ga_cons (ge_var (pv 0)) (ga_cons (ge_callB (gc_len) rfl T.z_len (by decide +kernel) (ga_cons (ge_var (pv 2)) (ga_nil))) (ga_nil)))) (fun _ _ => rfl)))) (gb_nil)) (gb_one (gs_ret (ge_tup (ga_cons (ge_var (pv 6)) (ga_cons (ge_var (pv 7)) (ga_cons (ge_var (pv 8)) (ga_cons (ge_var (pv 9)) (ga_cons (ge_var (pv 10)) (ga_nil))))))))))))))))))
def b__law_net (sp__law_draw : SpW) (sp__law_many : SpW) (sp__law_meeting : SpW) : SS :=
  sSeq (sSet 1 (wCall sp__law_draw (aCons (wVar 0) (aCons (wC (.int 6)) (aNil))))) (sSeq (sSet 2 (wOp oEq (wCall sp__law_draw (aCons (wVar 0) (aCons (wC (.int 8)) (aNil)))) (wC (.int 5)))) (sSeq (sSet 3 (wCall sp__law_many (aCons (wVar 0) (aNil)))) (sSeq (sSet 4 (wNew (aNil))) (sSeq (sFor (iRng (aCons (wOp oMul (wOp oIx (wLst (aCons (wCall sp__law_draw (aCons (wVar 0) (aCons (wC (.int 13)) (aNil)))) (aCons (wC (.int 40)) (aNil)))) (wCall cInt (aCons (wVar 2) (aNil)))) (wCall cInt (aCons (wOp oGt (wVar 3) (wC (.int 1))) (aNil)))) (aNil))) (nName 5) (sDrop (wApp (wVar 4) (wCall sp__law_meeting (aCons (wVar 0) (aCons (wVar 3) (aCons (wVar 4) (aCons (wVar 1) (aNil))))))))) (sRet (wTup (aCons (wVar 3) (aCons (wCall cTuple (aCons (wVar 4) (aNil))) (aNil)))))))))
theorem ok__law_net {sp__law_draw : SpW} {sp__law_many : SpW} {sp__law_meeting : SpW} (T : Tx K mg a) (G__law_draw : FnOk P w K mg base CX0 1 a.f__law_draw a.d__law_draw P__law_draw (rdSp K sp__law_draw)) (G__law_many : FnOk P w K mg base CX0 2 a.f__law_many a.d__law_many P__law_many (rdSp K sp__law_many)) (G__law_meeting : FnOk P w K mg base CX0 4 a.f__law_meeting a.d__law_meeting P__law_meeting (rdSp K sp__law_meeting)) : FnOk P w K mg base CX0 5 a.f__law_net a.d__law_net P__law_net (rdSp K (spBody N__law_net 1 (b__law_net sp__law_draw sp__law_many sp__law_meeting))) :=
  Fun.okW T.F__law_net sc__law_net fun cdv A outer s H E hr hcd =>
    gb_cons (gs_set (i := 1) sc__law_net.nd rfl (by first | exact Or.inl rfl | exact Or.inr rfl) (ge_call G__law_draw (hr.mono (by decide)) rfl T.m__law_draw T.F__law_draw.kp T.B__law_draw pass0 (ga_cons (ge_var (pv 0)) (ga_cons (ge_int) (ga_nil))))) (gb_cons (gs_set (i := 2) sc__law_net.nd rfl (by first | exact Or.inl rfl | exact Or.inr rfl) (ge_cmp (go_eq hr.units) (ge_call G__law_draw (hr.mono (by decide)) rfl T.m__law_draw T.F__law_draw.kp T.B__law_draw pass0 (ga_cons (ge_var (pv 0)) (ga_cons (ge_int) (ga_nil)))) (ge_int) (nomark _))) (gb_cons (gs_set (i := 3) sc__law_net.nd rfl (by first | exact Or.inl rfl | exact Or.inr rfl) (ge_call G__law_many (hr.mono (by decide)) rfl T.m__law_many T.F__law_many.kp T.B__law_many pass0 (ga_cons (ge_var (pv 0)) (ga_nil)))) (gb_cons (gs_set (i := 4) sc__law_net.nd rfl (by first | exact Or.inl rfl | exact Or.inr rfl) (ge_new (ga_nil))) (gb_cons (gs_for PassesOwn.never rfl (gi_rng rfl T.z_range (ga_cons (ge_op go_mul (ge_ix gi_ix (ge_lst (ga_cons (ge_call G__law_draw (hr.mono (by decide)) rfl T.m__law_draw T.F__law_draw.kp T.B__law_draw pass0 (ga_cons (ge_var (pv 0)) (ga_cons (ge_int) (ga_nil)))) (ga_cons (ge_int) (ga_nil)))) (ge_callTy gc_int rfl T.z_int (by decide +kernel) (ga_cons (ge_var (pv 2)) (ga_nil))) (fun _ _ => rfl)) (ge_callTy gc_int rfl T.z_int (by decide +kernel) (ga_cons (ge_cmp go_gt (ge_var (pv 3)) (ge_int) (nomark _)) (ga_nil)))) (ga_nil))) (gg_name (pg_name (i := 5) sc__law_net.nd rfl (by first | exact Or.inl rfl | exact Or.inr rfl))) (gb_one (gs_expr (ge_app (ge_var (pv 4)) (ge_call G__law_meeting (hr.mono (by decide)) rfl T.m__law_meeting T.F__law_meeting.kp T.B__law_meeting pass0 (ga_cons (ge_var (pv 0)) (ga_cons (ge_var (pv 3)) (ga_cons (ge_var (pv 4)) (ga_cons (ge_var (pv 1)) (ga_nil)))))))))) (gb_one (gs_ret (ge_tup (ga_cons (ge_var (pv 3)) (ga_cons (ge_callTy gc_tuple rfl T.z_tuple (by decide +kernel) (ga_cons (ge_var (pv 4)) (ga_nil))) (ga_nil))))))))))
def b_is_net (sp_is_whole : SpW) (sp_is_meeting : SpW) : SS :=
  sSeq (sIf (wOr (wNot (wTest (wCall cIsi (aCons (wVar 0) (aCons (wTy "tuple") (aNil)))))) (wTest (wOp oNe (wCall cLen (aCons (wVar 0) (aNil))) (wC (.int 2))))) (sRet (wC (.bool false))) (sNext)) (sSeq (sAsg (wVar 0) (nTup 2 (nCons (nName 1) (nCons (nName 2) (nNil))))) (sSeq (sIf (wOr (wNot (wTest (wCall sp_is_whole (aCons (wVar 1) (aNil))))) (wOr (wTest (wOp oLt (wVar 1) (wC (.int 1)))) (wNot (wTest (wCall cIsi (aCons (wVar 2) (aCons (wTy "tuple") (aNil)))))))) (sRet (wC (.bool false))) (sNext)) (sRet (wAllG (iSeq (wVar 2)) (.nm 3) (wCall sp_is_meeting (aCons (wVar 1) (aCons (wVar 3) (aNil)))) [3]))))
theorem ok_is_net {sp_is_whole : SpW} {sp_is_meeting : SpW} (T : Tx K mg a) (hB : GenB K mg base) (G_is_whole : FnOk P w K mg base CX0 1 a.f_is_whole a.d_is_whole P_is_whole (rdSp K sp_is_whole)) (G_is_meeting : FnOk P w K mg base CX0 3 a.f_is_meeting a.d_is_meeting P_is_meeting (rdSp K sp_is_meeting)) : FnOk P w K mg base CX0 8 a.f_is_net a.d_is_net P_is_net (rdSp K (spBody N_is_net 1 (b_is_net sp_is_whole sp_is_meeting))) :=
  Fun.okW T.F_is_net sc_is_net fun cdv A outer s H E hr hcd =>
    gb_cons (gs_if (GW.gt (gw_or (gt_not (gt_val (ge_callB (gc_isi) rfl T.z_isinstance (by decide +kernel) (ga_cons (ge_var (pv 0)) (ga_cons (ge_ty rfl T.z_tuple (by decide +kernel)) (ga_nil)))))) (gw_or1 (gt_cmp (go_ne hr.units) (ge_callB (gc_len) rfl T.z_len (by decide +kernel) (ga_cons (ge_var (pv 0)) (ga_nil))) (ge_int) (nomark _))))) (gb_one (gs_ret (ge_bl))) (gb_nil)) (gb_cons (gs_asg (ge_var (pv 0)) (gg_tup rfl (ggs_cons (gg_name (pg_name (i := 1) sc_is_net.nd rfl (by first | exact Or.inl rfl | exact Or.inr rfl))) (ggs_cons (gg_name (pg_name (i := 2) sc_is_net.nd rfl (by first | exact Or.inl rfl | exact Or.inr rfl))) (ggs_nil))))) (gb_cons (gs_if (GW.gt (gw_or (gt_not (gt_val (ge_call G_is_whole (hr.mono (by decide)) rfl T.m_is_whole T.F_is_whole.kp T.B_is_whole pass0 (ga_cons (ge_var (pv 1)) (ga_nil))))) (gw_or (gt_cmp go_lt (ge_var (pv 1)) (ge_int) (nomark _)) (gw_or1 (gt_not (gt_val (ge_callB (gc_isi) rfl T.z_isinstance (by decide +kernel) (ga_cons (ge_var (pv 2)) (ga_cons (ge_ty rfl T.z_tuple (by decide +kernel)) (ga_nil)))))))))) (gb_one (gs_ret (ge_bl))) (gb_nil)) (gb_one (gs_ret ((by obtain ⟨_, ht⟩ := T.t_is_net; exact ge_allG (k := 3) (own := [("meeting", 3)]) (t := .nm 3) rfl sc_is_net.nd (hr.mono (by decide)) rfl T.z_all ht hcd hB (gi_seq (ge_var (pv 2))) (blkOk_by (own := [("meeting", 3)]) (N := N_is_net) (sc := defScope s_is_net) (by decide +kernel)) (fun _ _ _ _ _ _ _ => pg_name (i := 3) sc_is_net.nd rfl (Or.inl rfl)) (fun _ _ _ _ _ _ _ hr => ge_call G_is_meeting (hr.mono (by decide)) rfl T.m_is_meeting T.F_is_meeting.kp T.B_is_meeting pass0 (ga_cons (ge_var (pv 1)) (ga_cons (ge_var (pv 3)) (ga_nil)))) (by decide)))))))
def b__law_told (sp__law_is_net : SpW) (sp_is_net : SpW) : SS :=
  sSeq (sSet 1 (wCall sp__law_is_net (aCons (wVar 0) (aNil)))) (sSeq (sFor (iRng (aCons (wC (.int 2)) (aNil))) (nName 2) (sSeq (sSet 3 (wCall sp_is_net (aCons (wVar 0) (aNil)))) (sIf (wOr (wNot (wTest (wCall cIsi (aCons (wVar 3) (aCons (wTy "bool") (aNil)))))) (wTest (wOp oNe (wVar 3) (wVar 1)))) (sRet (wC (.bool false))) (sNext)))) (sRet (wC (.bool true))))
theorem ok__law_told {sp__law_is_net : SpW} {sp_is_net : SpW} (T : Tx K mg a) (G__law_is_net : FnOk P w K mg base CX0 3 a.f__law_is_net a.d__law_is_net P__law_is_net (rdSp K sp__law_is_net)) (G_is_net : FnOk P w K mg base CX0 8 a.f_is_net a.d_is_net P_is_net (rdSp K sp_is_net)) : FnOk P w K mg base CX0 9 a.f__law_told a.d__law_told P__law_told (rdSp K (spBody N__law_told 1 (b__law_told sp__law_is_net sp_is_net))) :=
  Fun.okW T.F__law_told sc__law_told fun cdv A outer s H E hr hcd =>
    gb_cons (gs_set (i := 1) sc__law_told.nd rfl (by first | exact Or.inl rfl | exact Or.inr rfl) (ge_call G__law_is_net (hr.mono (by decide)) rfl T.m__law_is_net T.F__law_is_net.kp T.B__law_is_net pass0 (ga_cons (ge_var (pv 0)) (ga_nil)))) (gb_cons (gs_for PassesOwn.never rfl (gi_rng rfl T.z_range (ga_cons (ge_int) (ga_nil))) (gg_name (pg_name (i := 2) sc__law_told.nd rfl (by first | exact Or.inl rfl | exact Or.inr rfl))) (gb_cons (gs_set (i := 3) sc__law_told.nd rfl (by first | exact Or.inl rfl | exact Or.inr rfl) (ge_call G_is_net (hr.mono (by decide)) rfl T.m_is_net T.F_is_net.kp T.B_is_net pass0 (ga_cons (ge_var (pv 0)) (ga_nil)))) (gb_one (gs_if (GW.gt (gw_or (gt_not (gt_val (ge_callB (gc_isi) rfl T.z_isinstance (by decide +kernel) (ga_cons (ge_var (pv 3)) (ga_cons (ge_ty rfl T.z_bool (by decide +kernel)) (ga_nil)))))) (gw_or1 (gt_cmp (go_ne hr.units) (ge_var (pv 3)) (ge_var (pv 1)) (nomark _))))) (gb_one (gs_ret (ge_bl))) (gb_nil))))) (gb_one (gs_ret (ge_bl))))
def b__law_long_right (sp__law_draw : SpW) (sp_is_net : SpW) : SS :=
  sSeq (sSet 1 (wOp oMulT (wTup (aCons (wTup (aCons (wC (.str "to")) (aCons (wC (.int 0)) (aCons (wC (.int 1)) (aCons (wC (.int 5)) (aCons (wC (.int 5)) (aNil))))))) (aNil))) (wOp oAdd (wC (.int 500)) (wCall sp__law_draw (aCons (wVar 0) (aCons (wC (.int 2501)) (aNil))))))) (sSeq (sSet 2 (wCall sp__law_draw (aCons (wVar 0) (aCons (wOp oAdd (wCall cLen (aCons (wVar 1) (aNil))) (wC (.int 1))) (aNil))))) (sSeq (sSet 3 (wOp oIx (wLst (aCons (wTup (aCons (wC (.str "to")) (aCons (wC (.int 0)) (aCons (wC (.int 0)) (aCons (wC (.int 5)) (aCons (wC (.int 5)) (aNil))))))) (aCons (wTup (aCons (wC (.str "to")) (aCons (wC (.int 0)) (aCons (wC (.int 2)) (aCons (wC (.int 5)) (aCons (wC (.int 5)) (aNil))))))) (aCons (wTup (aCons (wC (.str "both")) (aCons (wC (.int 1)) (aCons (wC (.int 0)) (aCons (wNeg (wC (.int 1))) (aCons (wC (.int 5)) (aNil))))))) (aCons (wTup (aCons (wC (.str "to")) (aCons (wC (.int 0)) (aCons (wC (.int 1)) (aCons (wC (.int 5)) (aNil)))))) (aNil)))))) (wCall sp__law_draw (aCons (wVar 0) (aCons (wC (.int 4)) (aNil)))))) (sRet (wAndV (wOp oIs (wCall sp_is_net (aCons (wTup (aCons (wC (.int 2)) (aCons (wVar 1) (aNil)))) (aNil))) (wC (.bool true))) (wOp oIs (wCall sp_is_net (aCons (wTup (aCons (wC (.int 2)) (aCons (wOp oAdd (wOp oAdd (wSl oSl (wVar 1) (wNoP) (wP (wVar 2))) (wTup (aCons (wVar 3) (aNil)))) (wSl oSl (wVar 1) (wP (wVar 2)) (wNoP))) (aNil)))) (aNil))) (wC (.bool false)))))))
theorem ok__law_long_right {sp__law_draw : SpW} {sp_is_net : SpW} (T : Tx K mg a) (G__law_draw : FnOk P w K mg base CX0 1 a.f__law_draw a.d__law_draw P__law_draw (rdSp K sp__law_draw)) (G_is_net : FnOk P w K mg base CX0 8 a.f_is_net a.d_is_net P_is_net (rdSp K sp_is_net)) : FnOk P w K mg base CX0 9 a.f__law_long_right a.d__law_long_right P__law_long_right (rdSp K (spBody N__law_long_right 1 (b__law_long_right sp__law_draw sp_is_net))) :=
  Fun.okW T.F__law_long_right sc__law_long_right fun cdv A outer s H E hr hcd =>
    gb_cons (gs_set (i := 1) sc__law_long_right.nd rfl (by first | exact Or.inl rfl | exact Or.inr rfl) (ge_op go_mulT (ge_tup (ga_cons (ge_tup (ga_cons (ge_str) (ga_cons (ge_int) (ga_cons (ge_int) (ga_cons (ge_int) (ga_cons (ge_int) (ga_nil))))))) (ga_nil))) (ge_op go_add (ge_int) (ge_call G__law_draw (hr.mono (by decide)) rfl T.m__law_draw T.F__law_draw.kp T.B__law_draw pass0 (ga_cons (ge_var (pv 0)) (ga_cons (ge_int) (ga_nil))))))) (gb_cons (gs_set (i := 2) sc__law_long_right.nd rfl (by first | exact Or.inl rfl | exact Or.inr rfl) (ge_call G__law_draw (hr.mono (by decide)) rfl T.m__law_draw T.F__law_draw.kp T.B__law_draw pass0 (ga_cons (ge_var (pv 0)) (ga_cons (ge_op go_add (ge_callB (gc_len) rfl T.z_len (by decide +kernel) (ga_cons (ge_var (pv 1)) (ga_nil))) (ge_int)) (ga_nil))))) (gb_cons (gs_set (i := 3) sc__law_long_right.nd rfl (by first | exact Or.inl rfl | exact Or.inr rfl) (ge_ix gi_ix (ge_lst (ga_cons (ge_tup (ga_cons (ge_str) (ga_cons (ge_int) (ga_cons (ge_int) (ga_cons (ge_int) (ga_cons (ge_int) (ga_nil))))))) (ga_cons (ge_tup (ga_cons (ge_str) (ga_cons (ge_int) (ga_cons (ge_int) (ga_cons (ge_int) (ga_cons (ge_int) (ga_nil))))))) (ga_cons (ge_tup (ga_cons (ge_str) (ga_cons (ge_int) (ga_cons (ge_int) (ga_cons (ge_neg (ge_int)) (ga_cons (ge_int) (ga_nil))))))) (ga_cons (ge_tup (ga_cons (ge_str) (ga_cons (ge_int) (ga_cons (ge_int) (ga_cons (ge_int) (ga_nil)))))) (ga_nil)))))) (ge_call G__law_draw (hr.mono (by decide)) rfl T.m__law_draw T.F__law_draw.kp T.B__law_draw pass0 (ga_cons (ge_var (pv 0)) (ga_cons (ge_int) (ga_nil)))) (fun _ _ => rfl))) (gb_one (gs_ret (ge_and (ge_cmp go_is (ge_call G_is_net (hr.mono (by decide)) rfl T.m_is_net T.F_is_net.kp T.B_is_net pass0 (ga_cons (ge_tup (ga_cons (ge_int) (ga_cons (ge_var (pv 1)) (ga_nil)))) (ga_nil))) (ge_bl) (nomark _)) (ge_one (ge_cmp go_is (ge_call G_is_net (hr.mono (by decide)) rfl T.m_is_net T.F_is_net.kp T.B_is_net pass0 (ga_cons (ge_tup (ga_cons (ge_int) (ga_cons (ge_op go_add (ge_op go_add (ge_sl gl_sl (ge_var (pv 1)) (gp_none) (gp_some (ge_var (pv 2)))) (ge_tup (ga_cons (ge_var (pv 3)) (ga_nil)))) (ge_sl gl_sl (ge_var (pv 1)) (gp_some (ge_var (pv 2))) (gp_none))) (ga_nil)))) (ga_nil))) (ge_bl) (nomark _))))))))
def b__law_bent (sp__law_draw : SpW) (sp__law_odd : SpW) (sp__law_bent_row : SpW) (sp__law_bent : SpW) : SS :=
  sSeq (sSet 2 (wCall sp__law_draw (aCons (wVar 0) (aCons (wC (.int 8)) (aNil))))) (sSeq (sSet 3 (wOp oEq (wCall sp__law_draw (aCons (wVar 0) (aCons (wC (.int 4)) (aNil)))) (wC (.int 1)))) (sSeq (sIf (wAnd (wTest (wCall cIsi (aCons (wVar 1) (aCons (wTy "tuple") (aNil))))) (wAnd (wTest (wOp oNeE (wVar 1) (wTup (aNil)))) (wTest (wOp oLt (wVar 2) (wC (.int 5)))))) (sSeq (sSet 4 (wOp oIx (wLst (aCons (wCall sp__law_draw (aCons (wVar 0) (aCons (wCall cLen (aCons (wVar 1) (aNil))) (aNil)))) (aCons (wOp oSubA (wCall cLen (aCons (wVar 1) (aNil))) (wC (.int 1))) (aNil)))) (wCall cInt (aCons (wVar 3) (aNil))))) (sRet (wOp oAddA (wOp oAddA (wSl oSl (wVar 1) (wNoP) (wP (wVar 4))) (wTup (aCons (wCall sp__law_bent (aCons (wVar 0) (aCons (wOp oIx (wVar 1) (wVar 4)) (aNil)))) (aNil)))) (wSl oSl (wVar 1) (wP (wOp oAddA (wVar 4) (wC (.int 1)))) (wNoP))))) (sNext)) (sSeq (sIf (wTest (wCall cIsi (aCons (wVar 1) (aCons (wTy "tuple") (aNil))))) (sRet (wCall sp__law_bent_row (aCons (wVar 0) (aCons (wVar 1) (aNil))))) (sNext)) (sSeq (sIf (wAnd (wTest (wCall cIsi (aCons (wVar 1) (aCons (wTy "int") (aNil))))) (wTest (wOp oLt (wVar 2) (wC (.int 5))))) (sRet (wOp oIx (wLst (aCons (wOp oAddA (wVar 1) (wC (.int 1))) (aCons (wOp oSubA (wVar 1) (wC (.int 1))) (aCons (wOp oSubA (wC (.int 0)) (wVar 1)) (aCons (wOp oEq (wVar 1) (wC (.int 1))) (aCons (wCall cStrA (aCons (wVar 1) (aNil))) (aNil))))))) (wVar 2))) (sNext)) (sSeq (sIf (wAnd (wTest (wCall cIsi (aCons (wVar 1) (aCons (wTy "str") (aNil))))) (wTest (wOp oLt (wVar 2) (wC (.int 4))))) (sRet (wOp oIx (wLst (aCons (wOp oAddA (wVar 1) (wC (.str "s"))) (aCons (wSl oSl (wVar 1) (wNoP) (wP (wNeg (wC (.int 1))))) (aCons (wUpper (wVar 1)) (aCons (wOp oAddA (wVar 1) (wC (.str " "))) (aNil)))))) (wVar 2))) (sNext)) (sRet (wCall sp__law_odd (aCons (wVar 0) (aNil)))))))))
theorem ok__law_bent {k__law_bent : Nat} (hk : 3 ≤ k__law_bent) {sp__law_draw : SpW} {sp__law_odd : SpW} {sp__law_bent_row : SpW} {sp__law_bent : SpW} (T : Tx K mg a) (G__law_draw : FnOk P w K mg base CX0 1 a.f__law_draw a.d__law_draw P__law_draw (rdSp K sp__law_draw)) (G__law_odd : FnOk P w K mg base CX0 2 a.f__law_odd a.d__law_odd P__law_odd (rdSp K sp__law_odd)) (G__law_bent_row : FnOk P w K mg base CX0 3 a.f__law_bent_row a.d__law_bent_row P__law_bent_row (rdSp K sp__law_bent_row)) (G__law_bent : FnOk P w K mg base CX0 k__law_bent a.f__law_bent a.d__law_bent P__law_bent (rdSp K sp__law_bent)) : FnOk P w K mg base CX0 (k__law_bent + 1) a.f__law_bent a.d__law_bent P__law_bent (rdSp K (spBody N__law_bent 2 (b__law_bent sp__law_draw sp__law_odd sp__law_bent_row sp__law_bent))) :=
  Fun.okW T.F__law_bent sc__law_bent fun cdv A outer s H E hr hcd =>
    gb_cons (gs_set (i := 2) sc__law_bent.nd rfl (by first | exact Or.inl rfl | exact Or.inr rfl) (ge_call G__law_draw (hr.mono (by omega)) rfl T.m__law_draw T.F__law_draw.kp T.B__law_draw pass0 (ga_cons (ge_var (pv 0)) (ga_cons (ge_int) (ga_nil))))) (gb_cons (gs_set (i := 3) sc__law_bent.nd rfl (by first | exact Or.inl rfl | exact Or.inr rfl) (ge_cmp (go_eq hr.units) (ge_call G__law_draw (hr.mono (by omega)) rfl T.m__law_draw T.F__law_draw.kp T.B__law_draw pass0 (ga_cons (ge_var (pv 0)) (ga_cons (ge_int) (ga_nil)))) (ge_int) (nomark _))) (gb_cons (gs_if (GW.gt (gw_and (gt_val (ge_callB (gc_isi) rfl T.z_isinstance (by decide +kernel) (ga_cons (ge_var (pv 1)) (ga_cons (ge_ty rfl T.z_tuple (by decide +kernel)) (ga_nil))))) (gw_and (gt_cmp (go_neE hr.units) (ge_var (pv 1)) (ge_tup (ga_nil)) (nomark _)) (gw_and1 (gt_cmp go_lt (ge_var (pv 2)) (ge_int) (nomark _)))))) (gb_cons (gs_set (i := 4) sc__law_bent.nd rfl (by first | exact Or.inl rfl | exact Or.inr rfl) (ge_ix gi_ix (ge_lst (ga_cons (ge_call G__law_draw (hr.mono (by omega)) rfl T.m__law_draw T.F__law_draw.kp T.B__law_draw pass0 (ga_cons (ge_var (pv 0)) (ga_cons (ge_callB (gc_len) rfl T.z_len (by decide +kernel) (ga_cons (ge_var (pv 1)) (ga_nil))) (ga_nil)))) (ga_cons (ge_op go_subA (ge_callB (gc_len) rfl T.z_len (by decide +kernel) (ga_cons (ge_var (pv 1)) (ga_nil))) (ge_int)) (ga_nil)))) (ge_callTy gc_int rfl T.z_int (by decide +kernel) (ga_cons (ge_var (pv 3)) (ga_nil))) (fun _ _ => rfl))) (gb_one (gs_ret (ge_op go_addA (ge_op go_addA (ge_sl gl_sl (ge_var (pv 1)) (gp_none) (gp_some (ge_var (pv 4)))) (ge_tup (ga_cons (ge_call G__law_bent (hr.mono (by omega)) rfl T.m__law_bent T.F__law_bent.kp T.B__law_bent pass0 (ga_cons (ge_var (pv 0)) (ga_cons (ge_ix gi_ix (ge_var (pv 1)) (ge_var (pv 4)) (fun _ _ => rfl)) (ga_nil)))) (ga_nil)))) (ge_sl gl_sl (ge_var (pv 1)) (gp_some (ge_op go_addA (ge_var (pv 4)) (ge_int))) (gp_none)))))) (gb_nil)) (gb_cons (gs_if (gt_val (ge_callB (gc_isi) rfl T.z_isinstance (by decide +kernel) (ga_cons (ge_var (pv 1)) (ga_cons (ge_ty rfl T.z_tuple (by decide +kernel)) (ga_nil))))) (gb_one (gs_ret (ge_call G__law_bent_row (hr.mono (by omega)) rfl T.m__law_bent_row T.F__law_bent_row.kp T.B__law_bent_row pass0 (ga_cons (ge_var (pv 0)) (ga_cons (ge_var (pv 1)) (ga_nil)))))) (gb_nil)) (gb_cons (gs_if (GW.gt (gw_and (gt_val (ge_callB (gc_isi) rfl T.z_isinstance (by decide +kernel) (ga_cons (ge_var (pv 1)) (ga_cons (ge_ty rfl T.z_int (by decide +kernel)) (ga_nil))))) (gw_and1 (gt_cmp go_lt (ge_var (pv 2)) (ge_int) (nomark _))))) (gb_one (gs_ret (ge_ix gi_ix (ge_lst (ga_cons (ge_op go_addA (ge_var (pv 1)) (ge_int)) (ga_cons (ge_op go_subA (ge_var (pv 1)) (ge_int)) (ga_cons (ge_op go_subA (ge_int) (ge_var (pv 1))) (ga_cons (ge_cmp (go_eq hr.units) (ge_var (pv 1)) (ge_int) (nomark _)) (ga_cons (ge_callTy (gc_strA hr) rfl T.z_str (by decide +kernel) (ga_cons (ge_var (pv 1)) (ga_nil))) (ga_nil))))))) (ge_var (pv 2)) (fun _ _ => rfl)))) (gb_nil)) (gb_cons (gs_if (GW.gt (gw_and (gt_val (ge_callB (gc_isi) rfl T.z_isinstance (by decide +kernel) (ga_cons (ge_var (pv 1)) (ga_cons (ge_ty rfl T.z_str (by decide +kernel)) (ga_nil))))) (gw_and1 (gt_cmp go_lt (ge_var (pv 2)) (ge_int) (nomark _))))) (gb_one (gs_ret (ge_ix gi_ix (ge_lst (ga_cons (ge_op go_addA (ge_var (pv 1)) (ge_str)) (ga_cons (ge_sl gl_sl (ge_var (pv 1)) (gp_none) (gp_some (ge_neg (ge_int)))) (ga_cons (ge_upper (ge_var (pv 1))) (ga_cons (ge_op go_addA (ge_var (pv 1)) (ge_str)) (ga_nil)))))) (ge_var (pv 2)) (fun _ _ => rfl)))) (gb_nil)) (gb_one (gs_ret (ge_call G__law_odd (hr.mono (by omega)) rfl T.m__law_odd T.F__law_odd.kp T.B__law_odd pass0 (ga_cons (ge_var (pv 0)) (ga_nil))))))))))
def b__law_things (sp__law_bent : SpW) (sp__law_odd : SpW) : SS :=
  sSeq (sAsg (wVar 1) (nTup 2 (nCons (nName 2) (nCons (nName 3) (nNil))))) (sSeq (sSet 4 (wNew (aCons (wVar 1) (aCons (wCall cList (aCons (wVar 1) (aNil))) (aCons (wTup (aCons (wVar 2) (aCons (wCall cList (aCons (wVar 3) (aNil))) (aNil)))) (aCons (wTup (aCons (wOp oAdd (wVar 2) (wC (.int 1))) (aCons (wVar 3) (aNil)))) (aCons (wTup (aCons (wCall cMax (aCons (wC (.int 1)) (aCons (wOp oSub (wVar 2) (wC (.int 1))) (aNil)))) (aCons (wVar 3) (aNil)))) (aCons (wTup (aCons (wC (.int 0)) (aCons (wVar 3) (aNil)))) (aNil))))))))) (sSeq (sSet 4 (wOp oAddN (wVar 4) (wLst (aCons (wTup (aCons (wC (.bool true)) (aCons (wTup (aNil)) (aNil)))) (aCons (wTup (aCons (wC (.int 1)) (aCons (wTup (aNil)) (aNil)))) (aCons (wTup (aCons (wNeg (wC (.int 1))) (aCons (wTup (aNil)) (aNil)))) (aCons (wTup (aCons (wVar 2) (aNil))) (aCons (wOp oAdd (wVar 1) (wTup (aCons (wTup (aNil)) (aNil)))) (aCons (wTup (aCons (wVar 3) (aCons (wVar 2) (aNil)))) (aCons (wTup (aCons (wVar 2) (aCons (wC .none) (aNil)))) (aCons (wTup (aCons (wTup (aNil)) (aCons (wTup (aNil)) (aNil)))) (aNil)))))))))))) (sSeq (sSet 4 (wOp oAddN (wVar 4) (wLst (aCons (wTup (aCons (wC (.int 11)) (aCons (wTup (aCons (wTup (aCons (wC (.str "to")) (aCons (wC (.int 10)) (aCons (wC (.int 0)) (aCons (wC (.int 0)) (aCons (wC (.int 1)) (aNil))))))) (aNil))) (aNil)))) (aCons (wTup (aCons (wOp oPow (wC (.int 10)) (wC (.int 39))) (aCons (wTup (aCons (wTup (aCons (wC (.str "both")) (aCons (wOp oSub (wOp oPow (wC (.int 10)) (wC (.int 39))) (wC (.int 1))) (aCons (wC (.int 0)) (aCons (wC (.int 1)) (aCons (wC (.int 1)) (aNil))))))) (aNil))) (aNil)))) (aCons (wCall sp__law_odd (aCons (wVar 0) (aNil))) (aNil))))))) (sSeq (sSet 5 (wOp oAdd (wVar 3) (wOp oMulT (wTup (aCons (wTup (aCons (wC (.str "to")) (aCons (wC (.int 0)) (aCons (wC (.int 1)) (aCons (wC (.int 5)) (aCons (wC (.int 5)) (aNil))))))) (aNil))) (wC (.int 41))))) (sSeq (sSet 4 (wOp oAddN (wVar 4) (wLst (aCons (wTup (aCons (wCall cMax (aCons (wC (.int 2)) (aCons (wVar 2) (aNil)))) (aCons (wVar 5) (aNil)))) (aCons (wTup (aCons (wCall cMax (aCons (wC (.int 2)) (aCons (wVar 2) (aNil)))) (aCons (wOp oAdd (wVar 5) (wTup (aCons (wTup (aCons (wC (.str "to")) (aCons (wC (.int 0)) (aCons (wC (.int 0)) (aCons (wC (.int 5)) (aCons (wC (.int 5)) (aNil))))))) (aNil)))) (aNil)))) (aNil)))))) (sSeq (sDrop (wApp (wVar 4) (wTup (aCons (wCall cMax (aCons (wC (.int 2)) (aCons (wVar 2) (aNil)))) (aCons (wOp oAdd (wVar 5) (wTup (aCons (wCall sp__law_bent (aCons (wVar 0) (aCons (wTup (aCons (wC (.str "both")) (aCons (wC (.int 1)) (aCons (wC (.int 0)) (aCons (wC (.int 5)) (aCons (wC (.int 5)) (aNil))))))) (aNil)))) (aNil)))) (aNil)))))) (sSeq (sFor (iRng (aCons (wC (.int 6)) (aNil))) (nName 6) (sSeq (sSet 7 (wCall sp__law_bent (aCons (wVar 0) (aCons (wVar 1) (aNil))))) (sSet 4 (wOp oAddN (wVar 4) (wLst (aCons (wVar 7) (aCons (wCall sp__law_bent (aCons (wVar 0) (aCons (wVar 7) (aNil)))) (aNil)))))))) (sRet (wVar 4)))))))))
theorem ok__law_things {sp__law_bent : SpW} {sp__law_odd : SpW} (T : Tx K mg a) (G__law_bent : FnOk P w K mg base CX0 21 a.f__law_bent a.d__law_bent P__law_bent (rdSp K sp__law_bent)) (G__law_odd : FnOk P w K mg base CX0 2 a.f__law_odd a.d__law_odd P__law_odd (rdSp K sp__law_odd)) : FnOk P w K mg base CX0 22 a.f__law_things a.d__law_things P__law_things (rdSp K (spBody N__law_things 2 (b__law_things sp__law_bent sp__law_odd))) :=
  Fun.okW T.F__law_things sc__law_things fun cdv A outer s H E hr hcd =>
    gb_cons (gs_asg (ge_var (pv 1)) (gg_tup rfl (ggs_cons (gg_name (pg_name (i := 2) sc__law_things.nd rfl (by first | exact Or.inl rfl | exact Or.inr rfl))) (ggs_cons (gg_name (pg_name (i := 3) sc__law_things.nd rfl (by first | exact Or.inl rfl | exact Or.inr rfl))) (ggs_nil))))) (gb_cons (gs_set (i := 4) sc__law_things.nd rfl (by first | exact Or.inl rfl | exact Or.inr rfl) (ge_new (ga_cons (ge_var (pv 1)) (ga_cons (ge_callTy gc_list rfl T.z_list (by decide +kernel) (ga_cons (ge_var (pv 1)) (ga_nil))) (ga_cons (ge_tup (ga_cons (ge_var (pv 2)) (ga_cons (ge_callTy gc_list rfl T.z_list (by decide +kernel) (ga_cons (ge_var (pv 3)) (ga_nil))) (ga_nil)))) (ga_cons (ge_tup (ga_cons (ge_op go_add (ge_var (pv 2)) (ge_int)) (ga_cons (ge_var (pv 3)) (ga_nil)))) (ga_cons (ge_tup (ga_cons (ge_callB (gc_max rfl) rfl T.z_max (by decide +kernel) (ga_cons (ge_int) (ga_cons (ge_op go_sub (ge_var (pv 2)) (ge_int)) (ga_nil)))) (ga_cons (ge_var (pv 3)) (ga_nil)))) (ga_cons (ge_tup (ga_cons (ge_int) (ga_cons (ge_var (pv 3)) (ga_nil)))) (ga_nil))))))))) (gb_cons (gs_set (i := 4) sc__law_things.nd rfl (by first | exact Or.inl rfl | exact Or.inr rfl) (ge_op go_addN (ge_var (pv 4)) (ge_lst (ga_cons (ge_tup (ga_cons (ge_bl) (ga_cons (ge_tup (ga_nil)) (ga_nil)))) (ga_cons (ge_tup (ga_cons (ge_int) (ga_cons (ge_tup (ga_nil)) (ga_nil)))) (ga_cons (ge_tup (ga_cons (ge_neg (ge_int)) (ga_cons (ge_tup (ga_nil)) (ga_nil)))) (ga_cons (ge_tup (ga_cons (ge_var (pv 2)) (ga_nil))) (ga_cons (ge_op go_add (ge_var (pv 1)) (ge_tup (ga_cons (ge_tup (ga_nil)) (ga_nil)))) (ga_cons (ge_tup (ga_cons (ge_var (pv 3)) (ga_cons (ge_var (pv 2)) (ga_nil)))) (ga_cons (ge_tup (ga_cons (ge_var (pv 2)) (ga_cons (ge_non) (ga_nil)))) (ga_cons (ge_tup (ga_cons (ge_tup (ga_nil)) (ga_cons (ge_tup (ga_nil)) (ga_nil)))) (ga_nil)))))))))))) (gb_cons (gs_set (i := 4) sc__law_things.nd rfl (by first | exact Or.inl rfl | exact Or.inr rfl) (ge_op go_addN (ge_var (pv 4)) (ge_lst (ga_cons (ge_tup (ga_cons (ge_int) (ga_cons (ge_tup (ga_cons (ge_tup (ga_cons (ge_str) (ga_cons (ge_int) (ga_cons (ge_int) (ga_cons (ge_int) (ga_cons (ge_int) (ga_nil))))))) (ga_nil))) (ga_nil)))) (ga_cons (ge_tup (ga_cons (ge_op go_pow (ge_int) (ge_int)) (ga_cons (ge_tup (ga_cons (ge_tup (ga_cons (ge_str) (ga_cons (ge_op go_sub (ge_op go_pow (ge_int) (ge_int)) (ge_int)) (ga_cons (ge_int) (ga_cons (ge_int) (ga_cons (ge_int) (ga_nil))))))) (ga_nil))) (ga_nil)))) (ga_cons (ge_call G__law_odd (hr.mono (by decide)) rfl T.m__law_odd T.F__law_odd.kp T.B__law_odd pass0 (ga_cons (ge_var (pv 0)) (ga_nil))) (ga_nil))))))) (gb_cons (gs_set (i := 5) sc__law_things.nd rfl (by first | exact Or.inl rfl | exact Or.inr rfl) (ge_op go_add (ge_var (pv 3)) (ge_op go_mulT (ge_tup (ga_cons (ge_tup (ga_cons (ge_str) (ga_cons (ge_int) (ga_cons (ge_int) (ga_cons (ge_int) (ga_cons (ge_int) (ga_nil))))))) (ga_nil))) (ge_int)))) (gb_cons (gs_set (i := 4) sc__law_things.nd rfl (by first | exact Or.inl rfl | exact Or.inr rfl) (ge_op go_addN (ge_var (pv 4)) (ge_lst (ga_cons (ge_tup (ga_cons (ge_callB (gc_max rfl) rfl T.z_max (by decide +kernel) (ga_cons (ge_int) (ga_cons (ge_var (pv 2)) (ga_nil)))) (ga_cons (ge_var (pv 5)) (ga_nil)))) (ga_cons (ge_tup (ga_cons (ge_callB (gc_max rfl) rfl T.z_max (by decide +kernel) (ga_cons (ge_int) (ga_cons (ge_var (pv 2)) (ga_nil)))) (ga_cons (ge_op go_add (ge_var (pv 5)) (ge_tup (ga_cons (ge_tup (ga_cons (ge_str) (ga_cons (ge_int) (ga_cons (ge_int) (ga_cons (ge_int) (ga_cons (ge_int) (ga_nil))))))) (ga_nil)))) (ga_nil)))) (ga_nil)))))) (gb_cons (gs_expr (ge_app (ge_var (pv 4)) (ge_tup (ga_cons (ge_callB (gc_max rfl) rfl T.z_max (by decide +kernel) (ga_cons (ge_int) (ga_cons (ge_var (pv 2)) (ga_nil)))) (ga_cons (ge_op go_add (ge_var (pv 5)) (ge_tup (ga_cons (ge_call G__law_bent (hr.mono (by decide)) rfl T.m__law_bent T.F__law_bent.kp T.B__law_bent pass0 (ga_cons (ge_var (pv 0)) (ga_cons (ge_tup (ga_cons (ge_str) (ga_cons (ge_int) (ga_cons (ge_int) (ga_cons (ge_int) (ga_cons (ge_int) (ga_nil))))))) (ga_nil)))) (ga_nil)))) (ga_nil)))))) (gb_cons (gs_for PassesOwn.never rfl (gi_rng rfl T.z_range (ga_cons (ge_int) (ga_nil))) (gg_name (pg_name (i := 6) sc__law_things.nd rfl (by first | exact Or.inl rfl | exact Or.inr rfl))) (gb_cons (gs_set (i := 7) sc__law_things.nd rfl (by first | exact Or.inl rfl | exact Or.inr rfl) (ge_call G__law_bent (hr.mono (by decide)) rfl T.m__law_bent T.F__law_bent.kp T.B__law_bent pass0 (ga_cons (ge_var (pv 0)) (ga_cons (ge_var (pv 1)) (ga_nil))))) (gb_one (gs_set (i := 4) sc__law_things.nd rfl (by first | exact Or.inl rfl | exact Or.inr rfl) (ge_op go_addN (ge_var (pv 4)) (ge_lst (ga_cons (ge_var (pv 7)) (ga_cons (ge_call G__law_bent (hr.mono (by decide)) rfl T.m__law_bent T.F__law_bent.kp T.B__law_bent pass0 (ga_cons (ge_var (pv 0)) (ga_cons (ge_var (pv 7)) (ga_nil)))) (ga_nil))))))))) (gb_one (gs_ret (ge_var (pv 4)))))))))))
def b_law (sp__law_deck : SpW) (sp__law_net : SpW) (sp__law_things : SpW) (sp_is_net : SpW) (sp__law_draw : SpW) (sp__law_long_right : SpW) (sp__law_told : SpW) : SS :=
  sSeq (sFor (iSeq (wOp oAdd (wSl oSl (wVar 0) (wNoP) (wP (wC (.int 6)))) (wLst (aCons (wC (.int 3)) (aNil))))) (nName 1) (sSeq (sSet 2 (wCall sp__law_deck (aCons (wVar 1) (aNil)))) (sSeq (sSet 3 (wCall sp__law_net (aCons (wVar 2) (aNil)))) (sSeq (sIf (wTest (wOp oIsNot (wCall sp_is_net (aCons (wVar 3) (aNil))) (wC (.bool true)))) (sRet (wC (.bool false))) (sNext)) (sSeq (sIf (wAnd (wTest (wOp oEq (wCall sp__law_draw (aCons (wVar 2) (aCons (wC (.int 16)) (aNil)))) (wC (.int 5)))) (wNot (wTest (wCall sp__law_long_right (aCons (wVar 2) (aNil)))))) (sRet (wC (.bool false))) (sNext)) (sSeq (sFor (iSeq (wCall sp__law_things (aCons (wVar 2) (aCons (wVar 3) (aNil))))) (nName 4) (sIf (wNot (wTest (wCall sp__law_told (aCons (wVar 4) (aNil))))) (sRet (wC (.bool false))) (sNext))) (sIf (wTest (wOp oIsNot (wCall sp_is_net (aCons (wVar 3) (aNil))) (wC (.bool true)))) (sRet (wC (.bool false))) (sNext)))))))) (sRet (wC (.bool true)))
theorem ok_law {sp__law_deck : SpW} {sp__law_net : SpW} {sp__law_things : SpW} {sp_is_net : SpW} {sp__law_draw : SpW} {sp__law_long_right : SpW} {sp__law_told : SpW} (T : Tx K mg a) (G__law_deck : FnOk P w K mg base CX0 1 a.f__law_deck a.d__law_deck P__law_deck (rdSp K sp__law_deck)) (G__law_net : FnOk P w K mg base CX0 5 a.f__law_net a.d__law_net P__law_net (rdSp K sp__law_net)) (G__law_things : FnOk P w K mg base CX0 22 a.f__law_things a.d__law_things P__law_things (rdSp K sp__law_things)) (G_is_net : FnOk P w K mg base CX0 8 a.f_is_net a.d_is_net P_is_net (rdSp K sp_is_net)) (G__law_draw : FnOk P w K mg base CX0 1 a.f__law_draw a.d__law_draw P__law_draw (rdSp K sp__law_draw)) (G__law_long_right : FnOk P w K mg base CX0 9 a.f__law_long_right a.d__law_long_right P__law_long_right (rdSp K sp__law_long_right)) (G__law_told : FnOk P w K mg base CX0 9 a.f__law_told a.d__law_told P__law_told (rdSp K sp__law_told)) : FnOk P w K mg base CX0 23 a.f_law a.d_law P_law (rdSp K (spBody N_law 1 (b_law sp__law_deck sp__law_net sp__law_things sp_is_net sp__law_draw sp__law_long_right sp__law_told))) :=
  Fun.okW T.F_law sc_law fun cdv A outer s H E hr hcd =>
    gb_cons (gs_for PassesOwn.never rfl (gi_seq (ge_op go_add (ge_sl gl_sl (ge_var (pv 0)) (gp_none) (gp_some (ge_int))) (ge_lst (ga_cons (ge_int) (ga_nil))))) (gg_name (pg_name (i := 1) sc_law.nd rfl (by first | exact Or.inl rfl | exact Or.inr rfl))) (gb_cons (gs_set (i := 2) sc_law.nd rfl (by first | exact Or.inl rfl | exact Or.inr rfl) (ge_call G__law_deck (hr.mono (by decide)) rfl T.m__law_deck T.F__law_deck.kp T.B__law_deck pass0 (ga_cons (ge_var (pv 1)) (ga_nil)))) (gb_cons (gs_set (i := 3) sc_law.nd rfl (by first | exact Or.inl rfl | exact Or.inr rfl) (ge_call G__law_net (hr.mono (by decide)) rfl T.m__law_net T.F__law_net.kp T.B__law_net pass0 (ga_cons (ge_var (pv 2)) (ga_nil)))) (gb_cons (gs_if (gt_cmp go_isNot (ge_call G_is_net (hr.mono (by decide)) rfl T.m_is_net T.F_is_net.kp T.B_is_net pass0 (ga_cons (ge_var (pv 3)) (ga_nil))) (ge_bl) (nomark _)) (gb_one (gs_ret (ge_bl))) (gb_nil)) (gb_cons (gs_if (GW.gt (gw_and (gt_cmp (go_eq hr.units) (ge_call G__law_draw (hr.mono (by decide)) rfl T.m__law_draw T.F__law_draw.kp T.B__law_draw pass0 (ga_cons (ge_var (pv 2)) (ga_cons (ge_int) (ga_nil)))) (ge_int) (nomark _)) (gw_and1 (gt_not (gt_val (ge_call G__law_long_right (hr.mono (by decide)) rfl T.m__law_long_right T.F__law_long_right.kp T.B__law_long_right pass0 (ga_cons (ge_var (pv 2)) (ga_nil)))))))) (gb_one (gs_ret (ge_bl))) (gb_nil)) (gb_cons (gs_for PassesOwn.never rfl (gi_seq (ge_call G__law_things (hr.mono (by decide)) rfl T.m__law_things T.F__law_things.kp T.B__law_things pass0 (ga_cons (ge_var (pv 2)) (ga_cons (ge_var (pv 3)) (ga_nil))))) (gg_name (pg_name (i := 4) sc_law.nd rfl (by first | exact Or.inl rfl | exact Or.inr rfl))) (gb_one (gs_if (gt_not (gt_val (ge_call G__law_told (hr.mono (by decide)) rfl T.m__law_told T.F__law_told.kp T.B__law_told pass0 (ga_cons (ge_var (pv 4)) (ga_nil))))) (gb_one (gs_ret (ge_bl))) (gb_nil)))) (gb_one (gs_if (gt_cmp go_isNot (ge_call G_is_net (hr.mono (by decide)) rfl T.m_is_net T.F_is_net.kp T.B_is_net pass0 (ga_cons (ge_var (pv 3)) (ga_nil))) (ge_bl) (nomark _)) (gb_one (gs_ret (ge_bl))) (gb_nil))))))))) (gb_one (gs_ret (ge_bl)))
end
theorem tx_mk {K : PySem.W.Frag} {h : Heap} {mg : Str → Option Value} {f0 : Addr} {od0 an0 : Option Addr} {sl0 : Array (Option Value)} {oc0 kV0 dc0 pm0 cd0 ct0 : Value} {f1 : Addr} {od1 an1 : Option Addr} {sl1 : Array (Option Value)} {oc1 kV1 dc1 pm1 cd1 ct1 : Value} {f2 : Addr} {od2 an2 : Option Addr} {sl2 : Array (Option Value)} {oc2 kV2 dc2 pm2 cd2 ct2 : Value} {f3 : Addr} {od3 an3 : Option Addr} {sl3 : Array (Option Value)} {oc3 kV3 dc3 pm3 cd3 ct3 : Value} {f4 : Addr} {od4 an4 : Option Addr} {sl4 : Array (Option Value)} {oc4 kV4 dc4 pm4 cd4 ct4 : Value} {f5 : Addr} {od5 an5 : Option Addr} {sl5 : Array (Option Value)} {oc5 kV5 dc5 pm5 cd5 ct5 : Value} {f6 : Addr} {od6 an6 : Option Addr} {sl6 : Array (Option Value)} {oc6 kV6 dc6 pm6 cd6 ct6 : Value} {f7 : Addr} {od7 an7 : Option Addr} {sl7 : Array (Option Value)} {oc7 kV7 dc7 pm7 cd7 ct7 : Value} {f8 : Addr} {od8 an8 : Option Addr} {sl8 : Array (Option Value)} {oc8 kV8 dc8 pm8 cd8 ct8 : Value} {f9 : Addr} {od9 an9 : Option Addr} {sl9 : Array (Option Value)} {oc9 kV9 dc9 pm9 cd9 ct9 : Value} {f10 : Addr} {od10 an10 : Option Addr} {sl10 : Array (Option Value)} {oc10 kV10 dc10 pm10 cd10 ct10 : Value} {f11 : Addr} {od11 an11 : Option Addr} {sl11 : Array (Option Value)} {oc11 kV11 dc11 pm11 cd11 ct11 : Value} {f12 : Addr} {od12 an12 : Option Addr} {sl12 : Array (Option Value)} {oc12 kV12 dc12 pm12 cd12 ct12 : Value} {f13 : Addr} {od13 an13 : Option Addr} {sl13 : Array (Option Value)} {oc13 kV13 dc13 pm13 cd13 ct13 : Value} {f14 : Addr} {od14 an14 : Option Addr} {sl14 : Array (Option Value)} {oc14 kV14 dc14 pm14 cd14 ct14 : Value} {f15 : Addr} {od15 an15 : Option Addr} {sl15 : Array (Option Value)} {oc15 kV15 dc15 pm15 cd15 ct15 : Value} {f16 : Addr} {od16 an16 : Option Addr} {sl16 : Array (Option Value)} {oc16 kV16 dc16 pm16 cd16 ct16 : Value} {f17 : Addr} {od17 an17 : Option Addr} {sl17 : Array (Option Value)} {oc17 kV17 dc17 pm17 cd17 ct17 : Value} {f18 : Addr} {od18 an18 : Option Addr} {sl18 : Array (Option Value)} {oc18 kV18 dc18 pm18 cd18 ct18 : Value} {f19 : Addr} {od19 an19 : Option Addr} {sl19 : Array (Option Value)} {oc19 kV19 dc19 pm19 cd19 ct19 : Value} {f20 : Addr} {od20 an20 : Option Addr} {sl20 : Array (Option Value)} {oc20 kV20 dc20 pm20 cd20 ct20 : Value} {ac0 : Addr} {nc0 : Nat} {sc0 : Array (Option Value)} {tc0_0 : Tok} {tc0_1 : Tok} (X : K.In h) (G : h.Ns mainGlobals mg)
    (a0 : PySem.W.nsIn K mainGlobals "is_whole" = some (some (.ref f0)))
    (l0 : K.lookup f0 = some ⟨oc0, od0, .func (PySem.W.fnOf "is_whole" "is_whole" (defArgs s_is_whole) (defBody s_is_whole) (defScope s_is_whole) .none kV0 dc0 pm0 an0 cd0 ct0), sl0⟩)
    (c0 : PySem.W.codeIn K cd0 "is_whole" = true) (k0 : PySem.W.keepIn K (.ref f0) = true)
    (a1 : PySem.W.nsIn K mainGlobals "_law_deck" = some (some (.ref f1)))
    (l1 : K.lookup f1 = some ⟨oc1, od1, .func (PySem.W.fnOf "_law_deck" "_law_deck" (defArgs s__law_deck) (defBody s__law_deck) (defScope s__law_deck) .none kV1 dc1 pm1 an1 cd1 ct1), sl1⟩)
    (c1 : PySem.W.codeIn K cd1 "_law_deck" = true) (k1 : PySem.W.keepIn K (.ref f1) = true)
    (a2 : PySem.W.nsIn K mainGlobals "_law_draw" = some (some (.ref f2)))
    (l2 : K.lookup f2 = some ⟨oc2, od2, .func (PySem.W.fnOf "_law_draw" "_law_draw" (defArgs s__law_draw) (defBody s__law_draw) (defScope s__law_draw) .none kV2 dc2 pm2 an2 cd2 ct2), sl2⟩)
    (c2 : PySem.W.codeIn K cd2 "_law_draw" = true) (k2 : PySem.W.keepIn K (.ref f2) = true)
    (a3 : PySem.W.nsIn K mainGlobals "_law_is_whole" = some (some (.ref f3)))
    (l3 : K.lookup f3 = some ⟨oc3, od3, .func (PySem.W.fnOf "_law_is_whole" "_law_is_whole" (defArgs s__law_is_whole) (defBody s__law_is_whole) (defScope s__law_is_whole) .none kV3 dc3 pm3 an3 cd3 ct3), sl3⟩)
    (c3 : PySem.W.codeIn K cd3 "_law_is_whole" = true) (k3 : PySem.W.keepIn K (.ref f3) = true)
    (a4 : PySem.W.nsIn K mainGlobals "is_number_below" = some (some (.ref f4)))
    (l4 : K.lookup f4 = some ⟨oc4, od4, .func (PySem.W.fnOf "is_number_below" "is_number_below" (defArgs s_is_number_below) (defBody s_is_number_below) (defScope s_is_number_below) .none kV4 dc4 pm4 an4 cd4 ct4), sl4⟩)
    (c4 : PySem.W.codeIn K cd4 "is_number_below" = true) (k4 : PySem.W.keepIn K (.ref f4) = true)
    (a5 : PySem.W.nsIn K mainGlobals "_law_far" = some (some (.ref f5)))
    (l5 : K.lookup f5 = some ⟨oc5, od5, .func (PySem.W.fnOf "_law_far" "_law_far" (defArgs s__law_far) (defBody s__law_far) (defScope s__law_far) .none kV5 dc5 pm5 an5 cd5 ct5), sl5⟩)
    (c5 : PySem.W.codeIn K cd5 "_law_far" = true) (k5 : PySem.W.keepIn K (.ref f5) = true)
    (a6 : PySem.W.nsIn K mainGlobals "_law_many" = some (some (.ref f6)))
    (l6 : K.lookup f6 = some ⟨oc6, od6, .func (PySem.W.fnOf "_law_many" "_law_many" (defArgs s__law_many) (defBody s__law_many) (defScope s__law_many) .none kV6 dc6 pm6 an6 cd6 ct6), sl6⟩)
    (c6 : PySem.W.codeIn K cd6 "_law_many" = true) (k6 : PySem.W.keepIn K (.ref f6) = true)
    (a7 : PySem.W.nsIn K mainGlobals "_law_is_meeting" = some (some (.ref f7)))
    (l7 : K.lookup f7 = some ⟨oc7, od7, .func (PySem.W.fnOf "_law_is_meeting" "_law_is_meeting" (defArgs s__law_is_meeting) (defBody s__law_is_meeting) (defScope s__law_is_meeting) .none kV7 dc7 pm7 an7 cd7 ct7), sl7⟩)
    (c7 : PySem.W.codeIn K cd7 "_law_is_meeting" = true) (k7 : PySem.W.keepIn K (.ref f7) = true)
    (a8 : PySem.W.nsIn K mainGlobals "_law_odd" = some (some (.ref f8)))
    (l8 : K.lookup f8 = some ⟨oc8, od8, .func (PySem.W.fnOf "_law_odd" "_law_odd" (defArgs s__law_odd) (defBody s__law_odd) (defScope s__law_odd) .none kV8 dc8 pm8 an8 cd8 ct8), sl8⟩)
    (c8 : PySem.W.codeIn K cd8 "_law_odd" = true) (k8 : PySem.W.keepIn K (.ref f8) = true)
    (a9 : PySem.W.nsIn K mainGlobals "is_meeting" = some (some (.ref f9)))
    (l9 : K.lookup f9 = some ⟨oc9, od9, .func (PySem.W.fnOf "is_meeting" "is_meeting" (defArgs s_is_meeting) (defBody s_is_meeting) (defScope s_is_meeting) .none kV9 dc9 pm9 an9 cd9 ct9), sl9⟩)
    (c9 : PySem.W.codeIn K cd9 "is_meeting" = true) (k9 : PySem.W.keepIn K (.ref f9) = true)
    (a10 : PySem.W.nsIn K mainGlobals "_law_begin" = some (some (.ref f10)))
    (l10 : K.lookup f10 = some ⟨oc10, od10, .func (PySem.W.fnOf "_law_begin" "_law_begin" (defArgs s__law_begin) (defBody s__law_begin) (defScope s__law_begin) .none kV10 dc10 pm10 an10 cd10 ct10), sl10⟩)
    (c10 : PySem.W.codeIn K cd10 "_law_begin" = true) (k10 : PySem.W.keepIn K (.ref f10) = true)
    (a11 : PySem.W.nsIn K mainGlobals "_law_is_net" = some (some (.ref f11)))
    (l11 : K.lookup f11 = some ⟨oc11, od11, .func (PySem.W.fnOf "_law_is_net" "_law_is_net" (defArgs s__law_is_net) (defBody s__law_is_net) (defScope s__law_is_net) .none kV11 dc11 pm11 an11 cd11 ct11), sl11⟩)
    (c11 : PySem.W.codeIn K cd11 "_law_is_net" = true) (k11 : PySem.W.keepIn K (.ref f11) = true)
    (a12 : PySem.W.nsIn K mainGlobals "_law_bent_row" = some (some (.ref f12)))
    (l12 : K.lookup f12 = some ⟨oc12, od12, .func (PySem.W.fnOf "_law_bent_row" "_law_bent_row" (defArgs s__law_bent_row) (defBody s__law_bent_row) (defScope s__law_bent_row) .none kV12 dc12 pm12 an12 cd12 ct12), sl12⟩)
    (c12 : PySem.W.codeIn K cd12 "_law_bent_row" = true) (k12 : PySem.W.keepIn K (.ref f12) = true)
    (a13 : PySem.W.nsIn K mainGlobals "_law_meeting" = some (some (.ref f13)))
    (l13 : K.lookup f13 = some ⟨oc13, od13, .func (PySem.W.fnOf "_law_meeting" "_law_meeting" (defArgs s__law_meeting) (defBody s__law_meeting) (defScope s__law_meeting) .none kV13 dc13 pm13 an13 cd13 ct13), sl13⟩)
    (c13 : PySem.W.codeIn K cd13 "_law_meeting" = true) (k13 : PySem.W.keepIn K (.ref f13) = true)
    (a14 : PySem.W.nsIn K mainGlobals "_law_net" = some (some (.ref f14)))
    (l14 : K.lookup f14 = some ⟨oc14, od14, .func (PySem.W.fnOf "_law_net" "_law_net" (defArgs s__law_net) (defBody s__law_net) (defScope s__law_net) .none kV14 dc14 pm14 an14 cd14 ct14), sl14⟩)
    (c14 : PySem.W.codeIn K cd14 "_law_net" = true) (k14 : PySem.W.keepIn K (.ref f14) = true)
    (a15 : PySem.W.nsIn K mainGlobals "is_net" = some (some (.ref f15)))
    (l15 : K.lookup f15 = some ⟨oc15, od15, .func (PySem.W.fnOf "is_net" "is_net" (defArgs s_is_net) (defBody s_is_net) (defScope s_is_net) .none kV15 dc15 pm15 an15 cd15 ct15), sl15⟩)
    (c15 : PySem.W.codeIn K cd15 "is_net" = true) (k15 : PySem.W.keepIn K (.ref f15) = true)
    (a16 : PySem.W.nsIn K mainGlobals "_law_told" = some (some (.ref f16)))
    (l16 : K.lookup f16 = some ⟨oc16, od16, .func (PySem.W.fnOf "_law_told" "_law_told" (defArgs s__law_told) (defBody s__law_told) (defScope s__law_told) .none kV16 dc16 pm16 an16 cd16 ct16), sl16⟩)
    (c16 : PySem.W.codeIn K cd16 "_law_told" = true) (k16 : PySem.W.keepIn K (.ref f16) = true)
    (a17 : PySem.W.nsIn K mainGlobals "_law_long_right" = some (some (.ref f17)))
    (l17 : K.lookup f17 = some ⟨oc17, od17, .func (PySem.W.fnOf "_law_long_right" "_law_long_right" (defArgs s__law_long_right) (defBody s__law_long_right) (defScope s__law_long_right) .none kV17 dc17 pm17 an17 cd17 ct17), sl17⟩)
    (c17 : PySem.W.codeIn K cd17 "_law_long_right" = true) (k17 : PySem.W.keepIn K (.ref f17) = true)
    (a18 : PySem.W.nsIn K mainGlobals "_law_bent" = some (some (.ref f18)))
    (l18 : K.lookup f18 = some ⟨oc18, od18, .func (PySem.W.fnOf "_law_bent" "_law_bent" (defArgs s__law_bent) (defBody s__law_bent) (defScope s__law_bent) .none kV18 dc18 pm18 an18 cd18 ct18), sl18⟩)
    (c18 : PySem.W.codeIn K cd18 "_law_bent" = true) (k18 : PySem.W.keepIn K (.ref f18) = true)
    (a19 : PySem.W.nsIn K mainGlobals "_law_things" = some (some (.ref f19)))
    (l19 : K.lookup f19 = some ⟨oc19, od19, .func (PySem.W.fnOf "_law_things" "_law_things" (defArgs s__law_things) (defBody s__law_things) (defScope s__law_things) .none kV19 dc19 pm19 an19 cd19 ct19), sl19⟩)
    (c19 : PySem.W.codeIn K cd19 "_law_things" = true) (k19 : PySem.W.keepIn K (.ref f19) = true)
    (a20 : PySem.W.nsIn K mainGlobals "law" = some (some (.ref f20)))
    (l20 : K.lookup f20 = some ⟨oc20, od20, .func (PySem.W.fnOf "law" "law" (defArgs s_law) (defBody s_law) (defScope s_law) .none kV20 dc20 pm20 an20 cd20 ct20), sl20⟩)
    (c20 : PySem.W.codeIn K cd20 "law" = true) (k20 : PySem.W.keepIn K (.ref f20) = true)
    (z_all : PySem.W.nsIn K mainGlobals "all" = some none)
    (z_bool : PySem.W.nsIn K mainGlobals "bool" = some none)
    (z_int : PySem.W.nsIn K mainGlobals "int" = some none)
    (z_isinstance : PySem.W.nsIn K mainGlobals "isinstance" = some none)
    (z_len : PySem.W.nsIn K mainGlobals "len" = some none)
    (z_list : PySem.W.nsIn K mainGlobals "list" = some none)
    (z_max : PySem.W.nsIn K mainGlobals "max" = some none)
    (z_min : PySem.W.nsIn K mainGlobals "min" = some none)
    (z_range : PySem.W.nsIn K mainGlobals "range" = some none)
    (z_str : PySem.W.nsIn K mainGlobals "str" = some none)
    (z_tuple : PySem.W.nsIn K mainGlobals "tuple" = some none)
    (g0 : PySem.W.nsIn K mainGlobals "WORDS" = some (some (.ref ac0)))
    (h0 : K.lookup ac0 = some ⟨.type "tuple", none, .seq #[.str "to" tc0_0, .str "both" tc0_1] nc0, sc0⟩)
    (t15 : (tabK K cd15).isSome = true) :
    ∃ a : Ad, Tx K mg a := by
  have F0 := fun_mk (st := s_is_whole) l0 c0 k0
  have B0 := F0.binds (ps := P_is_whole) fun _ _ _ _ _ _ us hl => match us, hl with | [_], _ => rfl
  have F1 := fun_mk (st := s__law_deck) l1 c1 k1
  have B1 := F1.binds (ps := P__law_deck) fun _ _ _ _ _ _ us hl => match us, hl with | [_], _ => rfl
  have F2 := fun_mk (st := s__law_draw) l2 c2 k2
  have B2 := F2.binds (ps := P__law_draw) fun _ _ _ _ _ _ us hl => match us, hl with | [_, _], _ => rfl
  have F3 := fun_mk (st := s__law_is_whole) l3 c3 k3
  have B3 := F3.binds (ps := P__law_is_whole) fun _ _ _ _ _ _ us hl => match us, hl with | [_, _], _ => rfl
  have F4 := fun_mk (st := s_is_number_below) l4 c4 k4
  have B4 := F4.binds (ps := P_is_number_below) fun _ _ _ _ _ _ us hl => match us, hl with | [_, _], _ => rfl
  have F5 := fun_mk (st := s__law_far) l5 c5 k5
  have B5 := F5.binds (ps := P__law_far) fun _ _ _ _ _ _ us hl => match us, hl with | [_], _ => rfl
  have F6 := fun_mk (st := s__law_many) l6 c6 k6
  have B6 := F6.binds (ps := P__law_many) fun _ _ _ _ _ _ us hl => match us, hl with | [_], _ => rfl
  have F7 := fun_mk (st := s__law_is_meeting) l7 c7 k7
  have B7 := F7.binds (ps := P__law_is_meeting) fun _ _ _ _ _ _ us hl => match us, hl with | [_, _], _ => rfl
  have F8 := fun_mk (st := s__law_odd) l8 c8 k8
  have B8 := F8.binds (ps := P__law_odd) fun _ _ _ _ _ _ us hl => match us, hl with | [_], _ => rfl
  have F9 := fun_mk (st := s_is_meeting) l9 c9 k9
  have B9 := F9.binds (ps := P_is_meeting) fun _ _ _ _ _ _ us hl => match us, hl with | [_, _], _ => rfl
  have F10 := fun_mk (st := s__law_begin) l10 c10 k10
  have B10 := F10.binds (ps := P__law_begin) fun _ _ _ _ _ _ us hl => match us, hl with | [_, _, _], _ => rfl
  have F11 := fun_mk (st := s__law_is_net) l11 c11 k11
  have B11 := F11.binds (ps := P__law_is_net) fun _ _ _ _ _ _ us hl => match us, hl with | [_], _ => rfl
  have F12 := fun_mk (st := s__law_bent_row) l12 c12 k12
  have B12 := F12.binds (ps := P__law_bent_row) fun _ _ _ _ _ _ us hl => match us, hl with | [_, _], _ => rfl
  have F13 := fun_mk (st := s__law_meeting) l13 c13 k13
  have B13 := F13.binds (ps := P__law_meeting) fun _ _ _ _ _ _ us hl => match us, hl with | [_, _, _, _], _ => rfl
  have F14 := fun_mk (st := s__law_net) l14 c14 k14
  have B14 := F14.binds (ps := P__law_net) fun _ _ _ _ _ _ us hl => match us, hl with | [_], _ => rfl
  have F15 := fun_mk (st := s_is_net) l15 c15 k15
  have B15 := F15.binds (ps := P_is_net) fun _ _ _ _ _ _ us hl => match us, hl with | [_], _ => rfl
  have F16 := fun_mk (st := s__law_told) l16 c16 k16
  have B16 := F16.binds (ps := P__law_told) fun _ _ _ _ _ _ us hl => match us, hl with | [_], _ => rfl
  have F17 := fun_mk (st := s__law_long_right) l17 c17 k17
  have B17 := F17.binds (ps := P__law_long_right) fun _ _ _ _ _ _ us hl => match us, hl with | [_], _ => rfl
  have F18 := fun_mk (st := s__law_bent) l18 c18 k18
  have B18 := F18.binds (ps := P__law_bent) fun _ _ _ _ _ _ us hl => match us, hl with | [_, _], _ => rfl
  have F19 := fun_mk (st := s__law_things) l19 c19 k19
  have B19 := F19.binds (ps := P__law_things) fun _ _ _ _ _ _ us hl => match us, hl with | [_, _], _ => rfl
  have F20 := fun_mk (st := s_law) l20 c20 k20
  have B20 := F20.binds (ps := P_law) fun _ _ _ _ _ _ us hl => match us, hl with | [_], _ => rfl
  exact ⟨⟨f0, _, f1, _, f2, _, f3, _, f4, _, f5, _, f6, _, f7, _, f8, _, f9, _, f10, _, f11, _, f12, _, f13, _, f14, _, f15, _, f16, _, f17, _, f18, _, f19, _, f20, _⟩, ⟨F0, PySem.W.mg_of X G a0, B0, F1, PySem.W.mg_of X G a1, B1, F2, PySem.W.mg_of X G a2, B2, F3, PySem.W.mg_of X G a3, B3, F4, PySem.W.mg_of X G a4, B4, F5, PySem.W.mg_of X G a5, B5, F6, PySem.W.mg_of X G a6, B6, F7, PySem.W.mg_of X G a7, B7, F8, PySem.W.mg_of X G a8, B8, F9, PySem.W.mg_of X G a9, B9, F10, PySem.W.mg_of X G a10, B10, F11, PySem.W.mg_of X G a11, B11, F12, PySem.W.mg_of X G a12, B12, F13, PySem.W.mg_of X G a13, B13, F14, PySem.W.mg_of X G a14, B14, F15, PySem.W.mg_of X G a15, B15, F16, PySem.W.mg_of X G a16, B16, F17, PySem.W.mg_of X G a17, B17, F18, PySem.W.mg_of X G a18, B18, F19, PySem.W.mg_of X G a19, B19, F20, PySem.W.mg_of X G a20, B20, PySem.W.mg_none_of X G z_all, PySem.W.mg_none_of X G z_bool, PySem.W.mg_none_of X G z_int, PySem.W.mg_none_of X G z_isinstance, PySem.W.mg_none_of X G z_len, PySem.W.mg_none_of X G z_list, PySem.W.mg_none_of X G z_max, PySem.W.mg_none_of X G z_min, PySem.W.mg_none_of X G z_range, PySem.W.mg_none_of X G z_str, PySem.W.mg_none_of X G z_tuple, ⟨_, PySem.W.mg_of X G g0, tupK_of h0 (.cons ⟨_, rfl⟩ (.cons ⟨_, rfl⟩ (.nil)))⟩, Option.isSome_iff_exists.mp t15⟩⟩
end K02
set_option maxHeartbeats 1000000
namespace K02
open PySem L2 L2.Ev Net
local macro_rules | `(tactic| walk_at "wp1") => `(tactic| simp only [spBody, startW, sIf, sSet, sAsg, sRet, sRetN, sDrop, sNext, wVar, wC, wOp, wTest, wAnd, wOr, wNot, wAndV, wOrV, wNotV, wChain, wIf, wCall, aCons, aNil, wTup, wLst, wNew, pdOf, Option.map_some, wSl, wP, wNoP, nName, nSub, nTup, nCons, nNil, wTy, wNeg, cInt, cMax, cMin, List.map_cons, List.map_nil, List.length_cons, List.length_nil, List.replicate_succ, List.replicate_zero, List.cons_append, List.nil_append, List.append_nil, Nat.reduceAdd, Nat.reduceSub, List.set_cons_zero, List.set_cons_succ, List.getElem?_cons_zero, List.getElem?_cons_succ, Nat.zero_add, oAdd_int, oI_int, oI0_int, oIx_tup, oIx_lst, oIx_scr, oEq_p, oNe_p, oIs_n, oIsNot_n, oIs_bb, oIsNot_bb, atI_0, atI_1, atI_2, atI_3, atI_4, shaped_int, shaped_bool, eqv_int, eqv_bool, eqv_lst_nil, eqv_tup_nil, shaped_nilL, shaped_nilT, true_and, and_true, Nat.sub_self, Nat.add_one_sub_one, Bool.false_eq_true, if_false, if_true, Nat.reduceLeDiff, Int.reduceToNat, Int.reducePow, Int.reduceLT, Int.reduceLE, Int.reduceMul, Int.reduceSub, Int.reduceAdd, decide_true, decide_false, wTupRev])
local macro_rules | `(tactic| walk_at "wps") => `(tactic| simp only [spBody, startW, sSeq, sIf, sSet, sAsg, sRet, sRetN, sDrop, sNext, wVar, wC, wOp, wTest, wAnd, wOr, wNot, wAndV, wOrV, wNotV, wChain, wIf, wCall, aCons, aNil, wTup, wLst, wNew, pdOf, Option.map_some, wSl, wP, wNoP, nName, nSub, nTup, nCons, nNil, wTy, wNeg, cInt, cMax, cMin, List.map_cons, List.map_nil, List.length_cons, List.length_nil, List.replicate_succ, List.replicate_zero, List.cons_append, List.nil_append, List.append_nil, Nat.reduceAdd, Nat.reduceSub, List.set_cons_zero, List.set_cons_succ, List.getElem?_cons_zero, List.getElem?_cons_succ, Nat.zero_add, oAdd_int, oI_int, oI0_int, oIx_tup, oIx_lst, oIx_scr, oEq_p, oNe_p, oIs_n, oIsNot_n, oIs_bb, oIsNot_bb, atI_0, atI_1, atI_2, atI_3, atI_4, shaped_int, shaped_bool, eqv_int, eqv_bool, eqv_lst_nil, eqv_tup_nil, shaped_nilL, shaped_nilT, true_and, and_true, Nat.sub_self, Nat.add_one_sub_one, Bool.false_eq_true, if_false, if_true, Nat.reduceLeDiff, Int.reduceToNat, Int.reducePow, Int.reduceLT, Int.reduceLE, Int.reduceMul, Int.reduceSub, Int.reduceAdd, decide_true, decide_false, wTupRev])
def DeckAt (μ : Mu) (n : Nat) : Prop := ∃ a b c : Int, μ[n]? = some (.lst [.int a, .int b, .int c])
structure DK (n : Nat) (μ μ' : Mu) : Prop where
  at' : DeckAt μ' n
  len : μ'.length = μ.length
  oth : ∀ i, i ≠ n → μ'[i]? = μ[i]?
theorem DK.refl {n : Nat} {μ : Mu} (h : DeckAt μ n) : DK n μ μ := ⟨h, rfl, fun _ _ => rfl⟩
theorem DK.trans {n : Nat} {μ μ' μ'' : Mu} (h : DK n μ μ') (k : DK n μ' μ'') : DK n μ μ'' := ⟨k.at', k.len.trans h.len, fun i hi => (k.oth i hi).trans (h.oth i hi)⟩
theorem cmul_l {i j : Int} (h : -18446744073709551616 < i ∧ i < 18446744073709551616) : CMul i j := .inl h
theorem cmul_r {i j : Int} (h : -18446744073709551616 < j ∧ j < 18446744073709551616) : CMul i j := .inr h
theorem cmul_mod {x m y : Int} (h : 0 < m) (h2 : m ≤ 18446744073709551616) : CMul (x % m) y := .inl ⟨by have := Int.emod_nonneg x (show m ≠ 0 by omega); show -18446744073709551616 < _; omega, by have := Int.emod_lt_of_pos x h; show _ < 18446744073709551616; omega⟩
def RowsAt (μ : Mu) (m : Nat) (ms : List Mt) : Prop := μ[m]? = some (.lst (ms.map Mt.d))
theorem DK.rows {n m : Nat} {μ μ' : Mu} {ms : List Mt} (h : DK n μ μ') (hn : m ≠ n) (r : RowsAt μ m ms) : RowsAt μ' m ms := (h.oth m hn).trans r
theorem rows_at {ms : List Mt} {i : Int} (h0 : 0 ≤ i) (h1 : i < (ms.length : Int)) : ∃ m ∈ ms, atI (ms.map Mt.d) i = some m.d := by
  rw [atI_nn _ h0, List.getElem?_map]
  have : i.toNat < ms.length := by omega
  exact ⟨ms[i.toNat], List.getElem_mem this, by rw [List.getElem?_eq_getElem this]; rfl⟩
theorem cLen_ref {μ : Mu} {m : Nat} {xs : List PyData} (h : μ[m]? = some (.lst xs)) (Q : WK) : cLen [.r m] μ Q = Q (.p (.int xs.length)) μ := by
  show (match rlOf μ (.r m) with | some xs => Q (.p (.int xs.length)) μ | none => False) = _
  simp only [rlOf, lsOf, h]
theorem empty_iff {ms : List Mt} : (ms.map Mt.d).isEmpty = ms.isEmpty := by cases ms <;> rfl
theorem two_at {a b : PyData} {d : Int} (h0 : 0 ≤ d) (h1 : d < 2) : atI [a, b] d = some (if d = 1 then b else a) := by
  have : d = 0 ∨ d = 1 := by omega
  rcases this with rfl | rfl
  · rw [atI_0]; rfl
  · rw [atI_1]; rfl
end K02
set_option maxHeartbeats 1000000
namespace K02
open PySem L2 L2.Ev Net
local macro_rules | `(tactic| walk_at "wp1") => `(tactic| simp only [spBody, startW, sIf, sSet, sAsg, sRet, sRetN, sDrop, sNext, wVar, wC, wOp, wTest, wAnd, wOr, wNot, wAndV, wOrV, wNotV, wChain, wIf, wCall, aCons, aNil, wTup, wLst, wNew, pdOf, Option.map_some, wSl, wP, wNoP, nName, nSub, nTup, nCons, nNil, wTy, wNeg, cInt, cMax, cMin, List.map_cons, List.map_nil, List.length_cons, List.length_nil, List.replicate_succ, List.replicate_zero, List.cons_append, List.nil_append, List.append_nil, Nat.reduceAdd, Nat.reduceSub, List.set_cons_zero, List.set_cons_succ, List.getElem?_cons_zero, List.getElem?_cons_succ, Nat.zero_add, oAdd_int, oI_int, oI0_int, oIx_tup, oIx_lst, oIx_scr, oEq_p, oNe_p, oIs_n, oIsNot_n, oIs_bb, oIsNot_bb, atI_0, atI_1, atI_2, atI_3, atI_4, shaped_int, shaped_bool, eqv_int, eqv_bool, eqv_lst_nil, eqv_tup_nil, shaped_nilL, shaped_nilT, true_and, and_true, Nat.sub_self, Nat.add_one_sub_one, Bool.false_eq_true, if_false, if_true, Nat.reduceLeDiff, Int.reduceToNat, Int.reducePow, Int.reduceLT, Int.reduceLE, Int.reduceMul, Int.reduceSub, Int.reduceAdd, decide_true, decide_false, wTupRev])
local macro_rules | `(tactic| walk_at "wps") => `(tactic| simp only [spBody, startW, sSeq, sIf, sSet, sAsg, sRet, sRetN, sDrop, sNext, wVar, wC, wOp, wTest, wAnd, wOr, wNot, wAndV, wOrV, wNotV, wChain, wIf, wCall, aCons, aNil, wTup, wLst, wNew, pdOf, Option.map_some, wSl, wP, wNoP, nName, nSub, nTup, nCons, nNil, wTy, wNeg, cInt, cMax, cMin, List.map_cons, List.map_nil, List.length_cons, List.length_nil, List.replicate_succ, List.replicate_zero, List.cons_append, List.nil_append, List.append_nil, Nat.reduceAdd, Nat.reduceSub, List.set_cons_zero, List.set_cons_succ, List.getElem?_cons_zero, List.getElem?_cons_succ, Nat.zero_add, oAdd_int, oI_int, oI0_int, oIx_tup, oIx_lst, oIx_scr, oEq_p, oNe_p, oIs_n, oIsNot_n, oIs_bb, oIsNot_bb, atI_0, atI_1, atI_2, atI_3, atI_4, shaped_int, shaped_bool, eqv_int, eqv_bool, eqv_lst_nil, eqv_tup_nil, shaped_nilL, shaped_nilT, true_and, and_true, Nat.sub_self, Nat.add_one_sub_one, Bool.false_eq_true, if_false, if_true, Nat.reduceLeDiff, Int.reduceToNat, Int.reducePow, Int.reduceLT, Int.reduceLE, Int.reduceMul, Int.reduceSub, Int.reduceAdd, decide_true, decide_false, wTupRev])
structure DX (n : Nat) (μ μ' : Mu) : Prop where
  at' : DeckAt μ' n
  len : μ.length ≤ μ'.length
  oth : ∀ i, i < μ.length → i ≠ n → μ'[i]? = μ[i]?
theorem DeckAt.lt {n : Nat} {μ : Mu} (h : DeckAt μ n) : n < μ.length := by obtain ⟨a, b, c, e⟩ := h; exact (List.getElem?_eq_some_iff.mp e).1
theorem DX.of {n : Nat} {μ μ' : Mu} (h : DK n μ μ') : DX n μ μ' := ⟨h.at', by rw [h.len]; exact Nat.le_refl _, fun i _ hi => h.oth i hi⟩
theorem DX.dk {n : Nat} {μ μ' μ'' : Mu} (h : DX n μ μ') (k : DK n μ' μ'') : DX n μ μ'' := ⟨k.at', by rw [k.len]; exact h.len, fun i hl hi => (k.oth i hi).trans (h.oth i hl hi)⟩
theorem DX.push {n : Nat} {μ μ' : Mu} (h : DX n μ μ') (c : Cell) : DX n μ (μ' ++ [c]) := by
  obtain ⟨a, b, cc, e⟩ := h.at'
  refine ⟨⟨a, b, cc, by rw [List.getElem?_append_left (List.getElem?_eq_some_iff.mp e).1]; exact e⟩, by have := h.len; simp; omega, fun i hl hi => ?_⟩
  rw [List.getElem?_append_left (by have := h.len; omega)]
  exact h.oth i hl hi
theorem DX.set {n m : Nat} {μ μ' : Mu} (h : DX n μ μ') (hm : μ.length ≤ m) (hn : m ≠ n) (c : Cell) : DX n μ (μ'.set m c) := by
  obtain ⟨a, b, cc, e⟩ := h.at'
  refine ⟨⟨a, b, cc, by rw [List.getElem?_set_ne hn]; exact e⟩, by simp; exact h.len, fun i hl hi => ?_⟩
  rw [List.getElem?_set_ne (by omega)]
  exact h.oth i hl hi
theorem DX.cut {n : Nat} {μ μ' : Mu} (h : DX n μ μ') (hn : n < μ.length) : DK n μ (μ'.take μ.length) := by
  obtain ⟨a, b, cc, e⟩ := h.at'
  refine ⟨⟨a, b, cc, by rw [List.getElem?_take_of_lt hn]; exact e⟩, by rw [List.length_take]; have := h.len; omega, fun i hi => ?_⟩
  by_cases hl : i < μ.length
  · rw [List.getElem?_take_of_lt hl]; exact h.oth i hl hi
  · rw [List.getElem?_eq_none (by rw [List.length_take]; omega), List.getElem?_eq_none (by omega)]
end K02
set_option maxHeartbeats 1000000
namespace K02
open PySem L2 L2.Ev Net
local macro_rules | `(tactic| walk_at "wp1") => `(tactic| simp only [spBody, startW, sIf, sSet, sAsg, sRet, sRetN, sDrop, sNext, wVar, wC, wOp, wTest, wAnd, wOr, wNot, wAndV, wOrV, wNotV, wChain, wIf, wCall, aCons, aNil, wTup, wLst, wNew, pdOf, Option.map_some, wSl, wP, wNoP, nName, nSub, nTup, nCons, nNil, wTy, wNeg, cInt, cMax, cMin, List.map_cons, List.map_nil, List.length_cons, List.length_nil, List.replicate_succ, List.replicate_zero, List.cons_append, List.nil_append, List.append_nil, Nat.reduceAdd, Nat.reduceSub, List.set_cons_zero, List.set_cons_succ, List.getElem?_cons_zero, List.getElem?_cons_succ, Nat.zero_add, oAdd_int, oI_int, oI0_int, oIx_tup, oIx_lst, oIx_scr, oEq_p, oNe_p, oIs_n, oIsNot_n, oIs_bb, oIsNot_bb, atI_0, atI_1, atI_2, atI_3, atI_4, shaped_int, shaped_bool, eqv_int, eqv_bool, eqv_lst_nil, eqv_tup_nil, shaped_nilL, shaped_nilT, true_and, and_true, Nat.sub_self, Nat.add_one_sub_one, Bool.false_eq_true, if_false, if_true, Nat.reduceLeDiff, Int.reduceToNat, Int.reducePow, Int.reduceLT, Int.reduceLE, Int.reduceMul, Int.reduceSub, Int.reduceAdd, decide_true, decide_false, wTupRev])
local macro_rules | `(tactic| walk_at "wps") => `(tactic| simp only [spBody, startW, sSeq, sIf, sSet, sAsg, sRet, sRetN, sDrop, sNext, wVar, wC, wOp, wTest, wAnd, wOr, wNot, wAndV, wOrV, wNotV, wChain, wIf, wCall, aCons, aNil, wTup, wLst, wNew, pdOf, Option.map_some, wSl, wP, wNoP, nName, nSub, nTup, nCons, nNil, wTy, wNeg, cInt, cMax, cMin, List.map_cons, List.map_nil, List.length_cons, List.length_nil, List.replicate_succ, List.replicate_zero, List.cons_append, List.nil_append, List.append_nil, Nat.reduceAdd, Nat.reduceSub, List.set_cons_zero, List.set_cons_succ, List.getElem?_cons_zero, List.getElem?_cons_succ, Nat.zero_add, oAdd_int, oI_int, oI0_int, oIx_tup, oIx_lst, oIx_scr, oEq_p, oNe_p, oIs_n, oIsNot_n, oIs_bb, oIsNot_bb, atI_0, atI_1, atI_2, atI_3, atI_4, shaped_int, shaped_bool, eqv_int, eqv_bool, eqv_lst_nil, eqv_tup_nil, shaped_nilL, shaped_nilT, true_and, and_true, Nat.sub_self, Nat.add_one_sub_one, Bool.false_eq_true, if_false, if_true, Nat.reduceLeDiff, Int.reduceToNat, Int.reducePow, Int.reduceLT, Int.reduceLE, Int.reduceMul, Int.reduceSub, Int.reduceAdd, decide_true, decide_false, wTupRev])
theorem cLen_tup {μ : Mu} (xs : List PyData) (Q : WK) : cLen [.p (.tuple xs)] μ Q = Q (.p (.int xs.length)) μ := rfl
theorem cIsi_p {μ : Mu} {d : PyData} {U T : String} (hT : tyW μ (.p d) = some T) (hU : U = "int" ∨ U = "bool" ∨ U = "str" ∨ U = "tuple" ∨ U = "list") (Q : WK) : cIsi [.p d, .t U] μ Q = Q (.p (.bool (isT T U))) μ := by
  simp only [cIsi, hT, hU, true_and]
end K02
set_option maxHeartbeats 1000000
namespace K02
open PySem L2 L2.Ev Net
local macro_rules | `(tactic| walk_at "wp1") => `(tactic| simp only [spBody, startW, sIf, sSet, sAsg, sRet, sRetN, sDrop, sNext, wVar, wC, wOp, wTest, wAnd, wOr, wNot, wAndV, wOrV, wNotV, wChain, wIf, wCall, aCons, aNil, wTup, wLst, wNew, pdOf, Option.map_some, wSl, wP, wNoP, nName, nSub, nTup, nCons, nNil, wTy, wNeg, cInt, cMax, cMin, List.map_cons, List.map_nil, List.length_cons, List.length_nil, List.replicate_succ, List.replicate_zero, List.cons_append, List.nil_append, List.append_nil, Nat.reduceAdd, Nat.reduceSub, List.set_cons_zero, List.set_cons_succ, List.getElem?_cons_zero, List.getElem?_cons_succ, Nat.zero_add, oAdd_int, oI_int, oI0_int, oIx_tup, oIx_lst, oIx_scr, oEq_p, oNe_p, oIs_n, oIsNot_n, oIs_bb, oIsNot_bb, atI_0, atI_1, atI_2, atI_3, atI_4, shaped_int, shaped_bool, eqv_int, eqv_bool, eqv_lst_nil, eqv_tup_nil, shaped_nilL, shaped_nilT, true_and, and_true, Nat.sub_self, Nat.add_one_sub_one, Bool.false_eq_true, if_false, if_true, Nat.reduceLeDiff, Int.reduceToNat, Int.reducePow, Int.reduceLT, Int.reduceLE, Int.reduceMul, Int.reduceSub, Int.reduceAdd, decide_true, decide_false, wTupRev])
local macro_rules | `(tactic| walk_at "wps") => `(tactic| simp only [spBody, startW, sSeq, sIf, sSet, sAsg, sRet, sRetN, sDrop, sNext, wVar, wC, wOp, wTest, wAnd, wOr, wNot, wAndV, wOrV, wNotV, wChain, wIf, wCall, aCons, aNil, wTup, wLst, wNew, pdOf, Option.map_some, wSl, wP, wNoP, nName, nSub, nTup, nCons, nNil, wTy, wNeg, cInt, cMax, cMin, List.map_cons, List.map_nil, List.length_cons, List.length_nil, List.replicate_succ, List.replicate_zero, List.cons_append, List.nil_append, List.append_nil, Nat.reduceAdd, Nat.reduceSub, List.set_cons_zero, List.set_cons_succ, List.getElem?_cons_zero, List.getElem?_cons_succ, Nat.zero_add, oAdd_int, oI_int, oI0_int, oIx_tup, oIx_lst, oIx_scr, oEq_p, oNe_p, oIs_n, oIsNot_n, oIs_bb, oIsNot_bb, atI_0, atI_1, atI_2, atI_3, atI_4, shaped_int, shaped_bool, eqv_int, eqv_bool, eqv_lst_nil, eqv_tup_nil, shaped_nilL, shaped_nilT, true_and, and_true, Nat.sub_self, Nat.add_one_sub_one, Bool.false_eq_true, if_false, if_true, Nat.reduceLeDiff, Int.reduceToNat, Int.reducePow, Int.reduceLT, Int.reduceLE, Int.reduceMul, Int.reduceSub, Int.reduceAdd, decide_true, decide_false, wTupRev])
def wi (way : List Nat) : List Int := way.map fun (n : Nat) => (n : Int)
def PS (ms : List Mt) (p now : Int) (d : PyData) : Prop := ∃ (k : Nat) (m : Mt) (q : Int), d = .tuple [.int m.b, .int k] ∧ ms[k]? = some m ∧ m.led p = some q ∧ now ≤ m.b
end K02
set_option maxHeartbeats 1000000
namespace K02
open PySem L2 L2.Ev Net
local macro_rules | `(tactic| walk_at "wp1") => `(tactic| simp only [spBody, startW, sIf, sSet, sAsg, sRet, sRetN, sDrop, sNext, wVar, wC, wOp, wTest, wAnd, wOr, wNot, wAndV, wOrV, wNotV, wChain, wIf, wCall, aCons, aNil, wTup, wLst, wNew, pdOf, Option.map_some, wSl, wP, wNoP, nName, nSub, nTup, nCons, nNil, wTy, wNeg, cInt, cMax, cMin, List.map_cons, List.map_nil, List.length_cons, List.length_nil, List.replicate_succ, List.replicate_zero, List.cons_append, List.nil_append, List.append_nil, Nat.reduceAdd, Nat.reduceSub, List.set_cons_zero, List.set_cons_succ, List.getElem?_cons_zero, List.getElem?_cons_succ, Nat.zero_add, oAdd_int, oI_int, oI0_int, oIx_tup, oIx_lst, oIx_scr, oEq_p, oNe_p, oIs_n, oIsNot_n, oIs_bb, oIsNot_bb, atI_0, atI_1, atI_2, atI_3, atI_4, shaped_int, shaped_bool, eqv_int, eqv_bool, eqv_lst_nil, eqv_tup_nil, shaped_nilL, shaped_nilT, true_and, and_true, Nat.sub_self, Nat.add_one_sub_one, Bool.false_eq_true, if_false, if_true, Nat.reduceLeDiff, Int.reduceToNat, Int.reducePow, Int.reduceLT, Int.reduceLE, Int.reduceMul, Int.reduceSub, Int.reduceAdd, decide_true, decide_false, wTupRev])
local macro_rules | `(tactic| walk_at "wps") => `(tactic| simp only [spBody, startW, sSeq, sIf, sSet, sAsg, sRet, sRetN, sDrop, sNext, wVar, wC, wOp, wTest, wAnd, wOr, wNot, wAndV, wOrV, wNotV, wChain, wIf, wCall, aCons, aNil, wTup, wLst, wNew, pdOf, Option.map_some, wSl, wP, wNoP, nName, nSub, nTup, nCons, nNil, wTy, wNeg, cInt, cMax, cMin, List.map_cons, List.map_nil, List.length_cons, List.length_nil, List.replicate_succ, List.replicate_zero, List.cons_append, List.nil_append, List.append_nil, Nat.reduceAdd, Nat.reduceSub, List.set_cons_zero, List.set_cons_succ, List.getElem?_cons_zero, List.getElem?_cons_succ, Nat.zero_add, oAdd_int, oI_int, oI0_int, oIx_tup, oIx_lst, oIx_scr, oEq_p, oNe_p, oIs_n, oIsNot_n, oIs_bb, oIsNot_bb, atI_0, atI_1, atI_2, atI_3, atI_4, shaped_int, shaped_bool, eqv_int, eqv_bool, eqv_lst_nil, eqv_tup_nil, shaped_nilL, shaped_nilT, true_and, and_true, Nat.sub_self, Nat.add_one_sub_one, Bool.false_eq_true, if_false, if_true, Nat.reduceLeDiff, Int.reduceToNat, Int.reducePow, Int.reduceLT, Int.reduceLE, Int.reduceMul, Int.reduceSub, Int.reduceAdd, decide_true, decide_false, wTupRev])
end K02
set_option maxHeartbeats 1000000
namespace K02
open PySem L2 L2.Ev Net TL
local macro_rules | `(tactic| walk_at "wp1") => `(tactic| simp only [spBody, startW, sIf, sSet, sAsg, sRet, sRetN, sDrop, sNext, wVar, wC, wOp, wTest, wAnd, wOr, wNot, wAndV, wOrV, wNotV, wChain, wIf, wCall, aCons, aNil, wTup, wLst, wNew, pdOf, Option.map_some, wSl, wP, wNoP, nName, nSub, nTup, nCons, nNil, wTy, wNeg, cInt, cMax, cMin, List.map_cons, List.map_nil, List.length_cons, List.length_nil, List.replicate_succ, List.replicate_zero, List.cons_append, List.nil_append, List.append_nil, Nat.reduceAdd, Nat.reduceSub, List.set_cons_zero, List.set_cons_succ, List.getElem?_cons_zero, List.getElem?_cons_succ, Nat.zero_add, oAdd_int, oI_int, oI0_int, oIx_tup, oIx_lst, oIx_scr, oEq_p, oNe_p, oIs_n, oIsNot_n, oIs_bb, oIsNot_bb, atI_0, atI_1, atI_2, atI_3, atI_4, shaped_int, shaped_bool, eqv_int, eqv_bool, eqv_lst_nil, eqv_tup_nil, shaped_nilL, shaped_nilT, true_and, and_true, Nat.sub_self, Nat.add_one_sub_one, Bool.false_eq_true, if_false, if_true, Nat.reduceLeDiff, Int.reduceToNat, Int.reducePow, Int.reduceLT, Int.reduceLE, Int.reduceMul, Int.reduceSub, Int.reduceAdd, decide_true, decide_false, wTupRev])
local macro_rules | `(tactic| walk_at "wps") => `(tactic| simp only [spBody, startW, sSeq, sIf, sSet, sAsg, sRet, sRetN, sDrop, sNext, wVar, wC, wOp, wTest, wAnd, wOr, wNot, wAndV, wOrV, wNotV, wChain, wIf, wCall, aCons, aNil, wTup, wLst, wNew, pdOf, Option.map_some, wSl, wP, wNoP, nName, nSub, nTup, nCons, nNil, wTy, wNeg, cInt, cMax, cMin, List.map_cons, List.map_nil, List.length_cons, List.length_nil, List.replicate_succ, List.replicate_zero, List.cons_append, List.nil_append, List.append_nil, Nat.reduceAdd, Nat.reduceSub, List.set_cons_zero, List.set_cons_succ, List.getElem?_cons_zero, List.getElem?_cons_succ, Nat.zero_add, oAdd_int, oI_int, oI0_int, oIx_tup, oIx_lst, oIx_scr, oEq_p, oNe_p, oIs_n, oIsNot_n, oIs_bb, oIsNot_bb, atI_0, atI_1, atI_2, atI_3, atI_4, shaped_int, shaped_bool, eqv_int, eqv_bool, eqv_lst_nil, eqv_tup_nil, shaped_nilL, shaped_nilT, true_and, and_true, Nat.sub_self, Nat.add_one_sub_one, Bool.false_eq_true, if_false, if_true, Nat.reduceLeDiff, Int.reduceToNat, Int.reducePow, Int.reduceLT, Int.reduceLE, Int.reduceMul, Int.reduceSub, Int.reduceAdd, decide_true, decide_false, wTupRev])
end K02
set_option maxHeartbeats 1000000
namespace K02
open PySem L2 L2.Ev Net TL
local macro_rules | `(tactic| walk_at "wp1") => `(tactic| simp only [spBody, startW, sIf, sSet, sAsg, sRet, sRetN, sDrop, sNext, wVar, wC, wOp, wTest, wAnd, wOr, wNot, wAndV, wOrV, wNotV, wChain, wIf, wCall, aCons, aNil, wTup, wLst, wNew, pdOf, Option.map_some, wSl, wP, wNoP, nName, nSub, nTup, nCons, nNil, wTy, wNeg, cInt, cMax, cMin, List.map_cons, List.map_nil, List.length_cons, List.length_nil, List.replicate_succ, List.replicate_zero, List.cons_append, List.nil_append, List.append_nil, Nat.reduceAdd, Nat.reduceSub, List.set_cons_zero, List.set_cons_succ, List.getElem?_cons_zero, List.getElem?_cons_succ, Nat.zero_add, oAdd_int, oI_int, oI0_int, oIx_tup, oIx_lst, oIx_scr, oEq_p, oNe_p, oIs_n, oIsNot_n, oIs_bb, oIsNot_bb, atI_0, atI_1, atI_2, atI_3, atI_4, shaped_int, shaped_bool, eqv_int, eqv_bool, eqv_lst_nil, eqv_tup_nil, shaped_nilL, shaped_nilT, true_and, and_true, Nat.sub_self, Nat.add_one_sub_one, Bool.false_eq_true, if_false, if_true, Nat.reduceLeDiff, Int.reduceToNat, Int.reducePow, Int.reduceLT, Int.reduceLE, Int.reduceMul, Int.reduceSub, Int.reduceAdd, decide_true, decide_false, wTupRev])
local macro_rules | `(tactic| walk_at "wps") => `(tactic| simp only [spBody, startW, sSeq, sIf, sSet, sAsg, sRet, sRetN, sDrop, sNext, wVar, wC, wOp, wTest, wAnd, wOr, wNot, wAndV, wOrV, wNotV, wChain, wIf, wCall, aCons, aNil, wTup, wLst, wNew, pdOf, Option.map_some, wSl, wP, wNoP, nName, nSub, nTup, nCons, nNil, wTy, wNeg, cInt, cMax, cMin, List.map_cons, List.map_nil, List.length_cons, List.length_nil, List.replicate_succ, List.replicate_zero, List.cons_append, List.nil_append, List.append_nil, Nat.reduceAdd, Nat.reduceSub, List.set_cons_zero, List.set_cons_succ, List.getElem?_cons_zero, List.getElem?_cons_succ, Nat.zero_add, oAdd_int, oI_int, oI0_int, oIx_tup, oIx_lst, oIx_scr, oEq_p, oNe_p, oIs_n, oIsNot_n, oIs_bb, oIsNot_bb, atI_0, atI_1, atI_2, atI_3, atI_4, shaped_int, shaped_bool, eqv_int, eqv_bool, eqv_lst_nil, eqv_tup_nil, shaped_nilL, shaped_nilT, true_and, and_true, Nat.sub_self, Nat.add_one_sub_one, Bool.false_eq_true, if_false, if_true, Nat.reduceLeDiff, Int.reduceToNat, Int.reducePow, Int.reduceLT, Int.reduceLE, Int.reduceMul, Int.reduceSub, Int.reduceAdd, decide_true, decide_false, wTupRev])
end K02
set_option maxHeartbeats 1000000
namespace K02
open PySem L2 L2.Ev Net TL
local macro_rules | `(tactic| walk_at "wp1") => `(tactic| simp only [spBody, startW, sIf, sSet, sAsg, sRet, sRetN, sDrop, sNext, wVar, wC, wOp, wTest, wAnd, wOr, wNot, wAndV, wOrV, wNotV, wChain, wIf, wCall, aCons, aNil, wTup, wLst, wNew, pdOf, Option.map_some, wSl, wP, wNoP, nName, nSub, nTup, nCons, nNil, wTy, wNeg, cInt, cMax, cMin, List.map_cons, List.map_nil, List.length_cons, List.length_nil, List.replicate_succ, List.replicate_zero, List.cons_append, List.nil_append, List.append_nil, Nat.reduceAdd, Nat.reduceSub, List.set_cons_zero, List.set_cons_succ, List.getElem?_cons_zero, List.getElem?_cons_succ, Nat.zero_add, oAdd_int, oI_int, oI0_int, oIx_tup, oIx_lst, oIx_scr, oEq_p, oNe_p, oIs_n, oIsNot_n, oIs_bb, oIsNot_bb, atI_0, atI_1, atI_2, atI_3, atI_4, shaped_int, shaped_bool, eqv_int, eqv_bool, eqv_lst_nil, eqv_tup_nil, shaped_nilL, shaped_nilT, true_and, and_true, Nat.sub_self, Nat.add_one_sub_one, Bool.false_eq_true, if_false, if_true, Nat.reduceLeDiff, Int.reduceToNat, Int.reducePow, Int.reduceLT, Int.reduceLE, Int.reduceMul, Int.reduceSub, Int.reduceAdd, decide_true, decide_false, wTupRev])
local macro_rules | `(tactic| walk_at "wps") => `(tactic| simp only [spBody, startW, sSeq, sIf, sSet, sAsg, sRet, sRetN, sDrop, sNext, wVar, wC, wOp, wTest, wAnd, wOr, wNot, wAndV, wOrV, wNotV, wChain, wIf, wCall, aCons, aNil, wTup, wLst, wNew, pdOf, Option.map_some, wSl, wP, wNoP, nName, nSub, nTup, nCons, nNil, wTy, wNeg, cInt, cMax, cMin, List.map_cons, List.map_nil, List.length_cons, List.length_nil, List.replicate_succ, List.replicate_zero, List.cons_append, List.nil_append, List.append_nil, Nat.reduceAdd, Nat.reduceSub, List.set_cons_zero, List.set_cons_succ, List.getElem?_cons_zero, List.getElem?_cons_succ, Nat.zero_add, oAdd_int, oI_int, oI0_int, oIx_tup, oIx_lst, oIx_scr, oEq_p, oNe_p, oIs_n, oIsNot_n, oIs_bb, oIsNot_bb, atI_0, atI_1, atI_2, atI_3, atI_4, shaped_int, shaped_bool, eqv_int, eqv_bool, eqv_lst_nil, eqv_tup_nil, shaped_nilL, shaped_nilT, true_and, and_true, Nat.sub_self, Nat.add_one_sub_one, Bool.false_eq_true, if_false, if_true, Nat.reduceLeDiff, Int.reduceToNat, Int.reducePow, Int.reduceLT, Int.reduceLE, Int.reduceMul, Int.reduceSub, Int.reduceAdd, decide_true, decide_false, wTupRev])
end K02
set_option maxHeartbeats 1000000
namespace K02
open PySem L2 L2.Ev Net TL
local macro_rules | `(tactic| walk_at "wp1") => `(tactic| simp only [spBody, startW, sIf, sSet, sAsg, sRet, sRetN, sDrop, sNext, wVar, wC, wOp, wTest, wAnd, wOr, wNot, wAndV, wOrV, wNotV, wChain, wIf, wCall, aCons, aNil, wTup, wLst, wNew, pdOf, Option.map_some, wSl, wP, wNoP, nName, nSub, nTup, nCons, nNil, wTy, wNeg, cInt, cMax, cMin, List.map_cons, List.map_nil, List.length_cons, List.length_nil, List.replicate_succ, List.replicate_zero, List.cons_append, List.nil_append, List.append_nil, Nat.reduceAdd, Nat.reduceSub, List.set_cons_zero, List.set_cons_succ, List.getElem?_cons_zero, List.getElem?_cons_succ, Nat.zero_add, oAdd_int, oI_int, oI0_int, oIx_tup, oIx_lst, oIx_scr, oEq_p, oNe_p, oIs_n, oIsNot_n, oIs_bb, oIsNot_bb, atI_0, atI_1, atI_2, atI_3, atI_4, shaped_int, shaped_bool, eqv_int, eqv_bool, eqv_lst_nil, eqv_tup_nil, shaped_nilL, shaped_nilT, true_and, and_true, Nat.sub_self, Nat.add_one_sub_one, Bool.false_eq_true, if_false, if_true, Nat.reduceLeDiff, Int.reduceToNat, Int.reducePow, Int.reduceLT, Int.reduceLE, Int.reduceMul, Int.reduceSub, Int.reduceAdd, decide_true, decide_false, wTupRev])
local macro_rules | `(tactic| walk_at "wps") => `(tactic| simp only [spBody, startW, sSeq, sIf, sSet, sAsg, sRet, sRetN, sDrop, sNext, wVar, wC, wOp, wTest, wAnd, wOr, wNot, wAndV, wOrV, wNotV, wChain, wIf, wCall, aCons, aNil, wTup, wLst, wNew, pdOf, Option.map_some, wSl, wP, wNoP, nName, nSub, nTup, nCons, nNil, wTy, wNeg, cInt, cMax, cMin, List.map_cons, List.map_nil, List.length_cons, List.length_nil, List.replicate_succ, List.replicate_zero, List.cons_append, List.nil_append, List.append_nil, Nat.reduceAdd, Nat.reduceSub, List.set_cons_zero, List.set_cons_succ, List.getElem?_cons_zero, List.getElem?_cons_succ, Nat.zero_add, oAdd_int, oI_int, oI0_int, oIx_tup, oIx_lst, oIx_scr, oEq_p, oNe_p, oIs_n, oIsNot_n, oIs_bb, oIsNot_bb, atI_0, atI_1, atI_2, atI_3, atI_4, shaped_int, shaped_bool, eqv_int, eqv_bool, eqv_lst_nil, eqv_tup_nil, shaped_nilL, shaped_nilT, true_and, and_true, Nat.sub_self, Nat.add_one_sub_one, Bool.false_eq_true, if_false, if_true, Nat.reduceLeDiff, Int.reduceToNat, Int.reducePow, Int.reduceLT, Int.reduceLE, Int.reduceMul, Int.reduceSub, Int.reduceAdd, decide_true, decide_false, wTupRev])
structure IsTop (ms : List Mt) (T : Int) : Prop where
  up : ∀ m ∈ ms, m.e ≤ T
  is : (ms = [] ∧ T = 0) ∨ ∃ m ∈ ms, m.e = T
theorem IsTop.uniq {ms : List Mt} {T U : Int} (h : IsTop ms T) (k : IsTop ms U) : T = U := by
  rcases h.is with ⟨rfl, rfl⟩ | ⟨m, hm, rfl⟩
  · rcases k.is with ⟨_, rfl⟩ | ⟨m, hm, _⟩
    · rfl
    · simp at hm
  · rcases k.is with ⟨rfl, _⟩ | ⟨n, hn, rfl⟩
    · simp at hm
    · exact Int.le_antisymm (k.up m hm) (h.up n hn)
end K02
set_option maxHeartbeats 1000000
namespace K02
open PySem L2 L2.Ev Net TL
local macro_rules | `(tactic| walk_at "wp1") => `(tactic| simp only [spBody, startW, sIf, sSet, sAsg, sRet, sRetN, sDrop, sNext, wVar, wC, wOp, wTest, wAnd, wOr, wNot, wAndV, wOrV, wNotV, wChain, wIf, wCall, aCons, aNil, wTup, wLst, wNew, pdOf, Option.map_some, wSl, wP, wNoP, nName, nSub, nTup, nCons, nNil, wTy, wNeg, cInt, cMax, cMin, List.map_cons, List.map_nil, List.length_cons, List.length_nil, List.replicate_succ, List.replicate_zero, List.cons_append, List.nil_append, List.append_nil, Nat.reduceAdd, Nat.reduceSub, List.set_cons_zero, List.set_cons_succ, List.getElem?_cons_zero, List.getElem?_cons_succ, Nat.zero_add, oAdd_int, oI_int, oI0_int, oIx_tup, oIx_lst, oIx_scr, oEq_p, oNe_p, oIs_n, oIsNot_n, oIs_bb, oIsNot_bb, atI_0, atI_1, atI_2, atI_3, atI_4, shaped_int, shaped_bool, eqv_int, eqv_bool, eqv_lst_nil, eqv_tup_nil, shaped_nilL, shaped_nilT, true_and, and_true, Nat.sub_self, Nat.add_one_sub_one, Bool.false_eq_true, if_false, if_true, Nat.reduceLeDiff, Int.reduceToNat, Int.reducePow, Int.reduceLT, Int.reduceLE, Int.reduceMul, Int.reduceSub, Int.reduceAdd, decide_true, decide_false, wTupRev])
local macro_rules | `(tactic| walk_at "wps") => `(tactic| simp only [spBody, startW, sSeq, sIf, sSet, sAsg, sRet, sRetN, sDrop, sNext, wVar, wC, wOp, wTest, wAnd, wOr, wNot, wAndV, wOrV, wNotV, wChain, wIf, wCall, aCons, aNil, wTup, wLst, wNew, pdOf, Option.map_some, wSl, wP, wNoP, nName, nSub, nTup, nCons, nNil, wTy, wNeg, cInt, cMax, cMin, List.map_cons, List.map_nil, List.length_cons, List.length_nil, List.replicate_succ, List.replicate_zero, List.cons_append, List.nil_append, List.append_nil, Nat.reduceAdd, Nat.reduceSub, List.set_cons_zero, List.set_cons_succ, List.getElem?_cons_zero, List.getElem?_cons_succ, Nat.zero_add, oAdd_int, oI_int, oI0_int, oIx_tup, oIx_lst, oIx_scr, oEq_p, oNe_p, oIs_n, oIsNot_n, oIs_bb, oIsNot_bb, atI_0, atI_1, atI_2, atI_3, atI_4, shaped_int, shaped_bool, eqv_int, eqv_bool, eqv_lst_nil, eqv_tup_nil, shaped_nilL, shaped_nilT, true_and, and_true, Nat.sub_self, Nat.add_one_sub_one, Bool.false_eq_true, if_false, if_true, Nat.reduceLeDiff, Int.reduceToNat, Int.reducePow, Int.reduceLT, Int.reduceLE, Int.reduceMul, Int.reduceSub, Int.reduceAdd, decide_true, decide_false, wTupRev])
def DeckB (μ : Mu) (n b : Nat) : Prop := ∃ a m c : Int, μ[n]? = some (.lst [.int a, .int m, .int c]) ∧ 0 ≤ c ∧ c ≤ (b : Int)
structure DB (n b : Nat) (μ μ' : Mu) : Prop where
  at' : DeckB μ' n b
  len : μ'.length = μ.length
  oth : ∀ i, i ≠ n → μ'[i]? = μ[i]?
theorem DB.refl {n b : Nat} {μ : Mu} (h : DeckB μ n b) : DB n b μ μ := ⟨h, rfl, fun _ _ => rfl⟩
theorem DB.trans {n b b' : Nat} {μ μ' μ'' : Mu} (h : DB n b μ μ') (k : DB n b' μ' μ'') : DB n b' μ μ'' := ⟨k.at', k.len.trans h.len, fun i hi => (k.oth i hi).trans (h.oth i hi)⟩
theorem DeckB.le {n b b' : Nat} {μ : Mu} (h : DeckB μ n b) (hb : b ≤ b') : DeckB μ n b' := by obtain ⟨a, m, c, e, h1, h2⟩ := h; exact ⟨a, m, c, e, h1, by omega⟩
theorem DB.le {n b b' : Nat} {μ μ' : Mu} (h : DB n b μ μ') (hb : b ≤ b') : DB n b' μ μ' := ⟨h.at'.le hb, h.len, h.oth⟩
theorem DeckB.lt {n b : Nat} {μ : Mu} (h : DeckB μ n b) : n < μ.length := by obtain ⟨a, m, c, e, _⟩ := h; exact (List.getElem?_eq_some_iff.mp e).1
theorem DB.rows {n b m : Nat} {μ μ' : Mu} {ms : List Mt} (h : DB n b μ μ') (hn : m ≠ n) (r : RowsAt μ m ms) : RowsAt μ' m ms := (h.oth m hn).trans r
def sp_drawB : SpW := fun ws μ Q => ∃ n most b, ws = [.r n, .p (.int most)] ∧ 0 < most ∧ most < 1073741824 ∧ DeckB μ n b ∧ b < 1000000 ∧ ∀ d μ', 0 ≤ d → d < most → DB n (b + 1) μ μ' → Q (.p (.int d)) μ'
theorem vc_drawB (ws : List W) (μ : Mu) (Q : WK) (h : sp_drawB ws μ Q) : spBody N__law_draw 2 b__law_draw ws μ Q := by
  obtain ⟨n, most, b, rfl, h1, h2, ⟨a, m, c, hd, c0, c1⟩, hb, k⟩ := h
  unfold b__law_draw
  have hn : n < μ.length := (List.getElem?_eq_some_iff.mp hd).1
  walk_at "wps"
  simp only [oIx_ref hd, atI_0, atI_1, atI_2, oI0_int]
  by_cases h0 : 0 < a
  · simp only [h0, decide_true, if_true, oIx_ref hd, atI_0, oI_int, h1, true_and, oSet_ref hd, List.length_cons, List.length_nil, Nat.zero_add, Nat.reduceAdd, ixN_0, List.set_cons_zero]
    refine ⟨⟨h1, h2⟩, ret_p (by simp) (k _ _ (Int.emod_nonneg _ (by omega)) (Int.emod_lt_of_pos _ h1) ⟨⟨_, _, c, List.getElem?_set_self hn, c0, by omega⟩, by simp, fun i hi => List.getElem?_set_ne (Ne.symm hi)⟩)⟩
  · simp only [h0, decide_false, Bool.false_eq_true, if_false, sNext]
    simp only [oIx_ref hd, atI_2, oAdd_int, oSet_ref hd, List.length_cons, List.length_nil, Nat.zero_add, Nat.reduceAdd, ixN_2, List.set_cons_zero, List.set_cons_succ]
    have hd2 : (μ.set n (.lst [.int a, .int m, .int (c + 1)]))[n]? = some (.lst [.int a, .int m, .int (c + 1)]) := List.getElem?_set_self hn
    simp only [oIx_ref hd2, atI_1, atI_2, oI_int, oAdd_int]
    have fin := fun (d : Int) (q0 : 0 ≤ d) (q1 : d < most) => ret_p (Q := Q) (n := μ.length) (d := .int d) (μ' := μ.set n (.lst [.int a, .int m, .int (c + 1)])) (by simp) (k d _ q0 q1 ⟨⟨_, _, c + 1, hd2, by omega, by omega⟩, by simp, fun i hi => List.getElem?_set_ne (Ne.symm hi)⟩)
    have cc : CMul (7919 * (c + 1)) (c + 1) := cmul_r (by omega)
    refine ⟨cmul_l (by decide), cc, cmul_r (by decide), ?_⟩
    repeat' (first | exact fin _ (Int.emod_nonneg _ (by omega)) (Int.emod_lt_of_pos _ h1) | exact cmul_l (by decide) | exact cmul_r (by decide) | exact cmul_mod (by decide) (by decide) | exact h1 | (show _ ∧ _; constructor) | decide)
def sp_deckB : SpW := fun ws μ Q => ∃ cell : Int, ws = [.p (.int cell)] ∧ ∀ a m : Int, Q (.r μ.length) (μ ++ [.lst [.int a, .int m, .int 0]])
theorem vc_deckB (ws : List W) (μ : Mu) (Q : WK) (h : sp_deckB ws μ Q) : spBody N__law_deck 1 b__law_deck ws μ Q := by
  obtain ⟨cell, rfl, q⟩ := h
  unfold b__law_deck
  walk_at "wps"
  exact ⟨⟨by decide, by decide, by decide⟩, cmul_r (by split <;> decide), szk (by decide), ret_new (by simp) (by show μ.length < _; simp) (q _ _)⟩
theorem four_at {a b c d : PyData} {i : Int} (h0 : 0 ≤ i) (h1 : i < 4) : atI [a, b, c, d] i = some (if i = 0 then a else if i = 1 then b else if i = 2 then c else d) := by
  have : i = 0 ∨ i = 1 ∨ i = 2 ∨ i = 3 := by omega
  rcases this with rfl | rfl | rfl | rfl
  · exact atI_0 _ _
  · exact atI_1 _ _ _
  · exact atI_2 _ _ _ _
  · exact atI_3 _ _ _ _ _
def sp_farB : SpW := fun ws μ Q => ∃ n b, ws = [.r n] ∧ DeckB μ n b ∧ b < 999990 ∧ ∀ x μ', 0 ≤ x → x ≤ 10000000000000 → DB n (b + 4) μ μ' → Q (.p (.int x)) μ'
theorem vc_farB (ws : List W) (μ : Mu) (Q : WK) (h : sp_farB ws μ Q) : spBody N__law_far 1 (b__law_far sp_drawB) ws μ Q := by
  obtain ⟨n, b, rfl, hd, hb, k⟩ := h
  unfold b__law_far
  walk_at "wps"
  refine ⟨n, _, b, rfl, by decide, by decide, hd, by omega, fun d1 μ1 a1 b1 k1 => ?_⟩
  walk_at "wps"
  refine ⟨n, _, b + 1, rfl, by decide, by decide, k1.at', by omega, fun d2 μ2 a2 b2 k2 => ?_⟩
  have e12 : (10 : Int) ^ Int.toNat 12 = 1000000000000 := by decide
  have e6 : (10 : Int) ^ Int.toNat 6 = 1000000 := by decide
  have e13 : (10 : Int) ^ Int.toNat 13 = 10000000000000 := by decide
  walk_at "wps"
  refine ⟨⟨by decide, by decide, by decide⟩, cmul_r (by decide), ⟨by decide, by decide, by decide⟩, ?_⟩
  refine ⟨n, _, b + 2, rfl, by decide, by decide, k2.at', by omega, fun d3 μ3 a3 b3 k3 => ?_⟩
  walk_at "wps"
  refine ⟨⟨by decide, by decide, by decide⟩, cmul_r (by decide), ⟨by decide, by decide, by decide⟩, ?_⟩
  refine ⟨n, _, b + 3, rfl, by decide, by decide, k3.at', by omega, fun d4 μ4 a4 b4 k4 => ?_⟩
  walk_at "wps"
  have K := ((k1.trans k2).trans k3).trans k4
  refine ⟨⟨by decide, by decide, by decide⟩, ⟨by decide, by decide, by decide⟩, ⟨by decide, by decide⟩, szk (by decide), ?_⟩
  rw [four_at a1 b1]
  dsimp only
  have fin := fun (x : Int) (q0 : 0 ≤ x) (q1 : x ≤ 10000000000000) => ret_p (Q := Q) (n := μ.length) (d := .int x) (μ' := μ4) K.len (k x _ q0 q1 K)
  have hx0 : 0 ≤ d2 * 1000000000000 + d3 * 1000000 + d4 := by omega
  have hx1 : d2 * 1000000000000 + d3 * 1000000 + d4 ≤ 9999999999999 := by omega
  split
  · exact fin _ hx0 (by omega)
  · split
    · exact fin _ hx0 (by omega)
    · split
      · exact fin _ (by decide) (by decide)
      · exact fin _ (by omega) (by omega)
end K02
set_option maxHeartbeats 1000000
namespace K02
open PySem L2 L2.Ev Net TL
local macro_rules | `(tactic| walk_at "wp1") => `(tactic| simp only [spBody, startW, sIf, sSet, sAsg, sRet, sRetN, sDrop, sNext, wVar, wC, wOp, wTest, wAnd, wOr, wNot, wAndV, wOrV, wNotV, wChain, wIf, wCall, aCons, aNil, wTup, wLst, wNew, pdOf, Option.map_some, wSl, wP, wNoP, nName, nSub, nTup, nCons, nNil, wTy, wNeg, cInt, cMax, cMin, List.map_cons, List.map_nil, List.length_cons, List.length_nil, List.replicate_succ, List.replicate_zero, List.cons_append, List.nil_append, List.append_nil, Nat.reduceAdd, Nat.reduceSub, List.set_cons_zero, List.set_cons_succ, List.getElem?_cons_zero, List.getElem?_cons_succ, Nat.zero_add, oAdd_int, oI_int, oI0_int, oIx_tup, oIx_lst, oIx_scr, oEq_p, oNe_p, oIs_n, oIsNot_n, oIs_bb, oIsNot_bb, atI_0, atI_1, atI_2, atI_3, atI_4, shaped_int, shaped_bool, eqv_int, eqv_bool, eqv_lst_nil, eqv_tup_nil, shaped_nilL, shaped_nilT, true_and, and_true, Nat.sub_self, Nat.add_one_sub_one, Bool.false_eq_true, if_false, if_true, Nat.reduceLeDiff, Int.reduceToNat, Int.reducePow, Int.reduceLT, Int.reduceLE, Int.reduceMul, Int.reduceSub, Int.reduceAdd, decide_true, decide_false, wTupRev])
local macro_rules | `(tactic| walk_at "wps") => `(tactic| simp only [spBody, startW, sSeq, sIf, sSet, sAsg, sRet, sRetN, sDrop, sNext, wVar, wC, wOp, wTest, wAnd, wOr, wNot, wAndV, wOrV, wNotV, wChain, wIf, wCall, aCons, aNil, wTup, wLst, wNew, pdOf, Option.map_some, wSl, wP, wNoP, nName, nSub, nTup, nCons, nNil, wTy, wNeg, cInt, cMax, cMin, List.map_cons, List.map_nil, List.length_cons, List.length_nil, List.replicate_succ, List.replicate_zero, List.cons_append, List.nil_append, List.append_nil, Nat.reduceAdd, Nat.reduceSub, List.set_cons_zero, List.set_cons_succ, List.getElem?_cons_zero, List.getElem?_cons_succ, Nat.zero_add, oAdd_int, oI_int, oI0_int, oIx_tup, oIx_lst, oIx_scr, oEq_p, oNe_p, oIs_n, oIsNot_n, oIs_bb, oIsNot_bb, atI_0, atI_1, atI_2, atI_3, atI_4, shaped_int, shaped_bool, eqv_int, eqv_bool, eqv_lst_nil, eqv_tup_nil, shaped_nilL, shaped_nilT, true_and, and_true, Nat.sub_self, Nat.add_one_sub_one, Bool.false_eq_true, if_false, if_true, Nat.reduceLeDiff, Int.reduceToNat, Int.reducePow, Int.reduceLT, Int.reduceLE, Int.reduceMul, Int.reduceSub, Int.reduceAdd, decide_true, decide_false, wTupRev])
structure DXB (n b : Nat) (μ μ' : Mu) : Prop where
  at' : DeckB μ' n b
  len : μ.length ≤ μ'.length
  oth : ∀ i, i < μ.length → i ≠ n → μ'[i]? = μ[i]?
theorem DXB.of {n b : Nat} {μ μ' : Mu} (h : DB n b μ μ') : DXB n b μ μ' := ⟨h.at', by rw [h.len]; exact Nat.le_refl _, fun i _ hi => h.oth i hi⟩
theorem DXB.dk {n b b' : Nat} {μ μ' μ'' : Mu} (h : DXB n b μ μ') (k : DB n b' μ' μ'') : DXB n b' μ μ'' := ⟨k.at', by rw [k.len]; exact h.len, fun i hl hi => (k.oth i hi).trans (h.oth i hl hi)⟩
theorem DXB.push {n b : Nat} {μ μ' : Mu} (h : DXB n b μ μ') (c : Cell) : DXB n b μ (μ' ++ [c]) := by
  obtain ⟨a, m, c', e, h1, h2⟩ := h.at'
  have hl := h.len
  refine ⟨⟨a, m, c', by rw [List.getElem?_append_left (List.getElem?_eq_some_iff.mp e).1]; exact e, h1, h2⟩, by simp; omega, fun i hi hn => ?_⟩
  rw [List.getElem?_append_left (by omega)]
  exact h.oth i hi hn
theorem DXB.set {n b m : Nat} {μ μ' : Mu} (h : DXB n b μ μ') (hm : μ.length ≤ m) (hn : m ≠ n) (c : Cell) : DXB n b μ (μ'.set m c) := by
  obtain ⟨a, x, c', e, h1, h2⟩ := h.at'
  refine ⟨⟨a, x, c', by rw [List.getElem?_set_ne hn]; exact e, h1, h2⟩, by simp; exact h.len, fun i hi hne => ?_⟩
  rw [List.getElem?_set_ne (by omega)]
  exact h.oth i hi hne
theorem DXB.cut {n b : Nat} {μ μ' : Mu} (h : DXB n b μ μ') (hn : n < μ.length) : DB n b μ (μ'.take μ.length) := by
  obtain ⟨a, x, c', e, h1, h2⟩ := h.at'
  have hl := h.len
  refine ⟨⟨a, x, c', by rw [List.getElem?_take_of_lt hn]; exact e, h1, h2⟩, by simp; omega, fun i hi => ?_⟩
  by_cases hlt : i < μ.length
  · rw [List.getElem?_take_of_lt hlt]; exact h.oth i hlt hi
  · rw [List.getElem?_eq_none (by simp; omega), List.getElem?_eq_none (by omega)]
theorem ret_dxb {n b : Nat} {μ μ' : Mu} {Q : WK} {d : PyData} (h : DXB n b μ μ') (hn : n < μ.length) (k : ∀ μ', DB n b μ μ' → Q (.p d) μ') : retW μ.length Q (.p d) μ' := ret_cut h.len (k _ (h.cut hn))
structure MtB (many : Int) (m : Mt) : Prop where
  ok : m.Ok many
  b : m.b ≤ 10000000000000
  l : m.l ≤ 10000000000000
def sp_beginB : SpW := fun ws μ Q => ∃ n way m ms b, ∃ many : Int, ws = [.r n, .p (.int way), .r m] ∧ m ≠ n ∧ DeckB μ n b ∧ b < 999900 ∧ RowsAt μ m ms ∧ ms.length ≤ 40 ∧ (∀ m ∈ ms, MtB many m) ∧ ∀ x μ', 0 ≤ x → x ≤ 10000000000000 → DB n (b + 5) μ μ' → Q (.p (.int x)) μ'
theorem vc_beginB (ws : List W) (μ : Mu) (Q : WK) (h : sp_beginB ws μ Q) : spBody N__law_begin 3 (b__law_begin sp_drawB sp_farB) ws μ Q := by
  obtain ⟨n, way, m, ms, b, many, rfl, hm, hd, hb, hr, hl, ha, k⟩ := h
  have fin : ∀ (x : Int) μ' b', 0 ≤ x → x ≤ 10000000000000 → b' ≤ b + 5 → DB n b' μ μ' → retW μ.length Q (.p (.int x)) μ' := fun x μ' b' q0 q1 hb' dk => ret_p dk.len (k x μ' q0 q1 (dk.le hb'))
  have e13 : (10 : Int) ^ Int.toNat 13 = 10000000000000 := by decide
  unfold b__law_begin
  refine ⟨rfl, ?_⟩
  show sSeq _ _ _ [some (.r n), some (.p (.int way)), some (.r m), none] μ
  refine sSeq_cut (fun ρ μ1 => μ1 = μ ∧ ρ = [some (.r n), some (.p (.int way)), some (.r m), none]) ?_ ?_
  · rintro ρ μ1 ⟨rfl, rfl⟩
    refine sSeq_cut (fun ρ μ2 => μ2 = μ1 ∧ ρ = [some (.r n), some (.p (.int way)), some (.r m), none]) ?_ ?_
    · rintro ρ μ2 ⟨rfl, rfl⟩
      refine sSeq_cut (fun ρ μ1 => μ1 = μ2 ∧ ρ = [some (.r n), some (.p (.int way)), some (.r m), none]) ?_ ?_
      · rintro ρ μ1 ⟨rfl, rfl⟩
        (try walk_at "wp1")
        exact ⟨n, _, b, rfl, by decide, by decide, hd, by omega, fun d μ3 d0 d1 k3 => fin _ _ _ d0 (by omega) (by omega) k3⟩
      · intro K hK
        (try walk_at "wp1")
        by_cases w3 : way = 3
        · rw [if_pos (decide_eq_true w3)]
          exact ⟨n, b, rfl, hd, by omega, fun x μ3 x0 x1 k3 => fin _ _ _ x0 x1 (by omega) k3⟩
        · rw [if_neg (by simpa using w3)]
          exact hK _ _ ⟨rfl, rfl⟩
    · intro K hK
      (try walk_at "wp1")
      by_cases w2 : way = 2
      · rw [if_pos (decide_eq_true w2)]
        refine ⟨szk (by decide), n, _, b, rfl, by decide, by decide, hd, by omega, fun d μ3 d0 d1 k3 => ?_⟩
        (try walk_at "wp1")
        by_cases z : d = 0
        · rw [if_pos (decide_eq_true z)]
          simp only [oIx_lst, atI_1]
          exact fin _ _ _ (by decide) (by decide) (by omega) k3
        · rw [if_neg (by simpa using z)]
          simp only [oIx_lst, atI_0]
          exact fin _ _ _ (by decide) (by decide) (by omega) k3
      · rw [if_neg (by simpa using w2)]
        exact hK _ _ ⟨rfl, rfl⟩
  · intro K hK
    (try walk_at "wp1")
    by_cases w1 : way = 1
    · rw [if_pos (decide_eq_true w1)]
      refine ⟨szk (by decide), ?_⟩
      simp only [oNe_ref hr, shaped_lms, shaped_nilL, eqv_lst_nil, true_and, empty_iff]
      cases he : ms.isEmpty with
      | true => exact hK _ _ ⟨rfl, rfl⟩
      | false =>
        have hpos : 0 < ms.length := by cases ms with | nil => simp at he | cons _ _ => simp
        simp only [Bool.not_false, if_true]
        (try dsimp only); rw [sSeq_def]
        (try walk_at "wp1")
        simp only [cLen_ref hr, List.length_map]
        refine ⟨n, _, b, rfl, by omega, by omega, hd, by omega, fun d μ3 d0 d1 k3 => ?_⟩
        obtain ⟨mt, hmt, e2⟩ := rows_at d0 d1
        simp only [oIx_ref (k3.rows hm hr), e2]
        unfold Mt.d
        (try walk_at "wp1")
        refine ⟨⟨by decide, by decide, by decide⟩, n, _, b + 1, rfl, by decide, by decide, k3.at', by omega, fun d' μ4 d0' d1' k4 => ?_⟩
        (try walk_at "wp1")
        exact fin _ _ _ (by omega) (by omega) (by omega) (k3.trans k4)
    · rw [if_neg (by simpa using w1)]
      exact hK _ _ ⟨rfl, rfl⟩
def sp_manyB : SpW := fun ws μ Q => ∃ n b, ws = [.r n] ∧ DeckB μ n b ∧ b < 999900 ∧ ∀ x μ', 1 ≤ x → x ≤ 10 → DB n (b + 2) μ μ' → Q (.p (.int x)) μ'
theorem vc_manyB (ws : List W) (μ : Mu) (Q : WK) (h : sp_manyB ws μ Q) : spBody N__law_many 1 (b__law_many sp_drawB) ws μ Q := by
  obtain ⟨n, b, rfl, hd, hb, k⟩ := h
  unfold b__law_many
  walk_at "wps"
  refine ⟨n, _, b, rfl, by decide, by decide, hd, by omega, fun d1 μ1 a1 b1 k1 => ?_⟩
  refine ⟨szk (by simp), n, _, b + 1, rfl, by decide, by decide, k1.at', by omega, fun d2 μ2 a2 b2 k2 => ?_⟩
  walk_at "wps"
  have K := k1.trans k2
  by_cases z : d2 = 5
  · rw [if_pos (decide_eq_true z), atI_1]
    exact ret_p K.len (k _ _ (by decide) (by decide) K)
  · rw [if_neg (by simpa using z), atI_0]
    exact ret_p K.len (k _ _ (by omega) (by omega) K)
end K02
set_option maxHeartbeats 1000000
namespace K02
open PySem L2 L2.Ev Net TL
local macro_rules | `(tactic| walk_at "wp1") => `(tactic| simp only [spBody, startW, sIf, sSet, sAsg, sRet, sRetN, sDrop, sNext, wVar, wC, wOp, wTest, wAnd, wOr, wNot, wAndV, wOrV, wNotV, wChain, wIf, wCall, aCons, aNil, wTup, wLst, wNew, pdOf, Option.map_some, wSl, wP, wNoP, nName, nSub, nTup, nCons, nNil, wTy, wNeg, cInt, cMax, cMin, List.map_cons, List.map_nil, List.length_cons, List.length_nil, List.replicate_succ, List.replicate_zero, List.cons_append, List.nil_append, List.append_nil, Nat.reduceAdd, Nat.reduceSub, List.set_cons_zero, List.set_cons_succ, List.getElem?_cons_zero, List.getElem?_cons_succ, Nat.zero_add, oAdd_int, oI_int, oI0_int, oIx_tup, oIx_lst, oIx_scr, oEq_p, oNe_p, oIs_n, oIsNot_n, oIs_bb, oIsNot_bb, atI_0, atI_1, atI_2, atI_3, atI_4, shaped_int, shaped_bool, eqv_int, eqv_bool, eqv_lst_nil, eqv_tup_nil, shaped_nilL, shaped_nilT, true_and, and_true, Nat.sub_self, Nat.add_one_sub_one, Bool.false_eq_true, if_false, if_true, Nat.reduceLeDiff, Int.reduceToNat, Int.reducePow, Int.reduceLT, Int.reduceLE, Int.reduceMul, Int.reduceSub, Int.reduceAdd, decide_true, decide_false, wTupRev])
local macro_rules | `(tactic| walk_at "wps") => `(tactic| simp only [spBody, startW, sSeq, sIf, sSet, sAsg, sRet, sRetN, sDrop, sNext, wVar, wC, wOp, wTest, wAnd, wOr, wNot, wAndV, wOrV, wNotV, wChain, wIf, wCall, aCons, aNil, wTup, wLst, wNew, pdOf, Option.map_some, wSl, wP, wNoP, nName, nSub, nTup, nCons, nNil, wTy, wNeg, cInt, cMax, cMin, List.map_cons, List.map_nil, List.length_cons, List.length_nil, List.replicate_succ, List.replicate_zero, List.cons_append, List.nil_append, List.append_nil, Nat.reduceAdd, Nat.reduceSub, List.set_cons_zero, List.set_cons_succ, List.getElem?_cons_zero, List.getElem?_cons_succ, Nat.zero_add, oAdd_int, oI_int, oI0_int, oIx_tup, oIx_lst, oIx_scr, oEq_p, oNe_p, oIs_n, oIsNot_n, oIs_bb, oIsNot_bb, atI_0, atI_1, atI_2, atI_3, atI_4, shaped_int, shaped_bool, eqv_int, eqv_bool, eqv_lst_nil, eqv_tup_nil, shaped_nilL, shaped_nilT, true_and, and_true, Nat.sub_self, Nat.add_one_sub_one, Bool.false_eq_true, if_false, if_true, Nat.reduceLeDiff, Int.reduceToNat, Int.reducePow, Int.reduceLT, Int.reduceLE, Int.reduceMul, Int.reduceSub, Int.reduceAdd, decide_true, decide_false, wTupRev])
def sp_meetingB : SpW := fun ws μ Q => ∃ n way many m ms b, ws = [.r n, .p (.int many), .r m, .p (.int way)] ∧ m ≠ n ∧ 2 ≤ many ∧ many ≤ 10 ∧ DeckB μ n b ∧ b < 999000 ∧ RowsAt μ m ms ∧ ms.length ≤ 40 ∧ (∀ m ∈ ms, MtB many m) ∧
  ∀ x μ', MtB many x → DB n (b + 20) μ μ' → Q (.p x.d) μ'
theorem vc_meetingB (ws : List W) (μ : Mu) (Q : WK) (h : sp_meetingB ws μ Q) : spBody N__law_meeting 4 (b__law_meeting sp_drawB sp_beginB sp_farB) ws μ Q := by
  obtain ⟨n, way, many, m, ms, b, rfl, hm, hm2, hm10, hd, hb, hr, hl, ha, k⟩ := h
  unfold b__law_meeting
  refine ⟨rfl, ?_⟩
  have fin : ∀ (x : Mt) μ' b', MtB many x → b' ≤ b + 20 → DB n b' μ μ' → retW μ.length Q (.p x.d) μ' := fun x μ' b' ox hb' dk => ret_p dk.len (k x μ' ox (dk.le hb'))
  show sSeq _ _ _ [some (.r n), some (.p (.int many)), some (.r m), some (.p (.int way)), none, none, none, none, none, none, none] μ
  (try dsimp only); rw [sSeq_def]
  (try walk_at "wp1")
  refine ⟨n, _, b, rfl, by decide, by decide, hd, by omega, fun again μ1 a1 b1 k1 => ?_⟩
  (try dsimp only); rw [sSeq_def]
  (try walk_at "wp1")
  refine ⟨n, _, b + 1, rfl, by decide, by decide, k1.at', by omega, fun ch μ2 a2 b2 k2 => ?_⟩
  have d2 := k1.trans k2
  (try walk_at "wp1")
  (try dsimp only); rw [sSeq_def]
  (try walk_at "wp1")
  refine ⟨szk (by decide), n, _, b + 2, rfl, by decide, by decide, d2.at', by omega, fun x5 μ3 a3 b3 k3 => ?_⟩
  have d3 := d2.trans k3
  simp only [oIx_lst, two_at a3 b3]
  have word : (if x5 = 1 then PyData.str (Str.ofString "both") else PyData.str (Str.ofString "to")) = .str (wd (decide (x5 = 1))) := by
    unfold wd
    by_cases z : x5 = 1 <;> simp [z]
  rw [word]
  (try dsimp only); rw [sSeq_def]
  (try walk_at "wp1")
  refine ⟨n, _, b + 3, rfl, by omega, by omega, d3.at', by omega, fun one μ4 a4 b4 k4 => ?_⟩
  have d4 := d3.trans k4
  (try dsimp only); rw [sSeq_def]
  (try walk_at "wp1")
  refine ⟨n, _, b + 4, rfl, by omega, by omega, d4.at', by omega, fun x4 μ5 a5 b5 k5 => ?_⟩
  have d5 := d4.trans k5
  (try walk_at "wp1")
  refine ⟨by omega, ?_⟩
  have step : ∀ o x : Int, 0 ≤ o → o < many → 0 ≤ x → x < many - 1 → 0 ≤ (o + 1 + x) % many ∧ (o + 1 + x) % many < many ∧ o ≠ (o + 1 + x) % many := fun o x h1 h2 h3 h4 => by
    refine ⟨Int.emod_nonneg _ (by omega), Int.emod_lt_of_pos _ (by omega), ?_⟩
    by_cases z : o + 1 + x < many
    · rw [Int.emod_eq_of_lt (by omega) z]; omega
    · have : (o + 1 + x) % many = o + 1 + x - many := by rw [← Int.sub_emod_right, Int.emod_eq_of_lt (by omega) (by omega)]
      omega
  clear k1 k2 k3 k4 k5 d2 d3 d4
  refine sSeq_cut (fun ρ μ1 => ∃ (one oth : Int), ρ = [some (.r n), some (.p (.int many)), some (.r m), some (.p (.int way)), some (.p (.int again)), some (.p (.bool (decide (ch = 1)))), some (.p (.str (wd (decide (x5 = 1))))), some (.p (.int one)), some (.p (.int oth)), none, none] ∧ (0 ≤ one ∧ one < many ∧ 0 ≤ oth ∧ oth < many ∧ one ≠ oth) ∧ μ1 = μ5) ?_ ?_
  · rintro ρ μ6 ⟨one, oth, rfl, ho, rfl⟩
    (try dsimp only); rw [sSeq_def]
    (try walk_at "wp1")
    refine ⟨n, way, m, ms, b + 5, many, rfl, hm, d5.at', by omega, d5.rows hm hr, hl, ha, fun bg μ7 g0 g1 k7 => ?_⟩
    have d7 := d5.trans k7
    (try dsimp only); rw [sSeq_def]
    (try walk_at "wp1")
    refine ⟨szk (by decide), n, _, b + 10, rfl, by decide, by decide, d7.at', by omega, fun x8 μ8 a8 b8 k8 => ?_⟩
    have d8 := d7.trans k8
    simp only [oIx_lst, two_at a8 b8]
    obtain ⟨g, eg, g1', g2'⟩ : ∃ g : Int, (if x8 = 1 then PyData.int 12 else PyData.int 4) = .int g ∧ 0 < g ∧ g ≤ 12 := by
      by_cases w3 : x8 = 1
      · exact ⟨12, by simp [w3], by decide, by decide⟩
      · exact ⟨4, by simp [w3], by decide, by decide⟩
    simp only [eg]
    refine ⟨n, _, b + 11, rfl, g1', by omega, d8.at', by omega, fun x9 μ9 a9 b9 k9 => ?_⟩
    have d9 := d8.trans k9
    (try walk_at "wp1")
    refine sSeq_cut (fun ρ μ1 => ∃ (l : Int), ρ = [some (.r n), some (.p (.int many)), some (.r m), some (.p (.int way)), some (.p (.int again)), some (.p (.bool (decide (ch = 1)))), some (.p (.str (wd (decide (x5 = 1))))), some (.p (.int one)), some (.p (.int oth)), some (.p (.int bg)), some (.p (.int l))] ∧ 1 ≤ l ∧ l ≤ 10000000000000 ∧ DB n (b + 17) μ μ1) ?_ ?_
    · rintro ρ μa ⟨l, rfl, l1, l2, da⟩
      refine sSeq_cut (fun ρ μ1 => μ1 = μa ∧ ρ = [some (.r n), some (.p (.int many)), some (.r m), some (.p (.int way)), some (.p (.int again)), some (.p (.bool (decide (ch = 1)))), some (.p (.str (wd (decide (x5 = 1))))), some (.p (.int one)), some (.p (.int oth)), some (.p (.int bg)), some (.p (.int l))]) ?_ ?_
      · rintro ρ μ1 ⟨rfl, rfl⟩
        (try walk_at "wp1")
        exact ⟨szk (by simp), fin ⟨decide (x5 = 1), one, oth, bg, l⟩ _ _ ⟨⟨ho.1, ho.2.1, ho.2.2.1, ho.2.2.2.1, ho.2.2.2.2, g0, l1⟩, g1, l2⟩ (by omega) da⟩
      · intro K hK
        (try walk_at "wp1")
        by_cases z : again = 5
        · rw [if_pos (decide_eq_true z)]
          have ra := da.rows hm hr
          refine ⟨szk (by decide), ?_⟩
          simp only [oNe_ref ra, shaped_lms, shaped_nilL, eqv_lst_nil, true_and, empty_iff]
          cases he : ms.isEmpty with
          | true => exact hK _ _ ⟨rfl, rfl⟩
          | false =>
            have hpos : 0 < ms.length := by cases ms with | nil => simp at he | cons _ _ => simp
            simp only [Bool.not_false, if_true, cLen_ref ra, List.length_map]
            refine ⟨n, _, b + 17, rfl, by omega, by omega, da.at', by omega, fun d μc d0 d1 kc => ?_⟩
            obtain ⟨mt, hmt, e2⟩ := rows_at d0 d1
            simp only [oIx_ref (kc.rows hm ra), e2]
            exact fin mt _ _ (ha mt hmt) (by omega) (da.trans kc)
        · rw [if_neg (by simpa using z)]
          exact hK _ _ ⟨rfl, rfl⟩
    · intro K hK
      (try walk_at "wp1")
      by_cases w3 : way = 3
      · rw [if_pos (decide_eq_true w3)]
        refine ⟨n, _, b + 12, rfl, by decide, by decide, d9.at', by omega, fun d μa d0 d1 ka => ?_⟩
        (try walk_at "wp1")
        by_cases z : d = 0
        · rw [if_pos (decide_eq_true z)]
          refine ⟨n, b + 13, rfl, ka.at', by omega, fun x μc x0 x1 kc => ?_⟩
          (try walk_at "wp1")
          exact hK _ _ ⟨_, rfl, by omega, by omega, (d9.trans (ka.trans kc))⟩
        · rw [if_neg (by simpa using z)]
          exact hK _ _ ⟨_, rfl, by omega, by omega, (d9.trans ka).le (by omega)⟩
      · rw [if_neg (by simpa using w3)]
        exact hK _ _ ⟨_, rfl, by omega, by omega, d9.le (by omega)⟩
  · intro K hK
    (try walk_at "wp1")
    by_cases z : ch = 1
    · simp only [z, decide_true, if_true]
      (try dsimp only); rw [sSeq_def]
      (try walk_at "wp1")
      simp only [cLen_ref (d5.rows hm hr), List.length_map]
      refine ⟨by omega, ?_⟩
      (try dsimp only); (try rw [sSeq_def])
      (try walk_at "wp1")
      refine ⟨by omega, ?_⟩
      have o0 : 0 ≤ (ms.length : Int) % many := Int.emod_nonneg _ (by omega)
      have o1 : (ms.length : Int) % many < many := Int.emod_lt_of_pos _ (by omega)
      have st := step _ 0 o0 o1 (by omega) (by omega)
      rw [Int.add_zero] at st
      exact hK _ _ ⟨_, _, by simp [z], ⟨o0, o1, st⟩, rfl⟩
    · simp only [z, decide_false, Bool.false_eq_true, if_false]
      exact hK _ _ ⟨_, _, by simp [z], ⟨a4, b4, step _ _ a4 b4 a5 b5⟩, rfl⟩
def sp_netB : SpW := fun ws μ Q => ∃ n b, ws = [.r n] ∧ DeckB μ n b ∧ b < 990000 ∧ ∀ many ms μ', 1 ≤ many → many ≤ 10 → (∀ m ∈ ms, MtB many m) → ms.length ≤ 40 → DB n (b + 1000) μ μ' → Q (.p (netD many ms)) μ'
theorem vc_netB (ws : List W) (μ : Mu) (Q : WK) (h : sp_netB ws μ Q) : spBody N__law_net 1 (b__law_net sp_drawB sp_manyB sp_meetingB) ws μ Q := by
  obtain ⟨n, b, rfl, hd, hb, k⟩ := h
  have hn := hd.lt
  unfold b__law_net
  refine ⟨rfl, ?_⟩
  show sSeq _ _ _ [some (.r n), none, none, none, none, none] μ
  (try dsimp only); rw [sSeq_def]
  (try walk_at "wp1")
  refine ⟨n, _, b, rfl, by decide, by decide, hd, by omega, fun way μ1 a1 b1 k1 => ?_⟩
  (try dsimp only); rw [sSeq_def]
  (try walk_at "wp1")
  refine ⟨n, _, b + 1, rfl, by decide, by decide, k1.at', by omega, fun x2 μ2 a2 b2 k2 => ?_⟩
  have d2 := k1.trans k2
  (try walk_at "wp1")
  (try dsimp only); rw [sSeq_def]
  (try walk_at "wp1")
  refine ⟨n, b + 2, rfl, d2.at', by omega, fun many μ3 m1 m10 k3 => ?_⟩
  have d3 := d2.trans k3
  (try dsimp only); rw [sSeq_def]
  (try walk_at "wp1")
  refine ⟨szk (by decide), ?_⟩
  (try dsimp only); rw [sSeq_def]
  simp only [sFor, iRng]
  (try walk_at "wp1")
  have d3x := (DXB.of d3).push (.lst [])
  have h3 : DeckB (μ3 ++ [.lst []]) n (b + 4) := d3x.at'
  refine ⟨n, _, b + 4, rfl, by decide, by decide, h3, by omega, fun x4 μ4 a4 b4 k4 => ?_⟩
  have d4x := d3x.dk k4
  have ml : μ3.length = μ.length := d3.len
  (try walk_at "wp1")
  generalize hg : (if decide (x2 = 5) = true then (1 : Int) else 0) = g
  have g0 : 0 ≤ g ∧ g < 2 := by rw [← hg]; split <;> decide
  refine ⟨szk (by simp), ?_⟩
  simp only [two_at g0.1 g0.2]
  obtain ⟨cnt, ec, c0, c40⟩ : ∃ cnt : Int, (if g = 1 then PyData.int 40 else PyData.int x4) = .int cnt ∧ 0 ≤ cnt ∧ cnt ≤ 40 := by
    by_cases z : g = 1
    · exact ⟨40, by simp [z], by omega, by omega⟩
    · exact ⟨x4, by simp [z], by omega, by omega⟩
  rw [ec]
  (try walk_at "wp1")
  generalize hE : (if decide ((1 : Int) < many) = true then (1 : Int) else 0) = E
  have hE2 : (E = 0 ∨ E = 1) ∧ (E = 1 → 2 ≤ many) := by
    rw [← hE]
    by_cases z : (1 : Int) < many
    · simp [z]; omega
    · simp [z]
  have hc40 : 0 ≤ cnt * E ∧ cnt * E ≤ 40 ∧ (0 < cnt * E → E = 1) := by
    rcases hE2.1 with z | z <;> subst z <;> simp <;> omega
  refine ⟨cmul_r (by rcases hE2.1 with z | z <;> subst z <;> decide), by show -4611686018427387904 ≤ _; omega, by show _ < 4611686018427387904; omega, ?_⟩
  have hr0 : RowsAt μ4 μ3.length [] := by
    unfold RowsAt
    rw [k4.oth _ (by omega)]
    simp
  refine forR_of (fun xs ρ μ' => ∃ (ms : List Mt) (x : Option W), ρ = [some (.r n), some (.p (.int way)), some (.p (.bool (decide (x2 = 5)))), some (.p (.int many)), some (.r μ3.length), x] ∧ (∀ m ∈ ms, MtB many m) ∧ ms.length + xs.length ≤ 40 ∧ (0 < xs.length → 2 ≤ many) ∧ DXB n (b + 5 + 20 * ms.length) μ μ' ∧ RowsAt μ' μ3.length ms)
    (fun _ _ _ _ => trivial) ?_ ?_ _ _ _ ⟨[], none, rfl, fun m h => by simp at h, by simp [rng]; omega, fun z => hE2.2 (hc40.2.2 (by simp [rng] at z; omega)), d4x, hr0⟩
  · rintro ρ μ' ⟨ms, x, rfl, ha, hl, _, dx, hr⟩
    have hrl : lsOf μ' (.r μ3.length) = some (ms.map Mt.d) := by simp only [lsOf]; rw [show μ'[μ3.length]? = _ from hr]
    (try walk_at "wp1")
    simp only [cTuple, rlOf, hrl]
    (try walk_at "wp1")
    exact ⟨szk (by simp), ret_dxb dx hn fun μ'' dk => k many ms μ'' m1 m10 ha (by simp at hl; omega) (dk.le (by simp at hl; omega))⟩
  · rintro i xs ρ μ' R hR ⟨ms, x, rfl, ha, hl, hm2, dx, hr⟩
    have m2 := hm2 (by simp)
    have hr' : μ'[μ3.length]? = some (.lst (ms.map Mt.d)) := hr
    have hl' : ms.length ≤ 39 := by simp at hl; omega
    have hne : μ3.length ≠ n := by omega
    (try walk_at "wp1")
    simp only [wApp, wVar, List.getElem?_cons_zero, List.getElem?_cons_succ, hr', true_and]
    (try walk_at "wp1")
    refine ⟨n, way, many, μ3.length, ms, _, rfl, hne, m2, m10, dx.at', by omega, hr, by omega, ha, fun mt μ'' ok dk => ?_⟩
    have hr2 : μ''[μ3.length]? = some (.lst (ms.map Mt.d)) := dk.rows hne hr
    simp only [hr2]
    refine ⟨szl (by simp; omega), hR _ _ ⟨ms ++ [mt], _, rfl, fun m h => ?_, by simp at hl ⊢; omega, fun _ => m2, ((dx.dk (dk.le (by simp; omega))).set (by omega) hne _), ?_⟩⟩
    · rcases List.mem_append.mp h with h | h
      · exact ha m h
      · simp at h; subst h; exact ok
    · unfold RowsAt
      rw [List.getElem?_set_self (List.getElem?_eq_some_iff.mp hr2).1, List.map_append]
      rfl
end K02
set_option maxHeartbeats 1000000
namespace K02
open PySem L2 L2.Ev Net TL
local macro_rules | `(tactic| walk_at "wp1") => `(tactic| simp only [spBody, startW, sIf, sSet, sAsg, sRet, sRetN, sDrop, sNext, wVar, wC, wOp, wTest, wAnd, wOr, wNot, wAndV, wOrV, wNotV, wChain, wIf, wCall, aCons, aNil, wTup, wLst, wNew, pdOf, Option.map_some, wSl, wP, wNoP, nName, nSub, nTup, nCons, nNil, wTy, wNeg, cInt, cMax, cMin, List.map_cons, List.map_nil, List.length_cons, List.length_nil, List.replicate_succ, List.replicate_zero, List.cons_append, List.nil_append, List.append_nil, Nat.reduceAdd, Nat.reduceSub, List.set_cons_zero, List.set_cons_succ, List.getElem?_cons_zero, List.getElem?_cons_succ, Nat.zero_add, oAdd_int, oI_int, oI0_int, oIx_tup, oIx_lst, oIx_scr, oEq_p, oNe_p, oIs_n, oIsNot_n, oIs_bb, oIsNot_bb, atI_0, atI_1, atI_2, atI_3, atI_4, shaped_int, shaped_bool, eqv_int, eqv_bool, eqv_lst_nil, eqv_tup_nil, shaped_nilL, shaped_nilT, true_and, and_true, Nat.sub_self, Nat.add_one_sub_one, Bool.false_eq_true, if_false, if_true, Nat.reduceLeDiff, Int.reduceToNat, Int.reducePow, Int.reduceLT, Int.reduceLE, Int.reduceMul, Int.reduceSub, Int.reduceAdd, decide_true, decide_false, wTupRev])
local macro_rules | `(tactic| walk_at "wps") => `(tactic| simp only [spBody, startW, sSeq, sIf, sSet, sAsg, sRet, sRetN, sDrop, sNext, wVar, wC, wOp, wTest, wAnd, wOr, wNot, wAndV, wOrV, wNotV, wChain, wIf, wCall, aCons, aNil, wTup, wLst, wNew, pdOf, Option.map_some, wSl, wP, wNoP, nName, nSub, nTup, nCons, nNil, wTy, wNeg, cInt, cMax, cMin, List.map_cons, List.map_nil, List.length_cons, List.length_nil, List.replicate_succ, List.replicate_zero, List.cons_append, List.nil_append, List.append_nil, Nat.reduceAdd, Nat.reduceSub, List.set_cons_zero, List.set_cons_succ, List.getElem?_cons_zero, List.getElem?_cons_succ, Nat.zero_add, oAdd_int, oI_int, oI0_int, oIx_tup, oIx_lst, oIx_scr, oEq_p, oNe_p, oIs_n, oIsNot_n, oIs_bb, oIsNot_bb, atI_0, atI_1, atI_2, atI_3, atI_4, shaped_int, shaped_bool, eqv_int, eqv_bool, eqv_lst_nil, eqv_tup_nil, shaped_nilL, shaped_nilT, true_and, and_true, Nat.sub_self, Nat.add_one_sub_one, Bool.false_eq_true, if_false, if_true, Nat.reduceLeDiff, Int.reduceToNat, Int.reducePow, Int.reduceLT, Int.reduceLE, Int.reduceMul, Int.reduceSub, Int.reduceAdd, decide_true, decide_false, wTupRev])
theorem cLen_lstP {μ : Mu} {Q : WK} (xs : List PyData) : cLen [.p (.list xs)] μ Q = Q (.p (.int xs.length)) μ := rfl
end K02
set_option maxHeartbeats 1000000
namespace K02
open PySem L2 L2.Ev Net TL
local macro_rules | `(tactic| walk_at "wp1") => `(tactic| simp only [spBody, startW, sIf, sSet, sAsg, sRet, sRetN, sDrop, sNext, wVar, wC, wOp, wTest, wAnd, wOr, wNot, wAndV, wOrV, wNotV, wChain, wIf, wCall, aCons, aNil, wTup, wLst, wNew, pdOf, Option.map_some, wSl, wP, wNoP, nName, nSub, nTup, nCons, nNil, wTy, wNeg, cInt, cMax, cMin, List.map_cons, List.map_nil, List.length_cons, List.length_nil, List.replicate_succ, List.replicate_zero, List.cons_append, List.nil_append, List.append_nil, Nat.reduceAdd, Nat.reduceSub, List.set_cons_zero, List.set_cons_succ, List.getElem?_cons_zero, List.getElem?_cons_succ, Nat.zero_add, oAdd_int, oI_int, oI0_int, oIx_tup, oIx_lst, oIx_scr, oEq_p, oNe_p, oIs_n, oIsNot_n, oIs_bb, oIsNot_bb, atI_0, atI_1, atI_2, atI_3, atI_4, shaped_int, shaped_bool, eqv_int, eqv_bool, eqv_lst_nil, eqv_tup_nil, shaped_nilL, shaped_nilT, true_and, and_true, Nat.sub_self, Nat.add_one_sub_one, Bool.false_eq_true, if_false, if_true, Nat.reduceLeDiff, Int.reduceToNat, Int.reducePow, Int.reduceLT, Int.reduceLE, Int.reduceMul, Int.reduceSub, Int.reduceAdd, decide_true, decide_false, wTupRev])
local macro_rules | `(tactic| walk_at "wps") => `(tactic| simp only [spBody, startW, sSeq, sIf, sSet, sAsg, sRet, sRetN, sDrop, sNext, wVar, wC, wOp, wTest, wAnd, wOr, wNot, wAndV, wOrV, wNotV, wChain, wIf, wCall, aCons, aNil, wTup, wLst, wNew, pdOf, Option.map_some, wSl, wP, wNoP, nName, nSub, nTup, nCons, nNil, wTy, wNeg, cInt, cMax, cMin, List.map_cons, List.map_nil, List.length_cons, List.length_nil, List.replicate_succ, List.replicate_zero, List.cons_append, List.nil_append, List.append_nil, Nat.reduceAdd, Nat.reduceSub, List.set_cons_zero, List.set_cons_succ, List.getElem?_cons_zero, List.getElem?_cons_succ, Nat.zero_add, oAdd_int, oI_int, oI0_int, oIx_tup, oIx_lst, oIx_scr, oEq_p, oNe_p, oIs_n, oIsNot_n, oIs_bb, oIsNot_bb, atI_0, atI_1, atI_2, atI_3, atI_4, shaped_int, shaped_bool, eqv_int, eqv_bool, eqv_lst_nil, eqv_tup_nil, shaped_nilL, shaped_nilT, true_and, and_true, Nat.sub_self, Nat.add_one_sub_one, Bool.false_eq_true, if_false, if_true, Nat.reduceLeDiff, Int.reduceToNat, Int.reducePow, Int.reduceLT, Int.reduceLE, Int.reduceMul, Int.reduceSub, Int.reduceAdd, decide_true, decide_false, wTupRev])
def isInt : PyData → Bool
  | .int _ => true
  | _ => false
def belowD (many : Int) : PyData → Bool
  | .int i => decide (0 ≤ i ∧ i < many)
  | _ => false
def sp_wholeA : SpW := fun ws μ Q => ∃ d : PyData, ws = [.p d] ∧ Q (.p (.bool (isInt d))) μ
theorem vc_wholeA (ws : List W) (μ : Mu) (Q : WK) (h : sp_wholeA ws μ Q) : spBody N_is_whole 1 b_is_whole ws μ Q := by
  obtain ⟨d, rfl, q⟩ := h
  unfold b_is_whole
  cases d with
  | int i =>
    walk_at "wps"
    rw [cIsi_p (T := "int") rfl (by simp), show isT "int" "int" = true from by decide]
    walk_at "wps"
    rw [cIsi_p (T := "int") rfl (by simp), show isT "int" "bool" = false from by decide]
    exact ret_p rfl q
  | bool b =>
    walk_at "wps"
    rw [cIsi_p (T := "bool") rfl (by simp), show isT "bool" "int" = true from by decide]
    walk_at "wps"
    rw [cIsi_p (T := "bool") rfl (by simp), show isT "bool" "bool" = true from by decide]
    exact ret_p rfl q
  | none =>
    walk_at "wps"
    rw [cIsi_p (T := "NoneType") rfl (by simp), show isT "NoneType" "int" = false from by decide]
    exact ret_p rfl q
  | str z =>
    walk_at "wps"
    rw [cIsi_p (T := "str") rfl (by simp), show isT "str" "int" = false from by decide]
    exact ret_p rfl q
  | list z =>
    walk_at "wps"
    rw [cIsi_p (T := "list") rfl (by simp), show isT "list" "int" = false from by decide]
    exact ret_p rfl q
  | tuple z =>
    walk_at "wps"
    rw [cIsi_p (T := "tuple") rfl (by simp), show isT "tuple" "int" = false from by decide]
    exact ret_p rfl q
  | dict z =>
    walk_at "wps"
    rw [cIsi_p (T := "dict") rfl (by simp), show isT "dict" "int" = false from by decide]
    exact ret_p rfl q
def sp_belowA : SpW := fun ws μ Q => ∃ (many : Int) (d : PyData), ws = [.p (.int many), .p d] ∧ Q (.p (.bool (belowD many d))) μ
theorem vc_belowA (ws : List W) (μ : Mu) (Q : WK) (h : sp_belowA ws μ Q) : spBody N_is_number_below 2 (b_is_number_below sp_wholeA) ws μ Q := by
  obtain ⟨many, d, rfl, q⟩ := h
  unfold b_is_number_below
  cases d with
  | int i =>
    walk_at "wps"
    refine ⟨_, rfl, ?_⟩
    simp only [isInt]
    walk_at "wps"
    simp only [belowD] at q
    by_cases h1 : 0 ≤ i
    · simp only [h1, true_and, decide_true, if_true] at q ⊢
      exact ret_p rfl q
    · simp only [h1, false_and, decide_false, Bool.false_eq_true, if_false] at q ⊢
      exact ret_p rfl q
  | _ =>
    walk_at "wps"
    refine ⟨_, rfl, ?_⟩
    exact ret_p rfl q
theorem not_tup {μ : Mu} {d : PyData} (h : ∀ xs, d ≠ .tuple xs) (Q : WK) : cIsi [.p d, .t "tuple"] μ Q = Q (.p (.bool false)) μ := by
  cases d with
  | tuple xs => exact absurd rfl (h xs)
  | none => rw [cIsi_p (T := "NoneType") rfl (by simp)]; rfl
  | bool _ => rw [cIsi_p (T := "bool") rfl (by simp)]; rfl
  | int _ => rw [cIsi_p (T := "int") rfl (by simp)]; rfl
  | str _ => rw [cIsi_p (T := "str") rfl (by simp)]; rfl
  | list _ => rw [cIsi_p (T := "list") rfl (by simp)]; rfl
  | dict _ => rw [cIsi_p (T := "dict") rfl (by simp)]; rfl
def wdD : PyData → Bool
  | .str z => (["to", "both"] : List Str).any (isS (.str z))
  | _ => false
def geD (k : Int) : PyData → Bool
  | .int i => decide (k ≤ i)
  | _ => false
def unI : PyData → Int
  | .int i => i
  | _ => 0
def mtDs (many : Int) : List PyData → Bool
  | [w, a, b, c, l] => wdD w && belowD many a && belowD many b && !decide (unI a = unI b) && geD 0 c && geD 1 l
  | _ => false
def mtD (many : Int) : PyData → Bool
  | .tuple xs => mtDs many xs
  | _ => false
theorem mtDs_len {many : Int} {xs : List PyData} (h : xs.length ≠ 5) : mtDs many xs = false := by
  unfold mtDs
  split
  · simp at h
  · rfl
theorem mtD_no {many : Int} {d : PyData} (h : ∀ xs, d ≠ .tuple xs) : mtD many d = false := by
  cases d with
  | tuple xs => exact absurd rfl (h xs)
  | _ => rfl
theorem five {xs : List PyData} (h : xs.length = 5) : ∃ a b c d e, xs = [a, b, c, d, e] := by
  match xs, h with
  | [a, b, c, d, e], _ => exact ⟨a, b, c, d, e, rfl⟩
theorem wd_any (d : PyData) : (["to", "both"] : List Str).any (isS d) = wdD d := by cases d <;> rfl
theorem below_int {many : Int} {d : PyData} (h : belowD many d = true) : ∃ i : Int, d = .int i ∧ 0 ≤ i ∧ i < many := by
  cases d with
  | int i => simp only [belowD, decide_eq_true_eq] at h; exact ⟨i, rfl, h⟩
  | _ => simp [belowD] at h
theorem ge_int {k : Int} {d : PyData} (h : geD k d = true) : ∃ i : Int, d = .int i ∧ k ≤ i := by
  cases d with
  | int i => simp only [geD, decide_eq_true_eq] at h; exact ⟨i, rfl, h⟩
  | _ => simp [geD] at h
theorem below_ge {many : Int} {d : PyData} (h : geD 0 d = false) : belowD many d = false := by
  cases d with
  | int i => simp only [geD, decide_eq_false_iff_not] at h; simp [belowD]; omega
  | _ => rfl
def sp_ismeetA : SpW := fun ws μ Q => ∃ (many : Int) (d : PyData), ws = [.p (.int many), .p d] ∧ Q (.p (.bool (mtD many d))) μ
theorem vc_ismeetA (ws : List W) (μ : Mu) (Q : WK) (h : sp_ismeetA ws μ Q) : spBody N_is_meeting 2 (b_is_meeting sp_wholeA sp_belowA) ws μ Q := by
  obtain ⟨many, d, rfl, q⟩ := h
  unfold b_is_meeting
  refine ⟨rfl, ?_⟩
  show sSeq _ _ _ [some (.p (.int many)), some (.p d), none, none, none, none, none] μ
  by_cases hd : ∀ xs, d ≠ .tuple xs
  · (try dsimp only); rw [sSeq_def]
    (try walk_at "wp1")
    rw [not_tup hd]
    (try simp only [Bool.not_true, Bool.not_false, Bool.false_eq_true, if_false, if_true, decide_true, decide_false])
    rw [mtD_no hd] at q
    exact ret_p rfl q
  · obtain ⟨xs, rfl⟩ : ∃ xs, d = .tuple xs := Classical.byContradiction fun z => hd fun xs e => z ⟨xs, e⟩
    simp only [mtD] at q
    (try dsimp only); rw [sSeq_def]
    (try walk_at "wp1")
    rw [cIsi_p (T := "tuple") rfl (by simp), show isT "tuple" "tuple" = true from by decide]
    (try simp only [Bool.not_true, Bool.not_false, Bool.false_eq_true, if_false, if_true, decide_true, decide_false])
    simp only [cLen_tup]
    (try walk_at "wp1")
    by_cases hl : xs.length = 5
    · obtain ⟨w, a, b, c, l, rfl⟩ := five hl
      clear hl hd
      (try simp only [Bool.not_true, Bool.not_false, Bool.false_eq_true, if_false, if_true, decide_true, decide_false])
      ((try dsimp only); rw [sSeq_def]; (try (try walk_at "wp1")))
      simp only [mtDs] at q
      ((try dsimp only); rw [sSeq_def]; (try (try walk_at "wp1")))
      simp only [oNotInS, txs, strsOf, Option.map_some, List.map_cons, List.map_nil]
      rw [if_neg (by decide), wd_any]
      have no : (wdD w && belowD many a && belowD many b && !decide (unI a = unI b) && geD 0 c && geD 1 l) = false → retW μ.length Q (.p (.bool false)) μ := fun h => by rw [h] at q; exact ret_p rfl q
      cases hw : wdD w with
      | false => (try simp only [Bool.not_true, Bool.not_false, Bool.false_eq_true, if_false, if_true, decide_true, decide_false]); exact no (by simp [hw])
      | true =>
        (try simp only [Bool.not_true, Bool.not_false, Bool.false_eq_true, if_false, if_true, decide_true, decide_false])
        ((try dsimp only); rw [sSeq_def]; (try (try walk_at "wp1")))
        refine ⟨many, a, rfl, ?_⟩
        cases ha : belowD many a with
        | false => (try simp only [Bool.not_true, Bool.not_false, Bool.false_eq_true, if_false, if_true, decide_true, decide_false]); exact no (by simp [ha])
        | true =>
          (try simp only [Bool.not_true, Bool.not_false, Bool.false_eq_true, if_false, if_true, decide_true, decide_false])
          refine ⟨many, b, rfl, ?_⟩
          cases hb : belowD many b with
          | false => (try simp only [Bool.not_true, Bool.not_false, Bool.false_eq_true, if_false, if_true, decide_true, decide_false]); exact no (by simp [hb])
          | true =>
            (try simp only [Bool.not_true, Bool.not_false, Bool.false_eq_true, if_false, if_true, decide_true, decide_false])
            obtain ⟨i, rfl, i0, i1⟩ := below_int ha
            obtain ⟨j, rfl, j0, j1⟩ := below_int hb
            (try walk_at "wp1")
            by_cases hij : i = j
            · rw [show decide (i = j) = true from decide_eq_true hij]
              (try simp only [Bool.not_true, Bool.not_false, Bool.false_eq_true, if_false, if_true, decide_true, decide_false])
              exact no (by simp [unI, hij])
            · rw [show decide (i = j) = false from decide_eq_false hij]
              (try simp only [Bool.not_true, Bool.not_false, Bool.false_eq_true, if_false, if_true, decide_true, decide_false])
              refine ⟨c, rfl, ?_⟩
              have yes : retW μ.length Q (.p (.bool (geD 0 c && geD 1 l))) μ := by
                have e : (wdD w && belowD many (.int i) && belowD many (.int j) && !decide (unI (.int i) = unI (.int j)) && geD 0 c && geD 1 l) = (geD 0 c && geD 1 l) := by simp [hw, ha, hb, unI, hij]
                rw [e] at q
                exact ret_p rfl q
              clear q no
              cases c with
              | int x =>
                simp only [isInt, geD] at yes ⊢
                (try walk_at "wp1")
                by_cases hx : 0 ≤ x
                · simp only [hx, decide_true, Bool.true_and, if_true] at yes ⊢
                  refine ⟨l, rfl, ?_⟩
                  cases l with
                  | int y => simp only [isInt, geD] at yes ⊢; (try walk_at "wp1"); exact yes
                  | _ => exact yes
                · simp only [hx, decide_false, Bool.false_and, Bool.false_eq_true, if_false] at yes ⊢
                  exact yes
              | _ => exact yes
    · rw [show decide ((xs.length : Int) = 5) = false from decide_eq_false (by omega)]
      (try simp only [Bool.not_true, Bool.not_false, Bool.false_eq_true, if_false, if_true, decide_true, decide_false])
      rw [mtDs_len hl] at q
      exact ret_p rfl q
def sp_lwholeA : SpW := fun ws μ Q => ∃ (d : PyData) (k : Int), ws = [.p d, .p (.int k)] ∧ Q (.p (.bool (geD k d))) μ
theorem vc_lwholeA (ws : List W) (μ : Mu) (Q : WK) (h : sp_lwholeA ws μ Q) : spBody N__law_is_whole 2 b__law_is_whole ws μ Q := by
  obtain ⟨d, k, rfl, q⟩ := h
  unfold b__law_is_whole
  cases d with
  | int i =>
    walk_at "wps"
    rw [cIsi_p (T := "int") rfl (by simp), show isT "int" "int" = true from by decide]
    walk_at "wps"
    rw [cIsi_p (T := "int") rfl (by simp), show isT "int" "bool" = false from by decide]
    walk_at "wps"
    exact ret_p rfl q
  | bool b =>
    walk_at "wps"
    rw [cIsi_p (T := "bool") rfl (by simp), show isT "bool" "int" = true from by decide]
    walk_at "wps"
    rw [cIsi_p (T := "bool") rfl (by simp), show isT "bool" "bool" = true from by decide]
    exact ret_p rfl q
  | none => walk_at "wps"; rw [cIsi_p (T := "NoneType") rfl (by simp), show isT "NoneType" "int" = false from by decide]; exact ret_p rfl q
  | str z => walk_at "wps"; rw [cIsi_p (T := "str") rfl (by simp), show isT "str" "int" = false from by decide]; exact ret_p rfl q
  | list z => walk_at "wps"; rw [cIsi_p (T := "list") rfl (by simp), show isT "list" "int" = false from by decide]; exact ret_p rfl q
  | tuple z => walk_at "wps"; rw [cIsi_p (T := "tuple") rfl (by simp), show isT "tuple" "int" = false from by decide]; exact ret_p rfl q
  | dict z => walk_at "wps"; rw [cIsi_p (T := "dict") rfl (by simp), show isT "dict" "int" = false from by decide]; exact ret_p rfl q
theorem not_str {μ : Mu} {d : PyData} (h : ∀ z, d ≠ .str z) (Q : WK) : cIsi [.p d, .t "str"] μ Q = Q (.p (.bool false)) μ := by
  cases d with
  | str z => exact absurd rfl (h z)
  | none => rw [cIsi_p (T := "NoneType") rfl (by simp)]; rfl
  | bool _ => rw [cIsi_p (T := "bool") rfl (by simp)]; rfl
  | int _ => rw [cIsi_p (T := "int") rfl (by simp)]; rfl
  | tuple _ => rw [cIsi_p (T := "tuple") rfl (by simp)]; rfl
  | list _ => rw [cIsi_p (T := "list") rfl (by simp)]; rfl
  | dict _ => rw [cIsi_p (T := "dict") rfl (by simp)]; rfl
theorem vc_lismeet (ws : List W) (μ : Mu) (Q : WK) (h : sp_ismeetA ws μ Q) : spBody N__law_is_meeting 2 (b__law_is_meeting sp_lwholeA) ws μ Q := by
  obtain ⟨many, d, rfl, q⟩ := h
  unfold b__law_is_meeting
  refine ⟨rfl, ?_⟩
  show sSeq _ _ _ [some (.p (.int many)), some (.p d), none] μ
  by_cases hd : ∀ xs, d ≠ .tuple xs
  · (try dsimp only); rw [sSeq_def]
    (try walk_at "wp1")
    rw [not_tup hd]
    (try simp only [Bool.not_true, Bool.not_false, Bool.false_eq_true, if_false, if_true, decide_true, decide_false])
    rw [mtD_no hd] at q
    exact ret_p rfl q
  · obtain ⟨xs, rfl⟩ : ∃ xs, d = .tuple xs := Classical.byContradiction fun z => hd fun xs e => z ⟨xs, e⟩
    simp only [mtD] at q
    (try dsimp only); rw [sSeq_def]
    (try walk_at "wp1")
    rw [cIsi_p (T := "tuple") rfl (by simp), show isT "tuple" "tuple" = true from by decide]
    (try simp only [Bool.not_true, Bool.not_false, Bool.false_eq_true, if_false, if_true, decide_true, decide_false])
    simp only [cLen_tup]
    (try walk_at "wp1")
    by_cases hl : xs.length = 5
    · obtain ⟨w, a, b, c, l, rfl⟩ := five hl
      clear hl hd
      simp only [mtDs] at q
      have no : (wdD w && belowD many a && belowD many b && !decide (unI a = unI b) && geD 0 c && geD 1 l) = false → retW μ.length Q (.p (.bool false)) μ := fun h => by rw [h] at q; exact ret_p rfl q
      (try walk_at "wp1")
      rw [if_neg (by decide)]
      by_cases hs : ∀ z, w ≠ .str z
      · rw [not_str hs]
        (try simp only [Bool.not_true, Bool.not_false, Bool.false_eq_true, if_false, if_true, decide_true, decide_false])
        refine no ?_
        have : wdD w = false := by
          cases w with
          | str z => exact absurd rfl (hs z)
          | _ => rfl
        simp [this]
      · obtain ⟨z, rfl⟩ : ∃ z, w = .str z := Classical.byContradiction fun e => hs fun z h => e ⟨z, h⟩
        rw [cIsi_p (T := "str") rfl (by simp), show isT "str" "str" = true from by decide]
        (try simp only [Bool.not_true, Bool.not_false, Bool.false_eq_true, if_false, if_true, decide_true, decide_false])
        ((try dsimp only); rw [sSeq_def]; (try (try walk_at "wp1")))
        refine ⟨szk (by decide), ?_⟩
        simp only [oNotInS, strsOf, Option.map_some]
        rw [wd_any]
        cases hw : wdD (.str z) with
        | false => (try simp only [Bool.not_true, Bool.not_false, Bool.false_eq_true, if_false, if_true, decide_true, decide_false]); exact no (by simp [hw])
        | true =>
          (try simp only [Bool.not_true, Bool.not_false, Bool.false_eq_true, if_false, if_true, decide_true, decide_false])
          simp only [wLc, iSeq]
          (try walk_at "wp1")
          have mid : ∀ (μ : Mu) (Q : WK), oSl (.p (.tuple [.str z, a, b, c, l])) (some 1) (some 4) μ Q = Q (.p (.tuple [a, b, c])) μ := fun _ _ => rfl
          rw [mid]
          dsimp only
          refine compR_of (fun rest acc μ' => μ' = μ ∧ ∃ done : List PyData, done ++ rest = [a, b, c] ∧ acc = done.filter fun x => !geD 0 x) (fun _ _ _ _ => trivial) ?_ ?_ _ _ _ ⟨rfl, [], rfl, rfl⟩
          · rintro acc μ' ⟨rfl, done, e, rfl⟩
            rw [List.append_nil] at e
            subst e
            refine ⟨szk (by decide), ?_⟩
            simp only [oNeE]
            by_cases h3 : geD 0 a = true ∧ geD 0 b = true ∧ geD 0 c = true
            · obtain ⟨h1, h2, h3⟩ := h3
              rw [show List.filter (fun x => !geD 0 x) [a, b, c] = [] from by simp [h1, h2, h3]]
              rw [if_neg (by decide)]
              obtain ⟨i, rfl, i0⟩ := ge_int h1
              obtain ⟨j, rfl, j0⟩ := ge_int h2
              ((try dsimp only); rw [sSeq_def]; (try (try walk_at "wp1")))
              by_cases hi : many ≤ i
              · rw [show decide (many ≤ i) = true from decide_eq_true hi]
                (try simp only [Bool.not_true, Bool.not_false, Bool.false_eq_true, if_false, if_true, decide_true, decide_false])
                exact no (by simp [belowD, show ¬ i < many by omega])
              · rw [show decide (many ≤ i) = false from decide_eq_false hi]
                (try simp only [Bool.not_true, Bool.not_false, Bool.false_eq_true, if_false, if_true, decide_true, decide_false])
                by_cases hj : many ≤ j
                · rw [show decide (many ≤ j) = true from decide_eq_true hj]
                  (try simp only [Bool.not_true, Bool.not_false, Bool.false_eq_true, if_false, if_true, decide_true, decide_false])
                  exact no (by simp [belowD, show ¬ j < many by omega])
                · rw [show decide (many ≤ j) = false from decide_eq_false hj]
                  (try simp only [Bool.not_true, Bool.not_false, Bool.false_eq_true, if_false, if_true, decide_true, decide_false])
                  by_cases hij : i = j
                  · rw [show decide (i = j) = true from decide_eq_true hij]
                    (try simp only [Bool.not_true, Bool.not_false, Bool.false_eq_true, if_false, if_true, decide_true, decide_false])
                    exact no (by simp [unI, hij])
                  · rw [show decide (i = j) = false from decide_eq_false hij]
                    (try simp only [Bool.not_true, Bool.not_false, Bool.false_eq_true, if_false, if_true, decide_true, decide_false])
                    refine ⟨l, 1, rfl, ?_⟩
                    have e : (wdD (.str z) && belowD many (.int i) && belowD many (.int j) && !decide (unI (.int i) = unI (.int j)) && geD 0 c && geD 1 l) = geD 1 l := by simp [hw, belowD, unI, hij, h3, i0, j0, show i < many by omega, show j < many by omega]
                    rw [e] at q
                    exact ret_p rfl q
            · have hne : (List.filter (fun x => !geD 0 x) [a, b, c]).isEmpty = false := by
                cases h1 : geD 0 a <;> cases h2 : geD 0 b <;> cases h3 : geD 0 c <;> simp_all
              rw [hne]
              refine no ?_
              have : (belowD many a && belowD many b && geD 0 c) = false := by
                cases h1 : geD 0 a with
                | false => rw [below_ge h1]; rfl
                | true =>
                  cases h2 : geD 0 b with
                  | false => rw [below_ge h2]; simp
                  | true =>
                    cases h3 : geD 0 c with
                    | false => simp
                    | true => simp_all
              cases h1 : belowD many a <;> cases h2 : belowD many b <;> cases h3 : geD 0 c <;> simp_all
          · rintro x rest acc μ' R hR ⟨rfl, done, e, rfl⟩
            refine ⟨_, rfl, ?_⟩
            simp only [wipeW, List.set_cons_zero, List.set_cons_succ]
            (try walk_at "wp1")
            refine ⟨x, 0, rfl, ?_⟩
            have hdl : done.length ≤ 3 := by have := congrArg List.length e; simp at this; omega
            cases hg : geD 0 x with
            | true =>
              (try simp only [Bool.not_true, Bool.not_false, Bool.false_eq_true, if_false, if_true, decide_true, decide_false])
              exact hR _ _ ⟨rfl, done ++ [x], by simpa using e, by rw [List.filter_append]; simp [hg]⟩
            | false =>
              (try simp only [Bool.not_true, Bool.not_false, Bool.false_eq_true, if_false, if_true, decide_true, decide_false])
              refine ⟨szl (Nat.lt_of_le_of_lt (List.length_filter_le _ _) (by omega)), hR _ _ ⟨rfl, done ++ [x], by simpa using e, by rw [List.filter_append]; simp [hg]⟩⟩
    · rw [show decide ((xs.length : Int) = 5) = false from decide_eq_false (by omega)]
      (try simp only [Bool.not_true, Bool.not_false, Bool.false_eq_true, if_false, if_true, decide_true, decide_false])
      rw [mtDs_len hl] at q
      exact ret_p rfl q
end K02
namespace Net
open PySem L2 L2.Ev
structure Sn where
  k : Nat
  fr : Int
  to : Int
  b : Int
  e : Int
def Sn.d (s : Sn) : PyData := .tuple [.int s.k, .int s.fr, .int s.to, .int s.b, .int s.e]
def mSteps (k : Nat) (m : Mt) : List Sn := ⟨k, m.one, m.oth, m.b, m.e⟩ :: (if m.w = true then [⟨k, m.oth, m.one, m.b, m.e⟩] else [])
def steps : Nat → List Mt → List Sn
  | _, [] => []
  | k, m :: ms => mSteps k m ++ steps (k + 1) ms
end Net
namespace Net
open PySem L2 L2.Ev TL
def okS (z : Str) : Prop := ∀ c ∈ tl z, c < 1114112
theorem shaped_ok {z : Str} (h : okS z) : SeqAt.shaped (.str z) = true := by
  have : z.cps.all (· < 1114112) = true := by
    rw [Array.all_eq_true_iff_forall_mem]
    intro c hc
    exact decide_eq_true (h c (Array.mem_toList_iff.mpr hc))
  simp only [SeqAt.shaped, PyData.canLay0, PyData.depth]
  rw [Bool.and_eq_true]
  exact ⟨this, by simp⟩
theorem okS_nm {n : Int} (h : 0 ≤ n) : okS (nm n) := fun c hc => by
  rw [tl_nm h] at hc
  have := numL_digits n.toNat c hc
  omega
theorem joinL_mem {S : List Nat} {c : Nat} : ∀ {ps : List (List Nat)}, c ∈ joinL S ps → c ∈ S ∨ ∃ p ∈ ps, c ∈ p
  | [], h => by simp [joinL] at h
  | [p], h => .inr ⟨p, by simp, h⟩
  | p :: q :: r, h => by
    simp only [joinL, List.mem_append] at h
    rcases h with h | h | h
    · exact .inr ⟨p, by simp, h⟩
    · exact .inl h
    · rcases joinL_mem h with h | ⟨x, hx, h⟩
      · exact .inl h
      · exact .inr ⟨x, by simp at hx ⊢; exact .inr hx, h⟩
theorem okS_join {y : Str} {ps : List Str} (hy : okS y) (h : ∀ p ∈ ps, okS p) : okS (Txt.join y ps) := fun c hc => by
  rw [join_eq, tl_join] at hc
  rcases joinL_mem hc with hc | ⟨p, hp, hc⟩
  · exact hy c hc
  · obtain ⟨z, hz, rfl⟩ := List.mem_map.mp hp
    exact h z hz c hc
end Net
namespace Net
open PySem L2 L2.Ev
inductive Rch (ss : List Sn) (p0 t0 : Int) : Int → Int → Prop
  | here : Rch ss p0 t0 p0 t0
  | step {s : Sn} {t : Int} : s ∈ ss → Rch ss p0 t0 s.fr t → t ≤ s.b → Rch ss p0 t0 s.to s.e
structure Flr (ss : List Sn) (p0 t0 : Int) (f : Int → Option Int) : Prop where
  here : ∃ x, f p0 = some x ∧ x ≤ t0
  step : ∀ s ∈ ss, ∀ x, f s.fr = some x → x ≤ s.b → ∃ y, f s.to = some y ∧ y ≤ s.e
theorem Flr.le {ss : List Sn} {p0 t0 p t : Int} {f : Int → Option Int} (h : Flr ss p0 t0 f) (r : Rch ss p0 t0 p t) : ∃ y, f p = some y ∧ y ≤ t := by
  induction r with
  | here => exact h.here
  | step hs _ hb ih =>
    obtain ⟨x, hx, hle⟩ := ih
    exact h.step _ hs x hx (Int.le_trans hle hb)
structure Ear (ss : List Sn) (p0 t0 : Int) (f : Int → Option Int) : Prop extends Flr ss p0 t0 f where
  att : ∀ p t, f p = some t → Rch ss p0 t0 p t
theorem Ear.uniq {ss : List Sn} {p0 t0 : Int} {f g : Int → Option Int} (h : Ear ss p0 t0 f) (k : Ear ss p0 t0 g) : f = g := by
  funext p
  cases hf : f p with
  | none =>
    cases hg : g p with
    | none => rfl
    | some y =>
      obtain ⟨x, hx, _⟩ := h.le (k.att p y hg)
      rw [hf] at hx; cases hx
  | some x =>
    obtain ⟨y, hy, h1⟩ := k.le (h.att p x hf)
    obtain ⟨x', hx', h2⟩ := h.le (k.att p y hy)
    rw [hf] at hx'; cases hx'
    rw [hy]
    congr 1
    omega
theorem Rch.ge {ss : List Sn} {p0 t0 p t : Int} (hl : ∀ s ∈ ss, s.b < s.e) (r : Rch ss p0 t0 p t) : t0 ≤ t := by
  induction r with
  | here => exact Int.le_refl _
  | step hs _ hb ih => have := hl _ hs; omega
theorem Rch.mono {ss ss' : List Sn} {p0 t0 p t : Int} (h : ∀ s ∈ ss, s ∈ ss') (r : Rch ss p0 t0 p t) : Rch ss' p0 t0 p t := by
  induction r with
  | here => exact .here
  | step hs _ hb ih => exact .step (h _ hs) ih hb
theorem steps_mem {ms : List Mt} : ∀ {k : Nat} {s : Sn}, s ∈ steps k ms → ∃ i m, ms[i]? = some m ∧ s ∈ mSteps (k + i) m := by
  induction ms with
  | nil => intro k s h; simp [steps] at h
  | cons m ms ih =>
    intro k s h
    simp only [steps, List.mem_append] at h
    rcases h with h | h
    · exact ⟨0, m, rfl, h⟩
    · obtain ⟨i, m', e, h'⟩ := ih h
      exact ⟨i + 1, m', e, by rw [show k + (i + 1) = k + 1 + i by omega]; exact h'⟩
structure SnOk (many : Int) (s : Sn) : Prop where
  f0 : 0 ≤ s.fr
  f1 : s.fr < many
  t0 : 0 ≤ s.to
  t1 : s.to < many
  lt : s.b < s.e
  b0 : 0 ≤ s.b
def atF (l : List (Option Int)) (p : Int) : Option Int := if 0 ≤ p then (l[p.toNat]?).join else none
theorem atF_set {l : List (Option Int)} {p q : Int} {x : Option Int} (h0 : 0 ≤ p) (h1 : p < l.length) : atF (l.set p.toNat x) q = if q = p then x else atF l q := by
  unfold atF
  by_cases hq : 0 ≤ q
  · rw [if_pos hq, if_pos hq]
    by_cases e : q = p
    · subst e
      rw [if_pos rfl, List.getElem?_set_self (by omega)]
      rfl
    · rw [if_neg e, List.getElem?_set_ne (by omega)]
  · rw [if_neg hq, if_neg hq, if_neg (by omega)]
def Lows (l : List (Option Int)) (s : Sn) : Prop := (∃ x, atF l s.fr = some x ∧ x ≤ s.b) ∧ ∀ y, atF l s.to = some y → s.e < y
def rk (ss : List Sn) : Option Int → Nat
  | none => ss.length + 1
  | some t => (ss.filter fun s => decide (s.e < t)).length
structure Bf (ss : List Sn) (many p0 t0 : Int) (l : List (Option Int)) : Prop where
  len : (l.length : Int) = many
  here : ∃ x, atF l p0 = some x ∧ x ≤ t0
  att : ∀ p t, atF l p = some t → Rch ss p0 t0 p t
theorem Bf.low {ss : List Sn} {many p0 t0 : Int} {l : List (Option Int)} (h : Bf ss many p0 t0 l) {s : Sn} (hs : s ∈ ss) (ok : SnOk many s) (hw : Lows l s) : Bf ss many p0 t0 (l.set s.to.toNat (some s.e)) := by
  have h0 := ok.t0; have h1 := ok.t1; have hl := h.len
  refine ⟨by simpa using hl, ?_, fun p t e => ?_⟩
  · rw [atF_set h0 (by omega)]
    split
    · rename_i e
      obtain ⟨x, hx, hle⟩ := h.here
      rw [e] at hx
      exact ⟨_, rfl, by have := hw.2 x hx; omega⟩
    · exact h.here
  · rw [atF_set h0 (by omega)] at e
    split at e
    · rename_i e1
      cases e
      subst e1
      obtain ⟨x, hx, hle⟩ := hw.1
      exact .step hs (h.att _ _ hx) hle
    · exact h.att p t e
theorem Bf.start {ss : List Sn} {many p0 t0 : Int} (h0 : 0 ≤ p0) (h1 : p0 < many) : Bf ss many p0 t0 ((List.replicate many.toNat none).set p0.toNat (some t0)) := by
  have hl : ((List.replicate many.toNat (none : Option Int)).length : Int) = many := by simp; omega
  have at0 : ∀ q, atF (List.replicate many.toNat none) q = none := fun q => by
    unfold atF
    split
    · rw [List.getElem?_replicate]; split <;> rfl
    · rfl
  refine ⟨by simpa using hl, ⟨t0, ?_, Int.le_refl _⟩, fun p t e => ?_⟩
  · rw [atF_set h0 (by omega), if_pos rfl]
  · rw [atF_set h0 (by omega)] at e
    split at e
    · rename_i e1; cases e; subst e1; exact .here
    · rw [at0] at e; cases e
structure Came (ss : List Sn) (p0 t0 : Int) (f : Int → Option Int) (g : Int → Option (Nat × Int)) : Prop where
  att : ∀ p t, f p = some t → Rch ss p0 t0 p t
  here : f p0 = some t0
  last : ∀ p k q, g p = some (k, q) → ∃ s ∈ ss, s.k = k ∧ s.fr = q ∧ s.to = p ∧ f p = some s.e ∧ ∃ x, f q = some x ∧ x ≤ s.b
  root : ∀ p t, f p = some t → g p = none → p = p0
  none : g p0 = none
def putF {α : Type} (f : Int → Option α) (p : Int) (x : α) : Int → Option α := fun q => if q = p then some x else f q
theorem Came.start (ss : List Sn) (p0 t0 : Int) : Came ss p0 t0 (putF (fun _ => Option.none) p0 t0) (fun _ => Option.none) where
  att := fun p t e => by unfold putF at e; split at e; · rename_i h; cases e; subst h; exact .here
                         · cases e
  here := by simp [putF]
  last := fun p k q e => by cases e
  root := fun p t e _ => by unfold putF at e; split at e; · assumption
                            · cases e
  none := rfl
theorem Came.step {ss : List Sn} {p0 t0 : Int} {f : Int → Option Int} {g : Int → Option (Nat × Int)} (hl : ∀ s ∈ ss, s.b < s.e) (h : Came ss p0 t0 f g) {s : Sn} (hs : s ∈ ss) {done : List Sn} (hd : ∀ d ∈ done, d.b ≤ s.b)
    (cl : ∀ d ∈ done, ∀ x, f d.fr = some x → x ≤ d.b → ∃ y, f d.to = some y ∧ y ≤ d.e) (hg : ∀ p k q, g p = some (k, q) → ∃ d ∈ done, d.k = k ∧ d.fr = q ∧ d.to = p ∧ f p = some d.e ∧ ∃ x, f q = some x ∧ x ≤ d.b)
    {x : Int} (hx : f s.fr = some x) (hb : x ≤ s.b) (ht : ∀ y, f s.to = some y → s.e < y) :
    Came ss p0 t0 (putF f s.to s.e) (putF g s.to (s.k, s.fr)) ∧ (∀ d ∈ done ++ [s], ∀ x, putF f s.to s.e d.fr = some x → x ≤ d.b → ∃ y, putF f s.to s.e d.to = some y ∧ y ≤ d.e) ∧
      ∀ p k q, putF g s.to (s.k, s.fr) p = some (k, q) → ∃ d ∈ done ++ [s], d.k = k ∧ d.fr = q ∧ d.to = p ∧ putF f s.to s.e p = some d.e ∧ ∃ x, putF f s.to s.e q = some x ∧ x ≤ d.b := by
  have hlt := hl s hs
  have hne : s.fr ≠ s.to := fun e => by rw [e] at hx; have := ht x hx; omega
  have hp0 : s.to ≠ p0 := fun e => by
    have := ht t0 (by rw [e]; exact h.here)
    have := (h.att _ _ hx).ge hl
    omega
  have low : ∀ q x, f q = some x → x ≤ s.b → q ≠ s.to := fun q x hq hle e => by subst e; have := ht x hq; omega
  have G : ∀ p k q, putF g s.to (s.k, s.fr) p = some (k, q) → ∃ d ∈ done ++ [s], d.k = k ∧ d.fr = q ∧ d.to = p ∧ putF f s.to s.e p = some d.e ∧ ∃ x, putF f s.to s.e q = some x ∧ x ≤ d.b := fun p k q e => by
    unfold putF at e
    split at e
    · rename_i e1
      subst e1
      cases e
      exact ⟨s, by simp, rfl, rfl, rfl, by simp [putF], x, by simp [putF, hne, hx], hb⟩
    · rename_i e1
      obtain ⟨d, hd', a1, a2, a3, a4, y, a5, a6⟩ := hg p k q e
      have := hd d hd'
      have hq := low q y a5 (by omega)
      exact ⟨d, by simp [hd'], a1, a2, a3, by simp [putF, e1, a4], y, by simp [putF, hq, a5], a6⟩
  refine ⟨⟨fun p t e => ?_, ?_, fun p k q e => ?_, fun p t e1 e2 => ?_, ?_⟩, fun d hd' y hy hle => ?_, G⟩
  · unfold putF at e
    split at e
    · rename_i e1; cases e; subst e1; exact .step hs (h.att _ _ hx) hb
    · exact h.att p t e
  · simp [putF, Ne.symm hp0, h.here]
  · unfold putF at e
    split at e
    · rename_i e1
      subst e1
      cases e
      exact ⟨s, hs, rfl, rfl, rfl, by simp [putF], x, by simp [putF, hne, hx], hb⟩
    · rename_i e1
      obtain ⟨d, hd', a1, a2, a3, a4, y, a5, a6⟩ := hg p k q e
      obtain ⟨d2, hd2, b1, b2, b3, b4, y2, b5, b6⟩ := h.last p k q e
      rw [a4] at b4
      have h1 := hd d hd'
      have hq := low q y a5 (by omega)
      exact ⟨d2, hd2, b1, b2, b3, by simp [putF, e1, a4]; simpa using b4, y2, by simp [putF, hq, b5], b6⟩
  · unfold putF at e1 e2
    split at e1
    · rename_i e3; rw [if_pos e3] at e2; cases e2
    · rename_i e3; rw [if_neg e3] at e2; exact h.root p t e1 e2
  · simp [putF, Ne.symm hp0, h.none]
  · rcases List.mem_append.mp hd' with hd' | hd'
    · have h1 := hd d hd'
      have hfr : d.fr ≠ s.to := fun e => by
        unfold putF at hy
        rw [if_pos e] at hy
        cases hy
        omega
      unfold putF at hy
      rw [if_neg hfr] at hy
      obtain ⟨z, hz, hz2⟩ := cl d hd' y hy hle
      by_cases e : d.to = s.to
      · exact ⟨s.e, by simp [putF, e], by rw [e] at hz; have := ht z hz; omega⟩
      · exact ⟨z, by simp [putF, e, hz], hz2⟩
    · simp at hd'
      subst hd'
      exact ⟨d.e, by simp [putF], Int.le_refl _⟩
end Net
namespace Net
open PySem L2 L2.Ev
theorem find_map {k k' : Key} {d : PyData} : ∀ kvs : List (Key × PyData), ((kvs.map fun kv => if kv.1 = k then (kv.1, d) else kv).find? fun kv => decide (kv.1 = k')).map (·.2) = if k' = k then ((kvs.find? fun kv => decide (kv.1 = k)).map fun _ => d) else (kvs.find? fun kv => decide (kv.1 = k')).map (·.2)
  | [] => by simp
  | kv :: r => by
    have ih := find_map (k := k) (k' := k') (d := d) r
    rw [List.map_cons, List.find?_cons, List.find?_cons]
    by_cases h1 : kv.1 = k
    · rw [if_pos h1]
      by_cases h2 : k' = k
      · subst h2; simp [h1]
      · rw [if_neg h2]
        have : ¬ kv.1 = k' := fun z => h2 (by rw [← z, h1])
        simp only [this, decide_false]
        rw [ih, if_neg h2]
        rw [List.find?_cons]
        simp [this]
    · rw [if_neg h1]
      by_cases h2 : k' = k
      · subst h2
        simp only [h1, decide_false]
        rw [ih, if_pos rfl]
        simp
      · rw [if_neg h2]
        by_cases h3 : kv.1 = k'
        · rw [List.find?_cons]; simp [h3]
        · rw [List.find?_cons]
          simp only [h3, decide_false]
          rw [ih, if_neg h2]
theorem valD_put (kvs : List (Key × PyData)) (k k' : Key) (d : PyData) : valD (putD kvs k d) k' = if k' = k then some d else valD kvs k' := by
  unfold valD putD
  split
  · rename_i h
    rw [find_map]
    split
    · rw [List.any_eq_true] at h
      obtain ⟨kv, hm, he⟩ := h
      cases hf : kvs.find? fun kv => decide (kv.1 = k) with
      | none => rw [List.find?_eq_none] at hf; exact absurd he (hf kv hm)
      | some _ => rfl
    · rfl
  · rename_i h
    rw [List.find?_append]
    have hn : kvs.find? (fun kv => decide (kv.1 = k)) = none := by
      rw [List.find?_eq_none]
      intro x hx he
      exact h (List.any_eq_true.mpr ⟨x, hx, he⟩)
    split
    · rename_i e
      subst e
      rw [hn]; simp
    · rename_i e
      have : ([(k, d)] : List (Key × PyData)).find? (fun kv => decide (kv.1 = k')) = none := by simp; exact fun z => e z.symm
      rw [this]
      cases kvs.find? fun kv => decide (kv.1 = k') <;> simp
def DkI (kvs : List (Key × PyData)) (f : Int → Option Int) : Prop := ∀ p : Int, valD kvs (.inl p) = (f p).map PyData.int
def laD (x : Nat × Int) : PyData := .tuple [.int x.1, .int x.2]
def DkL (kvs : List (Key × PyData)) (g : Int → Option (Nat × Int)) : Prop := ∀ p : Int, valD kvs (.inl p) = (g p).map laD
theorem DkI.put {kvs : List (Key × PyData)} {f : Int → Option Int} (h : DkI kvs f) (p t : Int) : DkI (putD kvs (.inl p) (.int t)) (putF f p t) := fun q => by
  rw [valD_put]
  unfold putF
  by_cases e : q = p
  · subst e; simp
  · rw [if_neg (fun z => e (by injection z)), if_neg e]; exact h q
theorem DkL.put {kvs : List (Key × PyData)} {g : Int → Option (Nat × Int)} (h : DkL kvs g) (p : Int) (x : Nat × Int) : DkL (putD kvs (.inl p) (laD x)) (putF g p x) := fun q => by
  rw [valD_put]
  unfold putF
  by_cases e : q = p
  · subst e; simp
  · rw [if_neg (fun z => e (by injection z)), if_neg e]; exact h q
end Net
namespace Net
open PySem L2 L2.Ev TL
structure Shw (k B : Nat) (d : PyData) : Prop where
  s : d.showable = true
  h : d.hasDict = false
  dp : d.depth ≤ k
  ln : d.shown.length ≤ B
  ok : okS d.shown
theorem Shw.mono {k k' B B' : Nat} {d : PyData} (h : Shw k B d) (hk : k ≤ k') (hB : B ≤ B') : Shw k' B' d := ⟨h.s, h.h, Nat.le_trans h.dp hk, Nat.le_trans h.ln hB, h.ok⟩
theorem Shw.int {k B : Nat} {i : Int} (h0 : 0 ≤ i) (h1 : i < 10 ^ 100) (hB : 100 ≤ B) : Shw k B (.int i) where
  s := by
    simp only [PyData.showable]
    have : i.natAbs.log2 < 1920 := by
      have h2 : i.natAbs < 10 ^ 100 := by omega
      by_cases z : i.natAbs = 0
      · rw [z]; decide
      · exact (Nat.log2_lt z).mpr (Nat.lt_of_lt_of_le h2 (by decide +kernel))
    simpa using this
  h := rfl
  dp := by simp [PyData.depth]
  ln := Nat.le_trans (nm_len (n := i) (k := 100) (by decide) h0 h1) hB
  ok := okS_nm h0
theorem okS_of {z : Str} (h : (tl z).all (fun c => decide (c < 1114112)) = true) : okS z := fun c hc => by
  have := List.all_eq_true.mp h c hc
  simpa using this
theorem Shw.none {k B : Nat} (hB : 4 ≤ B) : Shw k B .none := ⟨rfl, rfl, by simp [PyData.depth], Nat.le_trans (by decide +kernel : (PyData.shown .none).length ≤ 4) hB, okS_of (by decide +kernel)⟩
theorem Shw.bool {k B : Nat} {b : Bool} (hB : 5 ≤ B) : Shw k B (.bool b) := ⟨rfl, rfl, by simp [PyData.depth], Nat.le_trans (by cases b <;> decide +kernel : (PyData.shown (.bool b)).length ≤ 5) hB, okS_of (by cases b <;> decide +kernel)⟩
theorem shownAll_map : ∀ xs : List PyData, PyData.shownAll xs = xs.map PyData.shown
  | [] => rfl
  | x :: xs => by rw [PyData.shownAll, shownAll_map xs, List.map_cons]
theorem showAll_all : ∀ {xs : List PyData}, (∀ x ∈ xs, x.showable = true) → PyData.showableAll xs = true
  | [], _ => rfl
  | x :: xs, h => by rw [PyData.showableAll, h x (by simp), showAll_all fun y hy => h y (by simp [hy])]; rfl
theorem dictAll_all : ∀ {xs : List PyData}, (∀ x ∈ xs, x.hasDict = false) → PyData.hasDictAll xs = false
  | [], _ => rfl
  | x :: xs, h => by rw [PyData.hasDictAll, h x (by simp), dictAll_all fun y hy => h y (by simp [hy])]; rfl
theorem depthAll_all {k : Nat} : ∀ {xs : List PyData}, (∀ x ∈ xs, x.depth ≤ k) → PyData.depthAll xs ≤ k
  | [], _ => by simp [PyData.depthAll]
  | x :: xs, h => by
    have h1 := h x (by simp)
    have h2 := depthAll_all (xs := xs) fun y hy => h y (by simp [hy])
    simp only [PyData.depthAll]
    omega
theorem la2 (a b : Str) : (a ++ b).length = a.length + b.length := by rw [len_tl, len_tl, len_tl, tl_append, List.length_append]
theorem okS_app {a b : Str} (h : okS a) (k : okS b) : okS (a ++ b) := fun c hc => by
  rw [tl_append, List.mem_append] at hc
  exact hc.elim (h c) (k c)
theorem Shw.tup {k B : Nat} {xs : List PyData} (h : ∀ x ∈ xs, Shw k B x) : Shw (k + 1) (xs.length * B + xs.length * 2 + 3) (.tuple xs) where
  s := by simp only [PyData.showable]; exact showAll_all fun x hx => (h x hx).s
  h := by simp only [PyData.hasDict]; exact dictAll_all fun x hx => (h x hx).h
  dp := by have := depthAll_all fun x hx => (h x hx).dp; simp only [PyData.depth]; omega
  ln := by
    simp only [PyData.shown, tupleText, shownAll_map]
    rw [la2, la2, ← join_eq]
    have := join_len (y := ", ") (ps := xs.map PyData.shown) (B := B) (fun p hp => by obtain ⟨x, hx, rfl⟩ := List.mem_map.mp hp; exact (h x hx).ln)
    rw [List.length_map, show (Str.ofString ", ").length = 2 from by decide +kernel] at this
    have h1 : (Str.ofString "(").length = 1 := by decide +kernel
    have h2 : (Str.ofString (if ((xs.map PyData.shown).length == 1) = true then ",)" else ")")).length ≤ 2 := by split <;> decide +kernel
    omega
  ok := by
    simp only [PyData.shown, tupleText, shownAll_map]
    refine okS_app (okS_app (okS_of (by decide +kernel)) ?_) ?_
    · rw [← join_eq]
      exact okS_join (okS_of (by decide +kernel)) fun p hp => by obtain ⟨x, hx, rfl⟩ := List.mem_map.mp hp; exact (h x hx).ok
    · split <;> exact okS_of (by decide +kernel)
theorem Shw.ne {k B : Nat} {d : PyData} (h : Shw k B d) {μ : Mu} {Q : WK} (q : Q (.p (.bool false)) μ) : oNe (.p (.str d.shown)) (.p (.str d.shown)) μ Q := by
  rw [oNe_p, eqv_str, decide_eq_true rfl]
  exact ⟨shaped_ok h.ok, shaped_ok h.ok, q⟩
theorem Rch.or {ss : List Sn} {p0 t0 p t : Int} (r : Rch ss p0 t0 p t) : (t = t0 ∧ p = p0) ∨ ∃ s ∈ ss, t = s.e ∧ p = s.to := by
  cases r with
  | here => exact .inl ⟨rfl, rfl⟩
  | step hs _ _ => exact .inr ⟨_, hs, rfl, rfl⟩
theorem steps_e {ms : List Mt} {k : Nat} {s : Sn} (h : s ∈ steps k ms) : ∃ m ∈ ms, s.e = m.e ∧ s.b = m.b := by
  obtain ⟨i, m, e, hm⟩ := steps_mem h
  refine ⟨m, List.mem_of_getElem? e, ?_⟩
  unfold mSteps at hm
  rcases List.mem_cons.mp hm with rfl | hm
  · exact ⟨rfl, rfl⟩
  · split at hm
    · simp at hm; subst hm; exact ⟨rfl, rfl⟩
    · simp at hm
theorem Ear.bound {ms : List Mt} {many p0 t0 : Int} {f : Int → Option Int} (h : Ear (steps 0 ms) p0 t0 f) (ok : ∀ m ∈ ms, m.Ok many) (ht : 0 ≤ t0) (ht2 : t0 < 10 ^ 100) (he : ∀ m ∈ ms, m.e < 10 ^ 100) : ∀ p t, f p = some t → 0 ≤ t ∧ t < 10 ^ 100 := fun p t e => by
  rcases (h.att p t e).or with ⟨rfl, _⟩ | ⟨s, hs, rfl, _⟩
  · exact ⟨ht, ht2⟩
  · obtain ⟨m, hm, e1, _⟩ := steps_e hs
    have := (ok m hm).b0; have := (ok m hm).l1
    rw [e1]
    exact ⟨by unfold Mt.e; omega, he m hm⟩
end Net
set_option maxHeartbeats 1000000
namespace K02
open PySem L2 L2.Ev Net TL
local macro_rules | `(tactic| walk_at "wp1") => `(tactic| simp only [spBody, startW, sIf, sSet, sAsg, sRet, sRetN, sDrop, sNext, wVar, wC, wOp, wTest, wAnd, wOr, wNot, wAndV, wOrV, wNotV, wChain, wIf, wCall, aCons, aNil, wTup, wLst, wNew, pdOf, Option.map_some, wSl, wP, wNoP, nName, nSub, nTup, nCons, nNil, wTy, wNeg, cInt, cMax, cMin, List.map_cons, List.map_nil, List.length_cons, List.length_nil, List.replicate_succ, List.replicate_zero, List.cons_append, List.nil_append, List.append_nil, Nat.reduceAdd, Nat.reduceSub, List.set_cons_zero, List.set_cons_succ, List.getElem?_cons_zero, List.getElem?_cons_succ, Nat.zero_add, oAdd_int, oI_int, oI0_int, oIx_tup, oIx_lst, oIx_scr, oEq_p, oNe_p, oIs_n, oIsNot_n, oIs_bb, oIsNot_bb, atI_0, atI_1, atI_2, atI_3, atI_4, shaped_int, shaped_bool, eqv_int, eqv_bool, eqv_lst_nil, eqv_tup_nil, shaped_nilL, shaped_nilT, true_and, and_true, Nat.sub_self, Nat.add_one_sub_one, Bool.false_eq_true, if_false, if_true, Nat.reduceLeDiff, Int.reduceToNat, Int.reducePow, Int.reduceLT, Int.reduceLE, Int.reduceMul, Int.reduceSub, Int.reduceAdd, decide_true, decide_false, wTupRev])
local macro_rules | `(tactic| walk_at "wps") => `(tactic| simp only [spBody, startW, sSeq, sIf, sSet, sAsg, sRet, sRetN, sDrop, sNext, wVar, wC, wOp, wTest, wAnd, wOr, wNot, wAndV, wOrV, wNotV, wChain, wIf, wCall, aCons, aNil, wTup, wLst, wNew, pdOf, Option.map_some, wSl, wP, wNoP, nName, nSub, nTup, nCons, nNil, wTy, wNeg, cInt, cMax, cMin, List.map_cons, List.map_nil, List.length_cons, List.length_nil, List.replicate_succ, List.replicate_zero, List.cons_append, List.nil_append, List.append_nil, Nat.reduceAdd, Nat.reduceSub, List.set_cons_zero, List.set_cons_succ, List.getElem?_cons_zero, List.getElem?_cons_succ, Nat.zero_add, oAdd_int, oI_int, oI0_int, oIx_tup, oIx_lst, oIx_scr, oEq_p, oNe_p, oIs_n, oIsNot_n, oIs_bb, oIsNot_bb, atI_0, atI_1, atI_2, atI_3, atI_4, shaped_int, shaped_bool, eqv_int, eqv_bool, eqv_lst_nil, eqv_tup_nil, shaped_nilL, shaped_nilT, true_and, and_true, Nat.sub_self, Nat.add_one_sub_one, Bool.false_eq_true, if_false, if_true, Nat.reduceLeDiff, Int.reduceToNat, Int.reducePow, Int.reduceLT, Int.reduceLE, Int.reduceMul, Int.reduceSub, Int.reduceAdd, decide_true, decide_false, wTupRev])
def okB (L : Nat) : Nat → PyData → Prop
  | 0, _ => False
  | _ + 1, .int i => i.natAbs ≤ 10 ^ 50 + L
  | _ + 1, .str z => z.length ≤ L
  | k + 1, .tuple xs => xs.length ≤ L ∧ ∀ x ∈ xs, okB L k x
  | _ + 1, _ => True
theorem okB_mono {L L' : Nat} (hL : L ≤ L') : ∀ {k k' : Nat} {d : PyData}, k ≤ k' → okB L k d → okB L' k' d
  | 0, _, _, _, h => h.elim
  | k + 1, 0, _, hk, _ => by omega
  | k + 1, k' + 1, d, hk, h => by
    cases d with
    | int i => simp only [okB] at h ⊢; omega
    | str z => simp only [okB] at h ⊢; omega
    | tuple xs => simp only [okB] at h ⊢; exact ⟨by omega, fun x hx => okB_mono hL (by omega) (h.2 x hx)⟩
    | none => trivial
    | bool b => trivial
    | list _ => trivial
    | dict _ => trivial
theorem frz0 {ρ : Rho} {μ : Mu} {Q : WK} (q : Q (.p (.dict [])) μ) : wFrz wDict0 ρ μ Q := by
  refine ⟨rfl, by simp, fun c hc => ?_⟩
  rw [List.getElem?_append_right (Nat.le_refl _)] at hc
  simp at hc
  subst hc
  simpa [frzD] using q
theorem frz1 {ρ : Rho} {μ : Mu} {Q : WK} {fk fv : SE} {x : W} {k : Key} {d : PyData} (hk : ∀ μ K, fk ρ μ K = K x μ) (hv : ∀ μ K, fv ρ μ K = K (.p d) μ) (ek : keyOf x = some k) (q : Q (.p (.dict [(keyD k, d)])) μ) : wFrz (wDict1 fk fv) ρ μ Q := by
  unfold wFrz wDict1
  rw [hk, hv]
  simp only [ek]
  refine ⟨by simp, trivial, by simp, fun c hc => ?_⟩
  rw [List.getElem?_set_self (by simp)] at hc
  cases hc
  simpa [frzD, List.take_set_of_le] using q
def oddL (dp : PyData) : List PyData := [PyData.none, PyData.bool true, PyData.bool false, PyData.int 0, PyData.int 1, PyData.int 2, PyData.int (-1), PyData.int 10, PyData.int 11, PyData.int 10000000000001, PyData.int 1000000000000000000000000000000000000000, PyData.str (Str.ofString ""), PyData.str (Str.ofString "to"), PyData.str (Str.ofString "both"), PyData.str (Str.ofString "To"), PyData.str (Str.ofString "to "), PyData.str (Str.ofString "0"), PyData.str (Str.ofString "tos")] ++ [PyData.tuple [], PyData.tuple [PyData.int 0], PyData.tuple [PyData.str (Str.ofString "to"), PyData.int 0, PyData.int 1, PyData.int 0, PyData.int 1], PyData.list [], PyData.list [PyData.int 0], PyData.dict [], PyData.dict [(keyD (Sum.inr "to"), PyData.int 0)], PyData.tuple [PyData.tuple []], dp]
theorem oddL_ok {dp : PyData} (h : okB 100 14 dp) : ∀ x ∈ oddL dp, okB 100 14 x := by
  intro x hx
  simp only [oddL, List.cons_append, List.nil_append, List.mem_cons, List.not_mem_nil, or_false] at hx
  rcases hx with rfl | rfl | rfl | rfl | rfl | rfl | rfl | rfl | rfl | rfl | rfl | rfl | rfl | rfl | rfl | rfl | rfl | rfl | rfl | rfl | rfl | rfl | rfl | rfl | rfl | rfl | rfl
  all_goals first | exact h | trivial | (show Int.natAbs _ ≤ _; decide +kernel) | (show Str.length _ ≤ _; decide +kernel) | (simp [okB]; done) | (simp [okB]; decide +kernel)
def sp_odd : SpW := fun ws μ Q => ∃ (n b : Nat), ws = [.r n] ∧ DeckB μ n b ∧ b < 900000 ∧ ∀ d μ', okB 100 14 d → DB n (b + 20) μ μ' → Q (.p d) μ'
theorem vc_odd (ws : List W) (μ : Mu) (Q : WK) (h : sp_odd ws μ Q) : spBody N__law_odd 1 (b__law_odd sp_drawB) ws μ Q := by
  obtain ⟨n, b, rfl, hd, hb, q⟩ := h
  unfold b__law_odd
  refine ⟨rfl, ?_⟩
  show sSeq _ _ _ [some (.r n), none, none, none] μ
  ((try dsimp only); rw [sSeq_def]; (try (try walk_at "wp1")))
  (try dsimp only); rw [sSeq_def]
  simp only [sFor, iRng]
  (try walk_at "wp1")
  refine forR_of (fun xs ρ μ' => ∃ (j : Nat) (dp : PyData) (y2 : Option W), j + xs.length = 12 ∧ ρ = [some (.r n), some (.p dp), y2, none] ∧ DB n (b + j) μ μ' ∧ okB 100 (j + 1) dp) (fun _ _ _ _ => trivial) ?_ ?_ _ _ _ ⟨0, _, _, by simp [rng], rfl, by simpa using DB.refl hd, by simp [okB]⟩
  · rintro ρ μ' ⟨j, dp, y2, hj, rfl, dk, hok⟩
    simp at hj
    subst hj
    ((try dsimp only); rw [sSeq_def]; (try (try walk_at "wp1")))
    refine ⟨⟨by decide, by decide, by decide⟩, ⟨by decide, by decide, by decide⟩, szk (by simp), ?_⟩
    ((try dsimp only); rw [sSeq_def]; (try (try walk_at "wp1")))
    refine ⟨szk (by decide), szk (by decide), szk (by decide), szk (by decide), szk (by decide), frz0 (frz1 (x := .p (.str "to")) (k := .inr "to") (d := .int 0) (fun _ _ => rfl) (fun _ _ => rfl) rfl ?_)⟩
    refine ⟨szk (by decide), szk (by decide), ?_⟩
    simp only [pdOf, Option.map_some]
    refine ⟨szk (by simp), ?_⟩
    rw [oAdd_lst]
    refine ⟨szk (by simp), ?_⟩
    have hol := oddL_ok (dp := dp) (okB_mono (Nat.le_refl _) (by omega) hok)
    have hlen : (oddL dp).length = 27 := rfl
    unfold oddL at hol hlen
    generalize [PyData.none, PyData.bool true, PyData.bool false, PyData.int 0, PyData.int 1, PyData.int 2, PyData.int (-1), PyData.int 10, PyData.int 11, PyData.int 10000000000001, PyData.int 1000000000000000000000000000000000000000, PyData.str (Str.ofString ""), PyData.str (Str.ofString "to"), PyData.str (Str.ofString "both"), PyData.str (Str.ofString "To"), PyData.str (Str.ofString "to "), PyData.str (Str.ofString "0"), PyData.str (Str.ofString "tos")] ++ [PyData.tuple [], PyData.tuple [PyData.int 0], PyData.tuple [PyData.str (Str.ofString "to"), PyData.int 0, PyData.int 1, PyData.int 0, PyData.int 1], PyData.list [], PyData.list [PyData.int 0], PyData.dict [], PyData.dict [(keyD (Sum.inr "to"), PyData.int 0)], PyData.tuple [PyData.tuple []], dp] = os at *
    rw [cLen_lstP, hlen]
    refine ⟨n, _, _, rfl, by decide, by decide, dk.at', by omega, fun i μ2 i0 i1 k2 => ?_⟩
    have hi : i.toNat < os.length := by omega
    dsimp only
    rw [oIx_lst, atI_nn _ i0, List.getElem?_eq_getElem hi]
    have d2 := dk.trans k2
    exact ret_p d2.len (q _ _ (hol _ (List.getElem_mem hi)) (d2.le (by omega)))
  · rintro x xs ρ μ' R hR ⟨j, dp, y2, hj, rfl, dk, hok⟩
    simp only [List.length_cons] at hj
    (try walk_at "wp1")
    refine ⟨szk (by decide), szk (by decide), frz1 (x := .p (.str "a")) (k := .inr "a") (d := dp) (fun _ _ => rfl) (fun _ _ => rfl) rfl ?_⟩
    simp only [pdOf, Option.map_some]
    refine ⟨szk (by simp), n, _, _, rfl, by decide, by decide, dk.at', by omega, fun i μ2 i0 i1 k2 => ?_⟩
    have d2 := dk.trans k2
    have next : ∀ d, okB 100 (j + 2) d → R [some (.r n), some (.p d), some (.p x), none] μ2 := fun d h => hR _ _ ⟨j + 1, d, _, by omega, rfl, d2.le (by omega), h⟩
    have h3 : i = 0 ∨ i = 1 ∨ i = 2 := by omega
    dsimp only
    rw [oIx_lst]
    rcases h3 with rfl | rfl | rfl
    · rw [atI_0]
      exact next _ ⟨by simp, fun y hy => by simp at hy; subst hy; exact hok⟩
    · rw [atI_1]
      exact next _ trivial
    · rw [atI_2]
      exact next _ trivial
theorem cut_sub {α : Type} (xs : List α) (lo hi : Option Int) : ∀ y ∈ cut xs lo hi, y ∈ xs := fun y hy => List.mem_of_mem_drop (List.mem_of_mem_take hy)
theorem cut_len {α : Type} (xs : List α) (k j : Nat) : (cut xs (some (k : Int)) (some ((k : Int) + (j : Int)))).length ≤ j := by
  rw [show (k : Int) + (j : Int) = ((k + j : Nat) : Int) by omega]
  unfold cut
  rw [HT.sIx_nat, HT.sIx_nat]
  simp
  omega
def Bd (L : Nat) (d d' : PyData) : Prop := ∀ k0, okB L k0 d → okB (3 * L + 5000) (k0 + 14) d'
def sp_brow : SpW := fun ws μ Q => ∃ (n b L : Nat) (xs : List PyData), ws = [.r n, .p (.tuple xs)] ∧ DeckB μ n b ∧ b < 800000 ∧ L ≤ 10000 ∧ xs.length ≤ L ∧ ∀ d' μ', Bd L (.tuple xs) d' → DB n (b + 30) μ μ' → Q (.p d') μ'
theorem vc_brow (ws : List W) (μ : Mu) (Q : WK) (h : sp_brow ws μ Q) : spBody N__law_bent_row 2 (b__law_bent_row sp_drawB sp_odd) ws μ Q := by
  obtain ⟨n, b, L, xs, rfl, hd, hb, hL, hxl, q⟩ := h
  unfold b__law_bent_row
  refine ⟨rfl, ?_⟩
  show sSeq _ _ _ [some (.r n), some (.p (.tuple xs)), none, none] μ
  ((try dsimp only); rw [sSeq_def]; (try (try walk_at "wp1")))
  refine ⟨n, _, _, rfl, by decide, by decide, hd, by omega, fun wy μ1 w0 w1 k1 => ?_⟩
  ((try dsimp only); rw [sSeq_def]; (try (try walk_at "wp1")))
  simp only [cLen_tup]
  (try walk_at "wp1")
  refine ⟨n, _, _, rfl, by omega, by omega, k1.at', by omega, fun at0 μ2 at1 at2 k2 => ?_⟩
  have d2 := k1.trans k2
  obtain ⟨k, rfl⟩ := Int.eq_ofNat_of_zero_le at1
  clear k1 k2
  have tk : ∀ (i : Nat) (μ : Mu) (Q : WK), oSl (.p (.tuple xs)) none (some (i : Int)) μ Q = Q (.p (.tuple (xs.take i))) μ := fun i μ Q => by show Q (.p (.tuple (cut xs none (some (i : Int))))) μ = _; rw [cut_take]
  have dr : ∀ (i : Nat) (μ : Mu) (Q : WK), oSl (.p (.tuple xs)) (some (i : Int)) none μ Q = Q (.p (.tuple (xs.drop i))) μ := fun i μ Q => by show Q (.p (.tuple (cut xs (some (i : Int)) none))) μ = _; rw [cut_drop]
  have c1 : ((k : Int) + 1) = ((k + 1 : Nat) : Int) := by omega
  have fin : ∀ (ys : List PyData) (μ' : Mu) (b' : Nat), ys.length ≤ xs.length + 2 → (∀ y ∈ ys, y ∈ xs ∨ okB 100 14 y) → b' ≤ b + 30 → DB n b' μ μ' → retW μ.length Q (.p (.tuple ys)) μ' := fun ys μ' b' hl hy hb' dk => ret_p dk.len (q _ _ (fun k0 h => by
    cases k0 with
    | zero => exact h.elim
    | succ k0 =>
      refine ⟨by omega, fun y hy' => ?_⟩
      rcases hy y hy' with z | z
      · exact okB_mono (by omega) (by omega) (h.2 y z)
      · exact okB_mono (by omega) (by omega) z) (dk.le hb'))
  have mt : ∀ i, ∀ y ∈ xs.take i, y ∈ xs ∨ okB 100 14 y := fun i y hy => .inl (List.mem_of_mem_take hy)
  have md : ∀ i, ∀ y ∈ xs.drop i, y ∈ xs ∨ okB 100 14 y := fun i y hy => .inl (List.mem_of_mem_drop hy)
  have m2 : ∀ {a c : List PyData}, (∀ y ∈ a, y ∈ xs ∨ okB 100 14 y) → (∀ y ∈ c, y ∈ xs ∨ okB 100 14 y) → ∀ y ∈ a ++ c, y ∈ xs ∨ okB 100 14 y := fun h1 h2 y hy => (List.mem_append.mp hy).elim (h1 y) (h2 y)
  ((try dsimp only); rw [sSeq_def]; (try (try walk_at "wp1")))
  by_cases h0 : wy = 0
  · rw [if_pos (by simpa using h0)]
    (try walk_at "wp1")
    have mid : ∀ (μ : Mu) (Q : WK), oSl (.p (.tuple xs)) (some (k : Int)) (some ((k : Int) + 1)) μ Q = Q (.p (.tuple (cut xs (some (k : Int)) (some ((k : Int) + 1))))) μ := fun _ _ => rfl
    have cm := cut_sub xs (some (k : Int)) (some ((k : Int) + 1))
    have cl := cut_len xs k 1
    simp only [Int.natCast_one] at cl
    rw [tk, mid, oAdd_tup]
    refine ⟨szk (by simp; omega), ?_⟩
    rw [dr, oAdd_tup]
    refine ⟨szk (by simp; omega), fin _ _ _ (by simp; omega) (m2 (m2 (mt _) fun y hy => .inl (cm y hy)) (md _)) (by omega) d2⟩
  rw [if_neg (by simpa using h0)]
  ((try dsimp only); rw [sSeq_def]; (try (try walk_at "wp1")))
  by_cases h1 : wy = 1
  · rw [if_pos (by simpa using h1)]
    (try walk_at "wp1")
    rw [tk, c1, dr, oAdd_tup]
    exact ⟨szk (by simp; omega), fin _ _ _ (by simp; omega) (m2 (mt _) (md _)) (by omega) d2⟩
  rw [if_neg (by simpa using h1)]
  ((try dsimp only); rw [sSeq_def]; (try (try walk_at "wp1")))
  by_cases h2 : wy = 2
  · rw [if_pos (by simpa using h2)]
    (try walk_at "wp1")
    rw [tk]
    refine ⟨n, _, rfl, d2.at', by omega, fun o μ3 ho k3 => ?_⟩
    refine ⟨szk (by simp), ?_⟩
    rw [oAdd_tup]
    refine ⟨szk (by simp; omega), ?_⟩
    rw [dr, oAdd_tup]
    exact ⟨szk (by simp; omega), fin _ _ _ (by simp; omega) (m2 (m2 (mt _) fun y hy => by simp at hy; subst hy; exact .inr ho) (md _)) (by omega) (d2.trans k3)⟩
  rw [if_neg (by simpa using h2)]
  ((try dsimp only); rw [sSeq_def]; (try (try walk_at "wp1")))
  by_cases h3 : wy = 3
  · rw [if_pos (by simpa using h3)]
    (try walk_at "wp1")
    rw [tk]
    simp only [wRev]
    (try walk_at "wp1")
    rw [dr]
    dsimp only
    rw [oAdd_tup]
    exact ⟨szk (by simp; omega), fin _ _ _ (by simp; omega) (m2 (mt _) fun y hy => .inl (List.mem_of_mem_drop (List.mem_reverse.mp hy))) (by omega) d2⟩
  rw [if_neg (by simpa using h3)]
  (try walk_at "wp1")
  have cl : ∀ (μ : Mu) (Q : WK), cList [.p (.tuple xs)] μ Q = Q (.p (.list xs)) μ := fun _ _ => rfl
  rw [cl, dr, tk, oAdd_tup]
  refine ⟨szk (by simp; omega), ?_⟩
  simp only [pdOf, Option.map_some]
  refine ⟨szk (by simp), ?_⟩
  (try dsimp only)
  (try rw [oIx_lst])
  have h6 : wy = 4 ∨ wy = 5 := by omega
  rcases h6 with rfl | rfl
  · rw [show (4 : Int) - 4 = 0 from rfl, atI_0]
    exact ret_p d2.len (q _ _ (fun k0 h => by cases k0 with | zero => exact h.elim | succ k0 => trivial) (d2.le (by omega)))
  · rw [show (5 : Int) - 4 = 1 from rfl, atI_1]
    exact fin _ _ _ (by simp; omega) (m2 (md _) (mt _)) (by omega) d2
theorem int_str {i : Int} (h1 : i.natAbs < 10 ^ 100) : (PyData.int i).showable = true ∧ (PyData.int i).shown.length ≤ 2000 := by
  have hl : i.natAbs.log2 < 1920 := by
    by_cases z : i.natAbs = 0
    · rw [z]; decide
    · exact (Nat.log2_lt z).mpr (Nat.lt_of_lt_of_le h1 (by decide +kernel))
  refine ⟨by simp only [PyData.showable]; simpa using hl, ?_⟩
  show (Str.ofString (toString i)).length ≤ 2000
  rw [PySem.ofString_length]
  have := PySem.int_text_length_le (k := 1920) (by decide) hl
  omega
def numD : PyData → Option Int
  | .int i => some i
  | .bool b => some (b2n b)
  | _ => none
def sp_bent (k : Nat) : SpW := fun ws μ Q => ∃ (n b L : Nat) (d : PyData), ws = [.r n, .p d] ∧ DeckB μ n b ∧ b + 40 * k < 700000 ∧ L ≤ 10000 ∧ okB L k d ∧ ∀ d' μ', Bd L d d' → DB n (b + 40 * k) μ μ' → Q (.p d') μ'
theorem no_bent (ws : List W) (μ : Mu) (Q : WK) (h : sp_bent 0 ws μ Q) : False := by
  obtain ⟨n, b, L, d, _, _, _, _, h, _⟩ := h
  exact h
theorem not_int {μ : Mu} {d : PyData} (h : ∀ i, d ≠ .int i) (h2 : ∀ b, d ≠ .bool b) (Q : WK) : cIsi [.p d, .t "int"] μ Q = Q (.p (.bool false)) μ := by
  cases d with
  | int i => exact absurd rfl (h i)
  | bool b => exact absurd rfl (h2 b)
  | none => rw [cIsi_p (T := "NoneType") rfl (by simp)]; rfl
  | str _ => rw [cIsi_p (T := "str") rfl (by simp)]; rfl
  | tuple _ => rw [cIsi_p (T := "tuple") rfl (by simp)]; rfl
  | list _ => rw [cIsi_p (T := "list") rfl (by simp)]; rfl
  | dict _ => rw [cIsi_p (T := "dict") rfl (by simp)]; rfl
theorem vc_bent (k : Nat) (ws : List W) (μ : Mu) (Q : WK) (h : sp_bent (k + 1) ws μ Q) : spBody N__law_bent 2 (b__law_bent sp_drawB sp_odd sp_brow (sp_bent k)) ws μ Q := by
  obtain ⟨n, b, L, d, rfl, hd, hb, hL, hok, q⟩ := h
  unfold b__law_bent
  refine ⟨rfl, ?_⟩
  show sSeq _ _ _ [some (.r n), some (.p d), none, none, none] μ
  ((try dsimp only); rw [sSeq_def]; (try (try walk_at "wp1")))
  refine ⟨n, _, _, rfl, by decide, by decide, hd, by omega, fun wy μ1 w0 w1 k1 => ?_⟩
  ((try dsimp only); rw [sSeq_def]; (try (try walk_at "wp1")))
  refine ⟨n, _, _, rfl, by decide, by decide, k1.at', by omega, fun ls μ2 l0 l1 k2 => ?_⟩
  have d2 := k1.trans k2
  clear k1 k2
  (try walk_at "wp1")
  have odd : sp_odd [.r n] μ2 (retW μ.length Q) := ⟨n, _, rfl, d2.at', by omega, fun o μ3 ho k3 => ret_p (d2.trans k3).len (q _ _ (fun k0 _ => okB_mono (by omega) (by omega) ho) ((d2.trans k3).le (by omega)))⟩
  by_cases ht : ∀ xs, d ≠ .tuple xs
  · ((try dsimp only); rw [sSeq_def]; (try (try walk_at "wp1")))
    rw [not_tup ht]
    (try simp only [Bool.not_true, Bool.not_false, Bool.false_eq_true, if_false, if_true, decide_true, decide_false])
    ((try dsimp only); rw [sSeq_def]; (try (try walk_at "wp1")))
    rw [not_tup ht]
    (try simp only [Bool.not_true, Bool.not_false, Bool.false_eq_true, if_false, if_true, decide_true, decide_false])
    ((try dsimp only); rw [sSeq_def]; (try (try walk_at "wp1")))
    have big : ∀ x : Int, x.natAbs ≤ 10 ^ 50 + L + 1 → okB (3 * L + 5000) 1 (.int x) := fun x hx => by simp only [okB]; omega
    have fin : ∀ d', okB (3 * L + 5000) 1 d' → retW μ.length Q (.p d') μ2 := fun d' h => ret_p d2.len (q _ _ (fun k0 hk => okB_mono (Nat.le_refl _) (by omega) h) (d2.le (by omega)))
    have no5 : ∀ (i : Int) (v : PyData), i.natAbs ≤ 10 ^ 50 + L → numD v = some i → SeqAt.shaped v = true → ((v.showable = true ∧ v.depth ≤ 30 ∧ v.shown.length ≤ 2000 ∧ plainD v) ∧ ∀ z, v ≠ .str z) → wy < 5 → ∀ (nb : Bool),
      (match atI [PyData.int (i + 1), PyData.int (i - 1), PyData.int (0 - i), PyData.bool nb, PyData.str v.shown] wy with | some d => retW μ.length Q (.p d) μ2 | none => False) := fun i v hi _ _ hv hw nb => by
      have h5 : wy = 0 ∨ wy = 1 ∨ wy = 2 ∨ wy = 3 ∨ wy = 4 := by omega
      rcases h5 with rfl | rfl | rfl | rfl | rfl
      · rw [atI_0]; exact fin _ (big _ (by omega))
      · rw [atI_1]; exact fin _ (big _ (by omega))
      · rw [atI_2]; exact fin _ (big _ (by omega))
      · rw [atI_3]; exact fin _ trivial
      · rw [atI_4]; exact fin _ (by simp only [okB]; have := hv.1.2.2.1; omega)
    have last : ∀ (hs : ∀ z, d ≠ .str z), sSeq (sIf (wAnd (wTest (wCall cIsi (aCons (wVar 1) (aCons (wTy "str") aNil)))) (wTest (wOp oLt (wVar 2) (wC (PyData.int 4))))) (sRet (wOp oIx (wLst (aCons (wOp oAddA (wVar 1) (wC (PyData.str (Str.ofString "s")))) (aCons (wSl oSl (wVar 1) wNoP (wP (wNeg (wC (PyData.int 1))))) (aCons (wUpper (wVar 1)) (aCons (wOp oAddA (wVar 1) (wC (PyData.str (Str.ofString " ")))) aNil))))) (wVar 2))) sNext) (sRet (wCall sp_odd (aCons (wVar 0) aNil))) { nx := fun x μ' => retW μ.length Q (.p .none) μ', rt := retW μ.length Q } [some (.r n), some (.p d), some (.p (.int wy)), some (.p (.bool (decide (ls = 1)))), none] μ2 := fun hs => by
      ((try dsimp only); rw [sSeq_def]; (try (try walk_at "wp1")))
      rw [not_str hs]
      (try simp only [Bool.not_true, Bool.not_false, Bool.false_eq_true, if_false, if_true, decide_true, decide_false])
      exact odd
    cases d with
    | tuple xs => exact absurd rfl (ht xs)
    | none => rw [not_int (by simp) (by simp)]; (try simp only [Bool.not_true, Bool.not_false, Bool.false_eq_true, if_false, if_true, decide_true, decide_false]); exact last (by simp)
    | list xs => rw [not_int (by simp) (by simp)]; (try simp only [Bool.not_true, Bool.not_false, Bool.false_eq_true, if_false, if_true, decide_true, decide_false]); exact last (by simp)
    | dict xs => rw [not_int (by simp) (by simp)]; (try simp only [Bool.not_true, Bool.not_false, Bool.false_eq_true, if_false, if_true, decide_true, decide_false]); exact last (by simp)
    | int i =>
      rw [cIsi_p (T := "int") rfl (by simp), show isT "int" "int" = true from by decide]
      (try simp only [Bool.not_true, Bool.not_false, Bool.false_eq_true, if_false, if_true, decide_true, decide_false])
      by_cases h5 : wy < 5
      · rw [if_pos (by simpa using h5)]
        have hi : i.natAbs ≤ 10 ^ 50 + L := hok
        obtain ⟨s1, s2⟩ := int_str (i := i) (by omega)
        simp only [oAddA, oSubA]
        (try walk_at "wp1")
        refine ⟨s1, by simp [PyData.depth], szk (by omega), .inl rfl, ?_⟩
        simp only [pdOf, Option.map_some]
        exact ⟨szk (by simp), no5 i (.int i) hi rfl rfl ⟨⟨s1, by simp [PyData.depth], s2, .inl rfl⟩, by simp⟩ h5 _⟩
      · rw [if_neg (by simpa using h5)]
        exact last (by simp)
    | bool bb =>
      rw [cIsi_p (T := "bool") rfl (by simp), show isT "bool" "int" = true from by decide]
      (try simp only [Bool.not_true, Bool.not_false, Bool.false_eq_true, if_false, if_true, decide_true, decide_false])
      by_cases h5 : wy < 5
      · rw [if_pos (by simpa using h5)]
        have s1 : (PyData.bool bb).showable = true := by cases bb <;> decide +kernel
        have s2 : (PyData.bool bb).shown.length ≤ 2000 := by cases bb <;> decide +kernel
        simp only [oAddA, oSubA]
        refine ⟨rfl, ⟨s1, by simp [PyData.depth], szk (by omega), .inl rfl, ?_⟩⟩
        simp only [pdOf, Option.map_some]
        exact ⟨szk (by simp), no5 (b2n bb) (.bool bb) (by cases bb <;> simp [b2n] <;> omega) rfl rfl ⟨⟨s1, by simp [PyData.depth], s2, .inl rfl⟩, by simp⟩ h5 _⟩
      · rw [if_neg (by simpa using h5)]
        exact last (by simp)
    | str z =>
      rw [not_int (by simp) (by simp)]
      (try simp only [Bool.not_true, Bool.not_false, Bool.false_eq_true, if_false, if_true, decide_true, decide_false])
      ((try dsimp only); rw [sSeq_def]; (try (try walk_at "wp1")))
      rw [cIsi_p (T := "str") rfl (by simp), show isT "str" "str" = true from by decide]
      (try simp only [Bool.not_true, Bool.not_false, Bool.false_eq_true, if_false, if_true, decide_true, decide_false])
      by_cases h4 : wy < 4
      · rw [if_pos (by simpa using h4)]
        have hz : z.length ≤ L := hok
        simp only [oAddA]
        have l1 : (Str.ofString "s").length = 1 := by decide +kernel
        have l2 : (Str.ofString " ").length = 1 := by decide +kernel
        rw [oAdd_str]
        refine ⟨szk (by omega), szk (by omega), ?_⟩
        simp only [wUpper, wVar, List.getElem?_cons_zero, List.getElem?_cons_succ]
        refine ⟨by omega, ?_⟩
        rw [oAdd_str]
        refine ⟨szk (by omega), ?_⟩
        simp only [pdOf, Option.map_some]
        refine ⟨szk (by simp), ?_⟩
        have h5 : wy = 0 ∨ wy = 1 ∨ wy = 2 ∨ wy = 3 := by omega
        rcases h5 with rfl | rfl | rfl | rfl
        · rw [atI_0]; exact fin _ (by simp only [okB, la2]; omega)
        · rw [atI_1]; exact fin _ (by simp only [okB]; have := L2.cutS_length z none (some (-1)); omega)
        · rw [atI_2]; exact fin _ (by simp only [okB]; have := PyProof.Rows.len_upper z; omega)
        · rw [atI_3]; exact fin _ (by simp only [okB, la2]; omega)
      · rw [if_neg (by simpa using h4)]
        exact odd
  · obtain ⟨xs, rfl⟩ : ∃ xs, d = .tuple xs := Classical.byContradiction fun z => ht fun xs e => z ⟨xs, e⟩
    have row : sp_brow [.r n, .p (.tuple xs)] μ2 (retW μ.length Q) := ⟨n, _, L, xs, rfl, d2.at', by omega, hL, hok.1, fun o μ3 ho k3 => ret_p (d2.trans k3).len (q _ _ ho ((d2.trans k3).le (by omega)))⟩
    ((try dsimp only); rw [sSeq_def]; (try (try walk_at "wp1")))
    rw [cIsi_p (T := "tuple") rfl (by simp), show isT "tuple" "tuple" = true from by decide]
    (try simp only [Bool.not_true, Bool.not_false, Bool.false_eq_true, if_false, if_true, decide_true, decide_false])
    refine ⟨szk (by decide), ?_⟩
    simp only [oNeE]
    have nxt : sSeq (sIf (wTest (wCall cIsi (aCons (wVar 1) (aCons (wTy "tuple") aNil)))) (sRet (wCall sp_brow (aCons (wVar 0) (aCons (wVar 1) aNil)))) sNext) (sSeq (sIf (wAnd (wTest (wCall cIsi (aCons (wVar 1) (aCons (wTy "int") aNil)))) (wTest (wOp oLt (wVar 2) (wC (PyData.int 5))))) (sRet (wOp oIx (wLst (aCons (wOp oAddA (wVar 1) (wC (PyData.int 1))) (aCons (wOp oSubA (wVar 1) (wC (PyData.int 1))) (aCons (wOp oSubA (wC (PyData.int 0)) (wVar 1)) (aCons (wOp oEq (wVar 1) (wC (PyData.int 1))) (aCons (wCall cStrA (aCons (wVar 1) aNil)) aNil)))))) (wVar 2))) sNext) (sSeq (sIf (wAnd (wTest (wCall cIsi (aCons (wVar 1) (aCons (wTy "str") aNil)))) (wTest (wOp oLt (wVar 2) (wC (PyData.int 4))))) (sRet (wOp oIx (wLst (aCons (wOp oAddA (wVar 1) (wC (PyData.str (Str.ofString "s")))) (aCons (wSl oSl (wVar 1) wNoP (wP (wNeg (wC (PyData.int 1))))) (aCons (wUpper (wVar 1)) (aCons (wOp oAddA (wVar 1) (wC (PyData.str (Str.ofString " ")))) aNil))))) (wVar 2))) sNext) (sRet (wCall sp_odd (aCons (wVar 0) aNil))))) { nx := fun x μ' => retW μ.length Q (.p .none) μ', rt := retW μ.length Q } [some (.r n), some (.p (.tuple xs)), some (.p (.int wy)), some (.p (.bool (decide (ls = 1)))), none] μ2 := by
      ((try dsimp only); rw [sSeq_def]; (try (try walk_at "wp1")))
      rw [cIsi_p (T := "tuple") rfl (by simp), show isT "tuple" "tuple" = true from by decide]
      (try simp only [Bool.not_true, Bool.not_false, Bool.false_eq_true, if_false, if_true, decide_true, decide_false])
      exact row
    cases xs with
    | nil => exact nxt
    | cons x0 xs0 =>
      rw [show (!(x0 :: xs0).isEmpty) = true from rfl]
      by_cases h5 : wy < 5
      · rw [if_pos rfl, if_pos (by simpa using h5)]
        clear nxt row
        generalize hxs : x0 :: xs0 = xs at *
        have hpos : 0 < xs.length := by rw [← hxs]; simp
        obtain ⟨hxl, hxo⟩ := hok
        ((try dsimp only); rw [sSeq_def]; (try (try walk_at "wp1")))
        simp only [cLen_tup]
        refine ⟨n, _, _, rfl, by omega, by omega, d2.at', by omega, fun a0 μ3 a1 a2 k3 => ?_⟩
        have d3 := d2.trans k3
        simp only [oSubA]
        (try walk_at "wp1")
        refine ⟨szk (by decide), ?_⟩
        obtain ⟨m, hm, em⟩ : ∃ m : Nat, m < xs.length ∧ atI [PyData.int a0, PyData.int ((xs.length : Int) - 1)] (if decide (ls = 1) = true then 1 else 0) = some (.int (m : Int)) := by
          by_cases hls : ls = 1
          · rw [if_pos (by simpa using hls), atI_1]
            exact ⟨xs.length - 1, by omega, by rw [show ((xs.length - 1 : Nat) : Int) = (xs.length : Int) - 1 by omega]⟩
          · rw [if_neg (by simpa using hls), atI_0]
            exact ⟨a0.toNat, by omega, by rw [show ((a0.toNat : Nat) : Int) = a0 by omega]⟩
        rw [em]
        dsimp only
        have tk : ∀ (i : Nat) (μ : Mu) (Q : WK), oSl (.p (.tuple xs)) none (some (i : Int)) μ Q = Q (.p (.tuple (xs.take i))) μ := fun i μ Q => by show Q (.p (.tuple (cut xs none (some (i : Int))))) μ = _; rw [cut_take]
        have dr : ∀ (i : Nat) (μ : Mu) (Q : WK), oSl (.p (.tuple xs)) (some (i : Int)) none μ Q = Q (.p (.tuple (xs.drop i))) μ := fun i μ Q => by show Q (.p (.tuple (cut xs (some (i : Int)) none))) μ = _; rw [cut_drop]
        rw [tk, oIx_tup, atI_ofNat, List.getElem?_eq_getElem hm]
        dsimp only
        have hel := hxo _ (List.getElem_mem hm)
        refine ⟨n, _, L, xs[m], rfl, d3.at', by omega, hL, hel, fun d' μ4 hd' k4 => ?_⟩
        have d4 := d3.trans k4
        simp only [pdOf, Option.map_some]
        refine ⟨szk (by simp), ?_⟩
        simp only [oAddA]
        rw [oAdd_tup]
        refine ⟨szk (by simp; omega), ?_⟩
        (try walk_at "wp1")
        rw [show ((m : Int) + 1) = ((m + 1 : Nat) : Int) by omega, dr]
        (try simp only [oAddA])
        rw [oAdd_tup]
        refine ⟨szk (by simp; omega), ret_p d4.len (q _ _ (fun k0 h0 => ?_) (d4.le (by omega)))⟩
        cases k0 with
        | zero => exact h0.elim
        | succ k0 =>
          refine ⟨by simp; omega, fun y hy => ?_⟩
          rcases List.mem_append.mp hy with hy | hy
          · rcases List.mem_append.mp hy with hy | hy
            · exact okB_mono (by omega) (by omega) (h0.2 y (List.mem_of_mem_take hy))
            · simp at hy
              subst hy
              have := hd' k0 (h0.2 _ (List.getElem_mem hm))
              exact okB_mono (by omega) (by omega) this
          · exact okB_mono (by omega) (by omega) (h0.2 y (List.mem_of_mem_drop hy))
      · rw [if_pos rfl, if_neg (by simpa using h5)]
        exact nxt
end K02
set_option maxHeartbeats 1000000
namespace K02
open PySem L2 L2.Ev Net TL
local macro_rules | `(tactic| walk_at "wp1") => `(tactic| simp only [spBody, startW, sIf, sSet, sAsg, sRet, sRetN, sDrop, sNext, wVar, wC, wOp, wTest, wAnd, wOr, wNot, wAndV, wOrV, wNotV, wChain, wIf, wCall, aCons, aNil, wTup, wLst, wNew, pdOf, Option.map_some, wSl, wP, wNoP, nName, nSub, nTup, nCons, nNil, wTy, wNeg, cInt, cMax, cMin, List.map_cons, List.map_nil, List.length_cons, List.length_nil, List.replicate_succ, List.replicate_zero, List.cons_append, List.nil_append, List.append_nil, Nat.reduceAdd, Nat.reduceSub, List.set_cons_zero, List.set_cons_succ, List.getElem?_cons_zero, List.getElem?_cons_succ, Nat.zero_add, oAdd_int, oI_int, oI0_int, oIx_tup, oIx_lst, oIx_scr, oEq_p, oNe_p, oIs_n, oIsNot_n, oIs_bb, oIsNot_bb, atI_0, atI_1, atI_2, atI_3, atI_4, shaped_int, shaped_bool, eqv_int, eqv_bool, eqv_lst_nil, eqv_tup_nil, shaped_nilL, shaped_nilT, true_and, and_true, Nat.sub_self, Nat.add_one_sub_one, Bool.false_eq_true, if_false, if_true, Nat.reduceLeDiff, Int.reduceToNat, Int.reducePow, Int.reduceLT, Int.reduceLE, Int.reduceMul, Int.reduceSub, Int.reduceAdd, decide_true, decide_false, wTupRev])
local macro_rules | `(tactic| walk_at "wps") => `(tactic| simp only [spBody, startW, sSeq, sIf, sSet, sAsg, sRet, sRetN, sDrop, sNext, wVar, wC, wOp, wTest, wAnd, wOr, wNot, wAndV, wOrV, wNotV, wChain, wIf, wCall, aCons, aNil, wTup, wLst, wNew, pdOf, Option.map_some, wSl, wP, wNoP, nName, nSub, nTup, nCons, nNil, wTy, wNeg, cInt, cMax, cMin, List.map_cons, List.map_nil, List.length_cons, List.length_nil, List.replicate_succ, List.replicate_zero, List.cons_append, List.nil_append, List.append_nil, Nat.reduceAdd, Nat.reduceSub, List.set_cons_zero, List.set_cons_succ, List.getElem?_cons_zero, List.getElem?_cons_succ, Nat.zero_add, oAdd_int, oI_int, oI0_int, oIx_tup, oIx_lst, oIx_scr, oEq_p, oNe_p, oIs_n, oIsNot_n, oIs_bb, oIsNot_bb, atI_0, atI_1, atI_2, atI_3, atI_4, shaped_int, shaped_bool, eqv_int, eqv_bool, eqv_lst_nil, eqv_tup_nil, shaped_nilL, shaped_nilT, true_and, and_true, Nat.sub_self, Nat.add_one_sub_one, Bool.false_eq_true, if_false, if_true, Nat.reduceLeDiff, Int.reduceToNat, Int.reducePow, Int.reduceLT, Int.reduceLE, Int.reduceMul, Int.reduceSub, Int.reduceAdd, decide_true, decide_false, wTupRev])
def ntD : PyData → Bool
  | .tuple [.int k, .tuple ms] => decide (1 ≤ k) && ms.all (mtD k)
  | _ => false
def LenOk : PyData → Prop
  | .tuple [_, .tuple rs] => rs.length ≤ 100000
  | _ => True
theorem ntD_len {xs : List PyData} (h : xs.length ≠ 2) : ntD (.tuple xs) = false := by
  unfold ntD
  split
  · rename_i e; cases e; simp at h
  · rfl
theorem two {xs : List PyData} (h : xs.length = 2) : ∃ a b, xs = [a, b] := by
  match xs, h with
  | [a, b], _ => exact ⟨a, b, rfl⟩
theorem ntD_no {d : PyData} (h : ∀ xs, d ≠ .tuple xs) : ntD d = false := by
  cases d with
  | tuple xs => exact absurd rfl (h xs)
  | _ => rfl
theorem ntD_m {m r : PyData} (h : ∀ i, m ≠ .int i) : ntD (.tuple [m, r]) = false := by
  cases m with
  | int i => exact absurd rfl (h i)
  | _ => rfl
theorem ntD_r {m r : PyData} (h : ∀ xs, r ≠ .tuple xs) : ntD (.tuple [m, r]) = false := by
  cases r with
  | tuple xs => exact absurd rfl (h xs)
  | _ => cases m <;> rfl
theorem isInt_no {m : PyData} (h : ∀ i, m ≠ .int i) : isInt m = false := by
  cases m with
  | int i => exact absurd rfl (h i)
  | _ => rfl
theorem geD_no {k : Int} {m : PyData} (h : ∀ i, m ≠ .int i) : geD k m = false := by
  cases m with
  | int i => exact absurd rfl (h i)
  | _ => rfl
def sp_isnet : SpW := fun ws μ Q => ∃ d : PyData, ws = [.p d] ∧ Q (.p (.bool (ntD d))) μ
theorem vc_isnet (ws : List W) (μ : Mu) (Q : WK) (h : sp_isnet ws μ Q) : spBody N_is_net 1 (b_is_net sp_wholeA sp_ismeetA) ws μ Q := by
  obtain ⟨d, rfl, q⟩ := h
  unfold b_is_net
  refine ⟨rfl, ?_⟩
  show sSeq _ _ _ [some (.p d), none, none, none] μ
  by_cases hd : ∀ xs, d ≠ .tuple xs
  · (try dsimp only); rw [sSeq_def]
    (try walk_at "wp1")
    rw [not_tup hd]
    (try simp only [Bool.not_true, Bool.not_false, Bool.false_eq_true, if_false, if_true, decide_true, decide_false])
    rw [ntD_no hd] at q
    exact ret_p rfl q
  obtain ⟨xs, rfl⟩ : ∃ xs, d = .tuple xs := Classical.byContradiction fun z => hd fun xs e => z ⟨xs, e⟩
  (try dsimp only); rw [sSeq_def]
  (try walk_at "wp1")
  rw [cIsi_p (T := "tuple") rfl (by simp), show isT "tuple" "tuple" = true from by decide]
  (try simp only [Bool.not_true, Bool.not_false, Bool.false_eq_true, if_false, if_true, decide_true, decide_false])
  simp only [cLen_tup]
  (try walk_at "wp1")
  by_cases hl : xs.length = 2
  · obtain ⟨m, r, rfl⟩ := two hl
    rw [if_neg (by simp)]
    ((try dsimp only); rw [sSeq_def]; (try (try walk_at "wp1")))
    (try dsimp only); rw [sSeq_def]
    (try walk_at "wp1")
    refine ⟨m, rfl, ?_⟩
    by_cases hm : ∀ i, m ≠ .int i
    · rw [isInt_no hm]
      (try simp only [Bool.not_true, Bool.not_false, Bool.false_eq_true, if_false, if_true, decide_true, decide_false])
      rw [ntD_m hm] at q
      exact ret_p rfl q
    obtain ⟨i, rfl⟩ : ∃ i, m = .int i := Classical.byContradiction fun z => hm fun xs e => z ⟨xs, e⟩
    rw [show isInt (.int i) = true from rfl]
    (try simp only [Bool.not_true, Bool.not_false, Bool.false_eq_true, if_false, if_true, decide_true, decide_false])
    (try walk_at "wp1")
    by_cases hi : i < 1
    · rw [if_pos (by simpa using hi)]
      have : ntD (.tuple [.int i, r]) = false := by
        by_cases hr : ∀ xs, r ≠ .tuple xs
        · exact ntD_r hr
        · obtain ⟨rs, rfl⟩ : ∃ xs, r = .tuple xs := Classical.byContradiction fun z => hr fun xs e => z ⟨xs, e⟩
          simp [ntD]; omega
      rw [this] at q
      exact ret_p rfl q
    rw [if_neg (by simpa using hi)]
    by_cases hr : ∀ xs, r ≠ .tuple xs
    · rw [not_tup hr]
      (try simp only [Bool.not_true, Bool.not_false, Bool.false_eq_true, if_false, if_true, decide_true, decide_false])
      rw [ntD_r hr] at q
      exact ret_p rfl q
    obtain ⟨rs, rfl⟩ : ∃ xs, r = .tuple xs := Classical.byContradiction fun z => hr fun xs e => z ⟨xs, e⟩
    rw [cIsi_p (T := "tuple") rfl (by simp), show isT "tuple" "tuple" = true from by decide]
    (try simp only [Bool.not_true, Bool.not_false, Bool.false_eq_true, if_false, if_true, decide_true, decide_false])
    simp only [sRet, wAllG, iSeq, wVar, List.getElem?_cons_zero, List.getElem?_cons_succ]
    have q' : Q (.p (.bool (rs.all (mtD i)))) μ := by
      have : ntD (.tuple [.int i, .tuple rs]) = rs.all (mtD i) := by
        simp only [ntD]
        rw [decide_eq_true (by omega), Bool.true_and]
      rw [← this]; exact q
    clear q
    refine allGR_of (fun xs μ' => μ' = μ ∧ xs.all (mtD i) = rs.all (mtD i)) (fun _ _ _ => trivial) ?_ ?_ _ _ ⟨rfl, rfl⟩
    · rintro μ' ⟨rfl, e⟩
      rw [← e] at q'
      exact ret_p rfl q'
    · rintro x xs μ' R hR ⟨rfl, e⟩
      refine ⟨_, rfl, ?_⟩
      simp only [wipeW, setAll, List.set_cons_zero, List.set_cons_succ]
      (try walk_at "wp1")
      refine ⟨i, x, rfl, ?_⟩
      rw [List.all_cons] at e
      cases hx : mtD i x with
      | true =>
        rw [hx, Bool.true_and] at e
        exact hR _ ⟨rfl, e⟩
      | false =>
        rw [hx, Bool.false_and] at e
        (try simp only [Bool.not_true, Bool.not_false, Bool.false_eq_true, if_false, if_true, decide_true, decide_false])
        rw [← e] at q'
        exact ret_p rfl q'
  · rw [if_pos (by simp; omega)]
    rw [ntD_len hl] at q
    exact ret_p rfl q
theorem ex_tup {d : PyData} (hd : ¬ ∀ xs, d ≠ .tuple xs) : ∃ xs, d = .tuple xs := Classical.byContradiction fun z => hd fun xs e => z ⟨xs, e⟩
theorem filt_empty (p : PyData → Bool) : ∀ l : List PyData, (l.filter fun x => !p x).isEmpty = l.all p
  | [] => rfl
  | a :: l => by
    rw [List.filter_cons, List.all_cons]
    cases hx : p a with
    | true => simp only [Bool.not_true, Bool.false_eq_true, if_false, Bool.true_and]; exact filt_empty p l
    | false => simp
def sp_lisnet : SpW := fun ws μ Q => ∃ d : PyData, ws = [.p d] ∧ LenOk d ∧ Q (.p (.bool (ntD d))) μ
theorem vc_lisnet (ws : List W) (μ : Mu) (Q : WK) (h : sp_lisnet ws μ Q) : spBody N__law_is_net 1 (b__law_is_net sp_lwholeA sp_ismeetA) ws μ Q := by
  obtain ⟨d, rfl, hlen, q⟩ := h
  unfold b__law_is_net
  refine ⟨rfl, ?_⟩
  show sSeq _ _ _ [some (.p d), none] μ
  by_cases hd : ∀ xs, d ≠ .tuple xs
  · (try dsimp only); rw [sSeq_def]
    (try walk_at "wp1")
    rw [not_tup hd]
    (try simp only [Bool.not_true, Bool.not_false, Bool.false_eq_true, if_false, if_true, decide_true, decide_false])
    rw [ntD_no hd] at q
    exact ret_p rfl q
  obtain ⟨xs, rfl⟩ := ex_tup hd
  (try dsimp only); rw [sSeq_def]
  (try walk_at "wp1")
  rw [cIsi_p (T := "tuple") rfl (by simp), show isT "tuple" "tuple" = true from by decide]
  (try simp only [Bool.not_true, Bool.not_false, Bool.false_eq_true, if_false, if_true, decide_true, decide_false])
  simp only [cLen_tup]
  (try walk_at "wp1")
  by_cases hl : xs.length = 2
  · obtain ⟨m, r, rfl⟩ := two hl
    rw [if_neg (by simp)]
    (try walk_at "wp1")
    refine ⟨m, 1, rfl, ?_⟩
    by_cases hm : ∀ i, m ≠ .int i
    · rw [geD_no hm]
      (try simp only [Bool.not_true, Bool.not_false, Bool.false_eq_true, if_false, if_true, decide_true, decide_false])
      rw [ntD_m hm] at q
      exact ret_p rfl q
    obtain ⟨i, rfl⟩ : ∃ i, m = .int i := Classical.byContradiction fun z => hm fun xs e => z ⟨xs, e⟩
    by_cases hi : 1 ≤ i
    · rw [show geD 1 (.int i) = true from decide_eq_true hi]
      (try simp only [Bool.not_true, Bool.not_false, Bool.false_eq_true, if_false, if_true, decide_true, decide_false])
      (try dsimp only); rw [sSeq_def]
      (try walk_at "wp1")
      by_cases hr : ∀ xs, r ≠ .tuple xs
      · rw [not_tup hr]
        (try simp only [Bool.not_true, Bool.not_false, Bool.false_eq_true, if_false, if_true, decide_true, decide_false])
        rw [ntD_r hr] at q
        exact ret_p rfl q
      obtain ⟨rs, rfl⟩ := ex_tup hr
      rw [cIsi_p (T := "tuple") rfl (by simp), show isT "tuple" "tuple" = true from by decide]
      (try simp only [Bool.not_true, Bool.not_false, Bool.false_eq_true, if_false, if_true, decide_true, decide_false])
      (try walk_at "wp1")
      simp only [wLc, iSeq]
      (try walk_at "wp1")
      have hrl : rs.length ≤ 100000 := hlen
      refine compR_of (fun xs acc μ' => μ' = μ ∧ ∃ d1 : List PyData, d1 ++ xs = rs ∧ acc = d1.filter fun x => !mtD i x) (fun _ _ _ _ => trivial) ?_ ?_ _ _ _ ⟨rfl, [], rfl, rfl⟩
      · rintro acc μ' ⟨rfl, d1, e, rfl⟩
        rw [List.append_nil] at e
        subst e
        (try walk_at "wp1")
        (repeat (with_reducible refine ⟨szk (by decide), ?_⟩))
        have : (d1.filter fun x => !mtD i x).isEmpty = ntD (.tuple [.int i, .tuple d1]) := by
          simp only [ntD]
          rw [decide_eq_true hi, Bool.true_and]
          exact filt_empty _ _
        simp only [oEqE]
        rw [this]
        exact ret_p rfl q
      · rintro x xs acc μ' R hR ⟨rfl, d1, e, rfl⟩
        refine ⟨_, rfl, ?_⟩
        simp only [wipeW, setAll, List.set_cons_zero, List.set_cons_succ]
        (try walk_at "wp1")
        refine ⟨i, x, rfl, ?_⟩
        have hdl : d1.length ≤ 100000 := by have := congrArg List.length e; simp at this; omega
        cases hx : mtD i x with
        | true =>
          (try simp only [Bool.not_true, Bool.not_false, Bool.false_eq_true, if_false, if_true, decide_true, decide_false])
          exact hR _ _ ⟨rfl, d1 ++ [x], by simpa using e, by simp [hx]⟩
        | false =>
          (try simp only [Bool.not_true, Bool.not_false, Bool.false_eq_true, if_false, if_true, decide_true, decide_false])
          refine ⟨szl (by have := List.length_filter_le (fun x => !mtD i x) d1; omega), hR _ _ ⟨rfl, d1 ++ [x], by simpa using e, by simp [hx]⟩⟩
    · rw [show geD 1 (.int i) = false from decide_eq_false hi]
      (try simp only [Bool.not_true, Bool.not_false, Bool.false_eq_true, if_false, if_true, decide_true, decide_false])
      have : ntD (.tuple [.int i, r]) = false := by
        by_cases hr : ∀ xs, r ≠ .tuple xs
        · exact ntD_r hr
        · obtain ⟨rs, rfl⟩ := ex_tup hr
          simp [ntD]; omega
      rw [this] at q
      exact ret_p rfl q
  · rw [if_pos (by simp; omega)]
    rw [ntD_len hl] at q
    exact ret_p rfl q
def sp_toldN : SpW := fun ws μ Q => ∃ d : PyData, ws = [.p d] ∧ LenOk d ∧ Q (.p (.bool true)) μ
theorem vc_toldN (ws : List W) (μ : Mu) (Q : WK) (h : sp_toldN ws μ Q) : spBody N__law_told 1 (b__law_told sp_lisnet sp_isnet) ws μ Q := by
  obtain ⟨d, rfl, hlen, q⟩ := h
  unfold b__law_told
  refine ⟨rfl, ?_⟩
  show sSeq _ _ _ [some (.p d), none, none, none] μ
  ((try dsimp only); rw [sSeq_def]; (try (try walk_at "wp1")))
  refine ⟨d, rfl, hlen, ?_⟩
  generalize hb : ntD d = b
  (try dsimp only); rw [sSeq_def]
  simp only [sFor, iRng]
  (try walk_at "wp1")
  refine forR_of (fun _ ρ μ' => μ' = μ ∧ ∃ y3 y4, ρ = [some (.p d), some (.p (.bool b)), y3, y4]) (fun _ _ _ _ => trivial) ?_ ?_ _ _ _ ⟨rfl, _, _, rfl⟩
  · rintro ρ μ' ⟨rfl, y3, y4, rfl⟩
    (try walk_at "wp1")
    exact ret_p rfl q
  · rintro x xs ρ μ' R hR ⟨rfl, y3, y4, rfl⟩
    (try walk_at "wp1")
    ((try dsimp only); rw [sSeq_def]; (try (try walk_at "wp1")))
    refine ⟨d, rfl, ?_⟩
    rw [hb]
    dsimp only
    rw [cIsi_p (T := "bool") rfl (by simp), show isT "bool" "bool" = true from by decide]
    (try simp only [Bool.not_true, Bool.not_false, Bool.false_eq_true, if_false, if_true, decide_true, decide_false])
    rw [oNe_p]
    have next := hR [some (.p d), some (.p (.bool b)), some (.p x), some (.p (.bool b))] _ ⟨rfl, _, _, rfl⟩
    cases b <;> exact ⟨rfl, rfl, next⟩
end K02
set_option maxHeartbeats 1000000
namespace K02
open PySem L2 L2.Ev Net TL
local macro_rules | `(tactic| walk_at "wp1") => `(tactic| simp only [spBody, startW, sIf, sSet, sAsg, sRet, sRetN, sDrop, sNext, wVar, wC, wOp, wTest, wAnd, wOr, wNot, wAndV, wOrV, wNotV, wChain, wIf, wCall, aCons, aNil, wTup, wLst, wNew, pdOf, Option.map_some, wSl, wP, wNoP, nName, nSub, nTup, nCons, nNil, wTy, wNeg, cInt, cMax, cMin, List.map_cons, List.map_nil, List.length_cons, List.length_nil, List.replicate_succ, List.replicate_zero, List.cons_append, List.nil_append, List.append_nil, Nat.reduceAdd, Nat.reduceSub, List.set_cons_zero, List.set_cons_succ, List.getElem?_cons_zero, List.getElem?_cons_succ, Nat.zero_add, oAdd_int, oI_int, oI0_int, oIx_tup, oIx_lst, oIx_scr, oEq_p, oNe_p, oIs_n, oIsNot_n, oIs_bb, oIsNot_bb, atI_0, atI_1, atI_2, atI_3, atI_4, shaped_int, shaped_bool, eqv_int, eqv_bool, eqv_lst_nil, eqv_tup_nil, shaped_nilL, shaped_nilT, true_and, and_true, Nat.sub_self, Nat.add_one_sub_one, Bool.false_eq_true, if_false, if_true, Nat.reduceLeDiff, Int.reduceToNat, Int.reducePow, Int.reduceLT, Int.reduceLE, Int.reduceMul, Int.reduceSub, Int.reduceAdd, decide_true, decide_false, wTupRev])
local macro_rules | `(tactic| walk_at "wps") => `(tactic| simp only [spBody, startW, sSeq, sIf, sSet, sAsg, sRet, sRetN, sDrop, sNext, wVar, wC, wOp, wTest, wAnd, wOr, wNot, wAndV, wOrV, wNotV, wChain, wIf, wCall, aCons, aNil, wTup, wLst, wNew, pdOf, Option.map_some, wSl, wP, wNoP, nName, nSub, nTup, nCons, nNil, wTy, wNeg, cInt, cMax, cMin, List.map_cons, List.map_nil, List.length_cons, List.length_nil, List.replicate_succ, List.replicate_zero, List.cons_append, List.nil_append, List.append_nil, Nat.reduceAdd, Nat.reduceSub, List.set_cons_zero, List.set_cons_succ, List.getElem?_cons_zero, List.getElem?_cons_succ, Nat.zero_add, oAdd_int, oI_int, oI0_int, oIx_tup, oIx_lst, oIx_scr, oEq_p, oNe_p, oIs_n, oIsNot_n, oIs_bb, oIsNot_bb, atI_0, atI_1, atI_2, atI_3, atI_4, shaped_int, shaped_bool, eqv_int, eqv_bool, eqv_lst_nil, eqv_tup_nil, shaped_nilL, shaped_nilT, true_and, and_true, Nat.sub_self, Nat.add_one_sub_one, Bool.false_eq_true, if_false, if_true, Nat.reduceLeDiff, Int.reduceToNat, Int.reducePow, Int.reduceLT, Int.reduceLE, Int.reduceMul, Int.reduceSub, Int.reduceAdd, decide_true, decide_false, wTupRev])
theorem cutTake {α : Type} (xs : List α) (k : Nat) : cut xs none (some (k : Int)) = xs.take k := by
  unfold cut
  rw [HT.sIx_none, HT.sIx_nat, List.drop_zero, Nat.sub_zero]
  by_cases h : k ≤ xs.length
  · rw [Nat.min_eq_left h]
  · rw [Nat.min_eq_right (by omega), List.take_of_length_le (Nat.le_refl _), List.take_of_length_le (by omega)]
theorem cutDrop {α : Type} (xs : List α) (k : Nat) : cut xs (some (k : Int)) none = xs.drop k := by
  unfold cut
  rw [HT.sIx_none, HT.sIx_nat]
  by_cases h : k ≤ xs.length
  · rw [Nat.min_eq_left h, List.take_of_length_le (by simp)]
  · rw [Nat.min_eq_right (by omega), List.drop_of_length_le (by omega), List.drop_of_length_le (by omega)]
    simp
theorem rep_one (k : Nat) (d : PyData) : repD k [d] = List.replicate k d := by
  unfold repD
  induction k with
  | zero => rfl
  | succ k ih => rw [List.replicate_succ, List.flatten_cons, ih, List.replicate_succ]; rfl
def rowG : PyData := .tuple [.str (Str.ofString "to"), .int 0, .int 1, .int 5, .int 5]
theorem rowG_ok {many : Int} (h : 2 ≤ many) : mtD many rowG = true := by
  simp only [rowG, mtD, mtDs, belowD, geD, unI]
  rw [show wdD (.str (Str.ofString "to")) = true from by decide +kernel]
  simp
  omega
def sp_longN : SpW := fun ws μ Q => ∃ n b : Nat, ws = [.r n] ∧ DeckB μ n b ∧ b < 900000 ∧ ∀ μ', DB n (b + 10) μ μ' → Q (.p (.bool true)) μ'
theorem vc_longN (ws : List W) (μ : Mu) (Q : WK) (h : sp_longN ws μ Q) : spBody N__law_long_right 1 (b__law_long_right sp_drawB sp_isnet) ws μ Q := by
  obtain ⟨n, b, rfl, hd, hb, q⟩ := h
  unfold b__law_long_right
  refine ⟨rfl, ?_⟩
  show sSeq _ _ _ [some (.r n), none, none, none] μ
  ((try dsimp only); rw [sSeq_def]; (try (try walk_at "wp1")))
  (repeat (with_reducible refine ⟨szk (by decide), ?_⟩))
  refine ⟨n, _, b, rfl, by decide, by decide, hd, by omega, fun x μ1 x0 x1 k1 => ?_⟩
  (try walk_at "wp1")
  rw [show PyData.tuple [.str (Str.ofString "to"), .int 0, .int 1, .int 5, .int 5] = rowG from rfl]
  simp only [oMulT]
  refine ⟨by omega, by omega, by simp, by simp; omega, ?_⟩
  rw [rep_one]
  have hk : 500 ≤ (500 + x).toNat ∧ (500 + x).toNat ≤ 3000 := by omega
  generalize (500 + x).toNat = k at hk
  ((try dsimp only); rw [sSeq_def]; (try (try walk_at "wp1")))
  rw [cLen_tup]
  simp only [List.length_replicate]
  (try walk_at "wp1")
  refine ⟨n, _, b + 1, rfl, by omega, by omega, k1.at', by omega, fun y μ2 y0 y1 k2 => ?_⟩
  obtain ⟨a, rfl⟩ := Int.eq_ofNat_of_zero_le y0
  ((try dsimp only); rw [sSeq_def]; (try (try walk_at "wp1")))
  (repeat (with_reducible refine ⟨szk (by decide), ?_⟩))
  refine ⟨n, _, b + 2, rfl, by decide, by decide, k2.at', by omega, fun z μ3 z0 z1 k3 => ?_⟩
  have dk := (k1.trans k2).trans k3
  obtain ⟨wr, hwr, hbad⟩ : ∃ wr, atI [PyData.tuple [.str (Str.ofString "to"), .int 0, .int 0, .int 5, .int 5], PyData.tuple [.str (Str.ofString "to"), .int 0, .int 2, .int 5, .int 5], PyData.tuple [.str (Str.ofString "both"), .int 1, .int 0, .int (-1), .int 5], PyData.tuple [.str (Str.ofString "to"), .int 0, .int 1, .int 5]] z = some wr ∧ mtD 2 wr = false := by
    have : z = 0 ∨ z = 1 ∨ z = 2 ∨ z = 3 := by omega
    rcases this with rfl | rfl | rfl | rfl
    · exact ⟨_, atI_0 _ _, by simp [mtD, mtDs, unI]⟩
    · exact ⟨_, atI_1 _ _ _, by simp [mtD, mtDs, belowD]⟩
    · exact ⟨_, atI_2 _ _ _ _, by simp [mtD, mtDs, geD]⟩
    · exact ⟨_, atI_3 _ _ _ _ _, rfl⟩
  dsimp only
  rw [oIx_lst, hwr]
  dsimp only
  refine ⟨szk (by decide), ?_⟩
  refine ⟨_, rfl, ?_⟩
  have e1 : ntD (.tuple [.int 2, .tuple (List.replicate k rowG)]) = true := by
    simp only [ntD]
    rw [List.all_replicate]
    simp [rowG_ok]
  have e2 : ntD (.tuple [.int 2, .tuple (List.take a (List.replicate k rowG) ++ [wr] ++ List.drop a (List.replicate k rowG))]) = false := by
    simp only [ntD, List.all_append, List.all_cons, List.all_nil, hbad]
    simp
  rw [e1]
  (try walk_at "wp1")
  simp only [oSl, cutTake, cutDrop, pdOf, Option.map_some, oAdd_tup]
  refine ⟨szk (by simp), szk (by simp; omega), szk (by simp; omega), szk (by simp), ⟨_, rfl, ?_⟩⟩
  rw [e2]
  (try walk_at "wp1")
  exact ret_p dk.len (q _ (dk.le (by omega)))
theorem net_ok {many : Int} {ms : List Mt} (m1 : 1 ≤ many) (mb : many ≤ 10) (ok : ∀ m ∈ ms, MtB many m) : ∀ m ∈ ms, mtD many m.d = true := fun m hm => by
  obtain ⟨⟨a, b, c, d, e, f, g⟩, _, _⟩ := ok m hm
  simp only [Mt.d, mtD, mtDs, belowD, geD, unI]
  rw [show wdD (.str (wd m.w)) = true from by cases m.w <;> decide +kernel]
  simp [a, b, c, d, e, f]
  omega
theorem net_nt {many : Int} {ms : List Mt} (m1 : 1 ≤ many) (mb : many ≤ 10) (ok : ∀ m ∈ ms, MtB many m) : ntD (netD many ms) = true := by
  unfold netD
  simp only [ntD]
  rw [decide_eq_true m1, Bool.true_and, List.all_eq_true]
  intro x hx
  obtain ⟨m, hm, rfl⟩ := List.mem_map.mp hx
  exact net_ok m1 mb ok m hm
theorem okB_len {L k : Nat} {d : PyData} (hL : L ≤ 100000) (h : okB L k d) : LenOk d := by
  unfold LenOk
  split
  · rename_i a rs
    cases k with
    | zero => exact h.elim
    | succ k =>
      have h2 := h.2 (.tuple rs) (by simp)
      cases k with
      | zero => exact h2.elim
      | succ k => exact Nat.le_trans h2.1 hL
  · trivial
theorem mt_okN {many : Int} (hm : many ≤ 10) {x : Mt} (h : MtB many x) : okB 100 2 x.d := by
  obtain ⟨⟨a, b, c, d, e, f, g⟩, h1, h2⟩ := h
  refine ⟨by simp, fun y hy => ?_⟩
  simp only [List.mem_cons, List.not_mem_nil, or_false] at hy
  rcases hy with rfl | rfl | rfl | rfl | rfl
  · show (wd x.w).length ≤ 100
    cases x.w <;> decide +kernel
  · show x.one.natAbs ≤ 10 ^ 50 + 100; omega
  · show x.oth.natAbs ≤ 10 ^ 50 + 100; omega
  · show x.b.natAbs ≤ 10 ^ 50 + 100; omega
  · show x.l.natAbs ≤ 10 ^ 50 + 100; omega
theorem net_okB {many : Int} {ms : List Mt} (m1 : 1 ≤ many) (mb : many ≤ 10) (hl : ms.length ≤ 40) (ok : ∀ m ∈ ms, MtB many m) : okB 100 4 (netD many ms) := by
  refine ⟨by simp, fun y hy => ?_⟩
  simp only [List.mem_cons, List.not_mem_nil, or_false] at hy
  rcases hy with rfl | rfl
  · show many.natAbs ≤ 10 ^ 50 + 100; omega
  · refine ⟨by simp; omega, fun z hz => ?_⟩
    obtain ⟨m, hm, rfl⟩ := List.mem_map.mp hz
    exact mt_okN mb (ok m hm)
theorem dxb_le {n b b' : Nat} {μ μ' : Mu} (h : DXB n b μ μ') (hb : b ≤ b') : DXB n b' μ μ' := ⟨h.at'.le hb, h.len, h.oth⟩
def sp_things : SpW := fun ws μ Q => ∃ (n b : Nat) (many : Int) (ms : List Mt), ws = [.r n, .p (netD many ms)] ∧ 1 ≤ many ∧ many ≤ 10 ∧ (∀ m ∈ ms, MtB many m) ∧ ms.length ≤ 40 ∧ DeckB μ n b ∧ b < 600000 ∧
  ∀ xs m μ', (∀ x ∈ xs, LenOk x) → μ'[m]? = some (.lst xs) → m ≠ n → DXB n (b + 20000) μ μ' → Q (.r m) μ'
theorem vc_things (ws : List W) (μ : Mu) (Q : WK) (h : sp_things ws μ Q) : spBody N__law_things 2 (b__law_things (sp_bent 18) sp_odd) ws μ Q := by
  obtain ⟨n, b, many, ms, rfl, m1, mb, ok, hl, hd, hb, q⟩ := h
  have hn := hd.lt
  have hnet := net_okB m1 mb hl ok
  unfold b__law_things
  refine ⟨rfl, ?_⟩
  show sSeq _ _ _ [some (.r n), some (.p (netD many ms)), none, none, none, none, none, none] μ
  have cl1 : ∀ (μ : Mu) (Q : WK), cList [.p (netD many ms)] μ Q = Q (.p (.list [.int many, .tuple (ms.map Mt.d)])) μ := fun _ _ => rfl
  have cl2 : ∀ (μ : Mu) (Q : WK), cList [.p (.tuple (ms.map Mt.d))] μ Q = Q (.p (.list (ms.map Mt.d))) μ := fun _ _ => rfl
  (try dsimp only); rw [sSeq_def]
  rw [show W.p (netD many ms) = W.p (.tuple [.int many, .tuple (ms.map Mt.d)]) from rfl]
  (try walk_at "wp1")
  rw [show W.p (.tuple [.int many, .tuple (ms.map Mt.d)]) = W.p (netD many ms) from rfl]
  have addN : ∀ {μ : Mu} {Q : WK} {e : Nat} {xs : List PyData} (h : μ[e]? = some (.lst xs)) (ys : List PyData), oAddN (.r e) (.p (.list ys)) μ Q = (xs.length + ys.length ≤ sizeLine ∧ Q (.r μ.length) (μ ++ [.lst (xs ++ ys)])) := fun {μ Q e xs} h ys => by simp only [oAddN, lsOf, h]
  have neN : ∀ {μ' : Mu} {c : Cell} {b' : Nat}, DXB n b' μ μ' → μ'.length ≠ n := fun {μ' c b'} dx => by have := dx.len; omega
  -- 1
  refine sSeq_cut (fun ρ μ' => ∃ (e : Nat) (xs : List PyData), ρ = [some (.r n), some (.p (netD many ms)), some (.p (.int many)), some (.p (.tuple (ms.map Mt.d))), some (.r e), none, none, none] ∧ μ'[e]? = some (.lst xs) ∧ μ.length ≤ e ∧ (∀ x ∈ xs, LenOk x) ∧ xs.length ≤ 10 ∧ DXB n b μ μ') ?_ ?_
  rotate_left
  · intro K hK
    (try walk_at "wp1")
    simp only [cl1, cl2]
    (try walk_at "wp1")
    (repeat (with_reducible refine ⟨szk (by decide), ?_⟩))
    refine hK _ _ ⟨μ.length, _, rfl, List.getElem?_concat_length, Nat.le_refl _, fun x hx => ?_, by simp, (DXB.of (DB.refl hd)).push _⟩
    simp only [List.mem_cons, List.not_mem_nil, or_false] at hx
    rcases hx with rfl | rfl | rfl | rfl | rfl | rfl
    · show (ms.map Mt.d).length ≤ 100000; simp; omega
    · trivial
    · trivial
    · show (ms.map Mt.d).length ≤ 100000; simp; omega
    · show (ms.map Mt.d).length ≤ 100000; simp; omega
    · show (ms.map Mt.d).length ≤ 100000; simp; omega
  rintro ρ μ1 ⟨e, xs, rfl, hE, hge, hx, hxl, dx⟩
  have hne : e ≠ n := by omega
  -- 2
  refine sSeq_cut (fun ρ μ' => ∃ (e : Nat) (xs : List PyData), ρ = [some (.r n), some (.p (netD many ms)), some (.p (.int many)), some (.p (.tuple (ms.map Mt.d))), some (.r e), none, none, none] ∧ μ'[e]? = some (.lst xs) ∧ μ.length ≤ e ∧ (∀ x ∈ xs, LenOk x) ∧ xs.length ≤ 20 ∧ DXB n b μ μ') ?_ ?_
  rotate_left
  · intro K hK
    rw [show W.p (netD many ms) = W.p (.tuple [.int many, .tuple (ms.map Mt.d)]) from rfl] at hK ⊢
    (try walk_at "wp1")
    (repeat (with_reducible refine ⟨szk (by decide), ?_⟩))
    rw [oAdd_tup]
    refine ⟨szk (by simp), ?_⟩
    (repeat (with_reducible refine ⟨szk (by decide), ?_⟩))
    simp only [pdOf, Option.map_some]
    refine ⟨szk (by simp), ?_⟩
    rw [addN hE]
    refine ⟨szk (by simp; omega), hK _ _ ⟨μ1.length, _, rfl, List.getElem?_concat_length, dx.len, fun x hx' => ?_, by simp; omega, dx.push _⟩⟩
    rcases List.mem_append.mp hx' with hx' | hx'
    · exact hx x hx'
    simp only [List.mem_cons, List.not_mem_nil, or_false] at hx'
    rcases hx' with rfl | rfl | rfl | rfl | rfl | rfl | rfl | rfl
    · show (0 : Nat) ≤ _; omega
    · show (0 : Nat) ≤ _; omega
    · show (0 : Nat) ≤ _; omega
    · trivial
    · trivial
    · trivial
    · trivial
    · show (0 : Nat) ≤ _; omega
  clear hE hne hge hx hxl dx
  rintro ρ μ1 ⟨e, xs, rfl, hE, hge, hx, hxl, dx⟩
  have hne : e ≠ n := by omega
  -- 3
  refine sSeq_cut (fun ρ μ' => ∃ (e : Nat) (xs : List PyData), ρ = [some (.r n), some (.p (netD many ms)), some (.p (.int many)), some (.p (.tuple (ms.map Mt.d))), some (.r e), none, none, none] ∧ μ'[e]? = some (.lst xs) ∧ μ.length ≤ e ∧ (∀ x ∈ xs, LenOk x) ∧ xs.length ≤ 30 ∧ DXB n (b + 20) μ μ') ?_ ?_
  rotate_left
  · intro K hK
    (try walk_at "wp1")
    (repeat (with_reducible refine ⟨szk (by decide), ?_⟩))
    refine ⟨⟨by decide, by decide, by decide⟩, ⟨by decide, by decide, by decide⟩, ?_⟩
    (repeat (with_reducible refine ⟨szk (by decide), ?_⟩))
    refine ⟨n, b, rfl, dx.at', by omega, fun od μ2 ho k2 => ?_⟩
    have dx2 := dx.dk k2
    have hE2 : μ2[e]? = some (.lst xs) := (k2.oth e hne).trans hE
    simp only [pdOf, Option.map_some]
    refine ⟨szk (by simp), ?_⟩
    rw [addN hE2]
    refine ⟨szk (by simp; omega), hK _ _ ⟨μ2.length, _, rfl, List.getElem?_concat_length, dx2.len, fun x hx' => ?_, by simp; omega, dx2.push _⟩⟩
    rcases List.mem_append.mp hx' with hx' | hx'
    · exact hx x hx'
    simp only [List.mem_cons, List.not_mem_nil, or_false] at hx'
    rcases hx' with rfl | rfl | rfl
    · show (1 : Nat) ≤ _; omega
    · show (1 : Nat) ≤ _; omega
    · exact okB_len (by omega) ho
  clear hE hne hge hx hxl dx
  rintro ρ μ1 ⟨e, xs, rfl, hE, hge, hx, hxl, dx⟩
  have hne : e ≠ n := by omega
  -- 4
  ((try dsimp only); rw [sSeq_def]; (try (try walk_at "wp1")))
  (repeat (with_reducible refine ⟨szk (by decide), ?_⟩))
  rw [show PyData.tuple [.str (Str.ofString "to"), .int 0, .int 1, .int 5, .int 5] = rowG from rfl]
  simp only [oMulT]
  refine ⟨by omega, by omega, by simp, by simp, ?_⟩
  rw [rep_one, oAdd_tup]
  refine ⟨szk (by simp; omega), ?_⟩
  have hml : (ms.map Mt.d ++ List.replicate (41 : Int).toNat rowG).length ≤ 200 := by simp; omega
  generalize ms.map Mt.d ++ List.replicate (41 : Int).toNat rowG = more at hml
  -- 5
  refine sSeq_cut (fun ρ μ' => ∃ (e : Nat) (xs : List PyData), ρ = [some (.r n), some (.p (netD many ms)), some (.p (.int many)), some (.p (.tuple (ms.map Mt.d))), some (.r e), some (.p (.tuple more)), none, none] ∧ μ'[e]? = some (.lst xs) ∧ μ.length ≤ e ∧ (∀ x ∈ xs, LenOk x) ∧ xs.length ≤ 40 ∧ DXB n (b + 20) μ μ') ?_ ?_
  rotate_left
  · intro K hK
    (try walk_at "wp1")
    (repeat (with_reducible refine ⟨szk (by decide), ?_⟩))
    rw [oAdd_tup]
    refine ⟨szk (by simp; omega), ?_⟩
    simp only [pdOf, Option.map_some]
    refine ⟨szk (by simp), szk (by simp), ?_⟩
    rw [addN hE]
    refine ⟨szk (by simp; omega), hK _ _ ⟨μ1.length, _, rfl, List.getElem?_concat_length, dx.len, fun x hx' => ?_, by simp; omega, dx.push _⟩⟩
    rcases List.mem_append.mp hx' with hx' | hx'
    · exact hx x hx'
    simp only [List.mem_cons, List.not_mem_nil, or_false] at hx'
    rcases hx' with rfl | rfl
    · show more.length ≤ _; omega
    · show (more ++ _).length ≤ _; simp; omega
  clear hE hne hge hx hxl dx
  rintro ρ μ1 ⟨e, xs, rfl, hE, hge, hx, hxl, dx⟩
  have hne : e ≠ n := by omega
  -- 6
  refine sSeq_cut (fun ρ μ' => ∃ (e : Nat) (xs : List PyData), ρ = [some (.r n), some (.p (netD many ms)), some (.p (.int many)), some (.p (.tuple (ms.map Mt.d))), some (.r e), some (.p (.tuple more)), none, none] ∧ μ'[e]? = some (.lst xs) ∧ μ.length ≤ e ∧ (∀ x ∈ xs, LenOk x) ∧ xs.length ≤ 50 ∧ DXB n (b + 800) μ μ') ?_ ?_
  rotate_left
  · intro K hK
    simp only [sDrop, wApp, wVar, List.getElem?_cons_zero, List.getElem?_cons_succ, hE, true_and]
    (try walk_at "wp1")
    (repeat (with_reducible refine ⟨szk (by decide), ?_⟩))
    have okm : okB 100 18 (.tuple [.str (Str.ofString "both"), .int 1, .int 0, .int 5, .int 5]) := by
      refine ⟨by simp, fun y hy => ?_⟩
      simp only [List.mem_cons, List.not_mem_nil, or_false] at hy
      rcases hy with rfl | rfl | rfl | rfl | rfl
      · show (Str.ofString "both").length ≤ 100; decide +kernel
      · show (1 : Nat) ≤ _; omega
      · show (0 : Nat) ≤ _; omega
      · show (5 : Nat) ≤ _; omega
      · show (5 : Nat) ≤ _; omega
    refine ⟨n, _, 100, _, rfl, dx.at', by omega, by decide, okm, fun d1 μ2 _ k2 => ?_⟩
    have dx2 := dx.dk k2
    have hE2 : μ2[e]? = some (.lst xs) := (k2.oth e hne).trans hE
    simp only [pdOf, Option.map_some]
    refine ⟨szk (by simp), ?_⟩
    rw [oAdd_tup]
    refine ⟨szk (by simp; omega), ?_⟩
    simp only [pdOf, Option.map_some]
    refine ⟨szk (by simp), ?_⟩
    simp only [hE2]
    have hel := (List.getElem?_eq_some_iff.mp hE2).1
    refine ⟨szl (by omega), hK _ _ ⟨e, _, rfl, List.getElem?_set_self hel, hge, fun x hx' => ?_, by simp; omega, dxb_le (dx2.set hge hne _) (by omega)⟩⟩
    rcases List.mem_append.mp hx' with hx' | hx'
    · exact hx x hx'
    · simp only [List.mem_cons, List.not_mem_nil, or_false] at hx'
      subst hx'
      show (more ++ _).length ≤ _
      simp; omega
  clear hE hne hge hx hxl dx
  rintro ρ μ1 ⟨e, xs, rfl, hE, hge, hx, hxl, dx⟩
  -- 7
  (try dsimp only); rw [sSeq_def]
  simp only [sFor, iRng]
  (try walk_at "wp1")
  refine forR_of (fun xs' ρ μ' => ∃ (j e : Nat) (xs : List PyData) (y6 y7 : Option W), j + xs'.length = 6 ∧ ρ = [some (.r n), some (.p (netD many ms)), some (.p (.int many)), some (.p (.tuple (ms.map Mt.d))), some (.r e), some (.p (.tuple more)), y6, y7] ∧ μ'[e]? = some (.lst xs) ∧ μ.length ≤ e ∧ (∀ x ∈ xs, LenOk x) ∧ xs.length ≤ 50 + 2 * j ∧ DXB n (b + 800 + 2000 * j) μ μ') (fun _ _ _ _ => trivial) ?_ ?_ _ _ _ ⟨0, e, xs, _, _, by simp [rng], rfl, hE, hge, hx, by omega, dx⟩
  · clear hE hge hx hxl dx
    rintro ρ μ' ⟨j, e, xs, y6, y7, hj, rfl, hE, hge, hx, hxl, dx⟩
    simp only [List.length_nil, Nat.add_zero] at hj
    (try walk_at "wp1")
    exact ret_new dx.len (by show e < _; exact (List.getElem?_eq_some_iff.mp hE).1) (q xs e μ' hx hE (by omega) (dxb_le dx (by omega)))
  · clear hE hge hx hxl dx
    rintro x xs' ρ μ' R hR ⟨j, e, xs, y6, y7, hj, rfl, hE, hge, hx, hxl, dx⟩
    have hne : e ≠ n := by omega
    simp only [List.length_cons] at hj
    (try walk_at "wp1")
    ((try dsimp only); rw [sSeq_def]; (try (try walk_at "wp1")))
    refine ⟨n, _, 100, netD many ms, rfl, dx.at', by omega, by decide, okB_mono (Nat.le_refl _) (by omega) hnet, fun d1 μ2 h1 k2 => ?_⟩
    have dx2 := dx.dk k2
    have hE2 : μ2[e]? = some (.lst xs) := (k2.oth e hne).trans hE
    have ok1 : okB 5300 18 d1 := h1 4 hnet
    (try walk_at "wp1")
    refine ⟨n, _, 5300, d1, rfl, dx2.at', by omega, by decide, ok1, fun d2 μ3 h2 k3 => ?_⟩
    have dx3 := dx2.dk k3
    have hE3 : μ3[e]? = some (.lst xs) := (k3.oth e hne).trans hE2
    simp only [pdOf, Option.map_some]
    refine ⟨szk (by simp), ?_⟩
    rw [addN hE3]
    refine ⟨szk (by simp; omega), hR _ _ ⟨j + 1, μ3.length, _, _, _, by omega, rfl, List.getElem?_concat_length, dx3.len, fun x hx' => ?_, by simp; omega, dxb_le (dx3.push _) (by omega)⟩⟩
    rcases List.mem_append.mp hx' with hx' | hx'
    · exact hx x hx'
    · simp only [List.mem_cons, List.not_mem_nil, or_false] at hx'
      rcases hx' with rfl | rfl
      · exact okB_len (by omega) ok1
      · exact okB_len (by omega) (h2 18 ok1)
end K02
set_option maxHeartbeats 1000000
namespace K02
open PySem L2 L2.Ev Net TL
local macro_rules | `(tactic| walk_at "wp1") => `(tactic| simp only [spBody, startW, sIf, sSet, sAsg, sRet, sRetN, sDrop, sNext, wVar, wC, wOp, wTest, wAnd, wOr, wNot, wAndV, wOrV, wNotV, wChain, wIf, wCall, aCons, aNil, wTup, wLst, wNew, pdOf, Option.map_some, wSl, wP, wNoP, nName, nSub, nTup, nCons, nNil, wTy, wNeg, cInt, cMax, cMin, List.map_cons, List.map_nil, List.length_cons, List.length_nil, List.replicate_succ, List.replicate_zero, List.cons_append, List.nil_append, List.append_nil, Nat.reduceAdd, Nat.reduceSub, List.set_cons_zero, List.set_cons_succ, List.getElem?_cons_zero, List.getElem?_cons_succ, Nat.zero_add, oAdd_int, oI_int, oI0_int, oIx_tup, oIx_lst, oIx_scr, oEq_p, oNe_p, oIs_n, oIsNot_n, oIs_bb, oIsNot_bb, atI_0, atI_1, atI_2, atI_3, atI_4, shaped_int, shaped_bool, eqv_int, eqv_bool, eqv_lst_nil, eqv_tup_nil, shaped_nilL, shaped_nilT, true_and, and_true, Nat.sub_self, Nat.add_one_sub_one, Bool.false_eq_true, if_false, if_true, Nat.reduceLeDiff, Int.reduceToNat, Int.reducePow, Int.reduceLT, Int.reduceLE, Int.reduceMul, Int.reduceSub, Int.reduceAdd, decide_true, decide_false, wTupRev])
local macro_rules | `(tactic| walk_at "wps") => `(tactic| simp only [spBody, startW, sSeq, sIf, sSet, sAsg, sRet, sRetN, sDrop, sNext, wVar, wC, wOp, wTest, wAnd, wOr, wNot, wAndV, wOrV, wNotV, wChain, wIf, wCall, aCons, aNil, wTup, wLst, wNew, pdOf, Option.map_some, wSl, wP, wNoP, nName, nSub, nTup, nCons, nNil, wTy, wNeg, cInt, cMax, cMin, List.map_cons, List.map_nil, List.length_cons, List.length_nil, List.replicate_succ, List.replicate_zero, List.cons_append, List.nil_append, List.append_nil, Nat.reduceAdd, Nat.reduceSub, List.set_cons_zero, List.set_cons_succ, List.getElem?_cons_zero, List.getElem?_cons_succ, Nat.zero_add, oAdd_int, oI_int, oI0_int, oIx_tup, oIx_lst, oIx_scr, oEq_p, oNe_p, oIs_n, oIsNot_n, oIs_bb, oIsNot_bb, atI_0, atI_1, atI_2, atI_3, atI_4, shaped_int, shaped_bool, eqv_int, eqv_bool, eqv_lst_nil, eqv_tup_nil, shaped_nilL, shaped_nilT, true_and, and_true, Nat.sub_self, Nat.add_one_sub_one, Bool.false_eq_true, if_false, if_true, Nat.reduceLeDiff, Int.reduceToNat, Int.reducePow, Int.reduceLT, Int.reduceLE, Int.reduceMul, Int.reduceSub, Int.reduceAdd, decide_true, decide_false, wTupRev])
def sp_law : SpW := fun ws μ Q => ∃ ns : List Int, ws = [.s (ns.map PyData.int)] ∧ ns.length ≤ 63 ∧ ∀ μ', Q (.p (.bool true)) μ'
theorem vc_lawb (ws : List W) (μ : Mu) (Q : WK) (h : sp_law ws μ Q) : spBody N_law 1 (b_law sp_deckB sp_netB sp_things sp_isnet sp_drawB sp_longN sp_toldN) ws μ Q := by
  obtain ⟨ns, rfl, hns, q⟩ := h
  unfold b_law
  refine ⟨rfl, ?_⟩
  show sSeq _ _ _ [some (.s (ns.map PyData.int)), none, none, none, none] μ
  (try dsimp only); rw [sSeq_def]
  simp only [sFor, iSeq]
  (try walk_at "wp1")
  simp only [oSl, rlOf, lsOf]
  rw [show (6 : Int) = ((6 : Nat) : Int) from rfl, cutTake]
  refine ⟨szk (by decide), ?_⟩
  rw [oAdd_lst]
  refine ⟨szk (by simp; omega), ?_⟩
  refine forR_of (fun xs ρ μ' => μ.length ≤ μ'.length ∧ (∀ x ∈ xs, ∃ i : Int, x = .int i) ∧ ∃ (y1 y2 y3 y4 : Option W), ρ = [some (.s (ns.map PyData.int)), y1, y2, y3, y4])
    (fun _ _ _ _ => trivial) ?_ ?_ _ _ _ ⟨Nat.le_refl _, fun x hx => ?_, _, _, _, _, rfl⟩
  · rintro ρ μ' ⟨hm, _, y1, y2, y3, y4, rfl⟩
    (try walk_at "wp1")
    exact ret_cut hm (q _)
  · rintro x xs ρ μ0 R hR ⟨hm, hx, y1, y2, y3, y4, rfl⟩
    obtain ⟨cell, rfl⟩ := hx x (by simp)
    have hx' : ∀ x ∈ xs, ∃ i : Int, x = .int i := fun x h => hx x (by simp [h])
    (try walk_at "wp1")
    ((try dsimp only); rw [sSeq_def]; (try (try walk_at "wp1")))
    refine ⟨cell, rfl, fun a m => ?_⟩
    have hd : DeckB (μ0 ++ [.lst [.int a, .int m, .int 0]]) μ0.length 0 := ⟨a, m, 0, by simp, by omega, by omega⟩
    have hl0 : μ.length ≤ (μ0 ++ [Cell.lst [.int a, .int m, .int 0]]).length := by simp; omega
    generalize hD : μ0.length = D at hd
    generalize μ0 ++ [Cell.lst [.int a, .int m, .int 0]] = μ1 at hd hl0
    ((try dsimp only); rw [sSeq_def]; (try (try walk_at "wp1")))
    refine ⟨D, 0, rfl, hd, by omega, fun many ms μ2 m1 mb ok hl k2 => ?_⟩
    have hnt := net_nt m1 mb ok
    ((try dsimp only); rw [sSeq_def]; (try (try walk_at "wp1")))
    refine ⟨_, rfl, ?_⟩
    rw [hnt]
    (try walk_at "wp1")
    rw [if_neg (by decide)]
    refine sSeq_cut (fun ρ μ' => ρ = [some (.s (ns.map PyData.int)), some (.p (.int cell)), some (.r D), some (.p (netD many ms)), y4] ∧ DB D 2000 μ1 μ') ?_ ?_
    rotate_left
    · intro K hK
      (try walk_at "wp1")
      refine ⟨D, _, 1000, rfl, by decide, by decide, k2.at'.le (by omega), by omega, fun x3 μ3 x0 x1 k3 => ?_⟩
      have d3 := k2.trans k3
      (try walk_at "wp1")
      by_cases h5 : x3 = 5
      · rw [if_pos (decide_eq_true h5)]
        refine ⟨D, 1001, rfl, k3.at', by omega, fun μ4 k4 => ?_⟩
        (try simp only [Bool.not_true, Bool.not_false, Bool.false_eq_true, if_false, if_true, decide_true, decide_false])
        exact hK _ _ ⟨rfl, (d3.trans k4).le (by omega)⟩
      · rw [if_neg (by simpa using h5)]
        exact hK _ _ ⟨rfl, d3.le (by omega)⟩
    · rintro ρ μ4 ⟨rfl, d4⟩
      have hl4 : μ.length ≤ μ4.length := by rw [d4.len]; exact hl0
      (try dsimp only); rw [sSeq_def]
      simp only [sFor, iSeq, wCall, aCons, aNil, wVar, List.getElem?_cons_zero, List.getElem?_cons_succ]
      refine ⟨D, 2000, many, ms, rfl, m1, mb, ok, hl, d4.at', by omega, fun zs e μ5 hz hE hne dx => ?_⟩
      have hl5 : μ.length ≤ μ5.length := Nat.le_trans hl4 dx.len
      dsimp only
      simp only [hE]
      refine forR_of (fun xs2 ρ μ' => μ' = μ5 ∧ (∀ x ∈ xs2, LenOk x) ∧ ∃ y4, ρ = [some (.s (ns.map PyData.int)), some (.p (.int cell)), some (.r D), some (.p (netD many ms)), y4]) (fun _ _ _ h => by obtain ⟨rfl, _⟩ := h; exact hE) ?_ ?_ _ _ _ ⟨rfl, hz, _, rfl⟩
      · rintro ρ μ' ⟨rfl, _, y4, rfl⟩
        (try walk_at "wp1")
        refine ⟨_, rfl, ?_⟩
        rw [hnt]
        (try walk_at "wp1")
        rw [if_neg (by decide)]
        exact hR _ _ ⟨hl5, hx', _, _, _, _, rfl⟩
      · rintro x xs2 ρ μ' R2 hR2 ⟨rfl, hx2, y4, rfl⟩
        (try walk_at "wp1")
        refine ⟨x, rfl, hx2 x (by simp), ?_⟩
        (try simp only [Bool.not_true, Bool.not_false, Bool.false_eq_true, if_false, if_true, decide_true, decide_false])
        exact hR2 _ _ ⟨rfl, fun z h => hx2 z (by simp [h]), _, rfl⟩
  · rcases List.mem_append.mp hx with h | h
    · obtain ⟨i, _, rfl⟩ := List.mem_map.mp (List.mem_of_mem_take h)
      exact ⟨i, rfl⟩
    · simp at h; subst h; exact ⟨3, rfl⟩
end K02
namespace K02
open PySem L2 L2.Ev Net
theorem law_fn {P : Program} {w : World} {K : PySem.W.Frag} {mg : Str → Option Value} {base : Heap} {a : Ad} (T : Tx K mg a) (hB : GenB K mg base) : FnOk P w K mg base CX0 23 a.f_law a.d_law ["_law_script"] (rdSp K sp_law) := by
  have G_is_whole := (ok_is_whole (P := P) (w := w) (base := base) T).imp (rdSp_imp vc_wholeA)
  have G__law_deck := (ok__law_deck (P := P) (w := w) (base := base) T).imp (rdSp_imp vc_deckB)
  have G__law_draw := (ok__law_draw (P := P) (w := w) (base := base) T).imp (rdSp_imp vc_drawB)
  have G__law_is_whole := (ok__law_is_whole (P := P) (w := w) (base := base) T).imp (rdSp_imp vc_lwholeA)
  have G_is_number_below := (ok_is_number_below (P := P) (w := w) (base := base) T G_is_whole).imp (rdSp_imp vc_belowA)
  have G__law_far := (ok__law_far (P := P) (w := w) (base := base) T G__law_draw).imp (rdSp_imp vc_farB)
  have G__law_many := (ok__law_many (P := P) (w := w) (base := base) T G__law_draw).imp (rdSp_imp vc_manyB)
  have G__law_is_meeting := (ok__law_is_meeting (P := P) (w := w) (base := base) T G__law_is_whole).imp (rdSp_imp vc_lismeet)
  have G__law_odd := (ok__law_odd (P := P) (w := w) (base := base) T G__law_draw).imp (rdSp_imp vc_odd)
  have G_is_meeting := (ok_is_meeting (P := P) (w := w) (base := base) T G_is_whole G_is_number_below).imp (rdSp_imp vc_ismeetA)
  have G__law_begin := (ok__law_begin (P := P) (w := w) (base := base) T G__law_draw G__law_far).imp (rdSp_imp vc_beginB)
  have G__law_is_net := (ok__law_is_net (P := P) (w := w) (base := base) T G__law_is_whole G__law_is_meeting).imp (rdSp_imp vc_lisnet)
  have G__law_bent_row := (ok__law_bent_row (P := P) (w := w) (base := base) T G__law_draw G__law_odd).imp (rdSp_imp vc_brow)
  have G__law_meeting := (ok__law_meeting (P := P) (w := w) (base := base) T G__law_draw G__law_begin G__law_far).imp (rdSp_imp vc_meetingB)
  have G__law_net := (ok__law_net (P := P) (w := w) (base := base) T G__law_draw G__law_many G__law_meeting).imp (rdSp_imp vc_netB)
  have G_is_net := (ok_is_net (P := P) (w := w) (base := base) T hB G_is_whole G_is_meeting).imp (rdSp_imp vc_isnet)
  have G__law_told := (ok__law_told (P := P) (w := w) (base := base) T G__law_is_net G_is_net).imp (rdSp_imp vc_toldN)
  have G__law_long_right := (ok__law_long_right (P := P) (w := w) (base := base) T G__law_draw G_is_net).imp (rdSp_imp vc_longN)
  have G0__law_bent : FnOk P w K mg base CX0 3 a.f__law_bent a.d__law_bent P__law_bent (rdSp K (sp_bent 0)) := ⟨fun vs H Q E ⟨as, μ, ws, Q0, S, r, h, A⟩ => (no_bent ws μ Q0 h).elim, fun A outer s H args us vs Q E hr he hb hv ⟨as, μ, ws, Q0, S, r, h, A⟩ => (no_bent ws μ Q0 h).elim⟩
  have G1__law_bent := (ok__law_bent (P := P) (w := w) (base := base) (by decide) T G__law_draw G__law_odd G__law_bent_row G0__law_bent).imp (rdSp_imp (vc_bent 0))
  have G2__law_bent := (ok__law_bent (P := P) (w := w) (base := base) (by decide) T G__law_draw G__law_odd G__law_bent_row G1__law_bent).imp (rdSp_imp (vc_bent 1))
  have G3__law_bent := (ok__law_bent (P := P) (w := w) (base := base) (by decide) T G__law_draw G__law_odd G__law_bent_row G2__law_bent).imp (rdSp_imp (vc_bent 2))
  have G4__law_bent := (ok__law_bent (P := P) (w := w) (base := base) (by decide) T G__law_draw G__law_odd G__law_bent_row G3__law_bent).imp (rdSp_imp (vc_bent 3))
  have G5__law_bent := (ok__law_bent (P := P) (w := w) (base := base) (by decide) T G__law_draw G__law_odd G__law_bent_row G4__law_bent).imp (rdSp_imp (vc_bent 4))
  have G6__law_bent := (ok__law_bent (P := P) (w := w) (base := base) (by decide) T G__law_draw G__law_odd G__law_bent_row G5__law_bent).imp (rdSp_imp (vc_bent 5))
  have G7__law_bent := (ok__law_bent (P := P) (w := w) (base := base) (by decide) T G__law_draw G__law_odd G__law_bent_row G6__law_bent).imp (rdSp_imp (vc_bent 6))
  have G8__law_bent := (ok__law_bent (P := P) (w := w) (base := base) (by decide) T G__law_draw G__law_odd G__law_bent_row G7__law_bent).imp (rdSp_imp (vc_bent 7))
  have G9__law_bent := (ok__law_bent (P := P) (w := w) (base := base) (by decide) T G__law_draw G__law_odd G__law_bent_row G8__law_bent).imp (rdSp_imp (vc_bent 8))
  have G10__law_bent := (ok__law_bent (P := P) (w := w) (base := base) (by decide) T G__law_draw G__law_odd G__law_bent_row G9__law_bent).imp (rdSp_imp (vc_bent 9))
  have G11__law_bent := (ok__law_bent (P := P) (w := w) (base := base) (by decide) T G__law_draw G__law_odd G__law_bent_row G10__law_bent).imp (rdSp_imp (vc_bent 10))
  have G12__law_bent := (ok__law_bent (P := P) (w := w) (base := base) (by decide) T G__law_draw G__law_odd G__law_bent_row G11__law_bent).imp (rdSp_imp (vc_bent 11))
  have G13__law_bent := (ok__law_bent (P := P) (w := w) (base := base) (by decide) T G__law_draw G__law_odd G__law_bent_row G12__law_bent).imp (rdSp_imp (vc_bent 12))
  have G14__law_bent := (ok__law_bent (P := P) (w := w) (base := base) (by decide) T G__law_draw G__law_odd G__law_bent_row G13__law_bent).imp (rdSp_imp (vc_bent 13))
  have G15__law_bent := (ok__law_bent (P := P) (w := w) (base := base) (by decide) T G__law_draw G__law_odd G__law_bent_row G14__law_bent).imp (rdSp_imp (vc_bent 14))
  have G16__law_bent := (ok__law_bent (P := P) (w := w) (base := base) (by decide) T G__law_draw G__law_odd G__law_bent_row G15__law_bent).imp (rdSp_imp (vc_bent 15))
  have G17__law_bent := (ok__law_bent (P := P) (w := w) (base := base) (by decide) T G__law_draw G__law_odd G__law_bent_row G16__law_bent).imp (rdSp_imp (vc_bent 16))
  have G__law_bent := (ok__law_bent (P := P) (w := w) (base := base) (by decide) T G__law_draw G__law_odd G__law_bent_row G17__law_bent).imp (rdSp_imp (vc_bent 17))
  have G__law_things := (ok__law_things (P := P) (w := w) (base := base) T G__law_bent G__law_odd).imp (rdSp_imp vc_things)
  exact (ok_law (P := P) (w := w) (base := base) T G__law_deck G__law_net G__law_things G_is_net G__law_draw G__law_long_right G__law_told).imp (rdSp_imp vc_lawb)
theorem law_binds {K : PySem.W.Frag} {mg : Str → Option Value} {a : Ad} (T : Tx K mg a) (s : Shared) (u : Value) : BindsTo s a.d_law ⟨[u], []⟩ [("_law_script", u)] := by
  obtain ⟨oc, od, kV, doc, pm, an, cdv, ct, osl, e, lk, hcd⟩ := T.F_law.ex
  rw [e]
  exact .of_eq rfl
theorem vc_law (ns : List Int) (h : ns.length ≤ 63) : sp_law [.s (ns.map PyData.int)] [] (fun w _ => w = .p (.bool true)) := by first | exact ⟨ns, rfl, fun _ => rfl⟩ | exact ⟨ns, rfl, h, fun _ => rfl⟩
end K02
open PySem PySem.W PyProof.Rows
set_option maxRecDepth 100000 in
set_option maxHeartbeats 0 in
theorem PySem.Challenge.cw_meetways_k02_what_is_a_net_holds : PySem.Challenge.rw_meetways_k02_what_is_a_net.Holds := by
  w_on; o_law; k_head; (case hw => w_witness2)
  k_fill
  refine L2.Ev.walkW (l := PySem.Challenge.rw_meetways_k02_what_is_a_net) (k := 23) (x := "_law_script") (sp := K02.sp_law) rfl rfl ⟨rfl, by decide, by decide, rfl⟩ (fun w h Y => PySem.W.kIn_of Y) ?noTabs ?owned ?F K02.vc_law
  case noTabs => intro w; kernel_rfl
  case owned => intro w mg h KX G; exact L2.Ev.own_ex (name := "is_net") KX G (by k_is) (by k_is) (by first | rfl | k_is) (by kernel_rfl) (by kernel_rfl)
  case F =>
    intro w mg fa h KX G hmg
    have T : ∃ a : K02.Ad, K02.Tx (L2.KOf KX) mg a := by
      dsimp only [L2.KOf]
      refine' K02.tx_mk KX G ?own_a0 ?own_l0 ?own_c0 ?own_k0 ?own_a1 ?own_l1 ?own_c1 ?own_k1 ?own_a2 ?own_l2 ?own_c2 ?own_k2 ?own_a3 ?own_l3 ?own_c3 ?own_k3 ?own_a4 ?own_l4 ?own_c4 ?own_k4 ?own_a5 ?own_l5 ?own_c5 ?own_k5 ?own_a6 ?own_l6 ?own_c6 ?own_k6 ?own_a7 ?own_l7 ?own_c7 ?own_k7 ?own_a8 ?own_l8 ?own_c8 ?own_k8 ?own_a9 ?own_l9 ?own_c9 ?own_k9 ?own_a10 ?own_l10 ?own_c10 ?own_k10 ?own_a11 ?own_l11 ?own_c11 ?own_k11 ?own_a12 ?own_l12 ?own_c12 ?own_k12 ?own_a13 ?own_l13 ?own_c13 ?own_k13 ?own_a14 ?own_l14 ?own_c14 ?own_k14 ?own_a15 ?own_l15 ?own_c15 ?own_k15 ?own_a16 ?own_l16 ?own_c16 ?own_k16 ?own_a17 ?own_l17 ?own_c17 ?own_k17 ?own_a18 ?own_l18 ?own_c18 ?own_k18 ?own_a19 ?own_l19 ?own_c19 ?own_k19 ?own_a20 ?own_l20 ?own_c20 ?own_k20 ?own_z_all ?own_z_bool ?own_z_int ?own_z_isinstance ?own_z_len ?own_z_list ?own_z_max ?own_z_min ?own_z_range ?own_z_str ?own_z_tuple ?own_g0 ?own_h0 ?own_t15
      (case own_a0 => k_is)
      (case own_l0 => k_is)
      (case own_c0 => k_is)
      (case own_k0 => k_is)
      (case own_a1 => k_is)
      (case own_l1 => k_is)
      (case own_c1 => k_is)
      (case own_k1 => k_is)
      (case own_a2 => k_is)
      (case own_l2 => k_is)
      (case own_c2 => k_is)
      (case own_k2 => k_is)
      (case own_a3 => k_is)
      (case own_l3 => k_is)
      (case own_c3 => k_is)
      (case own_k3 => k_is)
      (case own_a4 => k_is)
      (case own_l4 => k_is)
      (case own_c4 => k_is)
      (case own_k4 => k_is)
      (case own_a5 => k_is)
      (case own_l5 => k_is)
      (case own_c5 => k_is)
      (case own_k5 => k_is)
      (case own_a6 => k_is)
      (case own_l6 => k_is)
      (case own_c6 => k_is)
      (case own_k6 => k_is)
      (case own_a7 => k_is)
      (case own_l7 => k_is)
      (case own_c7 => k_is)
      (case own_k7 => k_is)
      (case own_a8 => k_is)
      (case own_l8 => k_is)
      (case own_c8 => k_is)
      (case own_k8 => k_is)
      (case own_a9 => k_is)
      (case own_l9 => k_is)
      (case own_c9 => k_is)
      (case own_k9 => k_is)
      (case own_a10 => k_is)
      (case own_l10 => k_is)
      (case own_c10 => k_is)
      (case own_k10 => k_is)
      (case own_a11 => k_is)
      (case own_l11 => k_is)
      (case own_c11 => k_is)
      (case own_k11 => k_is)
      (case own_a12 => k_is)
      (case own_l12 => k_is)
      (case own_c12 => k_is)
      (case own_k12 => k_is)
      (case own_a13 => k_is)
      (case own_l13 => k_is)
      (case own_c13 => k_is)
      (case own_k13 => k_is)
      (case own_a14 => k_is)
      (case own_l14 => k_is)
      (case own_c14 => k_is)
      (case own_k14 => k_is)
      (case own_a15 => k_is)
      (case own_l15 => k_is)
      (case own_c15 => k_is)
      (case own_k15 => k_is)
      (case own_a16 => k_is)
      (case own_l16 => k_is)
      (case own_c16 => k_is)
      (case own_k16 => k_is)
      (case own_a17 => k_is)
      (case own_l17 => k_is)
      (case own_c17 => k_is)
      (case own_k17 => k_is)
      (case own_a18 => k_is)
      (case own_l18 => k_is)
      (case own_c18 => k_is)
      (case own_k18 => k_is)
      (case own_a19 => k_is)
      (case own_l19 => k_is)
      (case own_c19 => k_is)
      (case own_k19 => k_is)
      (case own_a20 => k_is)
      (case own_l20 => k_is)
      (case own_c20 => k_is)
      (case own_k20 => k_is)
      (case own_z_all => k_is)
      (case own_z_bool => k_is)
      (case own_z_int => k_is)
      (case own_z_isinstance => k_is)
      (case own_z_len => k_is)
      (case own_z_list => k_is)
      (case own_z_max => k_is)
      (case own_z_min => k_is)
      (case own_z_range => k_is)
      (case own_z_str => k_is)
      (case own_z_tuple => k_is)
      (case own_g0 => k_is)
      (case own_h0 => k_is)
      (case own_t15 => kernel_rfl)
    obtain ⟨a, T⟩ := T
    have e0 := hmg.symm.trans T.m_law
    cases e0
    refine' ⟨a.d_law, ?b, fun base kb nb hB => K02.law_fn T hB⟩
    exact fun s u => K02.law_binds T s u
