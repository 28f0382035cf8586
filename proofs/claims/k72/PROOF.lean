import PyProof.Rows.All
import Wide.All
import OpenK.AllK
import Wide.FinOn
import PyProof.EqAt
import PyProof.EqKinds
import PyProof.TupleCall
import KE.BitLaws
import PyProof.ExcClass3
import PyProof.ExcInit
import PyProof.InstStoreFacts
import PyProof.NsDelKeeps
import PyProof.RulesAs
import KE.KTryMore
import PyProof.ExcArgs
import KE.KIsNot
import PyProof.FactsAll.dict_1
import PyProof.FactsAll.subtypes_5
import PyProof.NeKinds
import PyProof.FactsAll.tuple_2
import PyProof.FactsAll.tuple_3
import PyProof.FactsAll.tuple_0
import PyProof.ZipIter
import PyProof.Draws
import PyProof.P3Eq
import PyProof.ListRange
import PyProof.TupleOfStr
import KE.KNest
import KE.KLam
import KE.KMinKey
import Wide.Seal
import PyProof.DictCompW
import PyProof.DictUpdate
import PyProof.FactsAll.dict_4
import PyProof.Rows.SetFrom
import PyProof.SetKind
import PyProof.CollectWalk
import PyProof.Rows.SortShellAny
import PyProof.ListMulRoad
import PyProof.DictWalks
import PyProof.DictTruth
import PyProof.ListStr
import PyProof.SetRoads
import PyProof.TupleOfSeq
import KE.KSortTupG
import KE.KEqDict
import PySem.Challenge.RW_graftform_k72_turners_read_and_shown
set_option Elab.async false
set_option linter.all false
set_option maxRecDepth 100000
/-! THE HAND LAYER, for ints, bools, texts, own classes, lists, tuples, dicts, comprehensions, walks over dicts, enumerate, zip, reversed, texts, calls, loops. Paste it whole ahead of your own text; what your proof does not reach may be deleted. -/
namespace L2
open PySem PySem.Spec PyProof.Rows
/-- a key: an int or a str -/
abbrev Key := Sum Int Str
def keyIs : Key → Value → Bool
  | .inl k, v => Value.isInt k v
  | .inr x, v => Value.isStrOf x v
def keyH (w : World) : Key → Int
  | .inl k => hashInt k
  | .inr x => hashStr w x
theorem keyIs_shape : ∀ {k : Key} {v : Value}, keyIs k v = true → (∃ i t, k = Sum.inl i ∧ v = Value.int i t) ∨ (∃ x t, k = Sum.inr x ∧ v = Value.str x t)
  | .inl i, v, h => by
    obtain ⟨t, e⟩ := Value.isInt_shape (k := i) (v := v) h
    exact .inl ⟨i, t, rfl, e⟩
  | .inr x, v, h => by
    obtain ⟨t, e⟩ := Value.isStrOf_shape (x := x) (v := v) h
    exact .inr ⟨x, t, rfl, e⟩
theorem key_ll (a b : Int) : decide ((Sum.inl a : Key) = Sum.inl b) = (a == b) := by
  by_cases e : a = b
  · subst e; simp
  · have h : ¬ (Sum.inl a : Key) = Sum.inl b := fun q => e (Sum.inl.inj q)
    rw [decide_eq_false h]
    exact (beq_eq_false_iff_ne.mpr e).symm
theorem key_rr (a b : Str) : decide ((Sum.inr a : Key) = Sum.inr b) = decide (a = b) := by
  by_cases e : a = b
  · subst e; simp
  · have h : ¬ (Sum.inr a : Key) = Sum.inr b := fun q => e (Sum.inr.inj q)
    rw [decide_eq_false h, decide_eq_false e]
theorem key_lr (a : Int) (b : Str) : decide ((Sum.inl a : Key) = Sum.inr b) = false := decide_eq_false (fun q => nomatch q)
theorem key_rl (a : Str) (b : Int) : decide ((Sum.inr a : Key) = Sum.inl b) = false := decide_eq_false (fun q => nomatch q)
def mixKind (prog : Program) (w : World) : PySem.KeyKind prog w Key where
  is := keyIs
  hash := keyH w
  inj := fun v a b ha hb => by
    rcases keyIs_shape ha with ⟨i, t, rfl, rfl⟩ | ⟨x, t, rfl, rfl⟩
    · rcases keyIs_shape hb with ⟨j, u, rfl, e⟩ | ⟨y, u, rfl, e⟩
      · injection e with e1 _; rw [e1]
      · exact nomatch e
    · rcases keyIs_shape hb with ⟨j, u, rfl, e⟩ | ⟨y, u, rfl, e⟩
      · exact nomatch e
      · injection e with e1 _; rw [e1]
  byValue := fun k v h => by
    rcases keyIs_shape h with ⟨i, t, rfl, rfl⟩ | ⟨x, t, rfl, rfl⟩ <;> rfl
  pyHash := fun hv h => by
    rcases keyIs_shape hv with ⟨i, t, rfl, rfl⟩ | ⟨x, t, rfl, rfl⟩
    · exact wpAny_pyHash_int h
    · exact wpAny_pyHash_str h
  eqBool := fun hu hv h => by
    rcases keyIs_shape hu with ⟨i, t, rfl, rfl⟩ | ⟨x, t, rfl, rfl⟩
    · rcases keyIs_shape hv with ⟨j, u, rfl, rfl⟩ | ⟨y, u, rfl, rfl⟩
      · rw [key_ll] at h; exact wpAny_eqBool_int h
      · rw [key_lr] at h; exact SeqAt.EqAt.int_str i t y u _ _ _ _ h
    · rcases keyIs_shape hv with ⟨j, u, rfl, rfl⟩ | ⟨y, u, rfl, rfl⟩
      · rw [key_rl] at h; exact SeqAt.EqAt.str_int x t j u _ _ _ _ h
      · rw [key_rr] at h; exact wpAny_eqBool_str h
  «strs» := fun k x t v h => by
    rcases keyIs_shape h with ⟨i, u, rfl, e⟩ | ⟨y, u, rfl, e⟩
    · exact nomatch e
    · injection e with e1 _
      subst e1
      cases v <;> rfl
end L2
namespace L2
open PySem PySem.Spec PyProof.Rows
/-- a value, without the heap -/
inductive V where
  | non | bl (b : Bool) | int (i : Int) | str (x : Str) | byt (b : Array UInt8) | flt (b : UInt64) | ref (a : Addr) | ty (n : String)
  deriving DecidableEq
def RelV : V → Value → Prop
  | .non, u => u = Value.none
  | .bl b, u => u = Value.bool b
  | .int i, u => ∃ t, u = Value.int i t
  | .str x, u => ∃ t, u = Value.str x t
  | .byt b, u => ∃ t, u = Value.bytes b t
  | .flt b, u => ∃ t, u = Value.float b t
  | .ref a, u => u = Value.ref a
  | .ty n, u => u = Value.type n
abbrev Vals : List V → List Value → Prop := Paired RelV
theorem Vals.length {xs : List V} {us : List Value} (r : Vals xs us) : xs.length = us.length := Paired.length r
theorem Vals.get : ∀ {xs : List V} {us : List Value} {i : Nat} {x : V}, Vals xs us → xs[i]? = some x → ∃ u, us[i]? = some u ∧ RelV x u
  | _, _, _, _, .nil, e => by simp at e
  | _, _, 0, _, .cons r _, e => by simp at e; subst e; exact ⟨_, rfl, r⟩
  | _, _, i + 1, x, .cons _ t, e => by
    obtain ⟨u, h1, h2⟩ := Vals.get (i := i) (x := x) t (by simpa using e)
    exact ⟨u, by simpa using h1, h2⟩
theorem Vals.set {x : V} {u : Value} (r : RelV x u) : ∀ {xs : List V} {us : List Value} (i : Nat), Vals xs us → Vals (xs.set i x) (us.set i u)
  | _, _, _, .nil => .nil
  | _, _, 0, .cons _ t => .cons r t
  | _, _, i + 1, .cons q t => .cons q (Vals.set r i t)
theorem Vals.append : ∀ {xs ys : List V} {us ws : List Value}, Vals xs us → Vals ys ws → Vals (xs ++ ys) (us ++ ws)
  | _, _, _, _, .nil, s => s
  | _, _, _, _, .cons r t, s => .cons r (Vals.append t s)
theorem Vals.take : ∀ {xs : List V} {us : List Value} (n : Nat), Vals xs us → Vals (xs.take n) (us.take n)
  | _, _, 0, _ => .nil
  | _, _, _ + 1, .nil => .nil
  | _, _, n + 1, .cons r t => .cons r (Vals.take n t)
theorem Vals.drop : ∀ {xs : List V} {us : List Value} (n : Nat), Vals xs us → Vals (xs.drop n) (us.drop n)
  | _, _, 0, r => r
  | _, _, _ + 1, .nil => .nil
  | _, _, n + 1, .cons _ t => Vals.drop n t
theorem Vals.none_of : ∀ {xs : List V} {us : List Value} {i : Nat}, Vals xs us → xs[i]? = none → us[i]? = none := fun {xs us i} r e => by
  have h1 := r.length
  have h2 : xs.length ≤ i := List.getElem?_eq_none_iff.mp e
  exact List.getElem?_eq_none_iff.mpr (by omega)
def RelO : Option V → Option Value → Prop
  | some v, some u => RelV v u
  | none, none => True
  | _, _ => False
def KV {κ : Type} : List (κ × V) → List (κ × Value) → Prop := Paired fun (p : κ × V) (q : κ × Value) => p.1 = q.1 ∧ RelV p.2 q.2
/-- a key of a dict (00_mix): an int or a text -/
def kV : Key → V
  | .inl i => .int i
  | .inr x => .str x
/-- what stands at a tracked address -/
inductive HO where
  /-- a list -/
  | lst (xs : List V)
  /-- a tuple (never changes) -/
  | tup (xs : List V)
  /-- a dict whose keys are ints and texts; one whose keys are tuples of ints and texts (the empty one is both) -/
  | dK (kvs : List (Key × V)) | dT (kvs : List (List Key × V))
  /-- a set of ints: its members, its size -/
  | set (S : Int → Bool) (n : Nat)
  /-- an instance of the class at C, its dict at dx, its attributes -/
  | ins (C dx : Addr) (fs : List (Str × V))
  /-- the dict of the instance at x -/
  | own (x : Addr)
  /-- the dict of an exception -/
  | xd (fs : List (Str × V))
  /-- a bound method, f of x -/
  | met (f x : Addr)
  /-- a range object lo, lo + 1, .. below hi -/
  | rng (lo hi : Int)
  /-- a thing that is known to the object (the script; a dict while a loop walks it): read, never written while it is so -/
  | frz (o : Obj) (u : HO)
  /-- a code object's table -/
  | tbl (ps : Array Value)
  /-- any other thing, by what is true of its one object (a def of one's own: SetO a S n := HO.ext fun h => ..) -/
  | ext (φ : Heap → Prop)
abbrev Hp := Addr → Option HO
def upd (H : Hp) (a : Addr) (o : HO) : Hp := fun b => if b = a then some o else H b
theorem upd_same {H : Hp} {a : Addr} {o : HO} : upd H a o a = some o := by unfold upd; rw [if_pos rfl]
theorem upd_ne {H : Hp} {a b : Addr} {o : HO} (h : b ≠ a) : upd H a o b = H b := by unfold upd; rw [if_neg h]
/-- two objects of different content stand apart -/
theorem ne_of {H : Hp} {a b : Addr} {o u : HO} (h : H a = some o) (h' : H b = some u) (d : o ≠ u) : a ≠ b := by
  intro e; subst e; rw [h] at h'; exact d (Option.some.inj h')
theorem ne_of_none {H : Hp} {a b : Addr} {o : HO} (h : H a = some o) (h' : H b = none) : a ≠ b := by
  intro e; subst e; rw [h] at h'; cases h'
section
variable (P : Program) (w : World)
def ObjOk (H : Hp) (h : Heap) (a : Addr) : HO → Prop
  | .lst xs => xs.length ≤ sizeLine ∧ ∃ (its : List Value) (n : Nat), Vals xs its ∧ h.get? a = some { cls := .type "list", data := .seq its.toArray n }
  | .tup xs => xs.length ≤ sizeLine ∧ ∃ its : List Value, Vals xs its ∧ IsTup h a its.toArray
  | .dK kvs => kvs.length ≤ sizeLine ∧ (a == sysModules) = false ∧ ∃ vs, KV kvs vs ∧ h.DictOf (mixKind P w) a vs
  | .dT kvs => kvs.length ≤ sizeLine ∧ (a == sysModules) = false ∧ ∃ xs : List (List Key × Addr × Value),
      Paired (fun (p : List Key × V) (q : List Key × Addr × Value) => p.1 = q.1 ∧ H q.2.1 = some (.tup (p.1.map kV)) ∧ RelV p.2 q.2.2) kvs xs ∧
      ∃ o es ep, h.get? a = some o ∧ o.ExactDict ∧ o.data = .dict es ep ∧ es.toList = xs.map (entryOfKey (tupleKind (mixKind P w))) ∧ (xs.map (·.1)).Nodup
  | .set S n => h.SetOf (intKind P w) a S n
  | .ins C dx fs => H dx = some (.own a) ∧ fs.length ≤ 1000 ∧ dx ≠ a ∧ h.get? a = some (PySem.W.instObj C dx) ∧
      ∃ mA, h.Ns1 dx mA ∧ (∀ f, RelO (fs.lookup f) (mA f)) ∧ PySem.Within mA (fs.map (·.1))
  | .own _ => ∃ o, h.get? a = some o
  | .xd fs => ∃ mA, h.Ns1 a mA ∧ ∀ f, RelO (fs.lookup f) (mA f)
  | .rng lo hi => ∃ t u v, h.get? a = some { cls := .type "range", data := .fields #[.int lo t, .int hi u, .int 1 v] }
  | .frz o u => h.get? a = some o ∧ ObjOk H h a u
  | .tbl ps => h.get? a = some { cls := .none, data := .fields ps }
  | .met f x => h.get? a = some (PySem.W.methodObj (.ref f) (.ref x))
  | .ext φ => φ h ∧ (∃ o, h.get? a = some o) ∧ ∀ h1 h2 : Heap, φ h1 → (∀ o, h1.get? a = some o → h2.get? a = some o) → φ h2
/-- the abstract heap is held -/
def HOk (H : Hp) (h : Heap) : Prop := ∀ a o, H a = some o → ObjOk P w H h a o
end
section
variable {P : Program} {w : World} {H H' : Hp} {h h' : Heap} {a : Addr} {o : HO}
theorem ObjOk.lt (x : ObjOk P w H h a o) : a < h.objs.size := by
  cases o with
  | lst xs => obtain ⟨_, _, _, _, e⟩ := x; exact Heap.lt_size e
  | tup xs => obtain ⟨_, _, _, p⟩ := x; exact p.lt
  | dK kvs => obtain ⟨_, _, _, _, o, _, _, e, _⟩ := x; exact Heap.lt_size e
  | dT kvs => obtain ⟨_, _, _, _, o, _, _, e, _⟩ := x; exact Heap.lt_size e
  | set S n => obtain ⟨o, _, _, _, e, _⟩ := x; exact Heap.lt_size e
  | ins C dx fs => obtain ⟨_, _, _, e, _⟩ := x; exact Heap.lt_size e
  | own y => obtain ⟨_, e⟩ := x; exact Heap.lt_size e
  | xd fs => obtain ⟨_, ⟨_, _, _, e, _⟩, _⟩ := x; exact Heap.lt_size e
  | rng lo hi => obtain ⟨_, _, _, e⟩ := x; exact Heap.lt_size e
  | frz ob u => obtain ⟨e, _⟩ := x; exact Heap.lt_size e
  | tbl ps => exact Heap.lt_size (show h.get? a = some _ from x)
  | met f y => exact Heap.lt_size (show h.get? a = some _ from x)
  | ext φ => obtain ⟨_, ⟨_, e⟩, _⟩ := x; exact Heap.lt_size e
theorem Paired.mapP {α β : Type} {F G : α → β → Prop} : ∀ {l₁ : List α} {l₂ : List β}, Paired F l₁ l₂ → (∀ a b, F a b → G a b) → Paired G l₁ l₂
  | _, _, .nil, _ => .nil
  | _, _, .cons r t, f => .cons (f _ _ r) (Paired.mapP t f)
/-- what an object's description leans on: its own object, its own dict, the tuples -/
theorem ObjOk.stay (x : ObjOk P w H h a o) (k : ∀ b u, (b = a ∨ H b = some (.own a)) → h.get? b = some u → h'.get? b = some u)
    (ho : ∀ b, H b = some (.own a) → H' b = some (.own a)) (ht : ∀ b xs, H b = some (.tup xs) → H' b = some (.tup xs)) : ObjOk P w H' h' a o := by
  induction o with
  | lst xs => obtain ⟨z, its, n, r, e⟩ := x; exact ⟨z, its, n, r, k _ _ (.inl rfl) e⟩
  | tup xs => obtain ⟨z, its, r, ob, e, c⟩ := x; exact ⟨z, its, r, ob, k _ _ (.inl rfl) e, c⟩
  | dK kvs => obtain ⟨z, y, vs, r, ob, es, ep, e, c⟩ := x; exact ⟨z, y, vs, r, ob, es, ep, k _ _ (.inl rfl) e, c⟩
  | dT kvs =>
    obtain ⟨z, y, xs, r, ob, es, ep, e, c⟩ := x
    exact ⟨z, y, xs, Paired.mapP r fun p q z => ⟨z.1, ht _ _ z.2.1, z.2.2⟩, ob, es, ep, k _ _ (.inl rfl) e, c⟩
  | set S n => obtain ⟨ob, es, ep, t, e, c⟩ := x; exact ⟨ob, es, ep, t, k _ _ (.inl rfl) e, c⟩
  | ins C dx fs =>
    obtain ⟨d, z, ne, e, mA, ⟨od, es, ep, e2, c⟩, r⟩ := x
    exact ⟨ho _ d, z, ne, k _ _ (.inl rfl) e, mA, ⟨od, es, ep, k _ _ (.inr d) e2, c⟩, r⟩
  | own y => obtain ⟨ob, e⟩ := x; exact ⟨ob, k _ _ (.inl rfl) e⟩
  | xd fs => obtain ⟨mA, ⟨od, es, ep, e, c⟩, r⟩ := x; exact ⟨mA, ⟨od, es, ep, k _ _ (.inl rfl) e, c⟩, r⟩
  | rng lo hi => obtain ⟨t, u, v, e⟩ := x; exact ⟨t, u, v, k _ _ (.inl rfl) e⟩
  | frz ob u ih => obtain ⟨e, q⟩ := x; exact ⟨k _ _ (.inl rfl) e, ih q⟩
  | tbl ps =>
    have e : h.get? a = some { cls := .none, data := .fields ps } := x
    show h'.get? a = some { cls := .none, data := .fields ps }
    exact k a _ (.inl rfl) e
  | met f y =>
    have e : h.get? a = some (PySem.W.methodObj (.ref f) (.ref y)) := x
    show h'.get? a = some (PySem.W.methodObj (.ref f) (.ref y))
    exact k a _ (.inl rfl) e
  | ext φ => obtain ⟨p, ⟨o, e⟩, st⟩ := x; exact ⟨st _ _ p fun o q => k _ _ (.inl rfl) q, ⟨o, k _ _ (.inl rfl) e⟩, st⟩
theorem HOk.lt (x : HOk P w H h) (e : H a = some o) : a < h.objs.size := (x a o e).lt
theorem HOk.fresh (x : HOk P w H h) (e : h.objs.size ≤ a) : H a = none := by
  cases q : H a with
  | none => rfl
  | some u => exact absurd (Nat.lt_of_lt_of_le (x.lt q) e) (Nat.lt_irrefl _)
/-- every object of the heap is kept -/
theorem HOk.kept (x : HOk P w H h) (k : ∀ b u, h.get? b = some u → h'.get? b = some u) : HOk P w H h' := fun a o e =>
  (x a o e).stay (fun b u _ q => k b u q) (fun _ q => q) fun _ _ q => q
/-- a new object is laid and tracked -/
theorem HOk.laid (x : HOk P w H h) (k : ∀ b u, h.get? b = some u → h'.get? b = some u) (hp : h.objs.size ≤ a) (new : ObjOk P w (upd H a o) h' a o) : HOk P w (upd H a o) h' := fun b u e => by
  have hn := x.fresh hp
  by_cases hb : b = a
  · subst hb; rw [upd_same] at e; cases e; exact new
  · rw [upd_ne hb] at e
    exact (x b u e).stay (fun c v _ q => k c v q) (fun c q => by rw [upd_ne (ne_of_none q hn)]; exact q) fun c xs q => by rw [upd_ne (ne_of_none q hn)]; exact q
end
/-- what may be read as u: it is u, or a known u -/
def Rd (H : Hp) (a : Addr) (u : HO) : Prop := H a = some u ∨ ∃ o, H a = some (.frz o u)
theorem Rd.of {H : Hp} {a : Addr} {u : HO} (h : H a = some u) : Rd H a u := .inl h
theorem Rd.ok {P : Program} {w : World} {H : Hp} {h : Heap} {a : Addr} {u : HO} (r : Rd H a u) (x : HOk P w H h) : ObjOk P w H h a u := by
  rcases r with r | ⟨o, r⟩
  · exact x a u r
  · obtain ⟨_, q⟩ := x a _ r
    exact q
/-- what may be written -/
def Mut : Option HO → Prop
  | some (.lst _) => True
  | some (.dK _) => True
  | some (.dT _) => True
  | some (.set _ _) => True
  | some (.ins _ _ _) => True
  | some (.ext _) => True
  | _ => False
section
variable {P : Program} {w : World} {H : Hp} {h h' : Heap} {x e : Addr} {o' : HO}
/-- the object at e is changed: x itself, or the dict of the instance x -/
theorem HOk.write (ok : HOk P w H h) (mu : Mut (H x)) (he : e = x ∨ H e = some (.own x)) (k : ∀ b u, b ≠ e → h.get? b = some u → h'.get? b = some u) (heo : ∃ u, h'.get? e = some u)
    (new : ObjOk P w (upd H x o') h' x o') : HOk P w (upd H x o') h' := fun b u q => by
  have nown : ∀ c y, H c = some (.own y) → c ≠ x := fun c y r z => by subst z; rw [r] at mu; exact mu
  have ntup : ∀ c xs, H c = some (.tup xs) → c ≠ x := fun c xs r z => by subst z; rw [r] at mu; exact mu
  by_cases hb : b = x
  · subst hb; rw [upd_same] at q; cases q; exact new
  · rw [upd_ne hb] at q
    by_cases hbe : b = e
    · have q' : H b = some (.own x) := by
        rcases he with z | z
        · exact absurd (hbe.trans z) hb
        · rw [hbe]; exact z
      rw [q] at q'; cases q'
      obtain ⟨v, hv⟩ := heo
      exact ⟨v, by rw [hbe]; exact hv⟩
    · refine (ok b u q).stay (fun c v hc r => k c v ?_ r) (fun c r => by rw [upd_ne (nown c b r)]; exact r) fun c xs r => by rw [upd_ne (ntup c xs r)]; exact r
      rcases hc with rfl | hc
      · exact hbe
      · rintro rfl
        rcases he with z | z
        · exact nown c b hc z
        · rw [hc] at z; cases z; exact hb rfl
end
/-! ### kept unless tracked; of the frames at fs (the callers') the slots may change (an exception that passes writes there); of the records at ex (iterators) nothing is said -/
structure Un (fs ex : List Addr) (H H' : Hp) (h h' : Heap) : Prop where
  keep : ∀ b o, h.get? b = some o → H b = none → b ∉ fs → b ∉ ex → h'.get? b = some o
  slot : ∀ b o, h.get? b = some o → H b = none → b ∈ fs → b ∉ ex → ∃ sl, h'.get? b = some { o with slots := sl }
  free : ∀ b o, h.get? b = some o → H b = none → b ∉ ex → H' b = none
  there : ∀ b o, h.get? b = some o → b ∉ ex → ∃ o', h'.get? b = some o'
  tups : ∀ b xs, H b = some (.tup xs) → H' b = some (.tup xs)
  frzs : ∀ b o u, H b = some (.frz o u) → H' b = some (.frz o u)
  tbls : ∀ b ps, H b = some (.tbl ps) → ∃ more, H' b = some (.tbl (ps ++ more))
section
variable {fs fs' ex ex' : List Addr} {H H1 H2 : Hp} {h h1 h2 h' : Heap} {a x e : Addr} {o : HO}
theorem Un.any (u : Un fs ex H H1 h h1) {b : Addr} {ob : Obj} (q : h.get? b = some ob) (n : H b = none) (hx : b ∉ ex) : ∃ sl, h1.get? b = some { ob with slots := sl } := by
  by_cases hb : b ∈ fs
  · exact u.slot b ob q n hb hx
  · exact ⟨ob.slots, u.keep b ob q n hb hx⟩
theorem Un.trans (a : Un fs ex H H1 h h1) (b : Un fs ex H1 H2 h1 h2) : Un fs ex H H2 h h2 where
  keep := fun c ob q n hc hx => b.keep c ob (a.keep c ob q n hc hx) (a.free c ob q n hx) hc hx
  slot := fun c ob q n hc hx => by
    obtain ⟨sl, e1⟩ := a.slot c ob q n hc hx
    obtain ⟨sl', e2⟩ := b.slot c _ e1 (a.free c ob q n hx) hc hx
    exact ⟨sl', e2⟩
  free := fun c ob q n hx => by
    obtain ⟨o', e1⟩ := a.there c ob q hx
    exact b.free c o' e1 (a.free c ob q n hx) hx
  there := fun c ob q hx => by
    obtain ⟨o', e1⟩ := a.there c ob q hx
    exact b.there c o' e1 hx
  tups := fun c xs q => b.tups c xs (a.tups c xs q)
  frzs := fun c ob xs q => b.frzs c ob xs (a.frzs c ob xs q)
  tbls := fun c ps q => by
    obtain ⟨m1, e1⟩ := a.tbls c ps q
    obtain ⟨m2, e2⟩ := b.tbls c _ e1
    exact ⟨m1 ++ m2, by rw [e2, Array.append_assoc]⟩
theorem Un.kept (k : ∀ b u, h.get? b = some u → h'.get? b = some u) : Un fs ex H H h h' :=
  ⟨fun b ob q _ _ _ => k b ob q, fun b ob q _ _ _ => ⟨ob.slots, k b ob q⟩, fun _ _ _ n _ => n, fun b ob q _ => ⟨ob, k b ob q⟩, fun _ _ q => q, fun _ _ _ q => q, fun _ ps q => ⟨#[], by rw [q]; simp⟩⟩
theorem Un.refl : Un fs ex H H h h := Un.kept fun _ _ q => q
theorem Un.laid (k : ∀ b u, h.get? b = some u → h'.get? b = some u) (hp : h.objs.size ≤ a) (hn : H a = none) : Un fs ex H (upd H a o) h h' where
  keep := fun b u q _ _ _ => k b u q
  slot := fun b u q _ _ _ => ⟨u.slots, k b u q⟩
  free := fun b u q n _ => by rw [upd_ne (Nat.ne_of_lt (Nat.lt_of_lt_of_le (Heap.lt_size q) hp))]; exact n
  there := fun b u q _ => ⟨u, k b u q⟩
  tups := fun b xs q => by rw [upd_ne (ne_of_none q hn)]; exact q
  frzs := fun b u xs q => by rw [upd_ne (ne_of_none q hn)]; exact q
  tbls := fun b ps q => ⟨#[], by rw [upd_ne (ne_of_none q hn), q]; simp⟩
theorem Un.write (mu : Mut (H x)) (he : e = x ∨ H e = some (.own x)) (k : ∀ b u, b ≠ e → h.get? b = some u → h'.get? b = some u) (heo : ∃ u, h'.get? e = some u) : Un fs ex H (upd H x o) h h' := by
  have hx : ∀ b, H b = none → b ≠ x := fun b n z => by subst z; rw [n] at mu; exact mu
  have hb : ∀ b, H b = none → b ≠ e := fun b n z => by
    subst z
    rcases he with r | r
    · exact hx b n r
    · rw [n] at r; cases r
  have hm : ∀ b u, H b = some u → ¬ Mut (some u) → b ≠ x := fun b u q nm z => by subst z; rw [q] at mu; exact nm mu
  refine ⟨fun b u q n _ _ => k b u (hb b n) q, fun b u q n _ _ => ⟨u.slots, k b u (hb b n) q⟩, fun b u q n _ => by rw [upd_ne (hx b n)]; exact n, fun b u q _ => ?_,
    fun b xs q => by rw [upd_ne (hm b _ q fun z => z)]; exact q, fun b u xs q => by rw [upd_ne (hm b _ q fun z => z)]; exact q, fun b ps q => ⟨#[], by rw [upd_ne (hm b _ q fun z => z), q]; simp⟩⟩
  by_cases hbe : b = e
  · subst hbe; exact heo
  · exact ⟨u, k b u hbe q⟩
theorem Un.mono (u : Un fs ex H H1 h h1) (hs : ∀ b ∈ fs, b ∈ fs') (hx : ∀ b ∈ ex, b ∈ ex') : Un fs' ex' H H1 h h1 :=
  ⟨fun b ob q n hb he => u.keep b ob q n (fun z => hb (hs b z)) fun z => he (hx b z), fun _ _ q n _ he => u.any q n fun z => he (hx _ z), fun b ob q n he => u.free b ob q n fun z => he (hx b z), fun b ob q he => u.there b ob q fun z => he (hx b z), u.tups, u.frzs, u.tbls⟩
end
/-! ### the heap without what is tracked -/
def trk (h : Heap) (H : Hp) : List Addr := (List.range h.objs.size).filter fun a => (H a).isSome
def hidT (h : Heap) (H : Hp) : Heap := PySem.W.hideAll h (trk h H)
theorem hidT_size (h : Heap) (H : Hp) : (hidT h H).objs.size = h.objs.size := PySem.W.hideAll_size _ _
theorem hidT_get {h : Heap} {H : Hp} {b : Addr} {o : Obj} (e : h.get? b = some o) (n : H b = none) : (hidT h H).get? b = some o :=
  PySem.W.hideAll_get _ e fun hm => by
    have q : (H b).isSome = true := (List.mem_filter.mp hm).2
    rw [n] at q; simp at q
theorem of_hidT {h : Heap} {H : Hp} {b : Addr} {o : Obj} (e : (hidT h H).get? b = some o) : h.get? b = some o ∧ H b = none := by
  have e' : h.get? b = some o := PySem.W.of_hideAll (trk h H) e
  refine ⟨e', ?_⟩
  cases q : H b with
  | none => rfl
  | some x =>
    have hm : b ∈ trk h H := List.mem_filter.mpr ⟨List.mem_range.mpr (Heap.lt_size e'), by simp [q]⟩
    have z : (hidT h H).get? b = none := PySem.W.hideAll_none (trk h H) hm
    rw [z] at e; cases e
/-! ### OpenK's ledger, filled with every new object but one -/
def allNews (g h : Heap) (L : Addr) : List (Addr × Obj) := (List.range h.objs.size).filterMap fun a => if a = L ∨ (g.get? a).isSome = true then none else (h.get? a).map fun o => (a, o)
def rest (g h : Heap) (L d : Addr) : List (Addr × Obj) := (allNews g h L).filter fun p => decide (p.1 ≠ d)
end L2
namespace L2
open PySem PySem.Spec PyProof.Rows
/-- the module's facts, over the base: the heap at the law's entry without what is tracked there -/
structure Mod (K : PySem.W.Frag) (mg : Str → Option Value) (base : Heap) : Prop where
  kin : K.In base
  glob : base.Ns mainGlobals mg
  blt : ∃ mb, base.Ns builtinsNs mb ∧ ∀ x : Str, x ≠ "__name__" → mb x = bootBuiltins x
  nolimit : base.NoLimit
/-- the context: a def's body (or a comprehension's block) running. base: fixed through the whole law; s₀, H₀: the entry; outer: the frames whose slots others may change (a def's callers); stack: all frames that run;
   ex: iterators that were made ahead of the entry and are walked here (a comprehension's); fn: the names whose cells were made at the entry (a def: all; a comprehension's block: its own); calm: not within an except suite; pn: pins that every state bears; xe: what is wanted of an exception that leaves the code -/
structure Cx where
  prog : Program
  w : World
  K : PySem.W.Frag
  mg : Str → Option Value
  base : Heap
  A : Around
  N : List Str
  s_0 : Shared
  H_0 : Hp
  env : Env
  outer : List Env
  stack : List Env
  ex : List Addr
  fn : Str → Bool
  calm : Bool
  pn : List (Addr × Obj)
  xe : Value → Shared → Prop
/-- the callers' frames -/
def frs (l : List Env) : List Addr := l.filterMap (·.frame)
abbrev Cx.fs (X : Cx) : List Addr := frs X.outer
def Vis (sc : Scope) (x : Str) : Prop := sc.names.lookup x = some .local ∨ sc.names.lookup x = some .cell ∨ sc.names.lookup x = some .free
def Loc (sc : Scope) (x : Str) : Prop := sc.names.lookup x = some .local ∨ sc.names.lookup x = some .cell
def Look (env : Env) (h : Heap) (m : Str → Option Value) (x : Str) (u : Value) : Prop :=
  (env.kindOf x = some .local ∧ m x = some u) ∨ ((env.kindOf x = some .cell ∨ env.kindOf x = some .free) ∧ ∃ c, env.cells.lookup x = some c ∧ h.IsCell c (some u))
structure Cx.Ok (X : Cx) : Prop where
  mod : Mod X.K X.mg X.base
  kind : X.env.scope.kind = .function
  glob : X.env.globals = mainGlobals
  blt : X.env.builtins = builtinsNs
  above : X.s_0.heap.objs.size ≤ X.env.locals
  inj : ∀ x y c, X.env.cells.lookup x = some c → X.env.cells.lookup y = some c → x = y
  has : ∀ x, (X.env.kindOf x = some .cell ∨ X.env.kindOf x = some .free) → ∃ c, X.env.cells.lookup x = some c
  cab : ∀ x c, X.fn x = true → X.env.cells.lookup x = some c → X.s_0.heap.objs.size ≤ c
  hd : X.calm = true → X.A.handled = none
  frames : X.A.frames = some X.stack
  stk : X.stack = X.outer ∨ (X.stack = X.env :: X.outer ∧ X.env.frame = some X.env.locals)
  exf : ∀ b ∈ X.ex, b ≠ X.env.locals ∧ ∀ x c, X.env.cells.lookup x = some c → c ≠ b
  bs : ∀ b o, X.base.get? b = some o → X.s_0.heap.get? b = some o ∧ X.H_0 b = none
  bsz : X.base.objs.size ≤ X.s_0.heap.objs.size
  noex : ∀ b o, X.base.get? b = some o → b ∉ X.ex
  exfs : ∀ b ∈ X.ex, b ∉ X.fs
  funs : X.s_0.heap.FunFrames X.base X.outer
  frf : ∀ b ∈ X.fs, X.H_0 b = none
structure Inv (X : Cx) (pins : List (Addr × Obj)) (σ : List (Option V)) (H : Hp) (s : Shared) : Prop where
  ok : X.Ok
  os : s.os = X.s_0.os
  bare : AllBare s.gens
  base : Un X.fs X.ex X.H_0 H X.s_0.heap s.heap
  loc : ∃ m, s.heap.Ns X.env.locals m ∧ ∀ (i : Nat) (x : Str) (v : V), X.N[i]? = some x → σ[i]? = some (some v) → Vis X.env.scope x → ∃ u, RelV v u ∧ Look X.env s.heap m x u
  cell : ∀ x c, X.env.cells.lookup x = some c → ∃ v, s.heap.IsCell c v
  free : H X.env.locals = none
  freeC : ∀ x c, X.env.cells.lookup x = some c → H c = none
  pin : ∀ p ∈ X.pn ++ pins, s.heap.get? p.1 = some p.2 ∧ H p.1 = none ∧ p.1 ≠ X.env.locals ∧ p.1 ∉ X.fs ∧ ∀ v, p.2.data ≠ .cell v
  hok : HOk X.prog X.w H s.heap
  len : σ.length = X.N.length
section
variable {X : Cx} {pins : List (Addr × Obj)} {σ : List (Option V)} {H H' : Hp} {s : Shared} {h' : Heap}
theorem Cx.Ok.nofr (ok : X.Ok) {b : Addr} {o : Obj} (e : X.base.get? b = some o) : b ∉ X.fs := fun hb => by
  have := (ok.funs.mem hb).1
  rw [e] at this; cases this
theorem Inv.bs (I : Inv X pins σ H s) : ∀ b o, X.base.get? b = some o → s.heap.get? b = some o ∧ H b = none := fun b o e =>
  ⟨I.base.keep b o (I.ok.bs b o e).1 (I.ok.bs b o e).2 (I.ok.nofr e) (I.ok.noex b o e), I.base.free b o (I.ok.bs b o e).1 (I.ok.bs b o e).2 (I.ok.noex b o e)⟩
theorem Inv.bk (I : Inv X pins σ H s) : ∀ b o, X.base.get? b = some o → s.heap.get? b = some o := fun b o e => (I.bs b o e).1
theorem Inv.mod (I : Inv X pins σ H s) : Mod X.K X.mg X.base := I.ok.mod
theorem Inv.kIn (I : Inv X pins σ H s) : X.K.In s.heap := I.ok.mod.kin.keeps I.bk
theorem Inv.nolimit (I : Inv X pins σ H s) : s.heap.NoLimit := I.ok.mod.nolimit.keeps I.bk
theorem Inv.lt (I : Inv X pins σ H s) : X.env.locals < s.heap.objs.size := let ⟨_, hn, _⟩ := I.loc; hn.lt
theorem Inv.sz (I : Inv X pins σ H s) : X.s_0.heap.objs.size ≤ s.heap.objs.size := Nat.le_trans I.ok.above (Nat.le_of_lt I.lt)
theorem Inv.nofs (I : Inv X pins σ H s) {a : Addr} (h : s.heap.objs.size ≤ a) : a ∉ X.fs := fun hb => by
  obtain ⟨_, o, ho, _⟩ := I.ok.funs.mem hb
  exact absurd (Nat.lt_of_lt_of_le (Heap.lt_size ho) (Nat.le_trans I.sz h)) (Nat.lt_irrefl _)
theorem Inv.cne (I : Inv X pins σ H s) : ∀ x c, X.env.cells.lookup x = some c → c ≠ X.env.locals := fun x c e z => by
  obtain ⟨v, o, ho, hd⟩ := I.cell x c e
  obtain ⟨m, ⟨o', es, ep, ho', hd', _⟩, _⟩ := I.loc
  rw [z, ho'] at ho; cases ho; rw [hd'] at hd; cases hd
theorem Inv.funs (I : Inv X pins σ H s) : s.heap.FunFrames X.base X.outer := by
  have all : ∀ (l : List Env), (∀ b ∈ frs l, b ∈ X.fs) → X.s_0.heap.FunFrames X.base l → s.heap.FunFrames X.base l := by
    intro l
    induction l with
    | nil => intro _ _; trivial
    | cons env r ih =>
      intro hs hl
      obtain ⟨hk, ⟨L, o, hf, hn, ho, hd⟩, hr⟩ := hl
      have hL : L ∈ X.fs := hs L (by unfold frs; rw [List.filterMap_cons, hf]; exact List.mem_cons_self)
      obtain ⟨sl, e⟩ := I.base.slot L o ho (I.ok.frf L hL) hL fun z => I.ok.exfs L z hL
      exact ⟨hk, ⟨L, _, hf, hn, e, hd⟩, ih (fun b hb => hs b (by unfold frs; rw [List.filterMap_cons, hf]; exact List.mem_cons_of_mem _ hb)) hr⟩
  exact all X.outer (fun _ hb => hb) I.ok.funs
/-- the frames that run, for a call -/
theorem Inv.stack (I : Inv X pins σ H s) : s.heap.FunFrames X.base X.stack := by
  rcases I.ok.stk with e | ⟨e, hf⟩
  · rw [e]; exact I.funs
  · rw [e]
    obtain ⟨m, hn, _⟩ := I.loc
    refine .cons (by rw [I.ok.kind]; decide) hf hn ?_ I.funs
    exact Heap.get?_none_of_le (Nat.le_trans I.ok.bsz I.ok.above)
theorem Inv.stkSub (I : Inv X pins σ H s) : ∀ b ∈ frs X.stack, b ∈ X.env.locals :: X.fs := fun b hb => by
  rcases I.ok.stk with e | ⟨e, hf⟩
  · rw [e] at hb; exact List.mem_cons_of_mem _ hb
  · rw [e] at hb
    unfold frs at hb
    rw [List.filterMap_cons, hf] at hb
    exact hb
theorem Inv.stkFree (I : Inv X pins σ H s) : ∀ b ∈ frs X.stack, H b = none := fun b hb => by
  rcases List.mem_cons.mp (I.stkSub b hb) with e | hb
  · rw [e]; exact I.free
  · obtain ⟨_, o, ho, _⟩ := I.ok.funs.mem hb
    exact I.base.free b o ho (I.ok.frf b hb) fun z => I.ok.exfs b z hb
/-- THE STEP: the untracked objects but the frame and the records at ch are kept (the callers' frames up to slots), the frame's map is kept, the new abstract heap is held -/
theorem Inv.step {g' : Array GenState} {t' : Nat} {d' : Drawn} {ch : List Addr} (I : Inv X pins σ H s)
    (hch : ∀ b ∈ ch, (b ∈ X.ex ∨ X.s_0.heap.objs.size ≤ b) ∧ b ≠ X.env.locals ∧ (∀ x c, X.env.cells.lookup x = some c → c ≠ b) ∧ ∀ p ∈ X.pn ++ pins, p.1 ≠ b)
    (keep : ∀ b o, b ≠ X.env.locals → b ∉ X.fs → b ∉ ch → s.heap.get? b = some o → H b = none → h'.get? b = some o)
    (slot : ∀ b o, b ≠ X.env.locals → b ∈ X.fs → b ∉ ch → s.heap.get? b = some o → H b = none → ∃ sl, h'.get? b = some { o with slots := sl }) (free : ∀ b o, b ∉ ch → s.heap.get? b = some o → H b = none → H' b = none)
    (there : ∀ b o, b ∉ ch → s.heap.get? b = some o → ∃ o', h'.get? b = some o')
    (tups : ∀ b xs, H b = some (.tup xs) → H' b = some (.tup xs)) (frzs : ∀ b o u, H b = some (.frz o u) → H' b = some (.frz o u)) (tbls : ∀ b ps, H b = some (.tbl ps) → ∃ more, H' b = some (.tbl (ps ++ more)))
    (ns : ∀ m, s.heap.Ns X.env.locals m → h'.Ns X.env.locals m) (hok : HOk X.prog X.w H' h') (hg : AllBare g') :
    Inv X pins σ H' { s with heap := h', gens := g', drawn := d', toks := t' } := by
  have neL : ∀ b o, X.s_0.heap.get? b = some o → b ≠ X.env.locals := fun b o e => Nat.ne_of_lt (Nat.lt_of_lt_of_le (Heap.lt_size e) I.ok.above)
  have neC : ∀ b o, X.s_0.heap.get? b = some o → b ∉ X.ex → b ∉ ch := fun b o e hx hb => by
    rcases (hch b hb).1 with z | z
    · exact hx z
    · exact absurd (Nat.lt_of_lt_of_le (Heap.lt_size e) z) (Nat.lt_irrefl _)
  have cellK : ∀ x c, X.env.cells.lookup x = some c → ∀ v, s.heap.IsCell c v → h'.IsCell c v := fun x c e v ⟨o, ho, hd⟩ => by
    have nch : c ∉ ch := fun z => (hch c z).2.2.1 x c e rfl
    by_cases hc : c ∈ X.fs
    · obtain ⟨sl, q⟩ := slot c o (I.cne x c e) hc nch ho (I.freeC x c e)
      exact ⟨_, q, hd⟩
    · exact ⟨o, keep c o (I.cne x c e) hc nch ho (I.freeC x c e), hd⟩
  refine ⟨I.ok, I.os, hg, ⟨fun b o e n hb hx => ?_, fun b o e n hb hx => ?_, fun b o e n hx => ?_, fun b o e hx => ?_, fun b xs e => tups b xs (I.base.tups b xs e), fun b o xs e => frzs b o xs (I.base.frzs b o xs e), fun b ps e => ?_⟩, ?_, fun x c e => ?_, ?_, fun x c e => ?_, fun p hp => ?_, hok, I.len⟩
  · exact keep b o (neL b o e) hb (neC b o e hx) (I.base.keep b o e n hb hx) (I.base.free b o e n hx)
  · obtain ⟨sl, e1⟩ := I.base.slot b o e n hb hx
    obtain ⟨sl', e2⟩ := slot b _ (neL b o e) hb (neC b o e hx) e1 (I.base.free b o e n hx)
    exact ⟨sl', e2⟩
  · obtain ⟨o', e1⟩ := I.base.there b o e hx
    exact free b o' (neC b o e hx) e1 (I.base.free b o e n hx)
  · obtain ⟨o', e1⟩ := I.base.there b o e hx
    exact there b o' (neC b o e hx) e1
  · obtain ⟨m1, e1⟩ := I.base.tbls b ps e
    obtain ⟨m2, e2⟩ := tbls b _ e1
    exact ⟨m1 ++ m2, by rw [e2, Array.append_assoc]⟩
  · obtain ⟨m, hn, hl⟩ := I.loc
    refine ⟨m, ns m hn, fun i x v e1 e2 e3 => ?_⟩
    obtain ⟨u, r, l⟩ := hl i x v e1 e2 e3
    refine ⟨u, r, ?_⟩
    rcases l with l | ⟨k, c, e, z⟩
    · exact .inl l
    · exact .inr ⟨k, c, e, cellK x c e _ z⟩
  · obtain ⟨v, z⟩ := I.cell x c e
    exact ⟨v, cellK x c e v z⟩
  · obtain ⟨m, ⟨o, _, _, ho, _⟩, _⟩ := I.loc
    exact free _ o (fun z => (hch _ z).2.1 rfl) ho I.free
  · obtain ⟨v, o, ho, hd⟩ := I.cell x c e
    exact free c o (fun z => (hch c z).2.2.1 x c e rfl) ho (I.freeC x c e)
  · obtain ⟨e, n, ne, nf, d⟩ := I.pin p hp
    have nch : p.1 ∉ ch := fun z => (hch p.1 z).2.2.2 p hp rfl
    exact ⟨keep p.1 p.2 ne nf nch e n, free p.1 p.2 nch e n, ne, nf, d⟩
/-- .. where the frame's own object is kept too -/
theorem Inv.un {t' : Nat} (I : Inv X pins σ H s) (u : Un X.fs [] H H' s.heap h') (hok : HOk X.prog X.w H' h') : Inv X pins σ H' { s with heap := h', toks := t' } := by
  obtain ⟨m, ⟨o, es, ep, ho, r⟩, _⟩ := id I.loc
  obtain ⟨sl, hL⟩ := u.any ho I.free (by simp)
  exact I.step (g' := s.gens) (d' := s.drawn) (ch := []) (fun _ z => nomatch z) (fun b o _ hb _ e n => u.keep b o e n hb (by simp)) (fun b o _ hb _ e n => u.slot b o e n hb (by simp)) (fun b o _ e n => u.free b o e n (by simp)) (fun b o _ e => u.there b o e (by simp)) u.tups u.frzs u.tbls (fun m' hm => by
    obtain ⟨o', es', ep', ho', r'⟩ := hm
    rw [ho] at ho'; cases ho'
    exact ⟨_, es', ep', hL, r'⟩) hok I.bare
/-- behind a call (or a comprehension's block): the slots of this frame may have changed too, the records at ch may have turned -/
theorem Inv.call {g' : Array GenState} {t' : Nat} {d' : Drawn} {ch : List Addr} (I : Inv X pins σ H s) (u : Un (frs X.stack) ch H H' s.heap h') (hok : HOk X.prog X.w H' h') (hg : AllBare g')
    (hch : ∀ b ∈ ch, (b ∈ X.ex ∨ X.s_0.heap.objs.size ≤ b) ∧ b ≠ X.env.locals ∧ (∀ x c, X.env.cells.lookup x = some c → c ≠ b) ∧ ∀ p ∈ X.pn ++ pins, p.1 ≠ b) :
    Inv X pins σ H' { s with heap := h', gens := g', drawn := d', toks := t' } := by
  obtain ⟨m, ⟨o, es, ep, ho, r⟩, _⟩ := id I.loc
  obtain ⟨sl, hL⟩ := u.any ho I.free fun z => (hch _ z).2.1 rfl
  exact I.step (ch := ch) hch (fun b o hL hb hc e n => u.keep b o e n (fun z => (List.mem_cons.mp (I.stkSub b z)).elim hL hb) hc) (fun b o _ _ hc e n => u.any e n hc) (fun b o hc e n => u.free b o e n hc) (fun b o hc e => u.there b o e hc) u.tups u.frzs u.tbls (fun m' hm => by
    obtain ⟨o', es', ep', ho', r'⟩ := hm
    rw [ho] at ho'; cases ho'
    exact ⟨_, es', ep', hL, r'⟩) hok hg
/-- an untracked record of ours (an iterator) has turned -/
theorem Inv.turned {t' : Nat} {it : Addr} (I : Inv X pins σ H s) (k : ∀ b o, b ≠ it → s.heap.get? b = some o → h'.get? b = some o) (hn : H it = none) (hL : it ≠ X.env.locals)
    (h1 : it ∈ X.ex ∨ X.s_0.heap.objs.size ≤ it) (h2 : ∀ x c, X.env.cells.lookup x = some c → c ≠ it) (h3 : ∀ p ∈ X.pn ++ pins, p.1 ≠ it) : Inv X pins σ H { s with heap := h', toks := t' } := by
  have nit : ∀ b u, H b = some u → b ≠ it := fun b u e z => by rw [z, hn] at e; cases e
  refine I.step (g' := s.gens) (d' := s.drawn) (ch := [it]) (fun b hb => ?_) (fun b o _ _ hc e _ => k b o (fun z => hc (by simp [z])) e) (fun b o _ _ hc e _ => ⟨o.slots, k b o (fun z => hc (by simp [z])) e⟩) (fun _ _ _ _ n => n)
    (fun b o hc e => ⟨o, k b o (fun z => hc (by simp [z])) e⟩) (fun _ _ e => e) (fun _ _ _ e => e) (fun b ps e => ⟨#[], by rw [e]; simp⟩) (fun m hm => ?_) (fun b u e => ?_) I.bare
  · have e : b = it := by simpa using hb
    subst e
    exact ⟨h1, hL, h2, h3⟩
  · obtain ⟨o, es, ep, ho, r⟩ := hm
    exact ⟨o, es, ep, k _ o (Ne.symm hL) ho, r⟩
  · refine (I.hok b u e).stay (fun c v hc q => k c v ?_ q) (fun _ q => q) fun _ _ q => q
    rcases hc with z | z
    · rw [z]; exact nit b u e
    · exact nit c _ z
theorem Inv.tok (I : Inv X pins σ H s) (t : Nat) : Inv X pins σ H { s with toks := t } := I.un (h' := s.heap) (t' := t) Un.refl I.hok
/-- all objects kept -/
theorem Inv.kept {t' : Nat} (I : Inv X pins σ H s) (k : ∀ b u, s.heap.get? b = some u → h'.get? b = some u) : Inv X pins σ H { s with heap := h', toks := t' } := I.un (Un.kept k) (I.hok.kept k)
/-- a new object laid and tracked -/
theorem Inv.laid {a : Addr} {o : HO} {t' : Nat} (I : Inv X pins σ H s) (k : ∀ b u, s.heap.get? b = some u → h'.get? b = some u) (hp : s.heap.objs.size ≤ a) (new : ObjOk X.prog X.w (upd H a o) h' a o) :
    Inv X pins σ (upd H a o) { s with heap := h', toks := t' } := I.un (Un.laid k hp (I.hok.fresh hp)) (I.hok.laid k hp new)
/-- an object written -/
theorem Inv.write {x e : Addr} {o : HO} {t' : Nat} (I : Inv X pins σ H s) (mu : Mut (H x)) (he : e = x ∨ H e = some (.own x)) (k : ∀ b u, b ≠ e → s.heap.get? b = some u → h'.get? b = some u) (heo : ∃ u, h'.get? e = some u)
    (new : ObjOk X.prog X.w (upd H x o) h' x o) : Inv X pins σ (upd H x o) { s with heap := h', toks := t' } := I.un (Un.write mu he k heo) (I.hok.write mu he k heo new)
/-- forgetting slots, pins -/
theorem Inv.weak {σ' : List (Option V)} (I : Inv X pins σ H s) (hl : σ'.length = σ.length) (w : ∀ (i : Nat) v, σ'[i]? = some (some v) → σ[i]? = some (some v)) : Inv X pins σ' H s :=
  ⟨I.ok, I.os, I.bare, I.base, let ⟨m, hn, hl'⟩ := I.loc; ⟨m, hn, fun i x v e1 e2 e3 => hl' i x v e1 (w i v e2) e3⟩, I.cell, I.free, I.freeC, I.pin, I.hok, hl.trans I.len⟩
theorem Inv.pins_of {pins' : List (Addr × Obj)} (I : Inv X pins σ H s) (h : ∀ p ∈ pins', s.heap.get? p.1 = some p.2 ∧ H p.1 = none ∧ p.1 ≠ X.env.locals ∧ p.1 ∉ X.fs ∧ ∀ v, p.2.data ≠ .cell v) : Inv X pins' σ H s :=
  ⟨I.ok, I.os, I.bare, I.base, I.loc, I.cell, I.free, I.freeC, fun p hp => (List.mem_append.mp hp).elim (fun z => I.pin p (List.mem_append_left _ z)) (h p), I.hok, I.len⟩
theorem nodup_ix {N : List Str} (hN : N.Nodup) {i j : Nat} {x : Str} (a : N[i]? = some x) (b : N[j]? = some x) : i = j := by
  obtain ⟨h1, e1⟩ := List.getElem?_eq_some_iff.mp a
  obtain ⟨h2, e2⟩ := List.getElem?_eq_some_iff.mp b
  exact (List.getElem_inj hN).mp (e1.trans e2.symm)
/-- a name is stored; what changed -/
theorem store_ok2 {M : Model} {A : Around} {E : Value → Shared → Prop} {i : Nat} {x : Str} {v : V} {u : Value} {Q : Unit → Shared → Prop} (I : Inv X pins σ H s) (hN : X.N.Nodup) (hi : X.N[i]? = some x) (hx : Loc X.env.scope x) (r : RelV v u)
    (h : ∀ s', Inv X pins (σ.set i (some v)) H s' → (∃ a, Heap.SameBut a s.heap s'.heap ∧ (a = X.env.locals ∨ X.env.cells.lookup x = some a)) → Q () s') (hf : X.fn x = true ∨ X.env.scope.names.lookup x = some .local := by first | exact .inl rfl | exact .inr rfl | assumption) : wpAny M A (storeName X.env x u) Q E s := by
  obtain ⟨m, hn, hl⟩ := id I.loc
  have hcls : (X.env.scope.kind == .class || (X.env.scope.kind == .module && X.env.locals != X.env.globals)) = false := by rw [I.ok.kind]; rfl
  have hiσ : i < σ.length := by rw [I.len]; exact (List.getElem?_eq_some_iff.mp hi).1
  have cne := I.cne
  have tracked : ∀ {a : Addr} {h' : Heap}, (∃ o, s.heap.get? a = some o ∧ H a = none) → Heap.SameBut a s.heap h' → HOk X.prog X.w H h' := fun {a h'} ha hs b ob e => by
    obtain ⟨_, _, hfree⟩ := ha
    refine (I.hok b ob e).stay (fun c w' hc q => (hs.2 c ?_).trans q) (fun _ q => q) fun _ _ q => q
    rintro rfl
    rcases hc with rfl | hc
    · rw [hfree] at e; cases e
    · rw [hfree] at hc; cases hc
  rcases hx with hk | hk
  · refine wpAny_storeName_local hk hn (fun h' hn' hs => ?_) hcls
    obtain ⟨oL, _, _, hoL, _⟩ := id hn
    refine h _ ⟨I.ok, I.os, I.bare, ⟨fun b o e n hb hx => ?_, fun b o e n hb hx => ?_, I.base.free, fun b o e hx => ?_, I.base.tups, I.base.frzs, I.base.tbls⟩, ⟨_, hn', fun j y v' e1 e2 e3 => ?_⟩, fun y c e => ?_, I.free, I.freeC, fun p hp => ?_, tracked ⟨oL, hoL, I.free⟩ hs, by simpa using I.len⟩ ⟨_, hs, .inl rfl⟩
    · exact (hs.2 b (Nat.ne_of_lt (Nat.lt_of_lt_of_le (Heap.lt_size e) I.ok.above))).trans (I.base.keep b o e n hb hx)
    · obtain ⟨sl, e1⟩ := I.base.slot b o e n hb hx
      exact ⟨sl, (hs.2 b (Nat.ne_of_lt (Nat.lt_of_lt_of_le (Heap.lt_size e) I.ok.above))).trans e1⟩
    · obtain ⟨o', e1⟩ := I.base.there b o e hx
      exact ⟨o', (hs.2 b (Nat.ne_of_lt (Nat.lt_of_lt_of_le (Heap.lt_size e) I.ok.above))).trans e1⟩
    · by_cases hj : j = i
      · subst hj
        rw [hi] at e1; cases e1
        rw [List.getElem?_set_self hiσ] at e2
        cases e2
        exact ⟨u, r, .inl ⟨hk, by simp⟩⟩
      · rw [List.getElem?_set_ne (Ne.symm hj)] at e2
        obtain ⟨u', r', q⟩ := hl j y v' e1 e2 e3
        refine ⟨u', r', ?_⟩
        rcases q with ⟨k, e⟩ | ⟨k, c, e, z⟩
        · refine .inl ⟨k, ?_⟩
          have : y ≠ x := fun e => hj (nodup_ix hN e1 (e ▸ hi))
          simp [this, e]
        · exact .inr ⟨k, c, e, z.sameBut hs (cne y c e)⟩
    · obtain ⟨w', z⟩ := I.cell y c e
      exact ⟨w', z.sameBut hs (cne y c e)⟩
    · obtain ⟨e, n, ne, nf, d⟩ := I.pin p hp
      exact ⟨(hs.2 p.1 ne).trans e, n, ne, nf, d⟩
  · have hfn : X.fn x = true := by
      rcases hf with z | z
      · exact z
      · rw [z] at hk; cases hk
    obtain ⟨c, hc⟩ := I.ok.has x (.inl hk)
    obtain ⟨w', z⟩ := I.cell x c hc
    refine wpAny_storeName_cell I.ok.kind hk hc z (fun h' hc' hs => ?_)
    obtain ⟨oc, hoc, hocd⟩ := id z
    refine h { s with heap := h' } ⟨I.ok, I.os, I.bare, ⟨fun b o e n hb hx => ?_, fun b o e n hb hx => ?_, I.base.free, fun b o e hx => ?_, I.base.tups, I.base.frzs, I.base.tbls⟩, ⟨m, hn.sameBut hs (Ne.symm (cne x c hc)), fun j y v' e1 e2 e3 => ?_⟩, fun y c' e => ?_, I.free, I.freeC, fun p hp => ?_, tracked ⟨oc, hoc, I.freeC x c hc⟩ hs, by simpa using I.len⟩ ⟨c, hs, .inr hc⟩
    · exact (hs.2 b (Nat.ne_of_lt (Nat.lt_of_lt_of_le (Heap.lt_size e) (I.ok.cab x c hfn hc)))).trans (I.base.keep b o e n hb hx)
    · obtain ⟨sl, e1⟩ := I.base.slot b o e n hb hx
      exact ⟨sl, (hs.2 b (Nat.ne_of_lt (Nat.lt_of_lt_of_le (Heap.lt_size e) (I.ok.cab x c hfn hc)))).trans e1⟩
    · obtain ⟨o', e1⟩ := I.base.there b o e hx
      exact ⟨o', (hs.2 b (Nat.ne_of_lt (Nat.lt_of_lt_of_le (Heap.lt_size e) (I.ok.cab x c hfn hc)))).trans e1⟩
    · by_cases hj : j = i
      · subst hj
        rw [hi] at e1; cases e1
        rw [List.getElem?_set_self hiσ] at e2
        cases e2
        exact ⟨u, r, .inr ⟨.inl hk, c, hc, hc'⟩⟩
      · rw [List.getElem?_set_ne (Ne.symm hj)] at e2
        obtain ⟨u', r', q⟩ := hl j y v' e1 e2 e3
        refine ⟨u', r', ?_⟩
        rcases q with q | ⟨k, c', e, z'⟩
        · exact .inl q
        · refine .inr ⟨k, c', e, z'.sameBut hs ?_⟩
          rintro rfl
          exact hj (nodup_ix hN e1 (I.ok.inj _ _ _ e hc ▸ hi))
    · by_cases hcc : c' = c
      · subst hcc; exact ⟨_, hc'⟩
      · obtain ⟨w2, z2⟩ := I.cell y c' e
        exact ⟨w2, z2.sameBut hs hcc⟩
    · obtain ⟨e, n, ne, nf, d⟩ := I.pin p hp
      refine ⟨(hs.2 p.1 ?_).trans e, n, ne, nf, d⟩
      intro q
      rw [q, hoc] at e
      have q' : oc = p.2 := Option.some.inj e
      exact d w' (by rw [← q']; exact hocd)
theorem store_ok {M : Model} {A : Around} {E : Value → Shared → Prop} {i : Nat} {x : Str} {v : V} {u : Value} {Q : Unit → Shared → Prop} (I : Inv X pins σ H s) (hN : X.N.Nodup) (hi : X.N[i]? = some x) (hx : Loc X.env.scope x) (r : RelV v u)
    (h : ∀ s', Inv X pins (σ.set i (some v)) H s' → Q () s') (hf : X.fn x = true ∨ X.env.scope.names.lookup x = some .local := by first | exact .inl rfl | exact .inr rfl | assumption) : wpAny M A (storeName X.env x u) Q E s :=
  store_ok2 I hN hi hx r (fun s' I' _ => h s' I') hf
/-- behind a call or a block, the state as it is -/
theorem Inv.call' {s' : Shared} {ch : List Addr} (I : Inv X pins σ H s) (ho : s'.os = s.os) (u : Un (frs X.stack) ch H H' s.heap s'.heap) (hok : HOk X.prog X.w H' s'.heap) (hg : AllBare s'.gens)
    (hch : ∀ b ∈ ch, (b ∈ X.ex ∨ X.s_0.heap.objs.size ≤ b) ∧ b ≠ X.env.locals ∧ (∀ x c, X.env.cells.lookup x = some c → c ≠ b) ∧ ∀ p ∈ X.pn ++ pins, p.1 ≠ b) : Inv X pins σ H' s' := by
  obtain ⟨h', g', d', t', o'⟩ := s'
  have e : o' = s.os := ho
  subst e
  exact I.call (g' := g') (t' := t') (d' := d') u hok hg hch
end
/-! ### the judgements -/
/-- an exception: its class, its own dict's address (where it has one), the abstract heap behind it -/
abbrev XK := Value → Option Addr → Hp → Prop
abbrev St := List (Option V)
abbrev VK := V → Hp → Prop
/-- an expression's reading; a test's; an argument list's -/
abbrev TE := St → Hp → VK → Prop
abbrev TT := St → Hp → (Bool → Hp → Prop) → Prop
abbrev TA := St → Hp → (List V → Hp → Prop) → Prop
/-- what is wanted behind a statement -/
structure Ends where
  nx : St → Hp → Prop
  rt : VK
  bk : St → Hp → Prop := fun _ _ => False
  ct : St → Hp → Prop := fun _ _ => False
abbrev TS := Ends → St → Hp → Prop
def EP (X : Cx) (pins : List (Addr × Obj)) (σ : St) (Q : VK) (u : Value) (s' : Shared) : Prop := ∃ v H', Inv X pins σ H' s' ∧ RelV v u ∧ Q v H'
def TP (X : Cx) (pins : List (Addr × Obj)) (σ : St) (Q : Bool → Hp → Prop) (b : Bool) (s' : Shared) : Prop := ∃ H', Inv X pins σ H' s' ∧ Q b H'
def AP (X : Cx) (pins : List (Addr × Obj)) (σ : St) (Q : List V → Hp → Prop) (us : List Value) (s' : Shared) : Prop := ∃ vs H', Inv X pins σ H' s' ∧ Vals vs us ∧ Q vs H'
def SP (X : Cx) (pins : List (Addr × Obj)) (D : Ends) (f : Flow) (s' : Shared) : Prop :=
  match f with
  | .next => ∃ σ' H', Inv X pins σ' H' s' ∧ D.nx σ' H'
  | .brk => ∃ σ' H', Inv X pins σ' H' s' ∧ D.bk σ' H'
  | .cont => ∃ σ' H', Inv X pins σ' H' s' ∧ D.ct σ' H'
  | .ret u => ∃ v σ' H', Inv X pins σ' H' s' ∧ RelV v u ∧ D.rt v H'
def PE (X : Cx) (e : Expr) (t : TE) : Prop :=
  ∀ (pins : List (Addr × Obj)) (s : Shared) (σ : St) (H : Hp) (Q : VK), Inv X pins σ H s → t σ H Q → wpAny (model X.prog X.w) X.A (eval e X.env) (EP X pins σ Q) X.xe s
def PT (X : Cx) (e : Expr) (t : TT) : Prop :=
  ∀ (pins : List (Addr × Obj)) (s : Shared) (σ : St) (H : Hp) (Q : Bool → Hp → Prop), Inv X pins σ H s → t σ H Q → wpAny (model X.prog X.w) X.A (isTrue e X.env (eval e X.env)) (TP X pins σ Q) X.xe s
/-- a test whatever its 'whole' is (and, or) -/
def PW (X : Cx) (e : Expr) (t : TT) : Prop :=
  ∀ (whole : Sem Value) (pins : List (Addr × Obj)) (s : Shared) (σ : St) (H : Hp) (Q : Bool → Hp → Prop), Inv X pins σ H s → t σ H Q → wpAny (model X.prog X.w) X.A (isTrue e X.env whole) (TP X pins σ Q) X.xe s
theorem PW.pt {X : Cx} {e : Expr} {t : TT} (h : PW X e t) : PT X e t := h _
/-- an argument list (no star), from the left -/
def PA (X : Cx) (es : List Expr) (t : TA) : Prop :=
  ∀ (pos : Pos) (pins : List (Addr × Obj)) (s : Shared) (σ : St) (H : Hp) (Q : List V → Hp → Prop), Inv X pins σ H s → t σ H Q → wpAny (model X.prog X.w) X.A (spliced (backTo pos (starEach es X.env))) (AP X pins σ Q) X.xe s
def PS (X : Cx) (st : Stmt) (t : TS) : Prop :=
  ∀ (pins : List (Addr × Obj)) (s : Shared) (σ : St) (H : Hp) (D : Ends), Inv X pins σ H s → t D σ H → wpAny (model X.prog X.w) X.A (exec st X.env) (SP X pins D) X.xe s
def PSs (X : Cx) (st : List Stmt) (t : TS) : Prop :=
  ∀ (pins : List (Addr × Obj)) (s : Shared) (σ : St) (H : Hp) (D : Ends), Inv X pins σ H s → t D σ H → wpAny (model X.prog X.w) X.A (execs st X.env) (SP X pins D) X.xe s
/-- weaken the end -/
theorem thn {α : Type} {t : Sem α} {Q Q' : α → Shared → Prop} {M : Model} {A : Around} {E : Value → Shared → Prop} {s : Shared} (h : wpAny M A t Q E s) (hQ : ∀ a s, Q a s → Q' a s) : wpAny M A t Q' E s := wpAny_mono h hQ fun _ _ x => x
end L2
namespace L2
open PySem PySem.Spec PyProof.Rows
section
variable {X : Cx}
/-! ### names and constants -/
def tVar (i : Nat) : TE := fun σ H Q => ∃ v, σ[i]? = some (some v) ∧ Q v H
def tC (v : V) : TE := fun _ H Q => Q v H
theorem pe_var {i : Nat} {x : Str} {pos : Pos} (hN : X.N[i]? = some x) (hv : Vis X.env.scope x) (hd : (x == ("__debug__" : Str)) = false := by decide) (hcd : (x == ("__classdict__" : Str)) = false := by decide) : PE X (.Name x pos) (tVar i) := by
  intro pins s σ H Q I h
  obtain ⟨v, e, h⟩ := h
  obtain ⟨m, hn, hl⟩ := I.loc
  obtain ⟨u, r, l⟩ := hl i x v hN e hv
  have fin : EP X pins σ Q u s := ⟨v, H, I, r, h⟩
  rcases l with ⟨hk, hm⟩ | ⟨hk, c, hc, hcell⟩
  · exact wpAny_Name (wpAny_loadName_local I.ok.kind hk hn hm fin) hd
  · rcases hk with hk | hk
    · exact wpAny_Name (wpAny_loadName_cell I.ok.kind hk hc hcell fin) hd
    · exact wpAny_Name (wpAny_loadName_free I.ok.kind hk hc hcell fin hcd) hd
theorem pe_int {i j pos} : PE X (.Constant (.int i) j pos) (tC (.int i)) := fun _ _ _ H _ I h => wpAny_Constant_int ⟨.int i, H, I.tok _, ⟨_, rfl⟩, h⟩
theorem pe_bl {b j pos} : PE X (.Constant (.bool b) j pos) (tC (.bl b)) := fun _ _ _ H _ I h => Constant_bool ⟨.bl b, H, I, rfl, h⟩
theorem pe_non {j pos} : PE X (.Constant .none j pos) (tC .non) := fun _ _ _ H _ I h => Constant_none ⟨.non, H, I, rfl, h⟩
theorem pe_str {x j pos} : PE X (.Constant (.str x) j pos) (tC (.str x)) := fun _ _ _ H _ I h => Calls.Constant_str ⟨.str x, H, I.tok _, ⟨_, rfl⟩, h⟩
/-- a global name of the def -/
def Gl (X : Cx) (x : Str) : Prop := X.env.kindOf x = some .globalImplicit
theorem ld_glob {E : Value → Shared → Prop} {pins : List (Addr × Obj)} {s : Shared} {σ : St} {H : Hp} {x : Str} {u : Value} {pos : Pos} {Q : Value → Shared → Prop} (I : Inv X pins σ H s) (hg : Gl X x) (hm : X.mg x = some u) (h : Q u s)
    (hd : (x == ("__debug__" : Str)) = false := by decide) : wpAny (model X.prog X.w) X.A (eval (.Name x pos) X.env) Q E s :=
  Calls.Name_function_global I.ok.kind hg (Calls.loadGlobal_global (by rw [I.ok.glob]; exact I.mod.glob.keeps I.bk) hm h) hd
theorem ld_blt {E : Value → Shared → Prop} {pins : List (Addr × Obj)} {s : Shared} {σ : St} {H : Hp} {x : Str} {u : Value} {pos : Pos} {Q : Value → Shared → Prop} (I : Inv X pins σ H s) (hg : Gl X x) (hm : X.mg x = none) (hv : bootBuiltins x = some u) (h : Q u s)
    (hn : x ≠ "__name__" := by decide) (hd : (x == ("__debug__" : Str)) = false := by decide) : wpAny (model X.prog X.w) X.A (eval (.Name x pos) X.env) Q E s := by
  obtain ⟨mb, h1, h2⟩ := I.mod.blt
  exact Calls.Name_function_global I.ok.kind hg (Calls.loadGlobal_builtin (by rw [I.ok.glob]; exact I.mod.glob.keeps I.bk) hm (by rw [I.ok.blt]; exact h1.keeps I.bk) ((h2 x hn).trans hv) h) hd
/-- a module's constant, a class, a function, as a value -/
theorem pe_glob {x : Str} {v : V} {u : Value} {pos : Pos} (hg : Gl X x) (hm : X.mg x = some u) (r : RelV v u) (hd : (x == ("__debug__" : Str)) = false := by decide) : PE X (.Name x pos) (tC v) :=
  fun _ _ _ H _ I h => ld_glob I hg hm ⟨v, H, I, r, h⟩ hd
theorem pe_bltn {x : Str} {v : V} {u : Value} {pos : Pos} (hg : Gl X x) (hm : X.mg x = none) (hv : bootBuiltins x = some u) (r : RelV v u) (hn : x ≠ "__name__" := by decide) (hd : (x == ("__debug__" : Str)) = false := by decide) : PE X (.Name x pos) (tC v) :=
  fun _ _ _ H _ I h => ld_blt I hg hm hv ⟨v, H, I, r, h⟩ hn hd
variable {a b : Expr} {ta tb : TE} {pos : Pos}
/-- a comparison as a value, as a test -/
def tB (t : TE) : TT := fun σ H Q => t σ H fun x H1 => ∃ c, x = .bl c ∧ Q c H1
/-- an expression whose value is a bool, as a test -/
theorem pt_val {e : Expr} {t : TE} (h : PE X e t) (he : ∀ whole, isTrue e X.env whole = (do let v ← whole; standAt e.pos; holding [v] (truthy v)) := by intro _; rfl) : PT X e (tB t) := by
  intro pins s σ H Q I hw
  refine isTrue_plain (thn (h pins s σ H _ I hw) fun v s1 ⟨x, H1, I1, r1, q1⟩ => ?_) (he _)
  obtain ⟨d, rfl, q⟩ := q1
  cases r1
  exact wpAny_truthy_bool ⟨H1, I1, q⟩
/-! ### and, or, not -/
variable {tA tB' : TT} {rest : List Expr}
def tAnd (t u : TT) : TT := fun σ H Q => t σ H fun c H1 => if c = true then u σ H1 Q else Q false H1
def tOr (t u : TT) : TT := fun σ H Q => t σ H fun c H1 => if c = true then Q true H1 else u σ H1 Q
def tNot (t : TT) : TT := fun σ H Q => t σ H fun c H1 => Q (!c) H1
theorem pw_and1 (ha : PT X a tA) : PW X (.BoolOp .And [a] pos) tA := by
  intro wh pins s σ H Q I h
  refine isTrue_and (thn (ha pins s σ H Q I h) fun c s1 e => ?_)
  cases c with
  | true => exact isTrue_and_nil e
  | false => exact e
theorem pw_or1 (ha : PT X a tA) : PW X (.BoolOp .Or [a] pos) tA := by
  intro wh pins s σ H Q I h
  refine isTrue_or (thn (ha pins s σ H Q I h) fun c s1 e => ?_)
  cases c with
  | false => exact isTrue_or_nil e
  | true => exact e
theorem pw_and (ha : PT X a tA) (hb : PW X (.BoolOp .And (b :: rest) pos) tB') : PW X (.BoolOp .And (a :: b :: rest) pos) (tAnd tA tB') := by
  intro wh pins s σ H Q I h
  refine isTrue_and (thn (ha pins s σ H _ I h) fun c s1 ⟨H1, I1, q1⟩ => ?_)
  cases c with
  | true => exact hb wh pins s1 σ H1 Q I1 q1
  | false => exact ⟨H1, I1, q1⟩
theorem pw_or (ha : PT X a tA) (hb : PW X (.BoolOp .Or (b :: rest) pos) tB') : PW X (.BoolOp .Or (a :: b :: rest) pos) (tOr tA tB') := by
  intro wh pins s σ H Q I h
  refine isTrue_or (thn (ha pins s σ H _ I h) fun c s1 ⟨H1, I1, q1⟩ => ?_)
  cases c with
  | true => exact ⟨H1, I1, q1⟩
  | false => exact hb wh pins s1 σ H1 Q I1 q1
theorem pt_not (ha : PT X a tA) : PT X (.UnaryOp .Not a pos) (tNot tA) := by
  intro pins s σ H Q I h
  exact isTrue_not (ha pins s σ H (fun c H1 => Q (!c) H1) I h)
/-- .. as values (bools) -/
def tAndV (ta tb : TE) : TE := fun σ H Q => ta σ H fun x H1 => ∃ c, x = .bl c ∧ if c = true then tb σ H1 Q else Q (.bl false) H1
theorem pe_one {op} {t : TE} (h : PE X a t) : PE X (.BoolOp op [a] pos) t := fun pins s σ H Q I hw => BoolOp_one (h pins s σ H Q I hw)
theorem pe_and (ha : PE X a ta) (hb : PE X (.BoolOp .And (b :: rest) pos) tb) : PE X (.BoolOp .And (a :: b :: rest) pos) (tAndV ta tb) := by
  intro pins s σ H Q I h
  refine BoolOp_and (thn (ha pins s σ H _ I h) fun v s1 ⟨x, H1, I1, r1, q1⟩ => ?_)
  obtain ⟨c, rfl, q1⟩ := q1
  cases r1
  refine wpAny_truthy_bool ?_
  cases c with
  | true => exact hb pins s1 σ H1 Q I1 q1
  | false => exact ⟨.bl false, H1, I1, rfl, q1⟩
/-- a if t else b -/
def tIf (t : TT) (ta tb : TE) : TE := fun σ H Q => t σ H fun c H1 => if c = true then ta σ H1 Q else tb σ H1 Q
theorem pe_ifExp {c : Expr} (hc : PT X c tA) (ha : PE X a ta) (hb : PE X b tb) : PE X (.IfExp c a b pos) (tIf tA ta tb) := by
  intro pins s σ H Q I h
  refine wpAny_IfExp (thn (hc pins s σ H _ I h) fun d s1 ⟨H1, I1, q1⟩ => ?_)
  cases d with
  | true => exact ha pins s1 σ H1 Q I1 q1
  | false => exact hb pins s1 σ H1 Q I1 q1
end
end L2
namespace L2
open PySem PySem.Spec PyProof.Rows
/-! ### a list, a tuple that is read: tracked, frozen, or an object of the module -/
def SqL (K : PySem.W.Frag) (H : Hp) (a : Addr) (xs : List V) : Prop :=
  Rd H a (.lst xs) ∨
    ∃ (o : Obj) (its : Array Value) (n : Nat), K.lookup a = some o ∧ o.cls = .type "list" ∧ o.dict = none ∧ o.data = .seq its n ∧ its.size ≤ sizeLine ∧ Vals xs its.toList
def SqT (K : PySem.W.Frag) (H : Hp) (a : Addr) (xs : List V) : Prop :=
  Rd H a (.tup xs) ∨
    ∃ (o : Obj) (its : Array Value) (n : Nat), K.lookup a = some o ∧ o.cls = .type "tuple" ∧ o.data = .seq its n ∧ its.size ≤ sizeLine ∧ Vals xs its.toList
def absV : Value → Option V
  | .none => some .non
  | .bool b => some (.bl b)
  | .int i _ => some (.int i)
  | .str x _ => some (.str x)
  | .bytes b _ => some (.byt b)
  | .float b _ => some (.flt b)
  | .ref a => some (.ref a)
  | .type n => some (.ty n)
  | _ => none
theorem RelV.abs {x : V} {u : Value} (r : RelV x u) : absV u = some x := by
  cases x with
  | non => cases r; rfl
  | bl _ => cases r; rfl
  | int _ => obtain ⟨t, rfl⟩ := r; rfl
  | str _ => obtain ⟨t, rfl⟩ := r; rfl
  | byt _ => obtain ⟨t, rfl⟩ := r; rfl
  | flt _ => obtain ⟨t, rfl⟩ := r; rfl
  | ref _ => cases r; rfl
  | ty _ => cases r; rfl
theorem RelV.inj {x y : V} {u : Value} (r : RelV x u) (q : RelV y u) : x = y := Option.some.inj (r.abs.symm.trans q.abs)
theorem Vals.inj : ∀ {xs ys : List V} {us : List Value}, Vals xs us → Vals ys us → xs = ys
  | _, _, _, .nil, .nil => rfl
  | _, _, _, .cons r t, .cons r' t' => by rw [r.inj r', Vals.inj t t']
section
variable {X : Cx} {pins : List (Addr × Obj)} {σ : St} {H : Hp} {s : Shared} {a : Addr} {xs ys : List V}
theorem SqL.of {K : PySem.W.Frag} (h : H a = some (.lst xs)) : SqL K H a xs := .inl (.inl h)
theorem SqT.of {K : PySem.W.Frag} (h : H a = some (.tup xs)) : SqT K H a xs := .inl (.inl h)
theorem Inv.list (I : Inv X pins σ H s) (h : SqL X.K H a xs) : ∃ its : List Value, Vals xs its ∧ PlainL s.heap a its.toArray ∧ xs.length ≤ sizeLine := by
  rcases h with h | ⟨o, its, n, hk, hc, hd, hs, hz, r⟩
  · obtain ⟨z, its, n, r, e⟩ := h.ok I.hok
    exact ⟨its, r, ⟨_, n, e, rfl, rfl, rfl⟩, z⟩
  · refine ⟨its.toList, r, ⟨o, n, I.kIn a o hk, hc, hd, by simpa using hs⟩, ?_⟩
    have e := r.length
    simp only [Array.length_toList] at e
    omega
theorem Inv.tuple (I : Inv X pins σ H s) (h : SqT X.K H a xs) : ∃ its : List Value, Vals xs its ∧ IsTup s.heap a its.toArray ∧ xs.length ≤ sizeLine := by
  rcases h with h | ⟨o, its, n, hk, hc, hs, hz, r⟩
  · obtain ⟨z, its, r, p⟩ := h.ok I.hok
    exact ⟨its, r, p, z⟩
  · refine ⟨its.toList, r, ⟨o, I.kIn a o hk, hc, n, by simpa using hs⟩, ?_⟩
    have e := r.length
    simp only [Array.length_toList] at e
    omega
theorem Inv.list_inj (I : Inv X pins σ H s) (h : SqL X.K H a xs) (h' : SqL X.K H a ys) : xs = ys := by
  obtain ⟨its, r, ⟨o, n, e, _, _, d⟩, _⟩ := I.list h
  obtain ⟨its', r', ⟨o', n', e', _, _, d'⟩, _⟩ := I.list h'
  rw [e] at e'; cases e'
  rw [d] at d'
  injection d' with d1 _
  have : its = its' := by simpa using congrArg Array.toList d1
  subst this
  exact r.inj r'
theorem Inv.tuple_inj (I : Inv X pins σ H s) (h : SqT X.K H a xs) (h' : SqT X.K H a ys) : xs = ys := by
  obtain ⟨its, r, ⟨o, e, _, n, d⟩, _⟩ := I.tuple h
  obtain ⟨its', r', ⟨o', e', _, n', d'⟩, _⟩ := I.tuple h'
  rw [e] at e'; cases e'
  rw [d] at d'
  injection d' with d1 _
  have : its = its' := by simpa using congrArg Array.toList d1
  subst this
  exact r.inj r'
end
/-! ### another wish about exceptions -/
abbrev Cx.wish (X : Cx) (E : Value → Shared → Prop) : Cx := { X with xe := E }
/-- no exception leaves -/
abbrev Cx.nox (X : Cx) : Cx := X.wish fun _ _ => False
theorem Cx.Ok.wish {X : Cx} (ok : X.Ok) (E : Value → Shared → Prop) : (X.wish E).Ok :=
  ⟨ok.mod, ok.kind, ok.glob, ok.blt, ok.above, ok.inj, ok.has, ok.cab, ok.hd, ok.frames, ok.stk, ok.exf, ok.bs, ok.bsz, ok.noex, ok.exfs, ok.funs, ok.frf⟩
theorem Cx.Ok.unwish {X : Cx} {E : Value → Shared → Prop} (ok : (X.wish E).Ok) : X.Ok :=
  ⟨ok.mod, ok.kind, ok.glob, ok.blt, ok.above, ok.inj, ok.has, ok.cab, ok.hd, ok.frames, ok.stk, ok.exf, ok.bs, ok.bsz, ok.noex, ok.exfs, ok.funs, ok.frf⟩
section
variable {X : Cx} {pins : List (Addr × Obj)} {σ : St} {H : Hp} {s : Shared} {E : Value → Shared → Prop}
theorem Inv.wish (I : Inv X pins σ H s) (E : Value → Shared → Prop) : Inv (X.wish E) pins σ H s := ⟨I.ok.wish E, I.os, I.bare, I.base, I.loc, I.cell, I.free, I.freeC, I.pin, I.hok, I.len⟩
theorem Inv.unwish (I : Inv (X.wish E) pins σ H s) : Inv X pins σ H s := ⟨I.ok.unwish, I.os, I.bare, I.base, I.loc, I.cell, I.free, I.freeC, I.pin, I.hok, I.len⟩
theorem SP.unwish {D : Ends} {f : Flow} {s' : Shared} (h : SP (X.wish E) pins D f s') : SP X pins D f s' := by
  cases f with
  | next => obtain ⟨σ', H', I, q⟩ := h; exact ⟨σ', H', I.unwish, q⟩
  | brk => obtain ⟨σ', H', I, q⟩ := h; exact ⟨σ', H', I.unwish, q⟩
  | cont => obtain ⟨σ', H', I, q⟩ := h; exact ⟨σ', H', I.unwish, q⟩
  | ret u => obtain ⟨v, σ', H', I, r, q⟩ := h; exact ⟨v, σ', H', I.unwish, r, q⟩
theorem PE.nox {e : Expr} {t : TE} (h : PE X.nox e t) : PE X e t := fun pins s σ H Q I hw =>
  wpAny_mono (h pins s σ H Q (I.wish _) hw) (fun _ _ ⟨v, H', I', r, q⟩ => ⟨v, H', I'.unwish, r, q⟩) fun _ _ z => False.elim z
theorem PT.nox {e : Expr} {t : TT} (h : PT X.nox e t) : PT X e t := fun pins s σ H Q I hw =>
  wpAny_mono (h pins s σ H Q (I.wish _) hw) (fun _ _ ⟨H', I', q⟩ => ⟨H', I'.unwish, q⟩) fun _ _ z => False.elim z
theorem PSs.nox {st : List Stmt} {t : TS} (h : PSs X.nox st t) : PSs X st t := fun pins s σ H D I hw =>
  wpAny_mono (h pins s σ H D (I.wish _) hw) (fun _ _ q => q.unwish) fun _ _ z => False.elim z
end
/-! ### blocks and small statements -/
section
variable {X : Cx} {st : Stmt} {rest : List Stmt} {t u : TS} {e : Expr} {te : TE} {pos : Pos}
def tNext : TS := fun D σ H => D.nx σ H
def tSeq (t u : TS) : TS := fun D σ H => t { D with nx := u D } σ H
theorem pss_nil : PSs X [] tNext := fun _ _ σ H _ I h => wpAny_execs_nil ⟨σ, H, I, h⟩
theorem pss_cons (h1 : PS X st t) (h2 : PSs X rest u) : PSs X (st :: rest) (tSeq t u) := by
  intro pins s σ H D I h
  refine wpAny_execs_cons (thn (h1 pins s σ H { D with nx := u D } I h) fun f s1 q => ?_)
  cases f with
  | next =>
    obtain ⟨σ', H', I', q⟩ := q
    exact h2 pins s1 σ' H' D I' q
  | ret v => exact q
  | brk => exact q
  | cont => exact q
theorem pss_one (h1 : PS X st t) : PSs X [st] t := by
  intro pins s σ H D I h
  refine wpAny_execs_cons (thn (h1 pins s σ H D I h) fun f s1 q => ?_)
  cases f with
  | next => exact wpAny_execs_nil q
  | ret v => exact q
  | brk => exact q
  | cont => exact q
def tCont : TS := fun D σ H => D.ct σ H
theorem ps_continue : PS X (.Continue pos) tCont := fun _ _ σ H _ I h => wpAny_Continue ⟨σ, H, I, h⟩
/-- in a def's body nothing is shown -/
theorem Inv.quiet {pins : List (Addr × Obj)} {σ : St} {H : Hp} {s : Shared} (I : Inv X pins σ H s) : interactive X.env = false := by simp [interactive, I.ok.kind]
/-- an expression whose value is dropped -/
def tDrop (te : TE) : TS := fun D σ H => te σ H fun _ H1 => D.nx σ H1
theorem ps_expr (he : PE X e te) (hs : swapsWith e none pos.line X.env = pure false := by rfl) : PS X (.Expr e pos) (tDrop te) := by
  intro pins s σ H D I h
  exact wpAny_Expr_any (thn (he pins s σ H _ I h) fun v s1 ⟨x, H1, I1, r1, q1⟩ => ⟨σ, H1, I1, q1⟩) I.quiet hs
def tRet (te : TE) : TS := fun D σ H => te σ H D.rt
theorem ps_ret (he : PE X e te) : PS X (.Return (some e) pos) (tRet te) := by
  intro pins s σ H D I h
  exact wpAny_Return_some (thn (he pins s σ H _ I h) fun v s1 ⟨x, H1, I1, r1, q1⟩ => ⟨x, σ, H1, I1, r1, q1⟩)
def tIfS (c : TT) (t u : TS) : TS := fun D σ H => c σ H fun b H1 => if b = true then t D σ H1 else u D σ H1
theorem ps_if {c : Expr} {a b : List Stmt} {tc : TT} (hc : PT X c tc) (ha : PSs X a t) (hb : PSs X b u) : PS X (.If c a b pos) (tIfS tc t u) := by
  intro pins s σ H D I h
  refine wpAny_If (thn (hc pins s σ H _ I h) fun d s1 ⟨H1, I1, q1⟩ => ?_)
  cases d with
  | true => exact ha pins s1 σ H1 D I1 q1
  | false => exact hb pins s1 σ H1 D I1 q1
/-- code that the proof never comes to -/
def tNever : TS := fun _ _ _ => False
theorem ps_never : PS X st tNever := fun _ _ _ _ _ _ h => h.elim
end
/-! ### targets -/
abbrev TG := V → St → Hp → (St → Hp → Prop) → Prop
abbrev TGs := List V → St → Hp → (St → Hp → Prop) → Prop
def PG (X : Cx) (target : Expr) (t : TG) : Prop :=
  ∀ (pins : List (Addr × Obj)) (s : Shared) (σ : St) (H : Hp) (v : V) (u : Value) (Q : St → Hp → Prop), Inv X pins σ H s → RelV v u → t v σ H Q →
    wpAny (model X.prog X.w) X.A (assign target X.env u) (fun _ s' => ∃ σ' H', Inv X pins σ' H' s' ∧ Q σ' H') X.xe s
/-- several targets, one after another -/
def PGs (X : Cx) (ts : List Expr) (t : TGs) : Prop :=
  ∀ (pins : List (Addr × Obj)) (s : Shared) (σ : St) (H : Hp) (vs : List V) (us : List Value) (Q : St → Hp → Prop), Inv X pins σ H s → Vals vs us → t vs σ H Q →
    wpAny (model X.prog X.w) X.A (assignInOrder ((assignEach ts X.env).map (·.2)) us) (fun _ s' => ∃ σ' H', Inv X pins σ' H' s' ∧ Q σ' H') X.xe s
/-- o[i] = v, by values -/
abbrev TSet := V → V → V → Hp → (Hp → Prop) → Prop
def PSet (X : Cx) (t : TSet) : Prop :=
  ∀ (pins : List (Addr × Obj)) (s : Shared) (σ : St) (H : Hp) (o i v : V) (ov iv u : Value) (Q : Hp → Prop), Inv X pins σ H s → RelV o ov → RelV i iv → RelV v u → t o i v H Q →
    wpAny (model X.prog X.w) X.A (setItem ov iv u) (fun _ s' => ∃ H', Inv X pins σ H' s' ∧ Q H') X.xe s
/-- a op= b, by values -/
abbrev TIp := V → V → Hp → VK → Prop
def PIp (X : Cx) (op : Operator) (t : TIp) : Prop :=
  ∀ (pins : List (Addr × Obj)) (s : Shared) (σ : St) (H : Hp) (x y : V) (v u : Value) (Q : VK), Inv X pins σ H s → RelV x v → RelV y u → t x y H Q →
    wpAny (model X.prog X.w) X.A (inplaceOp op v u) (EP X pins σ Q) X.xe s
section
variable {X : Cx} {pos : Pos}
def gName (i : Nat) : TG := fun v σ H Q => Q (σ.set i (some v)) H
theorem pg_name {i : Nat} {x : Str} (hN : X.N.Nodup) (hi : X.N[i]? = some x) (hx : Loc X.env.scope x) (hf : X.fn x = true ∨ X.env.scope.names.lookup x = some .local := by first | exact .inl rfl | exact .inr rfl | assumption) : PG X (.Name x pos) (gName i) := by
  intro pins s σ H v u Q I r h
  exact wpAny_assign_Name (store_ok I hN hi hx r (fun s' I' => ⟨_, H, I', h⟩) hf)
def gNil : TGs := fun vs σ H Q => vs = [] ∧ Q σ H
def gCons (t : TG) (u : TGs) : TGs := fun vs σ H Q => ∃ v r, vs = v :: r ∧ t v σ H fun σ' H' => u r σ' H' Q
theorem pgs_nil : PGs X [] gNil := by
  intro pins s σ H vs us Q I r h
  obtain ⟨e, h⟩ := h
  subst e
  cases r
  exact assignInOrder_nil ⟨σ, H, I, h⟩
theorem pgs_cons {e : Expr} {es : List Expr} {t : TG} {u : TGs} (h1 : PG X e t) (h2 : PGs X es u)
    (hs : (assignEach (e :: es) X.env).map (·.2) = assign e X.env :: (assignEach es X.env).map (·.2) := by rfl) : PGs X (e :: es) (gCons t u) := by
  intro pins s σ H vs us Q I r h
  obtain ⟨v, vr, e1, h⟩ := h
  subst e1
  cases r with
  | cons r rr =>
    rw [hs]
    refine assignInOrder_cons (thn (h1 pins s σ H _ _ _ I r h) fun _ s1 ⟨σ1, H1, I1, q1⟩ => ?_)
    exact h2 pins s1 σ1 H1 _ _ Q I1 rr q1
/-- (a, b, ..) = a tuple of that length -/
def gTup (K : PySem.W.Frag) (n : Nat) (t : TGs) : TG := fun v σ H Q => ∃ a xs, v = .ref a ∧ SqT K H a xs ∧ xs.length = n ∧ t xs σ H Q
theorem pg_tup {es : List Expr} {k : Nat} {t : TGs} {n : Nat} (hc : X.calm = true) (h : PGs X es t)
    (hn : (assignEach es X.env).length = n := by rfl) (hst : (assignEach es X.env).findIdx? (·.1) = none := by rfl) : PG X (.Tuple es k pos) (gTup X.K n t) := by
  intro pins s σ H v u Q I r hw
  obtain ⟨a, xs, e1, hq, hl, hw⟩ := hw
  subst e1
  cases r
  obtain ⟨its, rv, ht, hz⟩ := I.tuple hq
  refine assign_Tuple_tuple (I.ok.hd hc) ht (by simp [hn, ← hl, rv.length]) hst fun h' hx => ?_
  have I1 : Inv X pins σ H { s with heap := h' } := I.kept (t' := s.toks) fun b o e => hx b o (Nat.ne_of_lt (Heap.lt_size e)) e
  exact h pins _ σ H xs _ Q I1 (by simpa using rv) hw
/-- o[i] = .. -/
def gSub (to ti : TE) (t : TSet) : TG := fun v σ H Q => to σ H fun o H1 => ti σ H1 fun i H2 => t o i v H2 fun H3 => Q σ H3
theorem pg_sub {o i : Expr} {to ti : TE} {t : TSet} (ho : PE X o to) (hi : PE X i ti) (hs : PSet X t)
    (ha : ∀ v, assign (.Subscript o i pos) X.env v = (do
      let ov ← holding [v] (eval o X.env)
      let iv ← holding [v, ov] (eval i X.env)
      standAt pos
      holding [v, ov, iv] (setItem ov iv v)
      release [v, ov, iv] []) := by intro _; rfl) : PG X (.Subscript o i pos) (gSub to ti t) := by
  intro pins s σ H v u Q I r h
  rw [ha]
  refine wpAny_bind (wpAny_holding (thn (ho pins s σ H _ I h) fun ov s1 ⟨x, H1, I1, r1, q1⟩ => ?_))
  refine wpAny_bind (wpAny_holding (thn (hi pins s1 σ H1 _ I1 q1) fun iv s2 ⟨y, H2, I2, r2, q2⟩ => ?_))
  refine wpAny_bind (wpAny_standAt (wpAny_bind (wpAny_holding (thn (hs pins s2 σ H2 x y v ov iv u _ I2 r1 r2 r q2) fun _ s3 ⟨H3, I3, q3⟩ => ?_))))
  exact wpAny_release ⟨σ, H3, I3, q3⟩
/-- target = value -/
def tAsg (te : TE) (g : TG) : TS := fun D σ H => te σ H fun x H1 => g x σ H1 D.nx
theorem ps_asg {tg e : Expr} {te : TE} {g : TG} (he : PE X e te) (hg : PG X tg g) (hs : swapsWithSole [tg] e pos.line X.env = pure false := by rfl) (hw : swappedStores [tg] e X.env = pure none := by rfl)
    (h1 : (assignEach [tg] X.env).map (·.2) = [assign tg X.env] := by rfl) : PS X (.Assign [tg] e pos) (tAsg te g) := by
  intro pins s σ H D I h
  refine wpAny_Assign_stores (thn (he pins s σ H _ I h) fun v s1 ⟨x, H1, I1, r1, q1⟩ => ?_) hs hw
  rw [h1]
  exact thn (hg pins s1 σ H1 x v _ I1 r1 q1) fun _ s2 q => q
/-- name = value -/
theorem ps_set {i : Nat} {x : Str} {e : Expr} {te : TE} {pos' : Pos} (hN : X.N.Nodup) (hi : X.N[i]? = some x) (hx : Loc X.env.scope x) (he : PE X e te) (hs : swapsWith e (some (.Name x pos')) pos.line X.env = pure false := by rfl) (hf : X.fn x = true ∨ X.env.scope.names.lookup x = some .local := by first | exact .inl rfl | exact .inr rfl | assumption) :
    PS X (.Assign [.Name x pos'] e pos) (tAsg te (gName i)) := by
  intro pins s σ H D I h
  refine wpAny_Assign_Name (thn (he pins s σ H _ I h) fun v s1 ⟨y, H1, I1, r1, q1⟩ => ?_) hs
  exact store_ok I1 hN hi hx r1 (fun s2 I2 => ⟨_, H1, I2, q1⟩) hf
/-- name op= e -/
def tAug (i : Nat) (te : TE) (ti : TIp) : TS := fun D σ H => ∃ x, σ[i]? = some (some x) ∧ te σ H fun y H1 => ti x y H1 fun z H2 => D.nx (σ.set i (some z)) H2
theorem ps_aug {i : Nat} {x : Str} {e : Expr} {te : TE} {op : Operator} {ti : TIp} {pos' : Pos} (hN : X.N.Nodup) (hi : X.N[i]? = some x) (hx : Loc X.env.scope x) (he : PE X e te) (ho : PIp X op ti) (hf : X.fn x = true ∨ X.env.scope.names.lookup x = some .local := by first | exact .inl rfl | exact .inr rfl | assumption) :
    PS X (.AugAssign (.Name x pos') op e pos) (tAug i te ti) := by
  intro pins s σ H D I h
  obtain ⟨v, e1, h⟩ := h
  obtain ⟨m, hn, hl⟩ := I.loc
  have vis : Vis X.env.scope x := by rcases hx with k | k; exact .inl k; exact .inr (.inl k)
  obtain ⟨u, r, l⟩ := hl i x v hi e1 vis
  refine wpAny_AugAssign_Name ?_
  have go : wpAny (model X.prog X.w) X.A (eval e X.env) (fun w s₂ => wpAny (model X.prog X.w) X.A (inplaceOp op u w) (fun r s₃ => wpAny (model X.prog X.w) X.A (storeName X.env x r) (fun _ => SP X pins D .next) X.xe s₃) X.xe s₂) X.xe s := by
    refine thn (he pins s σ H _ I h) fun w s1 ⟨y, H1, I1, r1, q1⟩ => ?_
    refine thn (ho pins s1 σ H1 v y u w _ I1 r r1 q1) fun z s2 ⟨zv, H2, I2, r2, q2⟩ => ?_
    exact store_ok I2 hN hi hx r2 (fun s3 I3 => ⟨_, H2, I3, q2⟩) hf
  rcases l with ⟨hk, hm⟩ | ⟨hk, c, hc, hcell⟩
  · exact wpAny_loadName_local I.ok.kind hk hn hm go
  · rcases hk with hk | hk
    · exact wpAny_loadName_cell I.ok.kind hk hc hcell go
    · rcases hx with k | k
      · have : X.env.scope.names.lookup x = some .free := hk
        rw [k] at this; cases this
      · have : X.env.scope.names.lookup x = some .free := hk
        rw [k] at this; cases this
/-- ints -/
def ipI (f : Int → Int → Int) : TIp := fun x y H Q => ∃ i j, x = .int i ∧ y = .int j ∧ Q (.int (f i j)) H
theorem ip_add : PIp X .Add (ipI fun i j => i + j) := by
  intro pins s σ H x y v u Q I r1 r2 h
  obtain ⟨i, j, e1, e2, q⟩ := h
  subst e1; subst e2
  obtain ⟨t, rfl⟩ := r1
  obtain ⟨t', rfl⟩ := r2
  exact iadd_int ⟨.int _, H, I.tok _, ⟨_, rfl⟩, q⟩
end
/-! ### while -/
section
variable {X : Cx} {pos : Pos}
/-- the invariant W with its measure -/
def tWhile (c : TT) (tb : TS) : TS := fun D σ H => ∃ W : Nat → St → Hp → Prop, (∃ m, W m σ H) ∧ ∀ m σ H, W m σ H →
  c σ H fun b H1 => if b = true then ∃ N : St → Hp → Prop, (∀ σ' H', N σ' H' → ∃ m', m' < m ∧ W m' σ' H') ∧ tb { D with nx := N, ct := N, bk := D.nx } σ H1 else D.nx σ H1
theorem ps_while {c : Expr} {body : List Stmt} {tc : TT} {tb : TS} (hp : PassesOwn (model X.prog X.w) X.A X.env X.xe) (hc : PT X c tc) (hb : PSs X body tb) : PS X (.While c body [] pos) (tWhile tc tb) := by
  intro pins s σ H D I h
  obtain ⟨W, ⟨m0, w0⟩, turn⟩ := h
  refine wpAny_While (codeAny_whileLoop (fun n s' => ∃ σ' H', Inv X pins σ' H' s' ∧ W n σ' H') ?_ m0 ⟨σ, H, I, w0⟩)
  rintro n s1 ⟨σ1, H1, I1, w1⟩
  refine wpAny_passesOwn hp (thn (hc pins s1 σ1 H1 _ I1 (turn n σ1 H1 w1)) fun b s2 ⟨H2, I2, q2⟩ => ?_)
  cases b with
  | true =>
    obtain ⟨N, hN, q2⟩ := q2
    rw [if_pos rfl]
    refine wpAny_passesOwn hp (thn (hb pins s2 σ1 H2 _ I2 q2) fun f s3 q3 => ?_)
    cases f with
    | next =>
      obtain ⟨σ3, H3, I3, n3⟩ := q3
      obtain ⟨m', hm, w3⟩ := hN σ3 H3 n3
      exact ⟨m', hm, σ3, H3, I3, w3⟩
    | cont =>
      obtain ⟨σ3, H3, I3, n3⟩ := q3
      obtain ⟨m', hm, w3⟩ := hN σ3 H3 n3
      exact ⟨m', hm, σ3, H3, I3, w3⟩
    | brk => exact q3
    | ret v => exact q3
  | false =>
    rw [if_neg Bool.false_ne_true]
    exact wpAny_execs_nil ⟨σ1, H2, I2, q2⟩
end
/-! ### what a loop or a comprehension walks -/
/-- at turn i: it yields x (the heap may grow), or it stops -/
structure It where
  go : Nat → Hp → Prop
  yld : Nat → Hp → V → Hp → Prop
  stop : Nat → Hp → Prop
/-- the iterator's own objects may turn: they are not the frame's, not pinned, younger than the entry (or a comprehension's own) -/
def FpOk (X : Cx) (pins : List (Addr × Obj)) (H : Hp) (b : Addr) : Prop :=
  H b = none ∧ b ≠ X.env.locals ∧ b ∉ X.fs ∧ (b ∈ X.ex ∨ X.s_0.heap.objs.size ≤ b) ∧ (∀ x c, X.env.cells.lookup x = some c → c ≠ b) ∧ ∀ p ∈ X.pn ++ pins, p.1 ≠ b
theorem Inv.fpOk {X : Cx} {pins : List (Addr × Obj)} {σ : St} {H H' : Hp} {s : Shared} {b : Addr} (I : Inv X pins σ H s) (hb : s.heap.objs.size ≤ b) (hn : H' b = none) : FpOk X pins H' b := by
  refine ⟨hn, Nat.ne_of_gt (Nat.lt_of_lt_of_le I.lt hb), I.nofs hb, .inr (Nat.le_trans I.sz hb), fun x c e z => ?_, fun p hp z => ?_⟩
  · obtain ⟨v, q⟩ := I.cell x c e
    exact absurd (Nat.lt_of_lt_of_le q.lt (by rw [z]; exact hb)) (Nat.lt_irrefl _)
  · exact absurd (Nat.lt_of_lt_of_le (Heap.lt_size (I.pin p hp).1) (by rw [z]; exact hb)) (Nat.lt_irrefl _)
structure Turn (P : Program) (w : World) (K : PySem.W.Frag) (tg : Expr) (J : It) (fp : List Addr) (it : Addr) (tn : Nat → Heap → Prop) : Prop where
  mem : it ∈ fp
  obj : ∀ i h, tn i h → ∀ b ∈ fp, ∃ o, h.get? b = some o ∧ ∀ v, o.data ≠ .cell v
  keep : ∀ i h h', tn i h → (∀ b ∈ fp, ∀ o, h.get? b = some o → h'.get? b = some o) → tn i h'
  item : ∀ (X : Cx), X.prog = P → X.w = w → X.K = K → X.calm = true → ∀ (i : Nat) (pins : List (Addr × Obj)) (s : Shared) (σ : St) (H : Hp) (E : Value → Shared → Prop), Inv X pins σ H s → (∀ b ∈ fp, FpOk X pins H b) → tn i s.heap → J.go i H →
    wpAny (model P w) X.A (pyNext (.ref it)) (fun r s1 => ∃ u, r = some u ∧
      wpAny (model P w) X.A (letOwnedTupleGo tg (.ref it) u) (fun _ s2 => ∃ x H', Inv X pins σ H' s2 ∧ RelV x u ∧ J.yld i H x H' ∧ tn (i + 1) s2.heap ∧ ∀ b ∈ fp, H' b = none) E s1) E s
  done : ∀ (X : Cx), X.prog = P → X.w = w → X.K = K → X.calm = true → ∀ (i : Nat) (pins : List (Addr × Obj)) (s : Shared) (σ : St) (H : Hp) (E : Value → Shared → Prop), Inv X pins σ H s → (∀ b ∈ fp, FpOk X pins H b) → tn i s.heap → J.stop i H →
    wpAny (model P w) X.A (pyNext (.ref it)) (fun r s1 => r = none ∧ Inv X pins σ H s1) E s
  self : ∀ (A : Around) (i : Nat) (s : Shared) (Q : Value → Shared → Prop) (E : Value → Shared → Prop), tn i s.heap → Q (.ref it) s → wpAny (model P w) A (pyIter (.ref it)) Q E s
abbrev TI := St → Hp → (It → Hp → Prop) → Prop
/-- an iterator has come -/
def PIE (X : Cx) (pins : List (Addr × Obj)) (σ : St) (tg : Expr) (R : It → Hp → Prop) (itv : Value) (s2 : Shared) : Prop :=
  ∃ (it : Addr) (fp : List Addr) (tn : Nat → Heap → Prop) (J : It) (H' : Hp), itv = .ref it ∧ Inv X pins σ H' s2 ∧ Turn X.prog X.w X.K tg J fp it tn ∧ tn 0 s2.heap ∧ (∀ b ∈ fp, FpOk X pins H' b) ∧ R J H'
def PI (X : Cx) (tg iter : Expr) (wi : TI) : Prop :=
  ∀ (pins : List (Addr × Obj)) (s : Shared) (σ : St) (H : Hp) (R : It → Hp → Prop), Inv X pins σ H s → wi σ H R →
    wpAny (model X.prog X.w) X.A (eval iter X.env) (fun v s1 => wpAny (model X.prog X.w) X.A (pyIter v) (PIE X pins σ tg R) X.xe s1) X.xe s
/-- the step ahead of the store is nothing for an iterator that keeps no tuple -/
theorem go_of {M : Model} {A : Around} {E : Value → Shared → Prop} {s : Shared} {tg : Expr} {it : Addr} {u : Value} {o : Obj} {n : String} {vs : Array Value} {Q : Unit → Shared → Prop} (ho : s.heap.get? it = some o) (hc : o.cls = .type n) (hd : o.data = .fields vs)
    (hn : ["enumerate", "zip", "dict_itemiterator", "dict_reverseitemiterator", "odict_iterator", "itertools.zip_longest", "itertools.pairwise"].contains n = false) (hQ : Q () s) : wpAny M A (letOwnedTupleGo tg (.ref it) u) Q E s := by
  unfold letOwnedTupleGo
  cases tg <;> first
    | exact wpAny_pure hQ
    | (cases u <;> first
        | exact wpAny_pure hQ
        | (refine wpAny_bind (wpAny_load ho ?_)
           rw [hc, hd]
           show wpAny M A (if (["enumerate", "zip", "dict_itemiterator", "dict_reverseitemiterator", "odict_iterator", "itertools.zip_longest", "itertools.pairwise"].contains n && vs[0]? == some (rawInt _)) = true then _ else _) Q E s
           rw [if_neg (by intro h; rw [hn, Bool.false_and] at h; cases h)]
           exact wpAny_pure hQ))
/-- the list at a, as it stands at each turn (a loop may append to it) -/
def Itl (K : PySem.W.Frag) (a : Addr) : It :=
  ⟨fun i H => ∃ xs x, SqL K H a xs ∧ xs[i]? = some x, fun i H x H' => H' = H ∧ ∀ xs, SqL K H a xs → xs[i]? = some x, fun i H => ∃ xs, SqL K H a xs ∧ xs.length ≤ i⟩
def Itt (K : PySem.W.Frag) (a : Addr) : It :=
  ⟨fun i H => ∃ xs x, SqT K H a xs ∧ xs[i]? = some x, fun i H x H' => H' = H ∧ ∀ xs, SqT K H a xs → xs[i]? = some x, fun i H => ∃ xs, SqT K H a xs ∧ xs.length ≤ i⟩
/-- lo, lo + 1, .. (n of them) -/
def Itr (lo : Int) (n : Nat) : It := ⟨fun i _ => i < n, fun i H x H' => H' = H ∧ x = .int (lo + i), fun i _ => n ≤ i⟩
theorem turn_list {P : Program} {w : World} {K : PySem.W.Frag} {tg : Expr} (a it : Addr) : Turn P w K tg (Itl K a) [it] it (fun i h => h.IsListIter it a i) where
  mem := by simp
  obj := fun i h st b hb => by
    have e : b = it := by simpa using hb
    subst e
    obtain ⟨o, e, c, d⟩ := st
    exact ⟨o, e, fun v z => by rw [d] at z; cases z⟩
  keep := fun i h h' st k => st.at fun o e => k it (by simp) o e
  item := by
    intro X hP hw hK hc i pins s σ H E I hf st hg
    subst hP hw hK
    obtain ⟨xs, x, hq, hx⟩ := hg
    obtain ⟨its, rv, p, hz⟩ := I.list hq
    obtain ⟨u, hu, ru⟩ := rv.get hx
    obtain ⟨f0, f1, f2, f3, f4, f5⟩ := hf it (by simp)
    refine wpAny_pyNext_list_item st p.isList (x := u) (by simpa using hu) fun h' st' sb => ?_
    have I1 : Inv X pins σ H { s with heap := h' } := I.turned (t' := s.toks) (fun b o hb e => (sb.2 b hb).trans e) f0 f1 f3 f4 f5
    obtain ⟨o, e, c, d⟩ := id st'
    exact ⟨u, rfl, go_of (s := { s with heap := h' }) e c d (by decide) ⟨x, H, I1, ru, ⟨rfl, fun ys hy => by rw [I.list_inj hy hq]; exact hx⟩, st', fun b hb => (hf b hb).1⟩⟩
  done := by
    intro X hP hw hK hc i pins s σ H E I hf st hg
    subst hP hw hK
    obtain ⟨xs, hq, hx⟩ := hg
    obtain ⟨its, rv, p, hz⟩ := I.list hq
    obtain ⟨f0, f1, f2, f3, f4, f5⟩ := hf it (by simp)
    have hl := rv.length
    exact wpAny_pyNext_list_end (I.ok.hd hc) st p.isList (by simp; omega) fun h' eb => ⟨rfl, I.turned (t' := s.toks) (fun b o hb e => eb b o hb e) f0 f1 f3 f4 f5⟩
  self := fun _ _ _ _ _ st h => wpAny_pyIter_listiter st h
theorem turn_tuple {P : Program} {w : World} {K : PySem.W.Frag} {tg : Expr} (a it : Addr) : Turn P w K tg (Itt K a) [it] it (fun i h => h.IsTupleIter it a i) where
  mem := by simp
  obj := fun i h st b hb => by
    have e : b = it := by simpa using hb
    subst e
    obtain ⟨o, e, c, d⟩ := st
    exact ⟨o, e, fun v z => by rw [d] at z; cases z⟩
  keep := fun i h h' st k => st.at fun o e => k it (by simp) o e
  item := by
    intro X hP hw hK hc i pins s σ H E I hf st hg
    subst hP hw hK
    obtain ⟨xs, x, hq, hx⟩ := hg
    obtain ⟨its, rv, p, hz⟩ := I.tuple hq
    obtain ⟨u, hu, ru⟩ := rv.get hx
    obtain ⟨f0, f1, f2, f3, f4, f5⟩ := hf it (by simp)
    refine wpAny_pyNext_tuple_item st (show s.heap.IsTuple a its.toArray from p) (x := u) (by simpa using hu) fun h' st' sb => ?_
    have I1 : Inv X pins σ H { s with heap := h' } := I.turned (t' := s.toks) (fun b o hb e => (sb.2 b hb).trans e) f0 f1 f3 f4 f5
    obtain ⟨o, e, c, d⟩ := id st'
    exact ⟨u, rfl, go_of (s := { s with heap := h' }) e c d (by decide) ⟨x, H, I1, ru, ⟨rfl, fun ys hy => by rw [I.tuple_inj hy hq]; exact hx⟩, st', fun b hb => (hf b hb).1⟩⟩
  done := by
    intro X hP hw hK hc i pins s σ H E I hf st hg
    subst hP hw hK
    obtain ⟨xs, hq, hx⟩ := hg
    obtain ⟨its, rv, p, hz⟩ := I.tuple hq
    obtain ⟨f0, f1, f2, f3, f4, f5⟩ := hf it (by simp)
    have hl := rv.length
    exact wpAny_pyNext_tuple_end (I.ok.hd hc) st (show s.heap.IsTuple a its.toArray from p) (by simp; omega) fun h' eb => ⟨rfl, I.turned (t' := s.toks) (fun b o hb e => eb b o hb e) f0 f1 f3 f4 f5⟩
  self := fun _ _ _ _ _ st h => wpAny_pyIter_tupleiter st h
theorem turn_range {P : Program} {w : World} {K : PySem.W.Frag} {tg : Expr} (it : Addr) (lo : Int) (n : Nat) : Turn P w K tg (Itr lo n) [it] it (fun i h => IsRangeIter h it (lo + (i : Nat) * 1) ((n : Int) - (i : Nat)) 1) where
  mem := by simp
  obj := fun i h st b hb => by
    have e : b = it := by simpa using hb
    subst e
    exact ⟨_, st, fun v z => by
      have z' : Data.fields _ = Data.cell v := z
      cases z'⟩
  keep := fun i h h' st k => k it (by simp) _ st
  item := by
    intro X hP hw hK hc i pins s σ H E I hf st hg
    subst hP hw hK
    obtain ⟨f0, f1, f2, f3, f4, f5⟩ := hf it (by simp)
    have W := Walks.range (prog := X.prog) (w := X.w) (I.ok.hd hc) it lo 1 n
    refine W.item i s _ _ hg st fun v h' tk hv st' kk => ?_
    obtain ⟨t, rfl⟩ := hv
    have I1 : Inv X pins σ H { s with heap := h', toks := tk } := I.turned (fun b o hb e => kk b o (by simpa using hb) e) f0 f1 f3 f4 f5
    refine ⟨_, rfl, go_of (s := { s with heap := h', toks := tk }) (n := "range_iterator") st' rfl rfl (by decide) ⟨.int (lo + i), H, I1, ⟨t, ?_⟩, ⟨rfl, rfl⟩, st', fun b hb => (hf b hb).1⟩⟩
    rw [Int.mul_one]
  done := by
    intro X hP hw hK hc i pins s σ H E I hf st hg
    subst hP hw hK
    obtain ⟨f0, f1, f2, f3, f4, f5⟩ := hf it (by simp)
    exact wpAny_pyNext_range_end (I.ok.hd hc) st (by have : n ≤ i := hg; omega) fun h' eb => ⟨rfl, I.turned (t' := s.toks) (fun b o hb e => eb b o hb e) f0 f1 f3 f4 f5⟩
  self := fun _ _ _ _ _ st h => wpAny_pyIter_rangeiter st h
end L2
namespace L2
open PySem PySem.Spec PyProof.Rows
section
variable {X : Cx} {tg : Expr}
def iList (K : PySem.W.Frag) (tl : TE) : TI := fun σ H R => tl σ H fun x H1 => ∃ a, x = .ref a ∧ (∃ xs, SqL K H1 a xs) ∧ R (Itl K a) H1
def iTup (K : PySem.W.Frag) (tl : TE) : TI := fun σ H R => tl σ H fun x H1 => ∃ a, x = .ref a ∧ (∃ xs, SqT K H1 a xs) ∧ R (Itt K a) H1
theorem pi_list {l : Expr} {tl : TE} (hl : PE X l tl) : PI X tg l (iList X.K tl) := by
  intro pins s σ H R I h
  refine thn (hl pins s σ H _ I h) fun v s1 ⟨x, H1, I1, r1, q1⟩ => ?_
  obtain ⟨a, e, ⟨xs, hq⟩, q⟩ := q1
  subst e
  cases r1
  obtain ⟨its, rv, p, hz⟩ := I1.list hq
  refine wpAny_pyIter_list p.isList ?_
  refine ⟨s1.heap.objs.size, [s1.heap.objs.size], _, _, H1, rfl, I1.kept (t' := s1.toks) fun b o e => Heap.get?_push_of_some _ e, turn_list a _, ⟨_, Heap.get?_push_size _ rfl, rfl, rfl⟩, fun b hb => ?_, q⟩
  have e : b = s1.heap.objs.size := by simpa using hb
  subst e
  exact I1.fpOk (Nat.le_refl _) (I1.hok.fresh (Nat.le_refl _))
theorem pi_tup {l : Expr} {tl : TE} (hl : PE X l tl) : PI X tg l (iTup X.K tl) := by
  intro pins s σ H R I h
  refine thn (hl pins s σ H _ I h) fun v s1 ⟨x, H1, I1, r1, q1⟩ => ?_
  obtain ⟨a, e, ⟨xs, hq⟩, q⟩ := q1
  subst e
  cases r1
  obtain ⟨its, rv, p, hz⟩ := I1.tuple hq
  refine wpAny_pyIter_tuple (show s1.heap.IsTuple a its.toArray from p) ?_
  refine ⟨s1.heap.objs.size, [s1.heap.objs.size], _, _, H1, rfl, I1.kept (t' := s1.toks) fun b o e => Heap.get?_push_of_some _ e, turn_tuple a _, ⟨_, Heap.get?_push_size _ rfl, rfl, rfl⟩, fun b hb => ?_, q⟩
  have e : b = s1.heap.objs.size := by simpa using hb
  subst e
  exact I1.fpOk (Nat.le_refl _) (I1.hok.fresh (Nat.le_refl _))
/-- a range object just made, walked -/
theorem range_it {pins : List (Addr × Obj)} {σ : St} {H : Hp} {s : Shared} {R : It → Hp → Prop} {E : Value → Shared → Prop} {lo hi : Int} {t u v : Tok} {tk : Nat} (I : Inv X pins σ H s) (h1 : -(2 ^ 62) ≤ lo) (h2 : lo < 2 ^ 62) (h3 : -(2 ^ 62) ≤ hi) (h4 : hi < 2 ^ 62)
    (q : R (Itr lo (hi - lo).toNat) H) : wpAny (model X.prog X.w) X.A (pyIter (.ref s.heap.objs.size)) (PIE X pins σ tg R) E { s with heap := s.heap.push { cls := .type "range", data := .fields #[.int lo t, .int hi u, .int 1 v] }, toks := tk } := by
  refine wpAny_pyIter_range (IsRange.new ..) (small_one h1 h2 h3 h4) ?_
  have I1 : Inv X pins σ H { s with heap := s.heap.push { cls := .type "range", data := .fields #[.int lo t, .int hi u, .int 1 v] }, toks := tk } := I.kept fun b o e => Heap.get?_push_of_some _ e
  refine ⟨(s.heap.push { cls := .type "range", data := .fields #[.int lo t, .int hi u, .int 1 v] }).objs.size, [(s.heap.push { cls := .type "range", data := .fields #[.int lo t, .int hi u, .int 1 v] }).objs.size], _, _, H, rfl,
    I1.kept (t' := tk) fun b o e => Heap.get?_push_of_some _ e, turn_range _ lo (hi - lo).toNat, ?_, fun b hb => ?_, q⟩
  · have e1 : lo + ((0 : Nat) : Int) * 1 = lo := by simp
    have e2 : (((hi - lo).toNat : Nat) : Int) - ((0 : Nat) : Int) = Builtin.Range.rangeSize lo hi 1 := by rw [rangeSize_one]; split <;> omega
    show IsRangeIter _ _ (lo + ((0 : Nat) : Int) * 1) ((((hi - lo).toNat : Nat) : Int) - ((0 : Nat) : Int)) 1
    rw [e1, e2]
    exact Heap.get?_push_size _ rfl
  · have e : b = (s.heap.push { cls := .type "range", data := .fields #[.int lo t, .int hi u, .int 1 v] }).objs.size := by simpa using hb
    subst e
    exact I1.fpOk (Nat.le_refl _) (I1.hok.fresh (Nat.le_refl _))
def iRng1 (ta : TA) : TI := fun σ H R => ta σ H fun vs H1 => ∃ j : Int, vs = [.int j] ∧ -(2 ^ 62) ≤ j ∧ j < 2 ^ 62 ∧ R (Itr 0 j.toNat) H1
theorem pi_range1 {a : Expr} {ta : TA} {p pos : Pos} (hg : Gl X "range") (hm : X.mg "range" = none) (ha : PA X [a] ta) (hs : starEach [a] X.env = [(false, eval a X.env)] := by rfl) : PI X tg (.Call (.Name "range" p) [a] [] pos) (iRng1 ta) := by
  intro pins s σ H R I h
  refine Call_ (ld_blt I hg hm boot_range (PyProof.Rows.callWith_type1 (thn (ha pos pins s σ H _ I h) fun us s1 ⟨vs, H1, I1, r1, q1⟩ => ?_) hs rfl))
  obtain ⟨j, e, q1, q2, q⟩ := q1
  subst e
  cases r1 with
  | cons r rr =>
    cases rr
    obtain ⟨t, rfl⟩ := r
    exact call_range_1 (range_it I1 (by omega) (by omega) q1 q2 (by simpa using q))
/-! ### for -/
/-- W: the invariant by the turn and a measure; N: what the body is to reach -/
def tFor (wi : TI) (g : TG) (tb : TS) : TS := fun D σ H => wi σ H fun J H1 => ∃ W : Nat → Nat → St → Hp → Prop, (∃ m, W 0 m σ H1) ∧ ∀ i m σ H, W i m σ H →
  (J.stop i H ∧ D.nx σ H) ∨ (J.go i H ∧ ∃ N : St → Hp → Prop, (∀ σ' H', N σ' H' → ∃ m', m' < m ∧ W (i + 1) m' σ' H') ∧ ∀ x H', J.yld i H x H' → g x σ H' fun σ2 H2 => tb { D with nx := N, ct := N, bk := D.nx } σ2 H2)
/-- the records at fp as they stand -/
def pinsAt (fp : List Addr) (h : Heap) : List (Addr × Obj) := fp.filterMap fun b => (h.get? b).map fun o => (b, o)
theorem mem_pinsAt {fp : List Addr} {h : Heap} {b : Addr} {o : Obj} (hb : b ∈ fp) (e : h.get? b = some o) : (b, o) ∈ pinsAt fp h := List.mem_filterMap.mpr ⟨b, hb, by rw [e]; rfl⟩
theorem of_pinsAt {fp : List Addr} {h : Heap} {p : Addr × Obj} (hp : p ∈ pinsAt fp h) : p.1 ∈ fp ∧ h.get? p.1 = some p.2 := by
  obtain ⟨b, hb, e⟩ := List.mem_filterMap.mp hp
  cases q : h.get? b with
  | none => rw [q] at e; cases e
  | some o =>
    rw [q] at e
    have e' : (b, o) = p := Option.some.inj e
    subst e'
    exact ⟨hb, q⟩
theorem Inv.pinned {pins : List (Addr × Obj)} {σ : St} {H : Hp} {s : Shared} {fp : List Addr} (I : Inv X pins σ H s) (hf : ∀ b ∈ fp, FpOk X pins H b) (ho : ∀ b ∈ fp, ∃ o, s.heap.get? b = some o ∧ ∀ v, o.data ≠ .cell v) : Inv X (pins ++ pinsAt fp s.heap) σ H s :=
  I.pins_of fun p hp => (List.mem_append.mp hp).elim (fun z => I.pin p (List.mem_append_right _ z)) fun z => by
    obtain ⟨hb, e⟩ := of_pinsAt z
    obtain ⟨f0, f1, f2, _⟩ := hf p.1 hb
    obtain ⟨o, e', d⟩ := ho p.1 hb
    rw [e] at e'; cases e'
    exact ⟨e, f0, f1, f2, d⟩
theorem Inv.unpinned {pins pl : List (Addr × Obj)} {σ : St} {H : Hp} {s : Shared} (I : Inv X (pins ++ pl) σ H s) : Inv X pins σ H s := I.pins_of fun p hp => I.pin p (List.mem_append_right _ (List.mem_append_left _ hp))
theorem ps_for {iter : Expr} {body : List Stmt} {wi : TI} {g : TG} {tb : TS} {pos : Pos} (hp : PassesOwn (model X.prog X.w) X.A X.env X.xe) (hc : X.calm = true) (hi : PI X tg iter wi) (hg : PG X tg g) (hb : PSs X body tb)
    (hs : ∀ x, foldedSetIterable iter X.env x = pure x := by intro _; rfl) : PS X (.For tg iter body [] pos) (tFor wi g tb) := by
  intro pins s σ H D I h
  refine wpAny_For (thn (hi pins s σ H _ I h) fun v s1 h1 => thn h1 fun itv s2 h2 => ?_) hs
  obtain ⟨it, fp, tn, J, H2, e, I2, T, st2, f2, W, ⟨m0, w0⟩, turn⟩ := h2
  subst e
  -- what stays true of the iterator's objects through the loop
  have stat : ∀ {H' : Hp}, (∀ b ∈ fp, H' b = none) → ∀ b ∈ fp, FpOk X pins H' b := fun hn b hb => ⟨hn b hb, (f2 b hb).2⟩
  refine codeAny_forLoop_any (fun n s' => ∃ i σ' H', Inv X pins σ' H' s' ∧ tn i s'.heap ∧ (∀ b ∈ fp, H' b = none) ∧ W i n σ' H') ?_ m0 ⟨0, σ, H2, I2, st2, fun b hb => (f2 b hb).1, w0⟩
  rintro n s3 ⟨i, σ3, H3, I3, st3, fr3, w3⟩
  rcases turn i n σ3 H3 w3 with ⟨stop, qn⟩ | ⟨go, N, hN, step⟩
  · refine wpAny_passesOwn hp (thn (T.done X rfl rfl rfl hc i pins s3 σ3 H3 X.xe I3 (stat fr3) st3 stop) fun r s4 ⟨hr, I4⟩ => ?_)
    subst hr
    exact wpAny_execs_nil ⟨σ3, H3, I4, qn⟩
  · refine wpAny_passesOwn hp (thn (T.item X rfl rfl rfl hc i pins s3 σ3 H3 X.xe I3 (stat fr3) st3 go) fun r s4 ⟨u, hr, h4⟩ => ?_)
    subst hr
    refine wpAny_passesOwn hp (thn h4 fun _ s5 ⟨x, H5, I5, r5, y5, st5, fr5⟩ => ?_)
    have I5' := I5.pinned (stat fr5) (T.obj _ _ st5)
    refine wpAny_passesOwn hp (thn (hg _ s5 σ3 H5 x u _ I5' r5 (step x H5 y5)) fun _ s6 ⟨σ6, H6, I6, q6⟩ => ?_)
    refine wpAny_passesOwn hp (thn (hb _ s6 σ6 H6 _ I6 q6) fun f s7 q7 => ?_)
    have again : ∀ {σ7 : St} {H7 : Hp}, Inv X (pins ++ pinsAt fp s5.heap) σ7 H7 s7 → N σ7 H7 → ∃ m, m < n ∧ ∃ i σ' H', Inv X pins σ' H' s7 ∧ tn i s7.heap ∧ (∀ b ∈ fp, H' b = none) ∧ W i m σ' H' := fun {σ7 H7} I7 n7 => by
      obtain ⟨m', hm, w7⟩ := hN σ7 H7 n7
      refine ⟨m', hm, i + 1, σ7, H7, I7.unpinned, T.keep _ _ _ st5 fun b hb o e => (I7.pin (b, o) (List.mem_append_right _ (List.mem_append_right _ (mem_pinsAt hb e)))).1, fun b hb => ?_, w7⟩
      obtain ⟨o, e, d⟩ := T.obj _ _ st5 b hb
      exact (I7.pin (b, o) (List.mem_append_right _ (List.mem_append_right _ (mem_pinsAt hb e)))).2.1
    cases f with
    | next => obtain ⟨σ7, H7, I7, n7⟩ := q7; exact again I7 n7
    | cont => obtain ⟨σ7, H7, I7, n7⟩ := q7; exact again I7 n7
    | brk => obtain ⟨σ7, H7, I7, q7⟩ := q7; exact ⟨σ7, H7, I7.unpinned, q7⟩
    | ret v => obtain ⟨x7, σ7, H7, I7, r7, q7⟩ := q7; exact ⟨x7, σ7, H7, I7.unpinned, r7, q7⟩
end
/-! ### the forms one uses -/
/-- over a list that the body leaves as it is -/
theorem for_list {K : PySem.W.Frag} {a : Addr} {xs : List V} {g : TG} {tb : TS} {D : Ends} {σ : St} {H : Hp} (Pv : Nat → St → Hp → Prop) (h0 : Pv 0 σ H) (hl : ∀ i σ H, i ≤ xs.length → Pv i σ H → SqL K H a xs)
    (hs : ∀ i x σ H, xs[i]? = some x → Pv i σ H → g x σ H fun σ2 H2 => tb { D with nx := Pv (i + 1), ct := Pv (i + 1), bk := D.nx } σ2 H2) (hd : ∀ σ H, Pv xs.length σ H → D.nx σ H) :
    ∃ W : Nat → Nat → St → Hp → Prop, (∃ m, W 0 m σ H) ∧ ∀ i m σ H, W i m σ H →
      ((Itl K a).stop i H ∧ D.nx σ H) ∨ ((Itl K a).go i H ∧ ∃ N : St → Hp → Prop, (∀ σ' H', N σ' H' → ∃ m', m' < m ∧ W (i + 1) m' σ' H') ∧ ∀ x H', (Itl K a).yld i H x H' → g x σ H' fun σ2 H2 => tb { D with nx := N, ct := N, bk := D.nx } σ2 H2) := by
  refine ⟨fun i m σ H => m = xs.length - i ∧ i ≤ xs.length ∧ Pv i σ H, ⟨xs.length, by simp, Nat.zero_le _, h0⟩, ?_⟩
  rintro i m σ H ⟨rfl, hi, p⟩
  have q := hl i σ H hi p
  by_cases hlt : i < xs.length
  · refine .inr ⟨⟨xs, xs[i], q, by simp [hlt]⟩, Pv (i + 1), fun σ' H' p' => ⟨xs.length - (i + 1), by omega, rfl, hlt, p'⟩, fun x H' y => ?_⟩
    obtain ⟨e, y⟩ := y
    subst e
    exact hs i x σ _ (y xs q) p
  · have e : i = xs.length := by omega
    subst e
    exact .inl ⟨⟨xs, q, Nat.le_refl _⟩, hd σ H p⟩
theorem for_tup {K : PySem.W.Frag} {a : Addr} {xs : List V} {g : TG} {tb : TS} {D : Ends} {σ : St} {H : Hp} (Pv : Nat → St → Hp → Prop) (h0 : Pv 0 σ H) (hl : ∀ i σ H, i ≤ xs.length → Pv i σ H → SqT K H a xs)
    (hs : ∀ i x σ H, xs[i]? = some x → Pv i σ H → g x σ H fun σ2 H2 => tb { D with nx := Pv (i + 1), ct := Pv (i + 1), bk := D.nx } σ2 H2) (hd : ∀ σ H, Pv xs.length σ H → D.nx σ H) :
    ∃ W : Nat → Nat → St → Hp → Prop, (∃ m, W 0 m σ H) ∧ ∀ i m σ H, W i m σ H →
      ((Itt K a).stop i H ∧ D.nx σ H) ∨ ((Itt K a).go i H ∧ ∃ N : St → Hp → Prop, (∀ σ' H', N σ' H' → ∃ m', m' < m ∧ W (i + 1) m' σ' H') ∧ ∀ x H', (Itt K a).yld i H x H' → g x σ H' fun σ2 H2 => tb { D with nx := N, ct := N, bk := D.nx } σ2 H2) := by
  refine ⟨fun i m σ H => m = xs.length - i ∧ i ≤ xs.length ∧ Pv i σ H, ⟨xs.length, by simp, Nat.zero_le _, h0⟩, ?_⟩
  rintro i m σ H ⟨rfl, hi, p⟩
  have q := hl i σ H hi p
  by_cases hlt : i < xs.length
  · refine .inr ⟨⟨xs, xs[i], q, by simp [hlt]⟩, Pv (i + 1), fun σ' H' p' => ⟨xs.length - (i + 1), by omega, rfl, hlt, p'⟩, fun x H' y => ?_⟩
    obtain ⟨e, y⟩ := y
    subst e
    exact hs i x σ _ (y xs q) p
  · have e : i = xs.length := by omega
    subst e
    exact .inl ⟨⟨xs, q, Nat.le_refl _⟩, hd σ H p⟩
theorem for_range {lo : Int} {n : Nat} {g : TG} {tb : TS} {D : Ends} {σ : St} {H : Hp} (Pv : Nat → St → Hp → Prop) (h0 : Pv 0 σ H)
    (hs : ∀ i σ H, i < n → Pv i σ H → g (.int (lo + i)) σ H fun σ2 H2 => tb { D with nx := Pv (i + 1), ct := Pv (i + 1), bk := D.nx } σ2 H2) (hd : ∀ σ H, Pv n σ H → D.nx σ H) :
    ∃ W : Nat → Nat → St → Hp → Prop, (∃ m, W 0 m σ H) ∧ ∀ i m σ H, W i m σ H →
      ((Itr lo n).stop i H ∧ D.nx σ H) ∨ ((Itr lo n).go i H ∧ ∃ N : St → Hp → Prop, (∀ σ' H', N σ' H' → ∃ m', m' < m ∧ W (i + 1) m' σ' H') ∧ ∀ x H', (Itr lo n).yld i H x H' → g x σ H' fun σ2 H2 => tb { D with nx := N, ct := N, bk := D.nx } σ2 H2) := by
  refine ⟨fun i m σ H => m = n - i ∧ i ≤ n ∧ Pv i σ H, ⟨n, by simp, Nat.zero_le _, h0⟩, ?_⟩
  rintro i m σ H ⟨rfl, hi, p⟩
  by_cases hlt : i < n
  · refine .inr ⟨hlt, Pv (i + 1), fun σ' H' p' => ⟨n - (i + 1), by omega, rfl, hlt, p'⟩, fun x H' y => ?_⟩
    obtain ⟨e, y⟩ := y
    subst e y
    exact hs i σ _ hlt p
  · have e : i = n := by omega
    subst e
    exact .inl ⟨Nat.le_refl _, hd σ H p⟩
end L2
namespace L2
open PySem PySem.Spec PyProof.Rows
abbrev R2 := V → V → Hp → VK → Prop
/-- a two-place operation on values: f is binaryOp op, inplaceOp op or compareOp op -/
def OpR (X : Cx) (f : Value → Value → Sem Value) (r : R2) : Prop :=
  ∀ (pins : List (Addr × Obj)) (s : Shared) (σ : St) (H : Hp) (x y : V) (v u : Value) (Q : VK), Inv X pins σ H s → RelV x v → RelV y u → r x y H Q →
    wpAny (model X.prog X.w) X.A (f v u) (EP X pins σ Q) X.xe s
/-- a one-place operation -/
def UnR (X : Cx) (f : Value → Sem Value) (r : V → Hp → VK → Prop) : Prop :=
  ∀ (pins : List (Addr × Obj)) (s : Shared) (σ : St) (H : Hp) (x : V) (v : Value) (Q : VK), Inv X pins σ H s → RelV x v → r x H Q →
    wpAny (model X.prog X.w) X.A (f v) (EP X pins σ Q) X.xe s
/-- a call of a value that is known (a builtin, a type) with values -/
def CallR (X : Cx) (f : Value) (r : List V → Hp → VK → Prop) : Prop :=
  ∀ (pins : List (Addr × Obj)) (s : Shared) (σ : St) (H : Hp) (xs : List V) (us : List Value) (Q : VK), Inv X pins σ H s → Vals xs us → r xs H Q →
    wpAny (model X.prog X.w) X.A (call f us) (EP X pins σ Q) X.xe s
/-- a value's truth -/
def TruR (X : Cx) (r : V → Hp → (Bool → Hp → Prop) → Prop) : Prop :=
  ∀ (pins : List (Addr × Obj)) (s : Shared) (σ : St) (H : Hp) (x : V) (v : Value) (Q : Bool → Hp → Prop), Inv X pins σ H s → RelV x v → r x H Q →
    wpAny (model X.prog X.w) X.A (truthy v) (TP X pins σ Q) X.xe s
def tOp (r : R2) (ta tb : TE) : TE := fun σ H Q => ta σ H fun x H1 => tb σ H1 fun y H2 => r x y H2 Q
def tUn (r : V → Hp → VK → Prop) (ta : TE) : TE := fun σ H Q => ta σ H fun x H1 => r x H1 Q
/-- ints in, under C, and a value out -/
def rI (C : Int → Int → Prop) (g : Int → Int → V) : R2 := fun x y H Q => ∃ i j, x = .int i ∧ y = .int j ∧ C i j ∧ Q (g i j) H
def rI0 (g : Int → Int → V) : R2 := fun x y H Q => ∃ i j, x = .int i ∧ y = .int j ∧ Q (g i j) H
def rU (g : Int → V) : V → Hp → VK → Prop := fun x H Q => ∃ i, x = .int i ∧ Q (g i) H
section
variable {X : Cx} {a b c : Expr} {ta tb tc : TE} {pos : Pos}
theorem binT (ha : PE X a ta) (hb : PE X b tb) {pins : List (Addr × Obj)} {s : Shared} {σ : St} {H : Hp} {R : V → V → Hp → Prop} (I : Inv X pins σ H s)
    (h : ta σ H fun x H1 => tb σ H1 fun y H2 => R x y H2) {Q : Value → Shared → Prop} {f : Value → Value → Sem Value}
    (hf : ∀ v u s2 x y H2, Inv X pins σ H2 s2 → RelV x v → RelV y u → R x y H2 → wpAny (model X.prog X.w) X.A (f v u) Q X.xe s2) :
    wpAny (model X.prog X.w) X.A (eval a X.env) (fun v s₁ => wpAny (model X.prog X.w) X.A (eval b X.env) (fun u s₂ => wpAny (model X.prog X.w) X.A (f v u) Q X.xe s₂) X.xe s₁) X.xe s := by
  refine thn (ha pins s σ H _ I h) fun v s1 ⟨x, H1, I1, r1, q1⟩ => ?_
  refine thn (hb pins s1 σ H1 _ I1 q1) fun u s2 ⟨y, H2, I2, r2, q2⟩ => ?_
  exact hf v u s2 x y H2 I2 r1 r2 q2
theorem pe_op {op : Operator} {r : R2} (ho : OpR X (binaryOp op) r) (ha : PE X a ta) (hb : PE X b tb) : PE X (.BinOp a op b pos) (tOp r ta tb) := by
  intro pins s σ H Q I h
  exact wpAny_BinOp (binT ha hb I h fun v u s2 x y H2 I2 rx ry q => ho pins s2 σ H2 x y v u Q I2 rx ry q)
theorem pe_un {op : UnaryOp} {r : V → Hp → VK → Prop} (ho : UnR X (unaryOp op) r) (ha : PE X a ta) : PE X (.UnaryOp op a pos) (tUn r ta) := by
  intro pins s σ H Q I h
  exact UnaryOp_ (thn (ha pins s σ H _ I h) fun v s1 ⟨x, H1, I1, r1, q1⟩ => ho pins s1 σ H1 x v Q I1 r1 q1)
/-! ### ints -/
theorem opI {f : Value → Value → Sem Value} {C : Int → Int → Prop} {g : Int → Int → Int}
    (rule : ∀ (i j : Int) (t u : Tok) (s : Shared) (Q : Value → Shared → Prop) (E : Value → Shared → Prop), C i j → Q (.int (g i j) s.toks) { s with toks := s.toks + 1 } → wpAny (model X.prog X.w) X.A (f (.int i t) (.int j u)) Q E s) :
    OpR X f (rI C fun i j => .int (g i j)) := by
  intro pins s σ H x y v u Q I rx ry h
  obtain ⟨i, j, rfl, rfl, hc, q⟩ := h
  obtain ⟨t, rfl⟩ := rx
  obtain ⟨t', rfl⟩ := ry
  exact rule i j t t' s _ _ hc ⟨.int (g i j), H, I.tok _, ⟨_, rfl⟩, q⟩
theorem opI0 {f : Value → Value → Sem Value} {g : Int → Int → Int}
    (rule : ∀ (i j : Int) (t u : Tok) (s : Shared) (Q : Value → Shared → Prop) (E : Value → Shared → Prop), Q (.int (g i j) s.toks) { s with toks := s.toks + 1 } → wpAny (model X.prog X.w) X.A (f (.int i t) (.int j u)) Q E s) :
    OpR X f (rI0 fun i j => .int (g i j)) := by
  intro pins s σ H x y v u Q I rx ry h
  obtain ⟨i, j, rfl, rfl, q⟩ := h
  obtain ⟨t, rfl⟩ := rx
  obtain ⟨t', rfl⟩ := ry
  exact rule i j t t' s _ _ ⟨.int (g i j), H, I.tok _, ⟨_, rfl⟩, q⟩
theorem opB0 {f : Value → Value → Sem Value} {g : Int → Int → Bool}
    (rule : ∀ (i j : Int) (t u : Tok) (s : Shared) (Q : Value → Shared → Prop) (E : Value → Shared → Prop), Q (.bool (g i j)) s → wpAny (model X.prog X.w) X.A (f (.int i t) (.int j u)) Q E s) :
    OpR X f (rI0 fun i j => .bl (g i j)) := by
  intro pins s σ H x y v u Q I rx ry h
  obtain ⟨i, j, rfl, rfl, q⟩ := h
  obtain ⟨t, rfl⟩ := rx
  obtain ⟨t', rfl⟩ := ry
  exact rule i j t t' s _ _ ⟨.bl (g i j), H, I, rfl, q⟩
def CDiv (i j : Int) : Prop := 0 < j ∧ j < 1073741824
def CPow (i j : Int) : Prop := 0 ≤ j ∧ j ≤ 1000000 ∧ i.natAbs < 2 ^ 64
def CMul (i j : Int) : Prop := (-(2 ^ 64) < i ∧ i < 2 ^ 64) ∨ (-(2 ^ 64) < j ∧ j < 2 ^ 64)
theorem CMul.ok {i j : Int} (h : CMul i j) : IntMulOk i j := by
  rcases h with ⟨h1, h2⟩ | ⟨h1, h2⟩
  · exact .of_left (intBits_le_64 h1 h2)
  · exact .of_right (intBits_le_64 h1 h2)
theorem op_add : OpR X (binaryOp .Add) (rI0 fun i j => .int (i + j)) := opI0 fun _ _ _ _ _ _ _ q => add_int q
theorem op_sub : OpR X (binaryOp .Sub) (rI0 fun i j => .int (i - j)) := opI0 fun _ _ _ _ _ _ _ q => sub_int q
theorem op_mul : OpR X (binaryOp .Mult) (rI CMul fun i j => .int (i * j)) := opI fun _ _ _ _ _ _ _ hc q => mul_int q hc.ok
/-- // by a positive divisor -/
theorem op_fdiv : OpR X (binaryOp .FloorDiv) (rI CDiv fun i j => .int (i / j)) := opI fun i j _ _ _ _ _ hc q => by
  have h1 : (0 : Int) < j := hc.1
  have h2 : j < 1073741824 := hc.2
  exact floordiv_int (by omega) (by rw [Int.fdiv_eq_ediv_of_nonneg i (by omega)]; exact q) (.inl (PyProof.noPylong_small (by omega)))
/-- % by a positive divisor of any size -/
theorem op_mod : OpR X (binaryOp .Mod) (rI (fun _ j => 0 < j) fun i j => .int (i % j)) := opI fun i j _ _ _ _ _ hc q => by
  have h1 : (0 : Int) < j := hc
  exact mod_int' (by omega) (by rw [Int.fmod_eq_emod_of_nonneg i (by omega)]; exact q)
theorem op_pow : OpR X (binaryOp .Pow) (rI CPow fun i j => .int (i ^ j.toNat)) := opI fun _ _ _ _ _ _ _ hc q => pow_int_small hc.1 hc.2.1 hc.2.2 q
theorem unI {f : Value → Sem Value} {g : Int → Int}
    (rule : ∀ (i : Int) (t : Tok) (s : Shared) (Q : Value → Shared → Prop) (E : Value → Shared → Prop), Q (.int (g i) s.toks) { s with toks := s.toks + 1 } → wpAny (model X.prog X.w) X.A (f (.int i t)) Q E s) :
    UnR X f (rU fun i => .int (g i)) := by
  intro pins s σ H x v Q I rx h
  obtain ⟨i, rfl, q⟩ := h
  obtain ⟨t, rfl⟩ := rx
  exact rule i t s _ _ ⟨.int (g i), H, I.tok _, ⟨_, rfl⟩, q⟩
theorem un_neg : UnR X (unaryOp .USub) (rU fun i => .int (-i)) := unI fun _ _ _ _ _ q => neg_int q
end
/-! ### comparisons -/
/-- the scalars that == tells apart as data does -/
def scal : V → V → Bool
  | .non, .non => true | .non, .int _ => true | .int _, .non => true | .non, .bl _ => true | .bl _, .non => true | .non, .str _ => true | .str _, .non => true
  | .int _, .int _ => true | .bl _, .bl _ => true | .str _, .str _ => true | .byt _, .byt _ => true
  | .int _, .str _ => true | .str _, .int _ => true | .bl _, .str _ => true | .str _, .bl _ => true
  | _, _ => false
def rEq : R2 := fun x y H Q => scal x y = true ∧ Q (.bl (decide (x = y))) H
def rNe : R2 := fun x y H Q => scal x y = true ∧ Q (.bl (!decide (x = y))) H
theorem dec_int {i j : Int} : decide (V.int i = V.int j) = (i == j) := by
  rw [Bool.eq_iff_iff]
  simp
theorem dec_bl {i j : Bool} : decide (V.bl i = V.bl j) = (i == j) := by
  rw [Bool.eq_iff_iff]
  simp
theorem dec_str {i j : Str} : decide (V.str i = V.str j) = (i == j) := by
  rw [Bool.eq_iff_iff]
  simp
theorem dec_byt {i j : Array UInt8} : decide (V.byt i = V.byt j) = (i.toList == j.toList) := by
  rw [Bool.eq_iff_iff]
  cases i
  cases j
  simp
section
variable {X : Cx} {a b c : Expr} {ta tb tc : TE} {pos : Pos}
theorem fin_bl {pins : List (Addr × Obj)} {σ : St} {H : Hp} {s : Shared} {Q : VK} {k k' : Bool} (I : Inv X pins σ H s) (q : Q (.bl k) H) (e : k = k') : EP X pins σ Q (.bool k') s := by
  subst e
  exact ⟨.bl k, H, I, rfl, q⟩
theorem op_eq : OpR X (compareOp .Eq) rEq := by
  intro pins s σ H x y v u Q I rx ry h
  obtain ⟨hs, q⟩ := h
  cases x with
  | non =>
    cases rx
    cases y with
    | non => cases ry; exact PySem.EqNone.eq_none_none (fin_bl I q (by simp))
    | bl j => cases ry; exact PySem.EqNone.eq_none_bool (fin_bl I q (by simp))
    | int j => obtain ⟨t', rfl⟩ := ry; exact PySem.EqNone.eq_none_int (fin_bl I q (by simp))
    | str j => obtain ⟨t', rfl⟩ := ry; exact PySem.EqNone.eq_none_str (fin_bl I q (by simp))
    | _ => exact absurd (show false = true from hs) Bool.false_ne_true
  | bl i =>
    cases rx
    cases y with
    | non => cases ry; exact PySem.EqNone.eq_bool_none (fin_bl I q (by simp))
    | bl j => cases ry; exact eq_bool (fin_bl I q dec_bl)
    | str j => obtain ⟨t', rfl⟩ := ry; exact PySem.EqMixed.eq_bool_str (fin_bl I q (by simp))
    | _ => exact absurd (show false = true from hs) Bool.false_ne_true
  | int i =>
    obtain ⟨t, rfl⟩ := rx
    cases y with
    | non => cases ry; exact PySem.EqNone.eq_int_none (fin_bl I q (by simp))
    | int j => obtain ⟨t', rfl⟩ := ry; exact eq_int (fin_bl I q dec_int)
    | str j => obtain ⟨t', rfl⟩ := ry; exact PySem.EqMixed.eq_int_str (fin_bl I q (by simp))
    | _ => exact absurd (show false = true from hs) Bool.false_ne_true
  | str i =>
    obtain ⟨t, rfl⟩ := rx
    cases y with
    | non => cases ry; exact PySem.EqNone.eq_str_none (fin_bl I q (by simp))
    | bl j => cases ry; exact PySem.EqMixed.eq_str_bool (fin_bl I q (by simp))
    | int j => obtain ⟨t', rfl⟩ := ry; exact PySem.EqMixed.eq_str_int (fin_bl I q (by simp))
    | str j => obtain ⟨t', rfl⟩ := ry; exact eq_str (fin_bl I q dec_str)
    | _ => exact absurd (show false = true from hs) Bool.false_ne_true
  | byt i =>
    obtain ⟨t, rfl⟩ := rx
    cases y with
    | byt j => obtain ⟨t', rfl⟩ := ry; exact PySem.W.eq_bytes (fin_bl I q dec_byt)
    | _ => exact absurd (show false = true from hs) Bool.false_ne_true
  | _ => cases y <;> exact absurd (show false = true from hs) Bool.false_ne_true
theorem op_ne : OpR X (compareOp .NotEq) rNe := by
  intro pins s σ H x y v u Q I rx ry h
  obtain ⟨hs, q⟩ := h
  cases x with
  | non =>
    cases rx
    cases y with
    | non => cases ry; exact PySem.EqNone.ne_none_none (fin_bl I q (by simp))
    | bl j => cases ry; exact PySem.EqNone.ne_none_bool (fin_bl I q (by simp))
    | int j => obtain ⟨t', rfl⟩ := ry; exact PySem.EqNone.ne_none_int (fin_bl I q (by simp))
    | str j => obtain ⟨t', rfl⟩ := ry; exact PySem.EqNone.ne_none_str (fin_bl I q (by simp))
    | _ => exact absurd (show false = true from hs) Bool.false_ne_true
  | bl i =>
    cases rx
    cases y with
    | non => cases ry; exact PySem.EqNone.ne_bool_none (fin_bl I q (by simp))
    | bl j => cases ry; exact ne_bool (fin_bl I q (congrArg not dec_bl))
    | str j => obtain ⟨t', rfl⟩ := ry; exact PySem.EqMixed.ne_bool_str (fin_bl I q (by simp))
    | _ => exact absurd (show false = true from hs) Bool.false_ne_true
  | int i =>
    obtain ⟨t, rfl⟩ := rx
    cases y with
    | non => cases ry; exact PySem.EqNone.ne_int_none (fin_bl I q (by simp))
    | int j => obtain ⟨t', rfl⟩ := ry; exact ne_int (fin_bl I q (congrArg not dec_int))
    | str j => obtain ⟨t', rfl⟩ := ry; exact PySem.EqMixed.ne_int_str (fin_bl I q (by simp))
    | _ => exact absurd (show false = true from hs) Bool.false_ne_true
  | str i =>
    obtain ⟨t, rfl⟩ := rx
    cases y with
    | non => cases ry; exact PySem.EqNone.ne_str_none (fin_bl I q (by simp))
    | bl j => cases ry; exact PySem.EqMixed.ne_str_bool (fin_bl I q (by simp))
    | int j => obtain ⟨t', rfl⟩ := ry; exact PySem.EqMixed.ne_str_int (fin_bl I q (by simp))
    | str j => obtain ⟨t', rfl⟩ := ry; exact ne_str (fin_bl I q (congrArg not dec_str))
    | _ => exact absurd (show false = true from hs) Bool.false_ne_true
  | byt i =>
    obtain ⟨t, rfl⟩ := rx
    cases y with
    | byt j => obtain ⟨t', rfl⟩ := ry; exact PySem.W.ne_bytes (fin_bl I q (congrArg not dec_byt))
    | _ => exact absurd (show false = true from hs) Bool.false_ne_true
  | _ => cases y <;> exact absurd (show false = true from hs) Bool.false_ne_true
theorem op_lt : OpR X (compareOp .Lt) (rI0 fun i j => .bl (decide (i < j))) := opB0 fun _ _ _ _ _ _ _ q => lt_int q
theorem op_le : OpR X (compareOp .LtE) (rI0 fun i j => .bl (decide (i ≤ j))) := opB0 fun _ _ _ _ _ _ _ q => le_int q
theorem op_gt : OpR X (compareOp .Gt) (rI0 fun i j => .bl (decide (j < i))) := opB0 fun _ _ _ _ _ _ _ q => gt_int q
theorem op_ge : OpR X (compareOp .GtE) (rI0 fun i j => .bl (decide (j ≤ i))) := opB0 fun _ _ _ _ _ _ _ q => ge_int q
theorem op_notN : OpR X (compareOp .IsNot) (fun x y H Q => y = .non ∧ Q (.bl (!decide (x = .non))) H) := by
  intro pins s σ H x y v u Q I rx ry h
  obtain ⟨rfl, q⟩ := h
  cases ry
  refine isnot_none_gen (fin_bl I q ?_)
  cases x <;> first
    | (cases rx; rfl)
    | (obtain ⟨t, rfl⟩ := rx; rfl)
theorem nomark (b : Expr) {op : CmpOp} (h : op ≠ .In := by decide) (h2 : op ≠ .NotIn := by decide) : behindInMarks op b = false := by
  have e1 : (op == CmpOp.In) = false := by cases op <;> first | rfl | exact absurd rfl h
  have e2 : (op == CmpOp.NotIn) = false := by cases op <;> first | rfl | exact absurd rfl h2
  cases b <;> simp [behindInMarks, e1, e2]
/-- a comparison as a value; hm: nomark b, or (for in, not in) by with_unfolding_all rfl -/
theorem pe_cmpR {op : CmpOp} {r : R2} (ho : OpR X (compareOp op) r) (ha : PE X a ta) (hb : PE X b tb) (hm : behindInMarks op b = false) : PE X (.Compare a [op] [b] pos) (tOp r ta tb) := by
  intro pins s σ H Q I h
  exact wpAny_Compare1 (binT ha hb I h fun v u s2 x y H2 I2 rx ry q => ho pins s2 σ H2 x y v u Q I2 rx ry q) hm
/-- a reading of a value as a test -/
def tTest (t : TE) : TT := fun σ H Q => t σ H fun x H' => ∃ k, x = .bl k ∧ Q k H'
theorem pt_cmpR {op : CmpOp} {r : R2} (ho : OpR X (compareOp op) r) (ha : PE X a ta) (hb : PE X b tb) (hm : behindInMarks op b = false) : PT X (.Compare a [op] [b] pos) (tTest (tOp r ta tb)) := by
  intro pins s σ H Q I h
  refine wpAny_isTrue_Compare1 (thn (ha pins s σ H _ I h) fun v s1 ⟨x, H1, I1, r1, q1⟩ => thn (hb pins s1 σ H1 _ I1 q1) fun u s2 ⟨y, H2, I2, r2, q2⟩ =>
    thn (ho pins s2 σ H2 x y v u _ I2 r1 r2 q2) fun c s3 ⟨z, H3, I3, r3, k, e, q3⟩ => ?_) hm
  subst e
  cases r3
  exact wpAny_truthy_bool ⟨H3, I3, q3⟩
/-- a op1 b op2 c -/
def tChain (r r' : R2) (ta tb tc : TE) : TE := fun σ H Q => ta σ H fun x H1 => tb σ H1 fun y H2 => r x y H2 fun z H3 => ∃ k, z = .bl k ∧
  (if k = true then tc σ H3 fun w' H4 => r' y w' H4 Q else Q (.bl false) H3)
theorem pe_chain {op op' : CmpOp} {r r' : R2} (ho : OpR X (compareOp op) r) (ho' : OpR X (compareOp op') r') (ha : PE X a ta) (hb : PE X b tb) (hc : PE X c tc)
    (hm : lastMarks [op, op'] [b, c] = false := by with_unfolding_all rfl) : PE X (.Compare a [op, op'] [b, c] pos) (tChain r r' ta tb tc) := by
  intro pins s σ H Q I h
  refine Compare_chain (thn (ha pins s σ H _ I h) fun v s1 ⟨x, H1, I1, r1, q1⟩ => chain_link (thn (hb pins s1 σ H1 _ I1 q1) fun u s2 ⟨y, H2, I2, r2, q2⟩ =>
    thn (ho pins s2 σ H2 x y v u _ I2 r1 r2 q2) fun d s3 ⟨z, H3, I3, r3, k, e, q3⟩ => ?_)) hm
  subst e
  cases r3
  refine wpAny_truthy_bool ?_
  cases k with
  | false => exact ite_ff ⟨.bl false, H3, I3, rfl, q3⟩
  | true => exact ite_tt (chain_last (thn (hc pins s3 σ H3 _ I3 q3) fun w' s4 ⟨z', H4, I4, r4, q4⟩ => ho' pins s4 σ H4 y z' u w' Q I4 r2 r4 q4))
theorem pt_chain {op op' : CmpOp} {r r' : R2} (ho : OpR X (compareOp op) r) (ho' : OpR X (compareOp op') r') (ha : PE X a ta) (hb : PE X b tb) (hc : PE X c tc)
    (hm : lastMarks [op, op'] [b, c] = false := by with_unfolding_all rfl) : PT X (.Compare a [op, op'] [b, c] pos) (tTest (tChain r r' ta tb tc)) := by
  intro pins s σ H Q I h
  refine isTrue_chain (thn (ha pins s σ H _ I h) fun v s1 ⟨x, H1, I1, r1, q1⟩ => test_link (thn (hb pins s1 σ H1 _ I1 q1) fun u s2 ⟨y, H2, I2, r2, q2⟩ =>
    thn (ho pins s2 σ H2 x y v u _ I2 r1 r2 q2) fun d s3 ⟨z, H3, I3, r3, k, e, q3⟩ => ?_)) hm
  subst e
  cases r3
  refine wpAny_truthy_bool ?_
  cases k with
  | false =>
    obtain ⟨k', e', q'⟩ := q3
    cases e'
    exact ite_ff ⟨H3, I3, q'⟩
  | true =>
    refine ite_tt (test_last (thn (hc pins s3 σ H3 _ I3 q3) fun w' s4 ⟨z', H4, I4, r4, q4⟩ => thn (ho' pins s4 σ H4 y z' u w' _ I4 r2 r4 q4) fun d' s5 ⟨z2, H5, I5, r5, k2, e2, q5⟩ => ?_))
    subst e2
    cases r5
    exact wpAny_truthy_bool ⟨H5, I5, q5⟩
/-! ### truth -/
/-- a value's truth by the abstract heap -/
def TruV (K : PySem.W.Frag) (x : V) (H : Hp) (k : Bool) : Prop :=
  match x with
  | .non => k = false
  | .bl b => k = b
  | .int i => k = (i != 0)
  | .str y => y.length ≤ sizeLine ∧ k = ((y.length : Int) != 0)
  | .byt y => y.size ≤ sizeLine ∧ k = ((y.size : Int) != 0)
  | .ref p => (∃ xs, SqL K H p xs ∧ k = !xs.isEmpty) ∨ (∃ xs, SqT K H p xs ∧ k = !xs.isEmpty) ∨ ∃ kvs, H p = some (.dK kvs) ∧ k = !kvs.isEmpty
  | _ => False
theorem isEmpty_kv {κ : Type} {kvs : List (κ × V)} {vs : List (κ × Value)} (r : KV kvs vs) : (!vs.isEmpty) = !kvs.isEmpty := by
  cases r <;> rfl
theorem isEmpty_of {xs : List V} {its : List Value} (r : Vals xs its) : (!its.toArray.isEmpty) = !xs.isEmpty := by
  cases r <;> simp
theorem line63 : (sizeLine : Nat) < 2 ^ 63 := by rw [sizeLine_eq]; decide
theorem tru_ok : TruR X (fun x H Q => ∃ k, TruV X.K x H k ∧ Q k H) := by
  intro pins s σ H x v Q I rx h
  obtain ⟨k, e, q⟩ := h
  have hl := line63
  have hs : sizeLine = 16777216 := sizeLine_eq
  cases x with
  | non =>
    cases rx
    have e' : k = false := e
    subst e'
    exact truthy_none ⟨H, I, q⟩
  | bl b =>
    cases rx
    have e' : k = b := e
    subst e'
    exact wpAny_truthy_bool ⟨H, I, q⟩
  | int i =>
    obtain ⟨t, rfl⟩ := rx
    have e' : k = (i != 0) := e
    subst e'
    exact PySem.P.truthy_int ⟨H, I, q⟩
  | str y =>
    obtain ⟨t, rfl⟩ := rx
    obtain ⟨hy, e'⟩ : y.length ≤ sizeLine ∧ k = ((y.length : Int) != 0) := e
    subst e'
    exact PySem.P.truthy_str (by omega) ⟨H, I.tok _, q⟩
  | byt y =>
    obtain ⟨t, rfl⟩ := rx
    obtain ⟨hy, e'⟩ : y.size ≤ sizeLine ∧ k = ((y.size : Int) != 0) := e
    subst e'
    exact PySem.W.truthy_bytes (by omega) ⟨H, I.tok _, q⟩
  | ref p =>
    cases rx
    have e' : (∃ xs, SqL X.K H p xs ∧ k = !xs.isEmpty) ∨ (∃ xs, SqT X.K H p xs ∧ k = !xs.isEmpty) ∨ ∃ kvs, H p = some (.dK kvs) ∧ k = !kvs.isEmpty := e
    rcases e' with ⟨xs, hx, e'⟩ | ⟨xs, hx, e'⟩ | ⟨kvs, hx, e'⟩
    · subst e'
      obtain ⟨its, r, pl, hz⟩ := I.list hx
      have hlen := r.length
      exact wpAny_truthy_list pl.isList (by simp only [List.size_toArray]; omega) ⟨H, I.tok _, by rw [isEmpty_of r]; exact q⟩
    · subst e'
      obtain ⟨its, r, pl, hz⟩ := I.tuple hx
      have hlen := r.length
      exact truthy_tuple pl (by simp only [List.size_toArray]; omega) ⟨H, I.tok _, by rw [isEmpty_of r]; exact q⟩
    · subst e'
      obtain ⟨hz, hS, vs, r, m⟩ : kvs.length ≤ sizeLine ∧ (p == sysModules) = false ∧ ∃ vs, KV kvs vs ∧ s.heap.DictOf (mixKind X.prog X.w) p vs := I.hok p _ hx
      have hlen : kvs.length = vs.length := Paired.length r
      exact wpAny_truthy_dict hS m (by omega) ⟨H, I.tok _, by rw [isEmpty_kv r]; exact q⟩
  | _ => exact (show False from e).elim
/-- any expression whose test is its value's truth (a name, a call, a subscript, a field ..: he by fun _ => rfl) -/
theorem pt_truth (ha : PE X a ta) (he : ∀ whole, isTrue a X.env whole = (do let v ← whole; standAt a.pos; holding [v] (truthy v))) :
    PT X a (fun σ H Q => ta σ H fun x H' => ∃ k, TruV X.K x H' k ∧ Q k H') := by
  intro pins s σ H Q I h
  exact isTrue_plain (thn (ha pins s σ H _ I h) fun v s1 ⟨x, H1, I1, r1, q1⟩ => tru_ok pins s1 σ H1 x v Q I1 r1 q1) (he _)
theorem op_add_str : OpR X (binaryOp .Add) (fun x y H Q => ∃ i j, x = .str i ∧ y = .str j ∧ i.length + j.length ≤ sizeLine ∧ Q (.str (i ++ j)) H) := by
  intro pins s σ H x y v u Q I rx ry h
  obtain ⟨i, j, rfl, rfl, hz, q⟩ := h
  obtain ⟨t, rfl⟩ := rx
  obtain ⟨t', rfl⟩ := ry
  exact add_str (fun t' tk => ⟨.str (i ++ j), H, I.tok _, ⟨_, rfl⟩, q⟩) hz
/-! ### scalar builtins, by CallR -/
theorem vals1 {x : V} {us : List Value} (r : Vals [x] us) : ∃ u, us = [u] ∧ RelV x u := by
  cases r with
  | cons r1 r2 => cases r2; exact ⟨_, rfl, r1⟩
end
end L2
namespace L2
open PySem PySem.Spec PyProof.Rows
/-! ### an instance, its attributes a map -/
structure ObjM (h : Heap) (x dx C : Addr) (mA : Str → Option Value) : Prop where
  obj : h.get? x = some (PySem.W.instObj C dx)
  ns : h.Ns1 dx mA
  ne : dx ≠ x
theorem lookIn_ns {h : Heap} {dx : Addr} {mA : Str → Option Value} (n : h.Ns1 dx mA) : ∃ od, h.get? dx = some od ∧ ∀ name, PySem.W.lookIn name od = some (mA name) := by
  obtain ⟨o, es, ep, ho, hd, hk, _, hm⟩ := n
  refine ⟨o, ho, fun name => ?_⟩
  have e := hm name
  unfold nsFind findBy at e
  rw [← Array.find?_toList] at e
  unfold PySem.W.lookIn
  rw [hd]
  dsimp only
  split
  · rename_i y q
    rw [q] at e
    exact congrArg some e
  · rename_i q
    rw [q] at e
    have a : es.toList.any (·.refKey) = false := by
      rw [List.any_eq_false]
      intro y hy
      obtain ⟨z, t, hkey⟩ := hk y (Array.mem_toList_iff.mp hy)
      simp [DictEntry.refKey, hkey]
    have a' : ¬ es.toList.any (·.refKey) = true := by rw [a]; exact Bool.false_ne_true
    rw [if_neg a']
    exact congrArg some e
theorem ObjM.look {h : Heap} {x dx C : Addr} {mA : Str → Option Value} (I : ObjM h x dx C mA) : ∃ od, PySem.W.InstAt h x (PySem.W.instObj C dx) C (some od) ∧ ∀ name, PySem.W.lookIn name od = some (mA name) :=
  let ⟨od, ho, hl⟩ := lookIn_ns I.ns
  ⟨od, ⟨I.obj, rfl, rfl, ho⟩, hl⟩
theorem RelO.none_of {o : Option Value} (r : RelO none o) : o = none := by
  cases o with
  | none => rfl
  | some u => exact (show False from r).elim
section
variable {P : Program} {w : World} {H H' : Hp} {h h' : Heap} {a C dx : Addr} {fs fs' : List (Str × V)}
theorem ins_get (hok : HOk P w H h) (e : H a = some (.ins C dx fs)) : ∃ mA, ObjM h a dx C mA ∧ (∀ f, RelO (fs.lookup f) (mA f)) ∧ PySem.Within mA (fs.map (·.1)) ∧ fs.length ≤ 1000 ∧ H dx = some (.own a) := by
  obtain ⟨d, z, ne, ob, mA, n, r, q⟩ := (show ObjOk P w H h a (.ins C dx fs) from hok a _ e)
  exact ⟨mA, ⟨ob, n, ne⟩, r, q, z, d⟩
end
/-! ### what of the text a class must have -/
structure Cls (K : PySem.W.Frag) (C : Addr) : Prop where
  pg : PySem.W.plainGet K C Str.empty = true
  hd : PySem.W.hasDictIn K C = true
  po : PySem.W.plainOver K C = true
  sa : PySem.W.findIn K (.ref C) "__setattr__" = some (some (.builtin "object.__setattr__"))
theorem Cls.get {K : PySem.W.Frag} {C : Addr} (c : Cls K C) (f : Str) : PySem.W.plainGet K C f = true := c.pg
/-- a constant of the class -/
structure Con (K : PySem.W.Frag) (C : Addr) (f : Str) (v : V) (u : Value) : Prop where
  at_ : PySem.W.findIn K (.ref C) f = some (some u)
  rel : RelV v u
  get : PySem.W.specialIn K u "__get__" = some none
  cp : PySem.W.copiedNames.contains f = false
/-- a method: a plain def of the class or of one above it -/
structure Meth (K : PySem.W.Frag) (C : Addr) (m : Str) (f : Addr) : Prop where
  at_ : PySem.W.findIn K (.ref C) m = some (some (.ref f))
  fn : PySem.W.isFn K (.ref f) = true
  kp : PySem.W.keepIn K (.ref f) = true
/-! ### isinstance -/
section
variable {X : Cx} {pins : List (Addr × Obj)} {σ : St} {H : Hp} {s : Shared} {A : Around} {E : Value → Shared → Prop} {Q : Value → Shared → Prop} {c : Value} {b : Bool}
/-- the type of a value, as the fragment's deciders take it; for an instance its class -/
inductive TyOf (K : PySem.W.Frag) (H : Hp) : V → Value → Prop where
  | non : TyOf K H .non (.type "NoneType")
  | bl (x : Bool) : TyOf K H (.bl x) (.type "bool")
  | int (i : Int) : TyOf K H (.int i) (.type "int")
  | str (x : Str) : TyOf K H (.str x) (.type "str")
  | flt (x : UInt64) : TyOf K H (.flt x) (.type "float")
  | lst {a : Addr} {xs : List V} (e : H a = some (.lst xs)) : TyOf K H (.ref a) (.type "list")
  | frz {a : Addr} {o : Obj} {xs : List V} (e : H a = some (.frz o (.lst xs))) : TyOf K H (.ref a) (.type "list")
  | tup {a : Addr} {xs : List V} (e : H a = some (.tup xs)) : TyOf K H (.ref a) (.type "tuple")
  | dK {a : Addr} {kvs : List (Key × V)} (e : H a = some (.dK kvs)) : TyOf K H (.ref a) (.type "dict")
  | dT {a : Addr} {kvs : List (List Key × V)} (e : H a = some (.dT kvs)) : TyOf K H (.ref a) (.type "dict")
  | ins {a C dx : Addr} {fs : List (Str × V)} (e : H a = some (.ins C dx fs)) (cl : Cls K C) (ha : PySem.W.findIn K (.ref C) "__class__" = some (some (.builtin "object.__class__")))
      (hn : PySem.W.specialIn K (.builtin "object.__class__") "__get__" = some (some (.builtin "getset_descriptor.__get__"))) (htk : PySem.W.takesIn K (.builtin "object.__class__") = some true)
      (hm : PySem.W.mroIn K C (.type "object") = some true) : TyOf K H (.ref a) (.ref C)
/-- isinstance(x, c) for one class c, a built-in or an own one: kitOne's answer -/
theorem isinst_ok {x : V} {u t : Value} (I : Inv X pins σ H s) (rx : RelV x u) (ty : TyOf X.K H x t) (e : PySem.W.kitOne X.K t c = some b) (h : ∀ tk, Q (.bool b) { s with toks := tk }) :
    wpAny (model X.prog X.w) A (call (.builtin "isinstance") [u, c]) Q E s := by
  cases ty with
  | non => cases (show u = Value.none from rx); exact PySem.W.kia_one PySem.W.kitx_none I.kIn True.intro e (fun z => nomatch z) h
  | bl y => cases (show u = Value.bool y from rx); exact PySem.W.kia_one PySem.W.kitx_bool I.kIn True.intro e (fun z => nomatch z) h
  | int i => obtain ⟨t, q⟩ := (show ∃ t, u = Value.int i t from rx); cases q; exact PySem.W.kia_one PySem.W.kitx_int I.kIn True.intro e (fun z => nomatch z) h
  | str y => obtain ⟨t, q⟩ := (show ∃ t, u = Value.str y t from rx); cases q; exact PySem.W.kia_one PySem.W.kitx_str I.kIn True.intro e (fun z => nomatch z) h
  | flt y => obtain ⟨t, q⟩ := (show ∃ t, u = Value.float y t from rx); cases q; exact PySem.W.kia_one PySem.W.kitx_float I.kIn True.intro e (fun z => nomatch z) h
  | @lst a xs ea =>
    cases (show u = Value.ref a from rx)
    obtain ⟨_, _, n, _, h1⟩ := (show ObjOk X.prog X.w H s.heap a (.lst xs) from I.hok a _ ea)
    exact PySem.W.kia_one PySem.W.kitx_list I.kIn ⟨_, h1, rfl⟩ e (fun z => nomatch z) h
  | @frz a ob xs ea =>
    cases (show u = Value.ref a from rx)
    obtain ⟨_, _, _, n, _, h1⟩ := (show ObjOk X.prog X.w H s.heap a (.frz ob (.lst xs)) from I.hok a _ ea)
    exact PySem.W.kia_one PySem.W.kitx_list I.kIn ⟨_, h1, rfl⟩ e (fun z => nomatch z) h
  | @tup a xs ea =>
    cases (show u = Value.ref a from rx)
    obtain ⟨_, _, _, p⟩ := (show ObjOk X.prog X.w H s.heap a (.tup xs) from I.hok a _ ea)
    obtain ⟨o, h1, h2, _⟩ := p
    exact PySem.W.kia_one PySem.W.kitx_tuple I.kIn ⟨o, h1, h2⟩ e (fun z => nomatch z) h
  | @dK a kvs ea =>
    cases (show u = Value.ref a from rx)
    obtain ⟨_, _, vs, _, p⟩ := (show ObjOk X.prog X.w H s.heap a (.dK kvs) from I.hok a _ ea)
    obtain ⟨o, es, ep, h1, h2, _⟩ := p
    exact PySem.W.kia_one PySem.W.kitx_dict I.kIn ⟨o, h1, h2.1⟩ e (fun z => nomatch z) h
  | @dT a kvs ea =>
    cases (show u = Value.ref a from rx)
    obtain ⟨_, _, xs, _, o, es, ep, h1, h2, _⟩ := (show ObjOk X.prog X.w H s.heap a (.dT kvs) from I.hok a _ ea)
    exact PySem.W.kia_one PySem.W.kitx_dict I.kIn ⟨o, h1, h2.1⟩ e (fun z => nomatch z) h
  | @ins a C dx fs ea cl ha hn htk hm =>
    cases (show u = Value.ref a from rx)
    obtain ⟨mA, O, _⟩ := ins_get I.hok ea
    obtain ⟨od, J, _⟩ := O.look
    exact PySem.W.kia_one (PySem.W.kitx_own (cl.get _) cl.hd ha hn htk hm) I.kIn J e (fun z => nomatch z) h
end
end L2
namespace L2
open PySem PySem.Spec PyProof.Rows
/-! ### room -/
structure Room (k : Nat) (A : Around) : Prop where
  hd : A.handled = none
  dp : A.depth + 3 * k + 5 < recursionLimit
  un : A.units + 16 * k + 200 < cLine
theorem Room.mono {j k : Nat} {A : Around} (r : Room k A) (h : j ≤ k) : Room j A := ⟨r.hd, by have := r.dp; omega, by have := r.un; omega⟩
theorem Room.deeper {k : Nat} {A : Around} (r : Room (k + 1) A) (env : Env) : Room k (A.deeper env) :=
  ⟨r.hd, by have := r.dp; show A.depth + 1 + 3 * k + 5 < _; omega, by have := r.un; show A.units + 3 + 16 * k + 200 < _; omega⟩
theorem Room.in1 {k : Nat} {A : Around} (r : Room (k + 1) A) : Room k A.in1 :=
  ⟨r.hd, by have := r.dp; show A.depth + 3 * k + 5 < _; omega, by have := r.un; show A.units + 1 + 16 * k + 200 < _; omega⟩
theorem Room.depth {k : Nat} {A : Around} (r : Room k A) : A.depth < recursionLimit := by have := r.dp; omega
theorem Room.units {k : Nat} {A : Around} (r : Room k A) : A.units + 64 < cLine := by have := r.un; omega
/-! ### argument lists and displays -/
def tNil : TA := fun _ H Q => Q [] H
def tCons (ta : TE) (tr : TA) : TA := fun σ H Q => ta σ H fun x H1 => tr σ H1 fun xs H2 => Q (x :: xs) H2
section
variable {X : Cx} {e : Expr} {es : List Expr} {te : TE} {t : TA} {pos : Pos}
theorem pa_nil : PA X [] tNil := fun _ _ _ _ H Q I h => Calls.spliced_nil ⟨[], H, I, .nil, h⟩
theorem pa_cons (ha : PE X e te) (hr : PA X es t) (hs : starEach (e :: es) X.env = (false, eval e X.env) :: starEach es X.env := by rfl) : PA X (e :: es) (tCons te t) := by
  intro pos pins s σ H Q I h
  rw [hs]
  show wpAny _ _ (spliced ((false, eval e X.env) :: backTo pos (starEach es X.env))) _ _ s
  refine Calls.spliced_cons (thn (ha pins s σ H _ I h) fun u s1 ⟨x, H1, I1, r1, q1⟩ => ?_)
  exact thn (hr pos pins s1 σ H1 _ I1 q1) fun us s2 ⟨xs, H2, I2, r2, q2⟩ => ⟨x :: xs, H2, I2, .cons r1 r2, q2⟩
/-- a tuple, a list of written items -/
def tTup (t : TA) : TE := fun σ H Q => t σ H fun xs H1 => xs.length ≤ sizeLine ∧ ∀ p, H1 p = none → Q (.ref p) (upd H1 p (.tup xs))
def tLst (t : TA) : TE := fun σ H Q => t σ H fun xs H1 => xs.length ≤ sizeLine ∧ ∀ p, H1 p = none → Q (.ref p) (upd H1 p (.lst xs))
theorem pe_tup {x1} (h : PA X es t) : PE X (.Tuple es x1 pos) (tTup t) := by
  intro pins s σ H Q I hq
  refine wpAny_Tuple_spliced (thn (h pos pins s σ H _ I hq) fun us s1 ⟨xs, H1, I1, r, z, q⟩ => ⟨by rw [← r.length]; exact z, ?_⟩)
  have hf : H1 s1.heap.objs.size = none := I1.hok.fresh (Nat.le_refl _)
  refine ⟨.ref s1.heap.objs.size, upd H1 s1.heap.objs.size (.tup xs), I1.laid (t' := s1.toks) (fun b u e => Heap.get?_push_of_some _ e) (Nat.le_refl _) ?_, rfl, q _ hf⟩
  exact ⟨z, us, r, ⟨_, Heap.get?_push_size _ rfl, rfl, _, rfl⟩⟩
theorem pe_lst (h : PA X es t) : PE X (.List es pos) (tLst t) := by
  intro pins s σ H Q I hq
  refine wpAny_List_spliced (thn (h pos pins s σ H _ I hq) fun us s1 ⟨xs, H1, I1, r, z, q⟩ => ⟨by rw [← r.length]; exact z, ?_⟩)
  have hf : H1 s1.heap.objs.size = none := I1.hok.fresh (Nat.le_refl _)
  refine ⟨.ref s1.heap.objs.size, upd H1 s1.heap.objs.size (.lst xs), I1.laid (t' := s1.toks) (fun b u e => Heap.get?_push_of_some _ e) (Nat.le_refl _) ?_, rfl, q _ hf⟩
  exact ⟨z, us, 0, r, Heap.get?_push_size _ rfl⟩
end
/-! ### what a def promises -/
/-- a def's promise: the bound arguments in the parameters' order, the heap, the wanted end, the wanted exception -/
abbrev Sp := List V → Hp → VK → XK → Prop
/-- how an exception lies behind a call (file 08 gives it): the callers' frames, abstract heap and state ahead of the call, the wish, the exception, the state -/
abbrev CXT := List Env → Hp → Shared → XK → Value → Shared → Prop
/-- the state at a call -/
structure Env0 (P : Program) (w : World) (K : PySem.W.Frag) (mg : Str → Option Value) (base : Heap) (A : Around) (outer : List Env) (s : Shared) (H : Hp) : Prop where
  frames : A.frames = some outer
  mod : Mod K mg base
  bs : ∀ b o, base.get? b = some o → s.heap.get? b = some o ∧ H b = none
  bsz : base.objs.size ≤ s.heap.objs.size
  funs : s.heap.FunFrames base outer
  frf : ∀ b ∈ frs outer, H b = none
  hok : HOk P w H s.heap
  bare : AllBare s.gens
/-- a call's end -/
def CE (outer : List Env) (P : Program) (w : World) (H : Hp) (s : Shared) (Q : VK) (u : Value) (s' : Shared) : Prop :=
  ∃ v H', s'.os = s.os ∧ AllBare s'.gens ∧ Un (frs outer) [] H H' s.heap s'.heap ∧ HOk P w H' s'.heap ∧ RelV v u ∧ Q v H'
def CR (CX : CXT) (outer : List Env) (P : Program) (w : World) (H : Hp) (s : Shared) (Q : VK) (E : XK) (r : Result) (s' : Shared) : Prop :=
  match r with
  | .ok (.ret u) => CE outer P w H s Q u s'
  | .ok _ => False
  | .error e => CX outer H s E e s'
structure FnOk (P : Program) (w : World) (K : PySem.W.Frag) (mg : Str → Option Value) (base : Heap) (CX : CXT) (k : Nat) (f : Addr) (fd : FuncData) (ps : List Str) (sp : Sp) : Prop where
  len : ∀ vs H Q E, sp vs H Q E → vs.length = ps.length
  run : ∀ (A : Around) (outer : List Env) (s : Shared) (H : Hp) (args : Args) (us : List Value) (vs : List V) (Q : VK) (E : XK), Room k A → Env0 P w K mg base A outer s H → BindsTo s fd args (ps.zip us) → Vals vs us → sp vs H Q E →
    codeAny (model P w) A (.call (.ref f) args) (CR CX outer P w H s Q E) s
theorem FnOk.mono {P : Program} {w : World} {K : PySem.W.Frag} {mg : Str → Option Value} {base : Heap} {CX : CXT} {j k : Nat} {f : Addr} {fd : FuncData} {ps : List Str} {sp : Sp} (F : FnOk P w K mg base CX j f fd ps sp) (h : j ≤ k) :
    FnOk P w K mg base CX k f fd ps sp := ⟨F.len, fun A outer s H args us vs Q E hr => F.run A outer s H args us vs Q E (hr.mono h)⟩
/-- a weaker promise -/
theorem FnOk.imp {P : Program} {w : World} {K : PySem.W.Frag} {mg : Str → Option Value} {base : Heap} {CX : CXT} {k : Nat} {f : Addr} {fd : FuncData} {ps : List Str} {sp sp' : Sp} (F : FnOk P w K mg base CX k f fd ps sp)
    (h : ∀ vs H Q E, sp' vs H Q E → sp vs H Q E) : FnOk P w K mg base CX k f fd ps sp' :=
  ⟨fun vs H Q E q => F.len vs H Q E (h _ _ _ _ q), fun A outer s H args us vs Q E hr he hb hv hs => F.run A outer s H args us vs Q E hr he hb hv (h _ _ _ _ hs)⟩
theorem Env0.in1 {P : Program} {w : World} {K : PySem.W.Frag} {mg : Str → Option Value} {base : Heap} {A : Around} {outer : List Env} {s : Shared} {H : Hp} (e : Env0 P w K mg base A outer s H) :
    Env0 P w K mg base A.in1 outer s H := ⟨e.frames, e.mod, e.bs, e.bsz, e.funs, e.frf, e.hok, e.bare⟩
section
variable {X : Cx} {pins : List (Addr × Obj)} {σ : St} {H : Hp} {s s' : Shared}
/-- from a body: what a callee wants -/
theorem Inv.env0 (I : Inv X pins σ H s) : Env0 X.prog X.w X.K X.mg X.base X.A X.stack s H :=
  ⟨I.ok.frames, I.ok.mod, I.bs, Nat.le_trans I.ok.bsz I.sz, I.stack, I.stkFree, I.hok, I.bare⟩
/-- behind a call -/
theorem Inv.after {Q : VK} {u : Value} (I : Inv X pins σ H s) (h : CE X.stack X.prog X.w H s Q u s') : EP X pins σ Q u s' := by
  obtain ⟨v, H', os, bare, un, hok, r, q⟩ := h
  obtain ⟨hh, g, d, t, os'⟩ := s'
  obtain rfl : os' = s.os := os
  exact ⟨v, H', I.call (h' := hh) (g' := g) (d' := d) (t' := t) (ch := []) un hok bare (fun b z => absurd z (by simp)), r, q⟩
end
/-! ### calls -/
/-- f(..): the written arguments, then the defaults dvs; E: what is wanted of an exception -/
def tCall (sp : Sp) (dvs : List V) (E : XK) (t : TA) : TE := fun σ H Q => t σ H fun vs H1 => sp (vs ++ dvs) H1 Q E
/-- how the parameters are bound: us the positional arguments, kw the keywords' values by name, ds the defaults that fill up -/
def Binds (K : PySem.W.Frag) (fd : FuncData) (ps : List Str) (ds : List Value) : Prop :=
  ∀ (s : Shared) (us : List Value), K.In s.heap → (us ++ ds).length = ps.length → BindsTo s fd ⟨us, []⟩ (ps.zip (us ++ ds))
/-- every parameter is given -/
theorem Binds.all {K : PySem.W.Frag} {fd : FuncData} {ps : List Str} (h : ∀ us : List Value, us.length = ps.length → bindArgs fd ⟨us, []⟩ = pure (ps.zip us)) : Binds K fd ps [] := fun s us _ hl => by
  rw [List.append_nil] at hl ⊢
  exact .of_eq (h us hl)
/-- an exception of a callee reaches what this body wants of exceptions -/
def Passes (CX : CXT) (X : Cx) (E : XK) : Prop := ∀ (pins : List (Addr × Obj)) (σ : St) (H : Hp) (s : Shared) (e : Value) (s' : Shared), Inv X pins σ H s → CX X.stack H s E e s' → X.xe e s'
section
variable {X : Cx} {CX : CXT} {k : Nat} {f C : Addr} {fd : FuncData} {ps : List Str} {sp : Sp} {dvs : List V} {ds : List Value} {E : XK} {x m : Str} {p pos apos : Pos} {e o : Expr} {es : List Expr} {ta : TE} {t : TA}
/-- the callee runs -/
theorem run_fn {pins : List (Addr × Obj)} {σ : St} {H : Hp} {s : Shared} {Q : VK} {us : List Value} {vs : List V} (F : FnOk X.prog X.w X.K X.mg X.base CX k f fd ps sp) (hr : Room k X.A) (hb : Binds X.K fd ps ds) (hd : Vals dvs ds) (hx : Passes CX X E)
    (I : Inv X pins σ H s) (r : Vals vs us) (h : sp (vs ++ dvs) H Q E) : wpAny (model X.prog X.w) X.A (call (.ref f) us) (EP X pins σ Q) X.xe s := by
  have r2 : Vals (vs ++ dvs) (us ++ ds) := r.append hd
  have hl : (us ++ ds).length = ps.length := by rw [← r2.length]; exact F.len _ _ _ _ h
  refine wpAny_call (codeAny_mono (F.run X.A X.stack s H ⟨us, []⟩ (us ++ ds) (vs ++ dvs) Q E hr I.env0 (hb s us I.kIn hl) r2 h) fun r s' hq => ?_)
  cases r with
  | error e => exact hx pins σ H s e s' I hq
  | ok fl =>
    cases fl with
    | ret u => exact I.after hq
    | next => exact False.elim hq
    | brk => exact False.elim hq
    | cont => exact False.elim hq
theorem pe_call (F : FnOk X.prog X.w X.K X.mg X.base CX k f fd ps sp) (hr : Room k X.A) (hg : Gl X x) (hm : X.mg x = some (.ref f)) (hk : PySem.W.keepIn X.K (.ref f) = true) (hb : Binds X.K fd ps ds) (hd : Vals dvs ds) (hx : Passes CX X E)
    (ha : PA X (e :: es) t) (hdb : (x == ("__debug__" : Str)) = false := by decide) (he : starEach (e :: es) X.env = (false, eval e X.env) :: starEach es X.env := by rfl) (hpl : (backTo pos (starEach es X.env)).any (·.1) = false := by rfl) :
    PE X (.Call (.Name x p) (e :: es) [] pos) (tCall sp dvs E t) := by
  intro pins s σ H Q I h
  refine wpAny_Call_Name_kw (ld_glob I hg hm ?_ hdb)
  refine PySem.W.callWith_K (h₀ := X.base) I.ok.mod.kin hk (thn (ha pos pins s σ H _ I h) fun us s1 ⟨vs, H1, I1, r, q⟩ => ⟨I1.kIn, ?_⟩) he hpl
  exact run_fn F hr hb hd hx I1 r q
/-- what a class must have to be made -/
structure Mk (K : PySem.W.Frag) (C f : Addr) : Prop where
  makes : PySem.W.makesIn K C = true
  init : PySem.W.findIn K (.ref C) "__init__" = some (some (.ref f))
  fn : PySem.W.isFn K (.ref f) = true
  kp : PySem.W.keepIn K (.ref C) = true
end
section
variable {X : Cx} {CX : CXT} {k : Nat} {f C : Addr} {fd : FuncData} {ps ks : List Str} {sp : Sp} {E : XK} {x m : Str} {p pos apos kpos : Pos} {e o : Expr} {es : List Expr} {kws : List Keyword} {te ta : TE} {t tk : TA} {nm : Option Str}
/-- how a call with keywords binds: g puts the positional values us and the keywords' values ws (names ks) in the parameters' order, defaults among them -/
structure KBinds (K : PySem.W.Frag) (fd : FuncData) (ps ks : List Str) (g : List Value → List Value → List Value) (gV : List V → List V → List V) : Prop where
  to : ∀ (s : Shared) (us ws : List Value), K.In s.heap → (g us ws).length = ps.length → BindsTo s fd ⟨us, ks.zip ws⟩ (ps.zip (g us ws))
  rel : ∀ {vs : List V} {us : List Value} {zs : List V} {ws : List Value}, Vals vs us → Vals zs ws → Vals (gV vs zs) (g us ws)
variable {g : List Value → List Value → List Value} {gV : List V → List V → List V}
end
/-! ### a def's body keeps its promise -/
/-- names: the parameters first -/
structure FnScope (N P : List Str) (sc : Scope) : Prop where
  kind : sc.kind = .function
  co : sc.isCoroutine = false
  gen : sc.isGenerator = false
  nd : N.Nodup
  pre : N.take P.length = P
  par : ∀ x ∈ P, sc.names.lookup x = some .local ∨ sc.names.lookup x = some .cell
  nofree : ∀ y ∈ sc.names, y.2 ≠ .free
theorem bindL_out {kindOf : Str → Option NameKind} {x : Str} : ∀ {binds : List (Str × Value)} {m : Str → Option Value}, (∀ v, (x, v) ∉ binds) → bindL kindOf binds m x = m x
  | [], _, _ => rfl
  | (n, v) :: r, m, h => by
    unfold bindL
    rw [bindL_out fun w hw => h w (List.mem_cons_of_mem _ hw)]
    split
    · have : x ≠ n := by rintro rfl; exact h v List.mem_cons_self
      simp [this]
    · rfl
theorem bindC_out {kindOf : Str → Option NameKind} {x : Str} : ∀ {binds : List (Str × Value)} {m : Str → Option Value}, (∀ v, (x, v) ∉ binds) → bindC kindOf binds m x = m x
  | [], _, _ => rfl
  | (n, v) :: r, m, h => by
    unfold bindC
    rw [bindC_out fun w hw => h w (List.mem_cons_of_mem _ hw)]
    split
    · rfl
    · have : x ≠ n := by rintro rfl; exact h v List.mem_cons_self
      simp [this]
theorem bindL_get {kindOf : Str → Option NameKind} {x : Str} {v : Value} : ∀ {P : List Str} {vs : List Value} {i : Nat} {m : Str → Option Value}, P.Nodup → P[i]? = some x → vs[i]? = some v → kindOf x = some .local →
    bindL kindOf (P.zip vs) m x = some v
  | [], _, _, _, _, h, _, _ => by simp at h
  | _ :: _, [], _, _, _, _, h, _ => by simp at h
  | p :: P, w :: vs, 0, m, nd, h1, h2, hk => by
    simp at h1 h2; subst h1; subst h2
    show bindL kindOf ((p, w) :: P.zip vs) m p = _
    unfold bindL
    rw [bindL_out fun v hv => (List.nodup_cons.mp nd).1 (List.of_mem_zip hv).1, if_pos hk]
    simp
  | p :: P, w :: vs, i + 1, m, nd, h1, h2, hk => by
    show bindL kindOf ((p, w) :: P.zip vs) m x = _
    unfold bindL
    exact bindL_get (i := i) (List.nodup_cons.mp nd).2 (by simpa using h1) (by simpa using h2) hk
theorem bindC_get {kindOf : Str → Option NameKind} {x : Str} {v : Value} : ∀ {P : List Str} {vs : List Value} {i : Nat} {m : Str → Option Value}, P.Nodup → P[i]? = some x → vs[i]? = some v → kindOf x ≠ some .local →
    bindC kindOf (P.zip vs) m x = some v
  | [], _, _, _, _, h, _, _ => by simp at h
  | _ :: _, [], _, _, _, _, h, _ => by simp at h
  | p :: P, w :: vs, 0, m, nd, h1, h2, hk => by
    simp at h1 h2; subst h1; subst h2
    show bindC kindOf ((p, w) :: P.zip vs) m p = _
    unfold bindC
    rw [bindC_out fun v hv => (List.nodup_cons.mp nd).1 (List.of_mem_zip hv).1, if_neg hk]
    simp
  | p :: P, w :: vs, i + 1, m, nd, h1, h2, hk => by
    show bindC kindOf ((p, w) :: P.zip vs) m x = _
    unfold bindC
    exact bindC_get (i := i) (List.nodup_cons.mp nd).2 (by simpa using h1) (by simpa using h2) hk
/-- the names' values at the entry -/
def start (N : List Str) (vs : List V) : St := vs.map some ++ List.replicate (N.length - vs.length) none
/-- the context of a def's body, at its entry; an exception leaves the frame, then lies as CX says -/
def cxOf (CX : CXT) (P : Program) (w : World) (K : PySem.W.Frag) (mg : Str → Option Value) (base : Heap) (N : List Str) (qual : Str) (scope : Scope) (f : Addr) (cd : Value) (A : Around) (outer : List Env) (s : Shared) (H : Hp) (E : XK) : Cx where
  prog := P
  w := w
  K := K
  mg := mg
  base := base
  A := A.deeper (envOfC qual scope s.heap.objs.size f cd)
  N := N
  s_0 := s
  H_0 := H
  env := envOfC qual scope s.heap.objs.size f cd
  outer := outer
  stack := envOfC qual scope s.heap.objs.size f cd :: outer
  ex := []
  calm := true
  fn := fun _ => true
  pn := []
  xe := fun e s' => wpAny (model P w) (A.deeper (envOfC qual scope s.heap.objs.size f cd)) (leaving (envOfC qual scope s.heap.objs.size f cd) e) (fun _ s'' => CX outer H s E e s'') (fun e' s'' => CX outer H s E e' s'') s'
theorem cell_has {sc : Scope} {n : Nat} {x : Str} (h : sc.names.lookup x = some .cell) : ∃ c, (cellsFrom n sc.names []).lookup x = some c := by
  have q := PySem.W.cellsFrom_some sc.names n [] (.inl h)
  exact Option.isSome_iff_exists.mp q
theorem inv_start {CX : CXT} {P : Program} {w : World} {K : PySem.W.Frag} {mg : Str → Option Value} {base : Heap} {N ps : List Str} {qual : Str} {scope : Scope} {f : Addr} {cd : Value} {A : Around} {outer : List Env} {s s1 : Shared} {H : Hp} {E : XK} {us : List Value} {vs : List V}
    (S : FnScope N ps scope) (hd : A.handled = none) (e0 : Env0 P w K mg base A outer s H) (hl : vs.length = ps.length) (r : Vals vs us)
    (x : InCallC s s.heap.objs.size (bindL (envOfC qual scope s.heap.objs.size f cd).kindOf (ps.zip us) fun _ => none) (cellsFrom (s.heap.objs.size + 1) scope.names []) (bindC (envOfC qual scope s.heap.objs.size f cd).kindOf (ps.zip us) fun _ => none) s1) :
    Inv (cxOf CX P w K mg base N qual scope f cd A outer s H E) [] (start N vs) H s1 := by
  have hpl : ps.length ≤ N.length := by have := congrArg List.length S.pre; rw [List.length_take] at this; omega
  obtain ⟨h1, tk, rfl, hk⟩ := x.done
  have noA : ∀ b : Addr, b ∉ (cxOf CX P w K mg base N qual scope f cd A outer s H E).ex := fun b z => absurd (show b ∈ ([] : List Addr) from z) (by simp)
  refine ⟨⟨e0.mod, S.kind, rfl, rfl, Nat.le_refl _, fun y z c h1 h2 => ?_, fun y hy => ?_, fun y c _ h => ?_, fun _ => hd, Around.frames_deeper e0.frames, .inr ⟨rfl, rfl⟩, fun b z => absurd z (noA b), e0.bs, e0.bsz, fun b _ _ => noA b, fun b z => absurd z (noA b), e0.funs, e0.frf⟩,
    rfl, e0.bare, Un.kept hk, ⟨_, x.toInCall.ns, fun i y v h1 h2 h3 => ?_⟩, fun y c h => ⟨_, x.cell y c h⟩, e0.hok.fresh (Nat.le_refl _), fun y c h => ?_, fun p hp => absurd (show p ∈ ([] : List (Addr × Obj)) from hp) (by simp), e0.hok.kept hk, ?_⟩
  · exact name_of_addr x.apart (PySem.mem_of_lookup h1) (PySem.mem_of_lookup h2)
  · have hy : scope.names.lookup y = some .cell ∨ scope.names.lookup y = some .free := hy
    rcases hy with hy | hy
    · exact cell_has hy
    · exact absurd rfl (S.nofree _ (PySem.mem_of_lookup hy))
  · exact Nat.le_of_lt (x.above y c (PySem.mem_of_lookup h))
  · have hi : i < vs.length := by
      unfold start at h2
      by_cases hi : i < vs.length
      · exact hi
      · rw [List.getElem?_append_right (by simpa using hi)] at h2
        rw [List.getElem?_replicate] at h2
        split at h2 <;> cases h2
    have ha : vs[i]? = some v := by
      unfold start at h2
      rw [List.getElem?_append_left (by simpa using hi), List.getElem?_map] at h2
      cases e : vs[i]? with
      | none => rw [e] at h2; cases h2
      | some a => rw [e] at h2; cases h2; rfl
    obtain ⟨u, hu, rv⟩ := r.get ha
    have hp : ps[i]? = some y := by
      rw [← S.pre, List.getElem?_take_of_lt (by omega)]; exact h1
    have ndP : ps.Nodup := by rw [← S.pre]; exact S.nd.sublist (List.take_sublist _ _)
    refine ⟨u, rv, ?_⟩
    rcases S.par y (List.mem_of_getElem? hp) with k | k
    · exact .inl ⟨k, bindL_get ndP hp hu k⟩
    · obtain ⟨c, e⟩ := cell_has (n := s.heap.objs.size + 1) k
      refine .inr ⟨.inl k, c, e, ?_⟩
      have q := x.cell y c e
      rw [bindC_get ndP hp hu (by show scope.names.lookup y ≠ _; rw [k]; decide)] at q
      exact q
  · exact e0.hok.fresh (Nat.le_of_lt (x.above y c (PySem.mem_of_lookup h)))
  · unfold start
    show _ = N.length
    rw [List.length_append, List.length_map, List.length_replicate]
    omega
/-- THE RULE: a def (or a method) of the text, by its body. The body's reading t is chosen for each entry; it is run at the parameters' values -/
theorem fn_of {CX : CXT} {P : Program} {w : World} {K : PySem.W.Frag} {mg : Str → Option Value} {base : Heap} {k : Nat} {f : Addr} {name qual : Str} {params : Arguments} {body : List Stmt} {scope : Scope} {dV kV doc pm cdv ct oc : Value} {an od : Option Addr}
    {osl : Array (Option Value)} {N ps : List Str} {sp : Sp} (lk : K.lookup f = some ⟨oc, od, .func (PySem.W.fnOf name qual params body scope dV kV doc pm an cdv ct), osl⟩) (hcd : PySem.W.codeIn K cdv qual = true) (S : FnScope N ps scope)
    (len : ∀ vs H Q E, sp vs H Q E → vs.length = ps.length)
    (hbody : ∀ (A : Around) (outer : List Env) (s : Shared) (H : Hp) (vs : List V) (Q : VK) (E : XK), Room k (A.deeper (envOfC qual scope s.heap.objs.size f cdv)) → sp vs H Q E →
      ∃ t, PSs (cxOf CX P w K mg base N qual scope f cdv A outer s H E) body t ∧ t { nx := fun _ H' => Q .non H', rt := Q } (start N vs) H) :
    FnOk P w K mg base CX (k + 1) f (PySem.W.fnOf name qual params body scope dV kV doc pm an cdv ct) ps sp := by
  refine ⟨len, fun A outer s H args us vs Q E hr e0 hb r hsp => ?_⟩
  have hl := len _ _ _ _ hsp
  have KX : K.In s.heap := e0.mod.kin.keeps fun b o e => (e0.bs b o e).1
  have lim : s.heap.NoLimit := e0.mod.nolimit.keeps fun b o e => (e0.bs b o e).1
  have hkind : ∀ y ∈ ps.zip us, scope.names.lookup y.1 = some .local ∨ (scope.names.lookup y.1 = some .cell ∧ ((cellsFrom (s.heap.objs.size + 1) scope.names []).lookup y.1).isSome = true) := fun ⟨n, v⟩ hy => by
    rcases S.par n (List.of_mem_zip hy).1 with q | q
    · exact .inl q
    · exact .inr ⟨q, PySem.W.cellsFrom_some _ _ _ (.inl q)⟩
  refine codeAny_call_function hr.depth (KX _ _ lk) rfl S.co S.gen rfl (PySem.W.codeRec_of KX hcd) (hb _ _ _ _ ?_)
  refine wpAny_newFunctionEnv_cells S.kind hkind fun env he s1 x => ?_
  subst he
  refine ⟨lim.keeps x.toInCall.keep, codeAny_func ?_⟩
  obtain ⟨t, ht, hq⟩ := hbody A outer s H vs Q E (hr.deeper _) hsp
  have I : Inv (cxOf CX P w K mg base N qual scope f cdv A outer s H E) [] (start N vs) H s1 := inv_start S hr.hd e0 hl r x
  refine wpAny_mono (ht [] s1 (start N vs) H _ I hq) (fun fl s' hs => ?_) fun e s' hs => hs
  have fin : ∀ {σ' : St} {H' : Hp} {v : V} {u : Value}, Inv (cxOf CX P w K mg base N qual scope f cdv A outer s H E) [] σ' H' s' → RelV v u → Q v H' → CE outer P w H s Q u s' :=
    fun {σ' H' v u} J rv q => ⟨v, H', J.os, J.bare, J.base, J.hok, rv, q⟩
  cases fl with
  | ret u =>
    obtain ⟨v, σ', H', J, rv, q⟩ := hs
    exact fin J rv q
  | next =>
    obtain ⟨σ', H', J, q⟩ := hs
    exact fin (v := V.non) (u := Value.none) J rfl q
  | brk =>
    obtain ⟨_, _, _, q⟩ := hs
    exact False.elim q
  | cont =>
    obtain ⟨_, _, _, q⟩ := hs
    exact False.elim q
end L2
namespace L2
open PySem PySem.Spec PyProof.Rows
section
variable {X : Cx} {x : Str} {p pos : Pos} {e : Expr} {es : List Expr} {t : TA} {id T : String} {r : List V → Hp → VK → Prop}
def tCB (r : List V → Hp → VK → Prop) (t : TA) : TE := fun σ H Q => t σ H fun vs H1 => r vs H1 Q
/-- f(e, ..), f a built-in function -/
theorem pe_callB (hc : CallR X (.builtin id) r) (hg : Gl X x) (hm : X.mg x = none) (hv : bootBuiltins x = some (.builtin id)) (ha : PA X (e :: es) t) (hn : x ≠ "__name__" := by decide) (hdb : (x == ("__debug__" : Str)) = false := by decide)
    (he : starEach (e :: es) X.env = (false, eval e X.env) :: starEach es X.env := by rfl) (hpl : (backTo pos (starEach es X.env)).any (·.1) = false := by rfl) : PE X (.Call (.Name x p) (e :: es) [] pos) (tCB r t) := by
  intro pins s σ H Q I h
  refine wpAny_Call_Name_kw (ld_blt I hg hm hv ?_ hn hdb)
  exact PyProof.Rows.callWith_builtin1 (thn (ha pos pins s σ H _ I h) fun us s1 ⟨vs, H1, I1, r1, q1⟩ => hc pins s1 σ H1 vs us Q I1 r1 q1) he hpl
/-- T(e, ..), T a built-in type -/
theorem pe_callTy (hc : CallR X (.type T) r) (hg : Gl X x) (hm : X.mg x = none) (hv : bootBuiltins x = some (.type T)) (ha : PA X (e :: es) t) (hn : x ≠ "__name__" := by decide) (hdb : (x == ("__debug__" : Str)) = false := by decide)
    (he : starEach (e :: es) X.env = (false, eval e X.env) :: starEach es X.env := by rfl) (hpl : (backTo pos (starEach es X.env)).any (·.1) = false := by rfl) : PE X (.Call (.Name x p) (e :: es) [] pos) (tCB r t) := by
  intro pins s σ H Q I h
  refine wpAny_Call_Name_kw (ld_blt I hg hm hv ?_ hn hdb)
  exact PyProof.Rows.callWith_type1 (thn (ha pos pins s σ H _ I h) fun us s1 ⟨vs, H1, I1, r1, q1⟩ => hc pins s1 σ H1 vs us Q I1 r1 q1) he hpl
end
end L2
namespace HT
open PySem PyProof.Rows
section
variable {prog : Program} {w : World} {A : Around} {E : Value → Shared → Prop} {s : Shared}
/-- t + u, t not empty -/
theorem cat_tup {t b : Addr} {vs ws : List Value} {Q : Value → Shared → Prop} (ht : IsTup s.heap t vs.toArray) (hb : IsTup s.heap b ws.toArray) (hv : vs ≠ [])
    (h1 : ws = [] → Q (.ref t) s) (h2 : ws ≠ [] → Q (.ref s.heap.objs.size) { s with heap := s.heap.push { cls := .type "tuple", data := .seq (vs ++ ws).toArray } })
    (hsz : vs.length + ws.length ≤ sizeLine) : wpAny (model prog w) A (binaryOp .Add (.ref t) (.ref b)) Q E s := by
  obtain ⟨⟨cls, dd, data, sl⟩, ho, hc, n, hd⟩ := id ht
  obtain ⟨⟨cls2, dd2, data2, sl2⟩, ho2, hc2, n2, hd2⟩ := id hb
  simp only at hc hd hc2 hd2
  subst hc hd hc2 hd2
  have e : vs.toArray ++ ws.toArray = (vs ++ ws).toArray := by simp
  by_cases hw : ws = []
  · exact concat_meets ⟨_, ho, rfl⟩ ⟨_, ho2, rfl⟩ noFill_tuple_add seq_tuple_add PySem.F.slot_tuple_add PySem.F.entry_tuple_add (PySem.F.args_tuple_add_2 _ _)
      (tuple_addW1 t b vs.toArray ws.toArray n n2 dd dd2 sl sl2 (by simpa using hv) (by simp [hw])) ⟨ho, ho2, h1 hw⟩
  · refine concat_meets ⟨_, ho, rfl⟩ ⟨_, ho2, rfl⟩ noFill_tuple_add seq_tuple_add PySem.F.slot_tuple_add PySem.F.entry_tuple_add (PySem.F.args_tuple_add_2 _ _)
      (tuple_addW2 t b vs.toArray ws.toArray n n2 dd dd2 sl sl2 (by simpa using hv) (by simpa using hw) (by rw [List.size_toArray, List.size_toArray]; exact hsz)) ⟨ho, ho2, ?_⟩
    rw [e]
    exact h2 hw
/-! ### t[a:b], not the whole -/
/-- a slice's bound as a place among n (d where it is left out) -/
def sIx (n d : Nat) : Option Int → Nat
  | none => d
  | some v => if v < 0 then (v + (n : Int)).toNat else min v.toNat n
theorem sIx_nat (n d k : Nat) : sIx n d (some (k : Int)) = min k n := by
  show (if (k : Int) < 0 then ((k : Int) + (n : Int)).toNat else min (k : Int).toNat n) = min k n
  rw [if_neg (by omega), Int.toNat_natCast]
theorem sIx_le (n d : Nat) (hd : d ≤ n) (o : Option Int) : sIx n d o ≤ n := by
  cases o with
  | none => exact hd
  | some v =>
    show (if v < 0 then (v + (n : Int)).toNat else min v.toNat n) ≤ n
    by_cases hv : v < 0
    · rw [if_pos hv]; omega
    · rw [if_neg hv]; exact Nat.min_le_right _ _
end
end HT
namespace L2
open PySem PySem.Spec PyProof.Rows
/-! ### the parts of a slice -/
abbrev TO := St → Hp → (Option Int → Hp → Prop) → Prop
/-- a slice's part (left out, or an int) -/
def PO (X : Cx) (e : Option Expr) (t : TO) : Prop :=
  ∀ (pins : List (Addr × Obj)) (s : Shared) (σ : St) (H : Hp) (Q : Option Int → Hp → Prop), Inv X pins σ H s → t σ H Q →
    wpAny (model X.prog X.w) X.A (evalPart e X.env) (fun u s' => ∃ o H', Inv X pins σ H' s' ∧ IsPart u o ∧ Q o H') X.xe s
def tNoPart : TO := fun _ H Q => Q none H
def tPart (t : TE) : TO := fun σ H Q => t σ H fun x H1 => ∃ i, x = .int i ∧ Q (some i) H1
section
variable {X : Cx} {e : Expr} {te : TE} {lo hi : Option Expr} {tl th : TO} {pos p2 : Pos}
theorem po_none : PO X none tNoPart := by
  intro pins s σ H Q I h
  rw [evalPart_none]
  exact wpAny_pure ⟨none, H, I, .none, h⟩
theorem po_some (h : PE X e te) : PO X (some e) (tPart te) := by
  intro pins s σ H Q I hw
  rw [evalPart_some]
  refine thn (h pins s σ H _ I hw) fun u s1 ⟨x, H1, I1, r1, q1⟩ => ?_
  obtain ⟨i, rfl, q⟩ := q1
  obtain ⟨t, rfl⟩ := r1
  exact ⟨some i, H1, I1, .int i t, q⟩
/-- what a slice of a value is, by values: the slice object stands at sl -/
def SlR (X : Cx) (r : V → Option Int → Option Int → Hp → VK → Prop) : Prop :=
  ∀ (pins : List (Addr × Obj)) (s : Shared) (σ : St) (H : Hp) (x : V) (v vl vu : Value) (lo hi : Option Int) (sl : Addr) (Q : VK), Inv X pins σ H s → RelV x v → s.heap.IsSliceOf sl vl vu .none → IsPart vl lo → IsPart vu hi → r x lo hi H Q →
    ∃ T id, typeLookup (.type T) "__getitem__" = pure (some (.builtin id)) ∧ s.TypeIs v T ∧ wpAny (model X.prog X.w) X.A (getItem v (.ref sl)) (EP X pins σ Q) X.xe s
def tSl (r : V → Option Int → Option Int → Hp → VK → Prop) (te : TE) (tl th : TO) : TE := fun σ H Q => te σ H fun x H1 => tl σ H1 fun l H2 => th σ H2 fun u H3 => r x l u H3 Q
/-- a[lo:hi], any a -/
theorem pe_slice {r : V → Option Int → Option Int → Hp → VK → Prop} (hr : SlR X r) (he : PE X e te) (hl : PO X lo tl) (hu : PO X hi th) : PE X (.Subscript e (.Slice lo hi none p2) pos) (tSl r te tl th) := by
  intro pins s σ H Q I h
  refine Subscript_ (thn (he pins s σ H _ I h) fun v s1 ⟨x, H1, I1, r1, q1⟩ => ?_)
  refine wpAny_Slice (thn (hl pins s1 σ H1 _ I1 q1) fun vl s2 ⟨l, H2, I2, pl, q2⟩ => thn (hu pins s2 σ H2 _ I2 q2) fun vu s3 ⟨u, H3, I3, pu, q3⟩ => ?_)
  rw [evalPart_none]
  refine wpAny_pure ?_
  have I4 : Inv X pins σ H3 { s3 with heap := s3.heap.push { cls := .type "slice", data := .fields #[vl, vu, .none] } } := I3.kept (t' := s3.toks) fun b ob q => Heap.get?_push_of_some _ q
  obtain ⟨T, id, hT, ht, hg⟩ := hr pins { s3 with heap := s3.heap.push { cls := .type "slice", data := .fields #[vl, vu, .none] } } σ H3 x v vl vu l u s3.heap.objs.size Q I4 r1 (Heap.IsSliceOf.new ..) pl pu q3
  show wpAny (model X.prog X.w) X.A (subscriptTail e (.Slice lo hi none p2) v (.ref s3.heap.objs.size)) (EP X pins σ Q) X.xe { s3 with heap := s3.heap.push { cls := .type "slice", data := .fields #[vl, vu, .none] } }
  exact tail_any (ops := [.ref s3.heap.objs.size, v]) ht hT hg (by with_unfolding_all rfl)
/-- the items of xs[lo:hi] -/
def cutV (xs : List V) (lo hi : Option Int) : List V := (xs.drop (HT.sIx xs.length 0 lo)).take (HT.sIx xs.length xs.length hi - HT.sIx xs.length 0 lo)
theorem cutV_length (xs : List V) (lo hi : Option Int) : (cutV xs lo hi).length ≤ xs.length := by
  unfold cutV
  rw [List.length_take, List.length_drop]
  omega
/-- t + u, t not empty: u empty gives t itself -/
def rCatT (K : PySem.W.Frag) : R2 := fun x y H Q => ∃ a b xs ys, x = .ref a ∧ y = .ref b ∧ SqT K H a xs ∧ SqT K H b ys ∧ xs ≠ [] ∧ xs.length + ys.length ≤ sizeLine ∧
  (ys = [] → Q (.ref a) H) ∧ (ys ≠ [] → ∀ p, H p = none → Q (.ref p) (upd H p (.tup (xs ++ ys))))
theorem Vals.nil_iff {xs : List V} {us : List Value} (r : Vals xs us) : us = [] ↔ xs = [] := by
  cases r with
  | nil => simp
  | cons _ _ => simp
theorem op_catT : OpR X (binaryOp .Add) (rCatT X.K) := by
  intro pins s σ H x y v u Q I rx ry h
  obtain ⟨a, b, xs, ys, rfl, rfl, ha, hb, hx, hz, q1, q2⟩ := h
  cases rx
  cases ry
  obtain ⟨its, r1, p1, _⟩ := I.tuple ha
  obtain ⟨its2, r2, p2, _⟩ := I.tuple hb
  refine HT.cat_tup p1 p2 (fun z => hx (r1.nil_iff.mp z)) (fun z => ⟨.ref a, H, I, rfl, q1 (r2.nil_iff.mp z)⟩) (fun z => ?_) (by rw [← r1.length, ← r2.length]; exact hz)
  refine ⟨.ref s.heap.objs.size, _, I.laid (t' := s.toks) (o := .tup (xs ++ ys)) (fun b ob q => Heap.get?_push_of_some _ q) (Nat.le_refl _) ?_, rfl, q2 (fun w => z (r2.nil_iff.mpr w)) _ (I.hok.fresh (Nat.le_refl _))⟩
  exact ⟨by rw [List.length_append]; exact hz, _, r1.append r2, IsTup.new _ _⟩
end
end L2
namespace L2
open PySem PySem.Spec PyProof.Rows
/-! ### places -/
/-- the place that an index of any sign means -/
def ixN (n : Nat) (i : Int) : Option Nat := if 0 ≤ i then (if i < n then some i.toNat else none) else if -(n : Int) ≤ i then some (i + n).toNat else none
def atI {α : Type} (xs : List α) (i : Int) : Option α := (ixN xs.length i).bind fun j => xs[j]?
theorem ixN_seq {n : Nat} {i : Int} {j : Nat} (h : ixN n i = some j) : seqIndex? i n = some j ∧ j < n ∧ -(n : Int) ≤ i ∧ i < n := by
  unfold ixN at h
  by_cases h0 : 0 ≤ i
  · rw [if_pos h0] at h
    by_cases h1 : i < n
    · rw [if_pos h1] at h
      have e : i.toNat = j := Option.some.inj h
      exact ⟨by rw [seqIndex_of h0 h1, e], by omega, by omega, h1⟩
    · rw [if_neg h1] at h; cases h
  · rw [if_neg h0] at h
    by_cases h1 : -(n : Int) ≤ i
    · rw [if_pos h1] at h
      have e : (i + n).toNat = j := Option.some.inj h
      exact ⟨by rw [seqIndex_neg (by omega) h1, e], by omega, h1, by omega⟩
    · rw [if_neg h1] at h; cases h
theorem atI_get {α : Type} {xs : List α} {i : Int} {v : α} (h : atI xs i = some v) : ∃ j, seqIndex? i xs.length = some j ∧ xs[j]? = some v ∧ j < xs.length ∧ -(xs.length : Int) ≤ i ∧ i < xs.length := by
  unfold atI at h
  cases e : ixN xs.length i with
  | none => rw [e] at h; cases h
  | some j =>
    rw [e] at h
    obtain ⟨h1, h2, h3, h4⟩ := ixN_seq e
    exact ⟨j, h1, h, h2, h3, h4⟩
theorem atI_nat {α : Type} {xs : List α} {j : Nat} {v : α} (h : xs[j]? = some v) : atI xs (j : Int) = some v := by
  have hj : j < xs.length := (List.getElem?_eq_some_iff.mp h).1
  have e : ixN xs.length (j : Int) = some j := by
    unfold ixN
    rw [if_pos (by omega), if_pos (by omega)]; simp
  unfold atI; rw [e]; exact h
/-! ### what may be subscripted -/
/-- what stands as an index of a plain subscript -/
def PlainIx (b : Expr) : Prop := ∀ o i, subscripted b false o i = operate [o, i] (getItem o i)
/-- a subscript by values -/
def IxR (X : Cx) (r : R2) : Prop :=
  ∀ (value slice : Expr) (pins : List (Addr × Obj)) (s : Shared) (σ : St) (H : Hp) (x y : V) (v u : Value) (Q : VK), Inv X pins σ H s → RelV x v → RelV y u → r x y H Q →
    subscripted slice false v u = operate [v, u] (getItem v u) → wpAny (model X.prog X.w) X.A (subscriptTail value slice v u) (EP X pins σ Q) X.xe s
/-- a call of a builtin's method by values: the receiver, the arguments -/
def MtR (X : Cx) (id : String) (r : V → List V → Hp → VK → Prop) : Prop :=
  ∀ (pins : List (Addr × Obj)) (s : Shared) (σ : St) (H : Hp) (x : V) (xs : List V) (v : Value) (us : List Value) (Q : VK), Inv X pins σ H s → RelV x v → Vals xs us → r x xs H Q →
    wpAny (model X.prog X.w) X.A (call (.builtin id) (v :: us)) (EP X pins σ Q) X.xe s
section
variable {X : Cx} {a b : Expr} {ta tb : TE} {pos : Pos}
/-- a[b] -/
theorem pe_ix {r : R2} (hr : IxR X r) (ha : PE X a ta) (hb : PE X b tb) (hs : PlainIx b) : PE X (.Subscript a b pos) (tOp r ta tb) := by
  intro pins s σ H Q I h
  exact Subscript_ (binT ha hb I h fun v u s2 x y H2 I2 rx ry q => hr a b pins s2 σ H2 x y v u Q I2 rx ry q (hs _ _))
def rIxL (K : PySem.W.Frag) : R2 := fun x y H Q => ∃ p xs i v, x = .ref p ∧ y = .int i ∧ SqL K H p xs ∧ atI xs i = some v ∧ Q v H
def rIxT (K : PySem.W.Frag) : R2 := fun x y H Q => ∃ p xs i v, x = .ref p ∧ y = .int i ∧ SqT K H p xs ∧ atI xs i = some v ∧ Q v H
def rIxS : R2 := fun x y H Q => ∃ z i c, x = .str z ∧ y = .int i ∧ z.length ≤ sizeLine ∧ atI z.cps.toList i = some c ∧ Q (.str ⟨#[c]⟩) H
theorem ix_list : IxR X (rIxL X.K) := by
  intro value slice pins s σ H x y v u Q I rx ry h hs
  obtain ⟨p, xs, i, z, rfl, rfl, hq, he, q⟩ := h
  cases rx
  obtain ⟨t, rfl⟩ := ry
  obtain ⟨its, r, pl, hz⟩ := I.list hq
  obtain ⟨j, h1, h2, h3, h4, h5⟩ := atI_get he
  obtain ⟨w, ew, rw'⟩ := r.get h2
  have hl := r.length
  have hn := line63
  have fin : EP X pins σ Q w s := ⟨z, H, I, rw', q⟩
  by_cases h0 : 0 ≤ i
  · have hj : i.toNat = j := by
      rw [seqIndex_of h0 h5] at h1
      exact Option.some.inj h1
    exact item_listR pl.isList h0 (by omega) (by rw [hj]; simpa using ew) fin hs
  · have hj : (i + (its.toArray.size : Int)).toNat = j := by
      rw [seqIndex_neg (by omega) h4] at h1
      rw [List.size_toArray, ← hl]
      exact Option.some.inj h1
    exact subscriptTail_builtinR (x := w) pl.isList.typeIs slot_list_getitem.lookup
      (wpAny_getItem_list_neg (Q := fun r s' => r = w ∧ EP X pins σ Q r s') pl.isList (by omega) (by rw [List.size_toArray] <;> omega) (by omega) (by rw [hj]; simpa using ew) ⟨rfl, fin⟩) hs
theorem ix_tup : IxR X (rIxT X.K) := by
  intro value slice pins s σ H x y v u Q I rx ry h hs
  obtain ⟨p, xs, i, z, rfl, rfl, hq, he, q⟩ := h
  cases rx
  obtain ⟨t, rfl⟩ := ry
  obtain ⟨its, r, pl, hz⟩ := I.tuple hq
  obtain ⟨j, h1, h2, h3, h4, h5⟩ := atI_get he
  obtain ⟨w, ew, rw'⟩ := r.get h2
  have hl := r.length
  have hn := line63
  have fin : EP X pins σ Q w s := ⟨z, H, I, rw', q⟩
  exact subscriptTail_builtinR (x := w) pl.typeIs slot_tuple_getitem.lookup
    (getItem_tuple (j := j) (Q := fun r s' => r = w ∧ EP X pins σ Q r s') pl (by omega) (by omega) (by rw [List.size_toArray, ← hl]; exact h1) (by simpa using ew) ⟨rfl, fin⟩) hs
theorem ix_str : IxR X rIxS := by
  intro value slice pins s σ H x y v u Q I rx ry h hs
  obtain ⟨z, i, c, rfl, rfl, hz, he, q⟩ := h
  obtain ⟨t, rfl⟩ := rx
  obtain ⟨t', rfl⟩ := ry
  obtain ⟨j, h1, h2, h3, h4, h5⟩ := atI_get he
  have hl : z.cps.toList.length = z.length := by simp [Str.length]
  rw [hl] at h1 h4 h5
  have hn := line63
  exact tail_any (typeIs_str s z t) slot_str_getitem.lookup (getItem_str (c := c) (by
    have e1 : decide (i < -(2 ^ 63 : Int)) = false := decide_eq_false (by omega)
    have e2 : decide (i ≥ 2 ^ 63) = false := decide_eq_false (by omega)
    rw [e1, e2, Bool.or_false]) (by rw [h1]; simpa using h2) ⟨.str ⟨#[c]⟩, H, I.tok _, ⟨_, rfl⟩, q⟩) hs
/-! ### xs[i] = v, any sign -/
/-- the list's object behind a store -/
theorem mapSeq_set (its : List Value) (n j : Nat) (u : Value) : Obj.mapSeq (·.setIfInBounds j u) { cls := .type "list", data := .seq its.toArray n } = { cls := .type "list", data := .seq (its.set j u).toArray n } := by
  simp [Obj.mapSeq]
theorem Inv.lst {pins : List (Addr × Obj)} {σ : St} {H : Hp} {s : Shared} {p : Addr} {xs : List V} (I : Inv X pins σ H s) (h : H p = some (.lst xs)) :
    ∃ (its : List Value) (n : Nat), Vals xs its ∧ s.heap.get? p = some { cls := .type "list", data := .seq its.toArray n } ∧ xs.length ≤ sizeLine := by
  obtain ⟨z, its, n, r, e⟩ := I.hok p _ h
  exact ⟨its, n, r, e, z⟩
/-- the list at p is written by an update of its object -/
theorem Inv.lstUpd {pins : List (Addr × Obj)} {σ : St} {H : Hp} {s : Shared} {p : Addr} {xs ys : List V} {its its' : List Value} {n n' : Nat} {f : Obj → Obj} (I : Inv X pins σ H s) (h : H p = some (.lst xs))
    (ho : s.heap.get? p = some { cls := .type "list", data := .seq its.toArray n }) (hf : f { cls := .type "list", data := .seq its.toArray n } = { cls := .type "list", data := .seq its'.toArray n' }) (r : Vals ys its') (hz : ys.length ≤ sizeLine) (t : Nat) :
    Inv X pins σ (upd H p (.lst ys)) { s with heap := s.heap.update p f, toks := t } := by
  have e : (s.heap.update p f).get? p = some { cls := .type "list", data := .seq its'.toArray n' } := by
    rw [Heap.get?_update_self f ho (by rw [hf] <;> rfl), hf]
  refine I.write (x := p) (e := p) (by rw [h]; trivial) (.inl rfl) (fun b u hb q => (Heap.get?_update_other _ _ (Ne.symm hb)).trans q) ⟨_, e⟩ ?_
  exact ⟨hz, its', n', r, e⟩
def rSetL : V → V → V → Hp → (Hp → Prop) → Prop := fun o i v H Q => ∃ p xs k j, o = .ref p ∧ i = .int k ∧ H p = some (.lst xs) ∧ ixN xs.length k = some j ∧ Q (upd H p (.lst (xs.set j v)))
theorem set_list : PSet X rSetL := by
  intro pins s σ H o i v ov iv u Q I ro ri rv h
  obtain ⟨p, xs, k, j, rfl, rfl, hp, hj, q⟩ := h
  cases ro
  obtain ⟨t, rfl⟩ := ri
  obtain ⟨its, n, r, ho, hz⟩ := I.lst hp
  obtain ⟨h1, h2, h3, h4⟩ := ixN_seq hj
  have hl := r.length
  have hn := line63
  have I' : Inv X pins σ (upd H p (.lst (xs.set j v))) { s with heap := s.heap.update p (Obj.mapSeq (·.setIfInBounds j u)) } :=
    I.lstUpd hp ho (mapSeq_set its n j u) (r.set rv j) (by rw [List.length_set]; exact hz) s.toks
  by_cases h0 : 0 ≤ k
  · have hk : k.toNat = j := by
      rw [seqIndex_of h0 h4] at h1
      exact Option.some.inj h1
    exact PySem.W.ki_setAt ho h0 (by omega) (by rw [List.size_toArray, ← hl]; exact h4) (by rw [hk]; exact ⟨_, I', q⟩)
  · have hk : (k + (its.toArray.size : Int)).toNat = j := by
      rw [seqIndex_neg (by omega) h3] at h1
      rw [List.size_toArray, ← hl]
      exact Option.some.inj h1
    exact PySem.W.ki_setBack ho (by omega) (by rw [List.size_toArray, ← hl]; exact h3) (by omega) (by rw [hk]; exact ⟨_, I', q⟩)
/-! ### slices -/
theorem slice_bounds (lo hi : Option Int) (n : Nat) : (sliceBounds lo hi none n).1 = ((HT.sIx n 0 lo : Nat) : Int) ∧ (sliceBounds lo hi none n).2.1 = ((HT.sIx n n hi : Nat) : Int) ∧ (sliceBounds lo hi none n).2.2 = 1 := by
  refine ⟨?_, ?_, rfl⟩
  · cases lo with
    | none => simp [sliceBounds, HT.sIx]
    | some i =>
      simp only [sliceBounds, HT.sIx, Option.getD_none, show (1 : Int) > 0 by decide, if_true]
      by_cases h : i < 0
      · simp only [h, if_true] <;> omega
      · simp only [h, if_false] <;> omega
  · cases hi with
    | none => simp [sliceBounds, HT.sIx]
    | some i =>
      simp only [sliceBounds, HT.sIx, Option.getD_none, show (1 : Int) > 0 by decide, if_true]
      by_cases h : i < 0
      · simp only [h, if_true] <;> omega
      · simp only [h, if_false] <;> omega
theorem slicePick_cut (its : List Value) (lo hi : Option Int) : slicePick its.toArray lo hi none = ((its.drop (HT.sIx its.length 0 lo)).take (HT.sIx its.length its.length hi - HT.sIx its.length 0 lo)).toArray := by
  obtain ⟨h1, h2, h3⟩ := slice_bounds lo hi its.toArray.size
  unfold slicePick
  rw [h1, h2, h3]
  simp only [sliceRange_one, pick_run, List.size_toArray] <;> rfl
/-- xs[lo:hi] of a list: a new list -/
def rSlL (K : PySem.W.Frag) : V → Option Int → Option Int → Hp → VK → Prop := fun x lo hi H Q => ∃ a xs, x = .ref a ∧ SqL K H a xs ∧ ∀ p, H p = none → Q (.ref p) (upd H p (.lst (cutV xs lo hi)))
theorem sl_list : SlR X (rSlL X.K) := by
  intro pins s σ H x v vl vu lo hi sl Q I rx hs pl pu h
  obtain ⟨a, xs, rfl, hx, q⟩ := h
  cases rx
  obtain ⟨its, r, ht, hz⟩ := I.list hx
  have hlen := r.length
  refine ⟨"list", _, slot_list_getitem.lookup, ht.isList.typeIs, ?_⟩
  refine wpAny_getItem_list_slice ht.isList hs pl pu .none (by simp) ?_ (by rw [List.size_toArray] <;> omega)
  rw [slicePick_cut, ← hlen]
  refine ⟨.ref s.heap.objs.size, _, I.laid (t' := s.toks) (o := .lst (cutV xs lo hi)) (fun b ob q => Heap.get?_push_of_some _ q) (Nat.le_refl _) ?_, rfl, q _ (I.hok.fresh (Nat.le_refl _))⟩
  exact ⟨Nat.le_trans (cutV_length xs lo hi) hz, _, 0, (r.drop (HT.sIx xs.length 0 lo)).take (HT.sIx xs.length xs.length hi - HT.sIx xs.length 0 lo), Heap.get?_push_size _ rfl⟩
/-! ### in, not in: flat items -/
def flatV : V → Bool
  | .non => true
  | .bl _ => true
  | .int _ => true
  | .str _ => true
  | _ => false
/-- == of flat values -/
def eqV : V → V → Bool
  | .non, .non => true
  | .bl a, .bl b => a == b
  | .bl a, .int b => (if a then 1 else 0) == b
  | .int a, .bl b => a == (if b then 1 else 0)
  | .int a, .int b => a == b
  | .str a, .str b => a == b
  | _, _ => false
theorem eqAt_V {A : Around} {s : Shared} {y x : V} {u v : Value} (ry : RelV y u) (rx : RelV x v) (fy : flatV y = true) (fx : flatV x = true) : SeqAt.EqAt A s u v (eqV y x) := by
  cases y with
  | non =>
    cases ry
    cases x with
    | non => cases rx; exact SeqAt.EqAt.same _
    | bl b => cases rx; exact SeqAt.EqAt.none_bool b
    | int b => obtain ⟨t, rfl⟩ := rx; exact SeqAt.EqAt.none_int b t
    | str b => obtain ⟨t, rfl⟩ := rx; exact SeqAt.EqAt.none_str b t
    | _ => exact absurd (show false = true from fx) Bool.false_ne_true
  | bl a =>
    cases ry
    cases x with
    | non => cases rx; exact SeqAt.EqAt.bool_none a
    | bl b => cases rx; exact SeqAt.EqAt.bool_bool a b
    | int b => obtain ⟨t, rfl⟩ := rx; exact SeqAt.EqAt.bool_int a b t
    | str b => obtain ⟨t, rfl⟩ := rx; exact SeqAt.EqAt.bool_str a b t
    | _ => exact absurd (show false = true from fx) Bool.false_ne_true
  | int a =>
    obtain ⟨t', rfl⟩ := ry
    cases x with
    | non => cases rx; exact SeqAt.EqAt.int_none a t'
    | bl b => cases rx; exact SeqAt.EqAt.int_bool a t' b
    | int b => obtain ⟨t, rfl⟩ := rx; exact SeqAt.EqAt.int_int a t' b t
    | str b => obtain ⟨t, rfl⟩ := rx; exact SeqAt.EqAt.int_str a t' b t
    | _ => exact absurd (show false = true from fx) Bool.false_ne_true
  | str a =>
    obtain ⟨t', rfl⟩ := ry
    cases x with
    | non => cases rx; exact SeqAt.EqAt.str_none a t'
    | bl b => cases rx; exact SeqAt.EqAt.str_bool a t' b
    | int b => obtain ⟨t, rfl⟩ := rx; exact SeqAt.EqAt.str_int a t' b t
    | str b => obtain ⟨t, rfl⟩ := rx; exact SeqAt.EqAt.str_str a t' b t
    | _ => exact absurd (show false = true from fx) Bool.false_ne_true
  | _ => exact absurd (show false = true from fy) Bool.false_ne_true
/-- the items' answers, read off the values (a value's own answer does not lean on its token) -/
def eqU (x : V) (u : Value) : Bool := match u with
  | .none => eqV .non x
  | .bool b => eqV (.bl b) x
  | .int i _ => eqV (.int i) x
  | .str z _ => eqV (.str z) x
  | _ => false
theorem eqU_of {x y : V} {u : Value} (r : RelV y u) (f : flatV y = true) : eqU x u = eqV y x := by
  cases y with
  | non => cases r; rfl
  | bl b => cases r; rfl
  | int i => obtain ⟨t, rfl⟩ := r; rfl
  | str z => obtain ⟨t, rfl⟩ := r; rfl
  | _ => exact absurd (show false = true from f) Bool.false_ne_true
theorem any_eqU {x : V} : ∀ {xs : List V} {us : List Value}, Vals xs us → xs.all flatV = true → us.any (eqU x) = xs.any fun y => eqV y x
  | _, _, .nil, _ => rfl
  | y :: xs, u :: us, .cons r t, f => by
    rw [List.all_cons, Bool.and_eq_true] at f
    rw [List.any_cons, List.any_cons, eqU_of r f.1, any_eqU t f.2]
theorem mem_eqAt {A : Around} {s : Shared} {x : V} {v : Value} (rx : RelV x v) (fx : flatV x = true) : ∀ {xs : List V} {us : List Value}, Vals xs us → xs.all flatV = true → ∀ u ∈ us, SeqAt.EqAt A s u v (eqU x u)
  | _, _, .nil, _ => fun u hu => by cases hu
  | y :: xs, u :: us, .cons r t, f => fun u' hu => by
    rw [List.all_cons, Bool.and_eq_true] at f
    rcases List.mem_cons.mp hu with rfl | hu
    · rw [eqU_of r f.1]; exact eqAt_V r rx f.1 fx
    · exact mem_eqAt rx fx t f.2 u' hu
def inV (x : V) (xs : List V) : Bool := xs.any fun y => eqV y x
/-- x in a list or tuple of flat items -/
def rIn (K : PySem.W.Frag) (neg : Bool) : R2 := fun x y H Q => ∃ p xs, y = .ref p ∧ (SqL K H p xs ∨ SqT K H p xs) ∧ flatV x = true ∧ xs.all flatV = true ∧ Q (.bl (if neg then !inV x xs else inV x xs)) H
theorem op_in_seq : OpR X (compareOp .In) (rIn X.K false) := by
  intro pins s σ H x y v u Q I rx ry h
  obtain ⟨p, xs, rfl, hq, fx, fs, q⟩ := h
  cases ry
  rcases hq with hq | hq
  · obtain ⟨its, r, pl, hz⟩ := I.list hq
    refine SeqAt.in_listAt (eqU x) pl.isList (fun w hw => mem_eqAt rx fx r fs w (by simpa using hw)) ⟨.bl _, H, I, rfl, ?_⟩
    rw [show its.toArray.any (eqU x) = its.any (eqU x) by simp, any_eqU r fs]
    exact q
  · obtain ⟨its, r, pl, hz⟩ := I.tuple hq
    refine SeqAt.in_tupleAt (eqU x) pl (fun w hw => mem_eqAt rx fx r fs w (by simpa using hw)) ⟨.bl _, H, I, rfl, ?_⟩
    rw [show its.toArray.any (eqU x) = its.any (eqU x) by simp, any_eqU r fs]
    exact q
/-! ### len, list(x), tuple(x) of any list or tuple that is read -/
theorem call_len_seq : CallR X (.builtin "len") (fun xs H Q => ∃ p ys, xs = [.ref p] ∧ (SqL X.K H p ys ∨ SqT X.K H p ys) ∧ Q (.int ys.length) H) := by
  intro pins s σ H xs us Q I r h
  obtain ⟨p, ys, rfl, hq, q⟩ := h
  obtain ⟨u, rfl, rx⟩ := vals1 r
  cases rx
  have hn := line63
  rcases hq with hq | hq
  · obtain ⟨its, r', pl, hz⟩ := I.list hq
    have hlen := r'.length
    exact Calls.call_len_list pl.isList (by simp only [List.size_toArray] <;> omega) ⟨.int ys.length, H, I.tok _, ⟨s.toks + 1, by rw [List.size_toArray, hlen]⟩, q⟩
  · obtain ⟨its, r', pl, hz⟩ := I.tuple hq
    have hlen := r'.length
    exact len_tuple pl (by simp only [List.size_toArray] <;> omega) ⟨.int ys.length, H, I.tok _, ⟨s.toks + 1, by rw [List.size_toArray, hlen]⟩, q⟩
theorem call_len_str : CallR X (.builtin "len") (fun xs H Q => ∃ z, xs = [.str z] ∧ z.length ≤ sizeLine ∧ Q (.int z.length) H) := by
  intro pins s σ H xs us Q I r h
  obtain ⟨z, rfl, hz, q⟩ := h
  obtain ⟨u, rfl, t, rfl⟩ := vals1 r
  have hn := line63
  exact len_str (by omega) ⟨.int z.length, H, I.tok _, ⟨_, rfl⟩, q⟩
theorem call_tuple_of : CallR X (.type "tuple") (fun xs H Q => ∃ p ys, xs = [.ref p] ∧ ((SqL X.K H p ys ∧ ∀ l, H l = none → Q (.ref l) (upd H l (.tup ys))) ∨ (SqT X.K H p ys ∧ Q (.ref p) H))) := by
  intro pins s σ H xs us Q I r h
  obtain ⟨p, ys, rfl, h⟩ := h
  obtain ⟨u, rfl, rx⟩ := vals1 r
  cases rx
  rcases h with ⟨hq, q⟩ | ⟨hq, q⟩
  · obtain ⟨its, r', pl, hz⟩ := I.list hq
    have hlen := r'.length
    refine call_tuple_list pl.isList (fun h' kp => ?_) (by simp only [List.size_toArray] <;> omega)
    have I1 : Inv X pins σ H { s with heap := h' } := I.kept (t' := s.toks) kp
    have I2 : Inv X pins σ (upd H h'.objs.size (.tup ys)) { s with heap := h'.push { cls := .type "tuple", data := .seq its.toArray } } :=
      I1.laid (t' := s.toks) (fun b o e => Heap.get?_push_of_some _ e) (Nat.le_refl _) (show ObjOk X.prog X.w _ _ _ (.tup ys) from ⟨hz, its, r', IsTup.new _ _⟩)
    exact ⟨.ref h'.objs.size, _, I2, rfl, q _ (I1.hok.fresh (Nat.le_refl _))⟩
  · obtain ⟨its, r', pl, hz⟩ := I.tuple hq
    exact call_tuple_same pl ⟨.ref p, H, I, rfl, q⟩
/-! ### the call of a builtin's method: o.m(..) -/
/-- the value is of that builtin type -/
def tyV (K : PySem.W.Frag) (T : String) (x : V) (H : Hp) : Prop := match x with
  | .str _ => T = "str"
  | .int _ => T = "int"
  | .ref p => (T = "list" ∧ ∃ xs, SqL K H p xs) ∨ (T = "tuple" ∧ ∃ o, K.lookup p = some o ∧ o.cls = .type "tuple" ∧ o.dict = none) ∨
      (T = "dict" ∧ ((∃ kvs, H p = some (.dK kvs)) ∨ ∃ kvs, H p = some (.dT kvs))) ∨ (T = "set" ∧ ∃ S n, H p = some (.set S n))
  | _ => False
theorem tyV_is {pins : List (Addr × Obj)} {σ : St} {H : Hp} {s : Shared} {T : String} {x : V} {v : Value} (I : Inv X pins σ H s) (r : RelV x v) (ty : tyV X.K T x H) :
    s.TypeIs v T ∧ ∀ a, v = .ref a → ∃ ob, s.heap.get? a = some ob ∧ ob.dict = none := by
  cases x with
  | str z =>
    obtain ⟨t, rfl⟩ := r
    cases (show T = "str" from ty)
    exact ⟨typeIs_str s z t, fun _ e => nomatch e⟩
  | int i =>
    obtain ⟨t, rfl⟩ := r
    cases (show T = "int" from ty)
    exact ⟨typeIs_int s i t, fun _ e => nomatch e⟩
  | ref p =>
    cases r
    rcases ty with ⟨rfl, xs, hq⟩ | ⟨rfl, o, hk, hc, hd⟩ | ⟨rfl, hk⟩ | ⟨rfl, S, n, hk⟩
    · obtain ⟨its, _, pl, _⟩ := I.list hq
      refine ⟨pl.isList.typeIs, fun a e => ?_⟩
      cases e
      obtain ⟨o, n, e, c, hd, _⟩ := pl
      exact ⟨o, e, hd⟩
    · refine ⟨⟨o, I.kIn p o hk, hc⟩, fun a e => ?_⟩
      cases e
      exact ⟨o, I.kIn _ o hk, hd⟩
    · have z : ∃ o, s.heap.get? p = some o ∧ o.ExactDict := by
        rcases hk with ⟨kvs, hk⟩ | ⟨kvs, hk⟩
        · obtain ⟨_, _, _, _, o, _, _, e, ex, _⟩ := I.hok p _ hk
          exact ⟨o, e, ex⟩
        · obtain ⟨_, _, _, _, o, _, _, e, ex, _⟩ := I.hok p _ hk
          exact ⟨o, e, ex⟩
      obtain ⟨o, e, ex⟩ := z
      refine ⟨⟨o, e, ex.1⟩, fun a e2 => ?_⟩
      cases e2
      exact ⟨o, e, ex.2.1⟩
    · obtain ⟨o, _, _, _, e, ex, _⟩ := I.hok p _ hk
      refine ⟨⟨o, e, ex.1⟩, fun a e2 => ?_⟩
      cases e2
      exact ⟨o, e, ex.2.1⟩
  | _ => exact False.elim ty
def tBM0 (K : PySem.W.Frag) (T : String) (r : V → List V → Hp → VK → Prop) (to : TE) : TE := fun σ H Q => to σ H fun x H1 => tyV K T x H1 ∧ r x [] H1 Q
def tBM (K : PySem.W.Frag) (T : String) (r : V → List V → Hp → VK → Prop) (to : TE) (t : TA) : TE := fun σ H Q => to σ H fun x H1 => tyV K T x H1 ∧ t σ H1 fun xs H2 => r x xs H2 Q
variable {o e : Expr} {es : List Expr} {to : TE} {t : TA} {name : Str} {apos cpos : Pos} {T id : String} {r : V → List V → Hp → VK → Prop}
theorem pe_bm0 (pa : PlainAttrs T) (slot : Slot T name id) (hty : typeOf (.builtin id) = pure (.type "method_descriptor")) (hm : MtR X id r) (ho : PE X o to)
    (hbase : attributeBase o name X.env (eval o X.env) = eval o X.env := by rfl) (hline : (apos.endLine == cpos.line) = true := by rfl) : PE X (.Call (.Attribute o name apos) [] [] cpos) (tBM0 X.K T r to) := by
  intro pins s σ H Q I h
  refine wpAny_Call_method0_late hbase hline (thn (ho pins s σ H _ I h) fun v s1 ⟨x, H1, I1, r1, ty, q1⟩ => ?_)
  obtain ⟨h1, h2⟩ := tyV_is I1 r1 ty
  exact ⟨T, id, pa, slot, hty, h1, h2, Calls.callWith_builtin rfl (PySem.evalArgs_none (hm pins s1 σ H1 x [] v [] Q I1 r1 .nil q1))⟩
theorem pe_bm (pa : PlainAttrs T) (slot : Slot T name id) (hty : typeOf (.builtin id) = pure (.type "method_descriptor")) (hm : MtR X id r) (ho : PE X o to) (ha : PA X (e :: es) t)
    (hbase : attributeBase o name X.env (eval o X.env) = eval o X.env := by rfl)
    (hfew : ((backTo cpos (starEach (e :: es) X.env)).all (fun x => !x.1) && (backToKw cpos (keywordEach [] X.env)).all (fun x => x.1.isSome)
      && decide ((e :: es).length + ([] : List Keyword).length + (if ([] : List Keyword).isEmpty then 0 else 1) < 30)) = true := by rfl)
    (hline : (apos.endLine == cpos.line) = true := by rfl) (hs : starEach (e :: es) X.env = (false, eval e X.env) :: starEach es X.env := by rfl) (hplain : (backTo cpos (starEach es X.env)).any (·.1) = false := by rfl) :
    PE X (.Call (.Attribute o name apos) (e :: es) [] cpos) (tBM X.K T r to t) := by
  intro pins s σ H Q I h
  refine wpAny_Call_method_late hbase hfew hline rfl (thn (ho pins s σ H _ I h) fun v s1 ⟨x, H1, I1, r1, ty, q1⟩ => ?_)
  obtain ⟨h1, h2⟩ := tyV_is I1 r1 ty
  refine ⟨T, id, pa, slot, hty, h1, h2, ?_⟩
  have hA := ha cpos pins s1 σ H1 _ I1 q1
  rw [hs] at hA ⊢
  refine Calls.callWith_builtin (by show (false || (backTo cpos (starEach es X.env)).any (·.1)) = false; rw [hplain] <;> rfl) (Calls.evalArgs_plain ?_)
  exact thn hA fun us s2 ⟨vs, H2, I2, r2, q2⟩ => hm pins s2 σ H2 x vs v us Q I2 r1 r2 q2
/- xs.append(e), list.index on a module's tuple .. are MtR facts of 06m -/
end
end L2
namespace L2
open PySem PySem.Spec PyProof.Rows
def MtM (X : Cx) (id : String) (r : V → List V → Hp → VK → Prop) : Prop :=
  ∀ (pins : List (Addr × Obj)) (s : Shared) (σ : St) (H : Hp) (x : V) (xs : List V) (v : Value) (us : List Value) (Q : VK), Inv X pins σ H s → RelV x v → Vals xs us → r x xs H Q →
    wpAny (model X.prog X.w) X.A (call (.builtin id) (v :: us)) (EP X pins σ Q) X.xe s
/-! ### lists of values -/
theorem Vals.one : ∀ {x : V} {us : List Value}, Vals [x] us → ∃ u, us = [u] ∧ RelV x u
  | _, _, .cons r .nil => ⟨_, rfl, r⟩
theorem Vals.zero : ∀ {us : List Value}, Vals [] us → us = []
  | _, .nil => rfl
theorem Vals.dropLast {xs : List V} {us : List Value} (h : Vals xs us) : Vals xs.dropLast us.dropLast := by
  induction h with
  | nil => exact .nil
  | cons r t ih =>
    cases t with
    | nil => exact .nil
    | cons q t' => exact .cons r ih
theorem Vals.eraseIdx : ∀ {xs : List V} {us : List Value} (i : Nat), Vals xs us → Vals (xs.eraseIdx i) (us.eraseIdx i)
  | _, _, _, .nil => .nil
  | _, _, 0, .cons _ t => t
  | _, _, i + 1, .cons r t => .cons r (Vals.eraseIdx i t)
theorem Vals.reverse {xs : List V} {us : List Value} (h : Vals xs us) : Vals xs.reverse us.reverse := by
  induction h with
  | nil => exact .nil
  | cons r t ih => rw [List.reverse_cons, List.reverse_cons]; exact Vals.append ih (.cons r .nil)
theorem Vals.rep {xs : List V} {us : List Value} (h : Vals xs us) : ∀ k : Nat, Vals (List.replicate k xs).flatten (List.replicate k us).flatten
  | 0 => .nil
  | k + 1 => by
    rw [List.replicate_succ, List.replicate_succ, List.flatten_cons, List.flatten_cons]
    exact Vals.append h (Vals.rep h k)
theorem erase_last {α : Type} (l : List α) : l.eraseIdx (l.length - 1) = l.dropLast := by
  induction l with
  | nil => rfl
  | cons a r ih =>
    cases r with
    | nil => rfl
    | cons b r =>
      have e : (a :: b :: r).length - 1 = ((b :: r).length - 1) + 1 := by
        have h1 : (a :: b :: r).length = r.length + 2 := rfl
        have h2 : (b :: r).length = r.length + 1 := rfl
        omega
      rw [e, List.eraseIdx_cons_succ, ih]
      all_goals rfl
section
variable {X : Cx} {pins : List (Addr × Obj)} {σ : St} {H : Hp} {s : Shared} {l b : Addr} {xs ys zs : List V}
/-! ### the two steps: a tracked list is rewritten, a new list is laid -/
theorem Inv.lset {its its' : List Value} {n : Nat} {f : Array Value → Array Value} {t' : Nat} (I : Inv X pins σ H s) (hH : H l = some (.lst xs))
    (e : s.heap.get? l = some { cls := .type "list", data := .seq its.toArray n }) (hf : f its.toArray = its'.toArray) (hv : Vals ys its') (hz : ys.length ≤ sizeLine) :
    Inv X pins σ (upd H l (.lst ys)) { s with heap := s.heap.update l (Obj.mapSeq f), toks := t' } := by
  have q := PySem.IsL.update e f
  rw [hf] at q
  refine I.write (x := l) (e := l) (by rw [hH]; exact trivial) (.inl rfl) (fun b' u hb hu => (Heap.get?_update_other s.heap (Obj.mapSeq f) (Ne.symm hb)).trans hu) ⟨_, q⟩ ?_
  exact ⟨hz, its', _, hv, q⟩
theorem Inv.lnew {its : List Value} {t' : Nat} (I : Inv X pins σ H s) (hv : Vals ys its) (hz : ys.length ≤ sizeLine) :
    Inv X pins σ (upd H s.heap.objs.size (.lst ys)) { s with heap := s.heap.push { cls := .type "list", data := .seq its.toArray }, toks := t' } :=
  I.laid (fun _ _ q => Heap.get?_push_of_some _ q) (Nat.le_refl _) ⟨hz, its, 0, hv, Heap.get?_push_size _ rfl⟩
theorem Inv.fresh (I : Inv X pins σ H s) : H s.heap.objs.size = none := I.hok.fresh (Nat.le_refl _)
theorem Inv.lstM (I : Inv X pins σ H s) (hH : H l = some (.lst xs)) : xs.length ≤ sizeLine ∧ ∃ (its : List Value) (n : Nat), Vals xs its ∧ xs.length = its.length ∧ s.heap.get? l = some { cls := .type "list", data := .seq its.toArray n } := by
  obtain ⟨z, its, n, r, e⟩ := I.hok l _ hH
  exact ⟨z, its, n, r, r.length, e⟩
theorem notLongL {n : Nat} (h : n ≤ sizeLine) : Builtin.List.listTooLong n = false := by
  unfold Builtin.List.listTooLong
  exact decide_eq_false (by omega)
end
section
variable {X : Cx}
/-! ### methods -/
def rAppend : V → List V → Hp → VK → Prop := fun x vs H Q => ∃ l xs y, x = .ref l ∧ vs = [y] ∧ H l = some (.lst xs) ∧ xs.length < sizeLine ∧ Q .non (upd H l (.lst (xs ++ [y])))
theorem mt_append : MtM X "list.append" rAppend := by
  intro pins s σ H x vs v us Q I rx rv h
  obtain ⟨l, xs, y, rfl, rfl, hH, hz, q⟩ := h
  cases rx
  obtain ⟨u, rfl, ru⟩ := rv.one
  obtain ⟨z, its, n, r, hl, e⟩ := I.lstM hH
  refine call_meets F.slot_list_append ⟨_, e, rfl⟩ F.entry_list_append (F.args_list_append_2 _ _) (PySem.list_append l its.toArray n u (by rw [List.size_toArray]; omega)) ⟨e, ?_⟩
  refine ⟨.non, _, I.lset (its' := its ++ [u]) hH e (by simp) (r.append (.cons ru .nil)) ?_, rfl, q⟩
  rw [List.length_append, List.length_singleton]
  omega
def rExtend : V → List V → Hp → VK → Prop := fun x vs H Q => ∃ l b xs zs, x = .ref l ∧ vs = [.ref b] ∧ H l = some (.lst xs) ∧ H b = some (.lst zs) ∧ xs.length + zs.length ≤ sizeLine ∧ Q .non (upd H l (.lst (xs ++ zs)))
theorem mt_extend : MtM X "list.extend" rExtend := by
  intro pins s σ H x vs v us Q I rx rv h
  obtain ⟨l, b, xs, zs, rfl, rfl, hH, hB, hz, q⟩ := h
  cases rx
  obtain ⟨u, rfl, ru⟩ := rv.one
  cases ru
  obtain ⟨z, its, n, r, hl, e⟩ := I.lstM hH
  obtain ⟨z2, its2, n2, r2, hl2, e2⟩ := I.lstM hB
  have hsz : its.toArray.size + its2.toArray.size ≤ sizeLine := by rw [List.size_toArray, List.size_toArray]; omega
  have hlong : ¬ (!its.toArray.isEmpty && Builtin.List.listTooLong (its.toArray.size + its2.toArray.size)) = true := by
    rw [notLongL hsz, Bool.and_false]
    exact Bool.false_ne_true
  refine call_meets F.slot_list_extend ⟨_, e, rfl⟩ F.entry_list_extend (F.args_list_extend_2 _ _)
    (AutoSeq1.list_extend_list_list_0 l its.toArray n b its2.toArray n2 hlong (by rw [List.size_toArray]; omega) (by omega)) ⟨e, e2, ?_⟩
  refine ⟨.non, _, I.lset (its' := its ++ its2) hH e (by simp) (r.append r2) ?_, rfl, q⟩
  rw [List.length_append]
  omega
def rPop : V → List V → Hp → VK → Prop := fun x vs H Q => ∃ l xs y, x = .ref l ∧ vs = [] ∧ H l = some (.lst xs) ∧ xs[xs.length - 1]? = some y ∧ Q y (upd H l (.lst xs.dropLast))
theorem mt_pop : MtM X "list.pop" rPop := by
  intro pins s σ H x vs v us Q I rx rv h
  obtain ⟨l, xs, y, rfl, rfl, hH, hy, q⟩ := h
  cases rx
  have hus := rv.zero
  subst hus
  obtain ⟨z, its, n, r, hl, e⟩ := I.lstM hH
  obtain ⟨u, hu, ru⟩ := r.get hy
  have hy' : its.toArray[its.toArray.size - 1]? = some u := by
    show its.toArray[its.length - 1]? = some u
    rw [← Array.getElem?_toList, ← hl]
    exact hu
  refine call_meets F.slot_list_pop ⟨_, e, rfl⟩ F.entry_list_pop (F.args_list_pop_1 _) (MeetsSeq.list_pop_last l its.toArray n u hy' (by rw [List.size_toArray]; omega)) ⟨e, ?_⟩
  refine ⟨y, _, I.lset (its' := its.dropLast) hH e ?_ r.dropLast ?_, ru, q⟩
  · show its.toArray.eraseIdxIfInBounds (its.toArray.size - 1) = its.dropLast.toArray
    rw [List.size_toArray, List.eraseIdxIfInBounds_toArray, erase_last]
  · rw [List.length_dropLast]
    omega
/-! ### list + list, list += list, list * int -/
def rCat : R2 := fun x y H Q => ∃ l b xs zs, x = .ref l ∧ y = .ref b ∧ H l = some (.lst xs) ∧ H b = some (.lst zs) ∧ xs.length + zs.length ≤ sizeLine ∧ ∀ p, H p = none → Q (.ref p) (upd H p (.lst (xs ++ zs)))
theorem op_cat : OpR X (binaryOp .Add) rCat := by
  intro pins s σ H x y v u Q I rx ry h
  obtain ⟨l, b, xs, zs, rfl, rfl, hH, hB, hz, q⟩ := h
  cases rx
  cases ry
  obtain ⟨z, its, n, r, hl, e⟩ := I.lstM hH
  obtain ⟨z2, its2, n2, r2, hl2, e2⟩ := I.lstM hB
  refine PySem.P.add_list e e2 ?_ (by rw [List.size_toArray, List.size_toArray]; omega)
  have ea : its.toArray ++ its2.toArray = (its ++ its2).toArray := by simp
  rw [ea]
  exact ⟨.ref _, _, I.lnew (t' := s.toks) (r.append r2) (by rw [List.length_append]; omega), rfl, q _ I.fresh⟩
end
end L2
namespace L2
open PySem PySem.Spec PyProof.Rows
theorem Vals.strs : ∀ {xs : List Str} {us : List Value}, Vals (xs.map V.str) us → StrsAre us xs
  | [], us, h => by
    rw [List.map_nil] at h
    cases h
    exact StrsAre.nil
  | x :: xs, us, h => by
    rw [List.map_cons] at h
    cases h with
    | cons r t =>
      obtain ⟨k, rfl⟩ := r
      exact StrsAre.cons x k (Vals.strs t)
theorem Vals.bls : ∀ {bs : List Bool} {us : List Value}, Vals (bs.map V.bl) us → us = bs.map Value.bool
  | [], us, h => by
    rw [List.map_nil] at h
    cases h
    rfl
  | b :: bs, us, h => by
    rw [List.map_cons] at h
    cases h with
    | cons r t =>
      cases r
      rw [Vals.bls t, List.map_cons]
theorem Vals.ref1 {a : Addr} {us : List Value} (r : Vals [V.ref a] us) : us = [Value.ref a] := by
  cases r with
  | cons r t =>
    cases t
    cases r
    rfl
/-! ### any(xs), all(xs) of a list of bools -/
theorem iter_any {prog : Program} {w : World} {A : Around} {E : Value → Shared → Prop} {s : Shared} {l : Addr} {items : Array Value} {Q : Value → Shared → Prop} (hl : s.heap.IsList l items)
    (h : ∀ s₂ : Shared, s₂ = { s with heap := s.heap.push { cls := .type "list_iterator", data := .fields #[.ref l, .int 0 0] } } →
      (s₂.heap.IsListIter s.heap.objs.size l 0 ∧ s₂.heap.IsList l items) → l ≠ s.heap.objs.size → Q (.ref s.heap.objs.size) s₂) : wpAny (model prog w) A (pyIter (.ref l)) Q E s := by
  have hlt : l < s.heap.objs.size := by obtain ⟨_, e, _⟩ := hl; exact Heap.lt_size e
  exact wpAny_pyIter_list hl (h _ rfl ⟨⟨_, Heap.get?_push_size _ rfl, rfl, rfl⟩, hl.push _⟩ (Nat.ne_of_lt hlt))
theorem truth_bools {prog : Program} {w : World} {A : Around} {bs : List Bool} {its : List Value} (e : its = bs.map Value.bool) :
    TruthOf prog w A (fun i v => its.toArray[i]? = some v) (fun i => bs.getD i false) := fun i v s Q E hv hq => by
  have hv' : its[i]? = some v := by simpa using hv
  rw [e, List.getElem?_map] at hv'
  obtain ⟨b, hb, rfl⟩ := Option.map_eq_some_iff.mp hv'
  have hg : bs.getD i false = b := by rw [List.getD_eq_getElem?_getD, hb] <;> rfl
  have hq' : Q (bs.getD i false) s := hq
  rw [hg] at hq'
  exact wpAny_truthy_bool hq'
theorem all_range : ∀ bs : List Bool, (List.range bs.length).all (fun i => bs.getD i false) = bs.all id
  | [] => rfl
  | b :: bs => by
    rw [List.length_cons, List.range_succ_eq_map, List.all_cons, List.all_map, List.all_cons, ← all_range bs]
    all_goals rfl
section
variable {X : Cx}
def rAll (K : PySem.W.Frag) : List V → Hp → VK → Prop := fun vs H Q => ∃ (a : Addr) (bs : List Bool), vs = [V.ref a] ∧ SqL K H a (bs.map V.bl) ∧ Q (.bl (bs.all id)) H
theorem cr_all (hc : X.calm = true) : CallR X (.builtin "all") (rAll X.K) := by
  intro pins s σ H vs us Q I r h
  obtain ⟨a, bs, rfl, hs, q⟩ := h
  obtain ⟨its, rv, hl, _⟩ := I.list hs
  rw [Vals.ref1 r]
  have hb := rv.bls
  refine call_all_walk (iter_any hl.isList fun s₂ e2 st hne => ?_)
  subst e2
  refine ⟨_, _, _, _, _, _, _, rfl, Walks.list (A := X.A.in1) (I.ok.hd hc) _ a hne its.toArray, st, truth_bools hb, fun h' tk hk => ?_⟩
  refine ⟨.bl _, H, I.kept fun b o eo => hk b o (fun hmem => ?_) (Heap.get?_push_of_some _ eo), ?_, q⟩
  · rcases List.mem_cons.mp hmem with e1 | hmem
    · exact absurd (e1 ▸ Heap.lt_size eo) (Nat.lt_irrefl _)
    · cases hmem
  · show Value.bool _ = Value.bool _
    rw [← all_range, hb, List.size_toArray, List.length_map]
end
/-! ### == and != of data at any depth: none, bools, ints, texts, lists, tuples -/
mutual
inductive Dp (K : PySem.W.Frag) (H : Hp) : V → PyData → Prop
  | non : Dp K H .non .none
  | bl (b : Bool) : Dp K H (.bl b) (.bool b)
  | int (i : Int) : Dp K H (.int i) (.int i)
  | str (x : Str) : Dp K H (.str x) (.str x)
  | lst {a : Addr} {xs : List V} {ds : List PyData} : SqL K H a xs → DpAll K H xs ds → Dp K H (.ref a) (.list ds)
  | tup {a : Addr} {xs : List V} {ds : List PyData} : SqT K H a xs → DpAll K H xs ds → Dp K H (.ref a) (.tuple ds)
inductive DpAll (K : PySem.W.Frag) (H : Hp) : List V → List PyData → Prop
  | nil : DpAll K H [] []
  | cons {v : V} {vs : List V} {d : PyData} {ds : List PyData} : Dp K H v d → DpAll K H vs ds → DpAll K H (v :: vs) (d :: ds)
end
section
variable {X : Cx} {pins : List (Addr × Obj)} {σ : St} {H : Hp} {s : Shared}
mutual
theorem Dp.reads (I : Inv X pins σ H s) : ∀ (d : PyData) (v : V) (u : Value), Dp X.K H v d → RelV v u → ∃ as, Reads s.heap u d as
  | .none, _, _, h, r => by
    cases h
    cases r
    exact ⟨_, Reads.none⟩
  | .bool b, _, _, h, r => by
    cases h
    cases r
    exact ⟨_, Reads.bool b⟩
  | .int i, _, _, h, r => by
    cases h
    obtain ⟨t, rfl⟩ := r
    exact ⟨_, Reads.int i t⟩
  | .str x, _, _, h, r => by
    cases h
    obtain ⟨t, rfl⟩ := r
    exact ⟨_, Reads.str x t⟩
  | .list ds, _, _, h, r => by
    cases h with
    | lst hs ha =>
      cases r
      obtain ⟨its, rv, ⟨o, n, ho, hc, _, hd⟩, _⟩ := I.list hs
      obtain ⟨as, hr⟩ := Dp.readsAll I ds _ its ha rv
      exact ⟨_, Reads.list ho hc hd hr⟩
  | .tuple ds, _, _, h, r => by
    cases h with
    | tup hs ha =>
      cases r
      obtain ⟨its, rv, ⟨o, ho, hc, n, hd⟩, _⟩ := I.tuple hs
      obtain ⟨as, hr⟩ := Dp.readsAll I ds _ its ha rv
      exact ⟨_, Reads.tuple ho hc hd hr⟩
  | .dict _, _, _, h, _ => by cases h
theorem Dp.readsAll (I : Inv X pins σ H s) : ∀ (ds : List PyData) (vs : List V) (us : List Value), DpAll X.K H vs ds → Vals vs us → ∃ as, ReadsAll s.heap us ds as
  | [], _, _, h, r => by
    cases h
    cases r
    exact ⟨_, ReadsAll.nil⟩
  | d :: ds, _, _, h, r => by
    cases h with
    | cons h1 h2 =>
      cases r with
      | cons r1 r2 =>
        obtain ⟨as, q1⟩ := Dp.reads I d _ _ h1 r1
        obtain ⟨bs, q2⟩ := Dp.readsAll I ds _ _ h2 r2
        exact ⟨_, ReadsAll.cons q1 q2⟩
end
end
section
variable {X : Cx}
def rEqD (K : PySem.W.Frag) : R2 := fun x y H Q => ∃ d e, Dp K H x d ∧ Dp K H y e ∧ SeqAt.shaped d = true ∧ SeqAt.shaped e = true ∧ Q (.bl (PyData.eqv d e)) H
def rNeD (K : PySem.W.Frag) : R2 := fun x y H Q => ∃ d e, Dp K H x d ∧ Dp K H y e ∧ SeqAt.shaped d = true ∧ SeqAt.shaped e = true ∧ Q (.bl (!PyData.eqv d e)) H
theorem op_eqD (hu : X.A.units + 64 < cLine) : OpR X (compareOp .Eq) (rEqD X.K) := by
  intro pins s σ H x y v u Q I rx ry h
  obtain ⟨d, e, hd, he, sd, se, q⟩ := h
  obtain ⟨as, r1⟩ := Dp.reads I d x v hd rx
  obtain ⟨bs, r2⟩ := Dp.reads I e y u he ry
  exact SeqAt.compareEq_shaped r1 r2 sd se hu ⟨.bl _, H, I, rfl, q⟩
theorem op_neD (hu : X.A.units + 64 < cLine) : OpR X (compareOp .NotEq) (rNeD X.K) := by
  intro pins s σ H x y v u Q I rx ry h
  obtain ⟨d, e, hd, he, sd, se, q⟩ := h
  obtain ⟨as, r1⟩ := Dp.reads I d x v hd rx
  obtain ⟨bs, r2⟩ := Dp.reads I e y u he ry
  exact SeqAt.compareNe_shaped r1 r2 sd se hu ⟨.bl _, H, I, rfl, q⟩
end
end L2
namespace L2
open PySem PySem.Spec PyProof.Rows
abbrev CellAt (h : Heap) (c : Addr) (v : Option Value) : Prop := h.IsCell c v
def relS (scope sc : Scope) : Scope :=
  { scope with names := scope.names.map fun (n, k) => if (k == .free && sc.kind == .function && sc.names.lookup n == some .cell) then (n, .cell) else (n, k) }
def cloFrom (cells : List (Str × Addr)) : List (Str × NameKind) → List (Str × Addr) → List (Str × Addr)
  | [], acc => acc
  | (n, k) :: r, acc => if k == .free then cloFrom cells r ((n, (cells.lookup n).getD 0) :: acc) else cloFrom cells r acc
theorem closure_loop (env : Env) (f : Str × NameKind → List (Str × Addr) → Sem (ForInStep (List (Str × Addr))))
    (hf : ∀ n k c, f (n, k) c = if k == .free then (do let a ← cellOf env n; pure (.yield ((n, a) :: c))) else pure (.yield c)) :
    ∀ (names : List (Str × NameKind)) (acc : List (Str × Addr)), (∀ y ∈ names, y.2 = .free → ∃ c, env.cells.lookup y.1 = some c) → forIn names acc f = pure (cloFrom env.cells names acc)
  | [], acc, _ => by rw [List.forIn_nil]; rfl
  | (n, k) :: r, acc, h => by
    rw [List.forIn_cons, hf]
    have ih := fun acc => closure_loop env f hf r acc fun y hy => h y (List.mem_cons_of_mem _ hy)
    unfold cloFrom
    by_cases hk : (k == NameKind.free) = true
    · rw [if_pos hk, if_pos hk]
      obtain ⟨c, hc⟩ := h (n, k) List.mem_cons_self (by simpa using hk)
      have e : cellOf env n = pure c := by unfold cellOf; rw [hc]
      rw [e]
      have e2 : (env.cells.lookup n).getD 0 = c := by rw [hc]; rfl
      rw [e2]
      exact ih _
    · rw [if_neg hk, if_neg hk]
      exact ih _
theorem closure_ok {scope : Scope} {env : Env} (h : ∀ y ∈ scope.names, y.2 = .free → ∃ c, env.cells.lookup y.1 = some c) : closureFor scope env = pure (cloFrom env.cells scope.names []) := by
  simp only [closureFor]
  rw [closure_loop env _ (fun n k c => rfl) scope.names [] h]
  rfl
theorem mem_lookup {α : Type} : ∀ {l : List (Str × α)} {n : Str} {c : α}, (n, c) ∈ l → ∃ c', l.lookup n = some c'
  | (k, v) :: r, n, c, h => by
    rw [List.lookup_cons]
    cases hb : n == k with
    | true => exact ⟨_, rfl⟩
    | false =>
      rcases List.mem_cons.mp h with e | h
      · cases e; simp at hb
      · exact mem_lookup h
theorem cloFrom_mem {cells : List (Str × Addr)} : ∀ {names : List (Str × NameKind)} {acc : List (Str × Addr)} {n : Str} {c : Addr}, (n, c) ∈ cloFrom cells names acc → (n, c) ∈ acc ∨ ((n, .free) ∈ names ∧ c = (cells.lookup n).getD 0)
  | [], _, _, _, h => .inl h
  | (m, k) :: r, acc, n, c, h => by
    unfold cloFrom at h
    split at h
    · rename_i hk
      have hk : k = .free := by simpa using hk
      rcases cloFrom_mem h with h | ⟨h1, h2⟩
      · rcases List.mem_cons.mp h with e | h
        · cases e; exact .inr ⟨hk ▸ List.mem_cons_self, rfl⟩
        · exact .inl h
      · exact .inr ⟨List.mem_cons_of_mem _ h1, h2⟩
    · rcases cloFrom_mem h with h | ⟨h1, h2⟩
      · exact .inl h
      · exact .inr ⟨List.mem_cons_of_mem _ h1, h2⟩
theorem cloFrom_acc {cells : List (Str × Addr)} : ∀ {names : List (Str × NameKind)} {acc : List (Str × Addr)} {p : Str × Addr}, p ∈ acc → p ∈ cloFrom cells names acc
  | [], _, _, h => h
  | (m, k) :: r, acc, p, h => by
    unfold cloFrom
    split
    · exact cloFrom_acc (List.mem_cons_of_mem _ h)
    · exact cloFrom_acc h
theorem cloFrom_has {cells : List (Str × Addr)} : ∀ {names : List (Str × NameKind)} {acc : List (Str × Addr)} {n : Str}, (n, .free) ∈ names → (n, (cells.lookup n).getD 0) ∈ cloFrom cells names acc
  | (m, k) :: r, acc, n, h => by
    unfold cloFrom
    rcases List.mem_cons.mp h with e | h
    · cases e
      exact cloFrom_acc List.mem_cons_self
    · split
      · exact cloFrom_has h
      · exact cloFrom_has h
theorem cells_mem : ∀ {names : List (Str × NameKind)} {h : Heap} {acc : List (Str × Addr)} {x : Str} {c : Addr}, (x, c) ∈ cellsFrom h.objs.size names acc →
    (x, c) ∈ acc ∨ ((x, .cell) ∈ names ∧ h.objs.size ≤ c ∧ CellAt (pushCells h names) c none)
  | [], _, _, _, _, h => .inl h
  | (n, k) :: r, h, acc, x, c, hm => by
    unfold cellsFrom at hm
    unfold pushCells
    split at hm
    · rename_i hk
      rw [if_pos hk]
      have hk : k = .cell := by simpa using hk
      rw [← Heap.size_push h { cls := .type "cell", data := .cell none }] at hm
      rcases cells_mem hm with hm | ⟨h1, h2, h3⟩
      · rcases List.mem_cons.mp hm with e | hm
        · cases e
          exact .inr ⟨hk ▸ List.mem_cons_self, Nat.le_refl _, _, pushCells_keeps r _ _ _ (Heap.get?_push_size _ rfl), rfl⟩
        · exact .inl hm
      · rw [Heap.size_push] at h2
        exact .inr ⟨List.mem_cons_of_mem _ h1, Nat.le_of_succ_le h2, h3⟩
    · rename_i hk
      rw [if_neg hk]
      rcases cells_mem hm with hm | ⟨h1, h2, h3⟩
      · exact .inl hm
      · exact .inr ⟨List.mem_cons_of_mem _ h1, h2, h3⟩
theorem cells_acc : ∀ {names : List (Str × NameKind)} {n : Nat} {acc : List (Str × Addr)} {p : Str × Addr}, p ∈ acc → p ∈ cellsFrom n names acc
  | [], _, _, _, h => h
  | (m, k) :: r, n, acc, p, h => by
    unfold cellsFrom
    split
    · exact cells_acc (List.mem_cons_of_mem _ h)
    · exact cells_acc h
theorem cells_has : ∀ {names : List (Str × NameKind)} {n : Nat} {acc : List (Str × Addr)} {x : Str}, (x, .cell) ∈ names → ∃ c, (x, c) ∈ cellsFrom n names acc
  | (m, k) :: r, n, acc, x, h => by
    unfold cellsFrom
    rcases List.mem_cons.mp h with e | h
    · cases e
      exact ⟨n, cells_acc List.mem_cons_self⟩
    · split
      · exact cells_has h
      · exact cells_has h
theorem cells_inj : ∀ {names : List (Str × NameKind)} {h : Heap} {acc : List (Str × Addr)} {x y : Str} {c : Addr}, (∀ p ∈ acc, p.2 < h.objs.size) → (∀ x y c, (x, c) ∈ acc → (y, c) ∈ acc → x = y) →
    (x, c) ∈ cellsFrom h.objs.size names acc → (y, c) ∈ cellsFrom h.objs.size names acc → x = y
  | [], _, _, _, _, _, _, hi, h1, h2 => hi _ _ _ h1 h2
  | (n, k) :: r, h, acc, x, y, c, hl, hi, h1, h2 => by
    unfold cellsFrom at h1 h2
    split at h1
    · rename_i hk
      rw [if_pos hk] at h2
      rw [← Heap.size_push h { cls := .type "cell", data := .cell none }] at h1 h2
      refine cells_inj (h := h.push _) (fun p hp => ?_) (fun x y c a b => ?_) h1 h2
      · rw [Heap.size_push]
        rcases List.mem_cons.mp hp with rfl | hp
        · exact Nat.lt_succ_self _
        · exact Nat.lt_succ_of_lt (hl p hp)
      · rcases List.mem_cons.mp a with e | a <;> rcases List.mem_cons.mp b with e' | b
        · cases e; cases e'; rfl
        · cases e; exact absurd (hl _ b) (Nat.lt_irrefl _)
        · cases e'; exact absurd (hl _ a) (Nat.lt_irrefl _)
        · exact hi _ _ _ a b
    · rename_i hk
      rw [if_neg hk] at h2
      exact cells_inj hl hi h1 h2
theorem newEnv_comp {M : Model} {A : Around} {E : Value → Shared → Prop} {s : Shared} {scope : Scope} {globals : Addr} {closure : List (Str × Addr)} {qual : Str} {func : Option Addr} {code : Value} {around : Env} {builtins : Addr} {Q : Env → Shared → Prop}
    (h : Q (newEnv scope s.heap.objs.size globals (cellsFrom (s.heap.objs.size + 1) scope.names closure) qual func code (some around) builtins)
      { s with heap := pushCells (s.heap.push { cls := .type "dict", data := .dict #[] }) scope.names }) :
    wpAny M A (newFunctionEnv scope globals closure [] qual func code (some around) builtins) Q E s := by
  simp only [newFunctionEnv, Option.isSome_some, if_true]
  refine wpAny_bind (wpAny_alloc ?_)
  refine wpAny_bind (wpAny_layCells _ (fun n k c => rfl) scope.names closure _ _ ?_)
  rw [show ({ s with heap := s.heap.push { cls := .type "dict", data := .dict #[] } } : Shared).heap.objs.size = s.heap.objs.size + 1 from Heap.size_push ..]
  rw [List.forIn_nil]
  exact wpAny_bind (wpAny_pure (wpAny_pure h))
/-- every name of the written scope, in the scope that runs -/
theorem lookup_relS {sc : Scope} : ∀ {names : List (Str × NameKind)} {x : Str} {k : NameKind},
    (names.map fun (n, k) => if (k == NameKind.free && sc.kind == .function && sc.names.lookup n == some .cell) then (n, NameKind.cell) else (n, k)).lookup x = some k →
    ∃ k', names.lookup x = some k' ∧ (k = k' ∨ (k' = .free ∧ k = .cell))
  | [], _, _, h => by simp at h
  | (n, k₀) :: r, x, k, h => by
    have ih := @lookup_relS sc r x k
    have h' : List.lookup x ((if (k₀ == NameKind.free && sc.kind == .function && sc.names.lookup n == some .cell) = true then (n, NameKind.cell) else (n, k₀)) :: (r.map _)) = some k := h
    cases hx : x == n with
    | true =>
      simp only [List.lookup_cons, hx]
      by_cases hc : (k₀ == NameKind.free && sc.kind == .function && sc.names.lookup n == some .cell) = true
      · rw [if_pos hc] at h'
        simp only [List.lookup_cons, hx] at h'
        cases h'
        simp only [Bool.and_eq_true, beq_iff_eq] at hc
        exact ⟨k₀, rfl, .inr ⟨hc.1.1, rfl⟩⟩
      · rw [if_neg hc] at h'
        simp only [List.lookup_cons, hx] at h'
        cases h'
        exact ⟨_, rfl, .inl rfl⟩
    | false =>
      simp only [List.lookup_cons, hx]
      by_cases hc : (k₀ == NameKind.free && sc.kind == .function && sc.names.lookup n == some .cell) = true
      · rw [if_pos hc] at h'
        simp only [List.lookup_cons, hx] at h'
        exact ih h'
      · rw [if_neg hc] at h'
        simp only [List.lookup_cons, hx] at h'
        exact ih h'
/-- the names of a comprehension's block: its own (with their places in N), or captured -/
structure BlkOk (N : List Str) (sc scope : Scope) (own : List (Str × Nat)) : Prop where
  kind : scope.kind = .function
  uniq : ∀ y ∈ scope.names, scope.names.lookup y.1 = some y.2
  ix : ∀ p ∈ own, N[p.2]? = some p.1
  free : ∀ y ∈ scope.names, y.2 = .free → sc.names.lookup y.1 = some .cell ∨ sc.names.lookup y.1 = some .free
  own : ∀ y ∈ scope.names, y.2 = .local ∨ y.2 = .cell → y.1 ∈ own.map (·.1) ∨ y.1 ∉ N
/-- the slots of the block's own names forgotten -/
def wipe (σ : St) : List Nat → St
  | [] => σ
  | v :: vs => (wipe σ vs).set v none
theorem wipe_length (σ : St) : ∀ vs : List Nat, (wipe σ vs).length = σ.length
  | [] => rfl
  | v :: vs => by unfold wipe; rw [List.length_set, wipe_length σ vs]
theorem wipe_some {σ : St} {i : Nat} {x : V} : ∀ {vs : List Nat}, (wipe σ vs)[i]? = some (some x) → σ[i]? = some (some x) ∧ i ∉ vs
  | [], h => ⟨h, by simp⟩
  | v :: vs, h => by
    unfold wipe at h
    by_cases hi : v = i
    · subst hi
      by_cases hv : v < (wipe σ vs).length
      · rw [List.getElem?_set_self hv] at h; cases h
      · rw [List.getElem?_eq_none (by simpa using hv)] at h; cases h
    · rw [List.getElem?_set_ne hi] at h
      obtain ⟨h1, h2⟩ := wipe_some h
      exact ⟨h1, by simp only [List.mem_cons, not_or]; exact ⟨fun e => hi e.symm, h2⟩⟩
/-- the context of a block that starts at s, its iterator's objects at fp -/
abbrev Cx.blk (X : Cx) (s : Shared) (H : Hp) (scope : Scope) (cenv : Env) (fp : List Addr) : Cx := { X with s_0 := s, H_0 := H, env := cenv, outer := X.stack, ex := fp, fn := fun x => scope.names.lookup x == some .cell, pn := [], xe := fun _ _ => False }
section
variable {X : Cx} {pins : List (Addr × Obj)} {σ : St} {H : Hp} {s : Shared}
theorem block_start {scope : Scope} {own : List (Str × Nat)} {fp : List Addr} (I : Inv X pins σ H s) (ok : BlkOk X.N X.env.scope scope own) (hN : X.N.Nodup) (hfp : ∀ b ∈ fp, FpOk X pins H b ∧ b < s.heap.objs.size) :
    Inv (X.blk s H scope (compEnvC scope (cellsFrom (s.heap.objs.size + 1) scope.names (cloFrom X.env.cells scope.names [])) s.heap.objs.size X.env) fp) [] (wipe σ (own.map (·.2))) H { s with heap := pushCells (s.heap.push { cls := .type "dict", data := .dict #[] }) scope.names } := by
  have hfree : ∀ y ∈ scope.names, y.2 = .free → ∃ c, X.env.cells.lookup y.1 = some c := fun y hy e => by
    rcases ok.free y hy e with k | k
    · exact I.ok.has _ (.inl k)
    · exact I.ok.has _ (.inr k)
  generalize hcenv : compEnvC scope (cellsFrom (s.heap.objs.size + 1) scope.names (cloFrom X.env.cells scope.names [])) s.heap.objs.size X.env = cenv
  have kp : ∀ b o, s.heap.get? b = some o → (pushCells (s.heap.push { cls := .type "dict", data := .dict #[] }) scope.names).get? b = some o := fun b o e => pushCells_keeps _ _ _ _ (Heap.get?_push_of_some _ e)
  have hL : cenv.locals = s.heap.objs.size := by rw [← hcenv]; rfl
  have hcl : cenv.cells = cellsFrom (s.heap.objs.size + 1) scope.names (cloFrom X.env.cells scope.names []) := by rw [← hcenv]; rfl
  have hsc : cenv.scope = relS scope X.env.scope := by rw [← hcenv]; rfl
  rw [← Heap.size_push s.heap { cls := .type "dict", data := .dict #[] }] at hcl
  have cm : ∀ {y c}, (y, c) ∈ cloFrom X.env.cells scope.names [] → X.env.cells.lookup y = some c ∧ c < s.heap.objs.size := fun {y c} hm => by
    rcases cloFrom_mem hm with hm | ⟨h1, rfl⟩
    · cases hm
    · obtain ⟨c, hc⟩ := hfree _ h1 rfl
      rw [hc]
      obtain ⟨w, z⟩ := I.cell _ _ hc
      exact ⟨rfl, z.lt⟩
  have mem : ∀ {y c}, cenv.cells.lookup y = some c → (X.env.cells.lookup y = some c ∧ c < s.heap.objs.size) ∨ (s.heap.objs.size + 1 ≤ c ∧ CellAt (pushCells (s.heap.push { cls := .type "dict", data := .dict #[] }) scope.names) c none) := fun {y c} e => by
    rw [hcl] at e
    rcases cells_mem (PySem.mem_of_lookup e) with hm | ⟨_, h2, h3⟩
    · exact .inl (cm hm)
    · rw [Heap.size_push] at h2; exact .inr ⟨h2, h3⟩
  have look : ∀ {y}, scope.names.lookup y = some .free → ∃ c, cenv.cells.lookup y = some c ∧ X.env.cells.lookup y = some c := fun {y} hl => by
    have hy : (y, NameKind.free) ∈ scope.names := PySem.mem_of_lookup hl
    obtain ⟨c', e'⟩ := mem_lookup (cells_acc (names := scope.names) (n := (s.heap.push { cls := .type "dict", data := .dict #[] }).objs.size) (cloFrom_has (cells := X.env.cells) (acc := []) hy))
    rw [← hcl] at e'
    refine ⟨c', e', ?_⟩
    rw [hcl] at e'
    rcases cells_mem (PySem.mem_of_lookup e') with hm | ⟨h1, _, _⟩
    · exact (cm hm).1
    · have := ok.uniq _ h1
      rw [hl] at this; cases this
  have okB : (X.blk s H scope cenv fp).Ok := by
    refine ⟨I.ok.mod, by show cenv.scope.kind = _; rw [hsc]; exact ok.kind, by show cenv.globals = _; rw [← hcenv]; exact I.ok.glob, by show cenv.builtins = _; rw [← hcenv]; exact I.ok.blt, by show s.heap.objs.size ≤ cenv.locals; rw [hL]; exact Nat.le_refl _,
      fun y z c e1 e2 => ?_, fun y hy => ?_, fun y c z e => ?_, I.ok.hd, I.ok.frames, .inl rfl, fun b hb => ⟨?_, fun y c e z => ?_⟩, I.bs, Nat.le_trans I.ok.bsz I.sz, fun b o e hb => ?_, fun b hb z => ?_, I.stack, I.stkFree⟩
    · have e1 : cenv.cells.lookup y = some c := e1
      have e2 : cenv.cells.lookup z = some c := e2
      rw [hcl] at e1 e2
      refine cells_inj (fun p hp => ?_) (fun y z c a b => I.ok.inj y z c (cm a).1 (cm b).1) (PySem.mem_of_lookup e1) (PySem.mem_of_lookup e2)
      rw [Heap.size_push]
      exact Nat.lt_succ_of_lt (cm (y := p.1) (c := p.2) hp).2
    · show ∃ c, cenv.cells.lookup y = some c
      have key : ∀ k, cenv.kindOf y = some k → (k = .cell ∨ k = .free) → ∃ c, cenv.cells.lookup y = some c := fun k hk hk' => by
        unfold Env.kindOf at hk
        rw [hsc] at hk
        obtain ⟨k', e, r⟩ := lookup_relS hk
        have : k' = .cell ∨ k' = .free := by
          rcases r with rfl | ⟨rfl, _⟩
          · exact hk'
          · exact .inr rfl
        rcases this with rfl | rfl
        · obtain ⟨c, hm⟩ := cells_has (n := (s.heap.push { cls := .type "dict", data := .dict #[] }).objs.size) (acc := cloFrom X.env.cells scope.names []) (PySem.mem_of_lookup e)
          obtain ⟨c', e'⟩ := mem_lookup hm
          exact ⟨c', by rw [hcl]; exact e'⟩
        · obtain ⟨c, h1, _⟩ := look e
          exact ⟨c, h1⟩
      rcases hy with hy | hy
      · exact key _ hy (.inl rfl)
      · exact key _ hy (.inr rfl)
    · have z : (scope.names.lookup y == some NameKind.cell) = true := z
      have z : scope.names.lookup y = some .cell := by simpa using z
      have e : cenv.cells.lookup y = some c := e
      rw [hcl] at e
      rcases cells_mem (PySem.mem_of_lookup e) with hm | ⟨_, h2, _⟩
      · rcases cloFrom_mem hm with hm | ⟨h1, _⟩
        · cases hm
        · have q := ok.uniq _ h1
          rw [z] at q; cases q
      · rw [Heap.size_push] at h2
        exact Nat.le_of_succ_le h2
    · show b ≠ cenv.locals
      rw [hL]; exact Nat.ne_of_lt (hfp b hb).2
    · have e : cenv.cells.lookup y = some c := e
      rcases mem e with ⟨h1, _⟩ | ⟨h1, _⟩
      · exact (hfp b hb).1.2.2.2.2.1 y c h1 z
      · have h2 : s.heap.objs.size + 1 ≤ b := by rw [← z]; exact h1
        exact absurd (Nat.lt_of_lt_of_le (hfp b hb).2 (Nat.le_of_succ_le h2)) (Nat.lt_irrefl _)
    · rcases (hfp b hb).1.2.2.2.1 with z | z
      · exact I.ok.noex b o e z
      · exact absurd (Nat.lt_of_lt_of_le (Heap.lt_size e) (Nat.le_trans I.ok.bsz z)) (Nat.lt_irrefl _)
    · rcases List.mem_cons.mp (I.stkSub b z) with z | z
      · exact (hfp b hb).1.2.1 z
      · exact (hfp b hb).1.2.2.1 z
  refine ⟨okB, rfl, I.bare, Un.kept kp, ⟨fun _ => none, ?_, fun i y av e1 e2 e3 => ?_⟩, fun y c e => ?_, ?_, fun y c e => ?_, fun p hp => ?_, I.hok.kept kp, by rw [wipe_length]; exact I.len⟩
  · show Heap.Ns _ cenv.locals _
    rw [hL]
    exact Heap.Ns.keeps (Heap.Ns.new ..) fun b o e => pushCells_keeps _ _ _ _ e
  · obtain ⟨e2, hne⟩ := wipe_some e2
    have hfr : scope.names.lookup y = some .free ∧ (cenv.kindOf y = some .cell ∨ cenv.kindOf y = some .free) := by
      have key : ∀ k, cenv.scope.names.lookup y = some k → k = .local ∨ k = .cell ∨ k = .free → scope.names.lookup y = some .free ∧ (cenv.kindOf y = some .cell ∨ cenv.kindOf y = some .free) := fun k hk hk' => by
        have hk0 := hk
        rw [hsc] at hk
        obtain ⟨k', e, r⟩ := lookup_relS hk
        have no : ¬ (k' = .local ∨ k' = .cell) := fun hh => by
          rcases ok.own _ (PySem.mem_of_lookup e) hh with e' | e'
          · obtain ⟨p, hp, hpy⟩ := List.mem_map.mp e'
            have e3 := ok.ix p hp
            have : p.1 = y := hpy
            rw [this] at e3
            exact hne (List.mem_map.mpr ⟨p, hp, nodup_ix hN e3 e1⟩)
          · exact e' (List.mem_of_getElem? e1)
        rcases r with rfl | ⟨rfl, rfl⟩
        · rcases hk' with rfl | rfl | rfl
          · exact absurd (.inl rfl) no
          · exact absurd (.inr rfl) no
          · exact ⟨e, .inr hk0⟩
        · exact ⟨e, .inl hk0⟩
      have e3 : Vis cenv.scope y := e3
      rcases e3 with e3 | e3 | e3
      · exact key _ e3 (.inl rfl)
      · exact key _ e3 (.inr (.inl rfl))
      · exact key _ e3 (.inr (.inr rfl))
    obtain ⟨m, hn, hl⟩ := I.loc
    have hvis : Vis X.env.scope y := (ok.free _ (PySem.mem_of_lookup hfr.1) rfl).elim (fun k => .inr (.inl k)) (fun k => .inr (.inr k))
    obtain ⟨w, r, q⟩ := hl i y av e1 e2 hvis
    refine ⟨w, r, .inr ⟨hfr.2, ?_⟩⟩
    obtain ⟨c, h1, h2⟩ := look hfr.1
    rcases q with ⟨k, _⟩ | ⟨_, c', e', z⟩
    · have k : X.env.scope.names.lookup y = some .local := k
      rcases ok.free _ (PySem.mem_of_lookup hfr.1) rfl with k' | k' <;> rw [show X.env.scope.names.lookup y = _ from k'] at k <;> cases k
    · rw [h2] at e'; cases e'
      exact ⟨c, h1, z.keeps kp⟩
  · have e : cenv.cells.lookup y = some c := e
    rcases mem e with ⟨h1, _⟩ | ⟨_, z⟩
    · obtain ⟨w, z⟩ := I.cell y c h1
      exact ⟨w, z.keeps kp⟩
    · exact ⟨_, z⟩
  · show H cenv.locals = none
    rw [hL]; exact I.hok.fresh (Nat.le_refl _)
  · have e : cenv.cells.lookup y = some c := e
    rcases mem e with ⟨h1, _⟩ | ⟨h1, _⟩
    · exact I.freeC y c h1
    · exact I.hok.fresh (Nat.le_of_succ_le h1)
  · exact absurd (show p ∈ ([] : List (Addr × Obj)) ++ [] from hp) (by simp)
/-- an item appended to a tracked list -/
theorem app_ok {E : Value → Shared → Prop} {D : Addr} {xs : List V} {y : V} {v : Value} {Q : Value → Shared → Prop} (I : Inv X pins σ H s) (hD : H D = some (.lst xs)) (hz : xs.length < sizeLine) (r : RelV y v)
    (h : ∀ s', Inv X pins σ (upd H D (.lst (xs ++ [y]))) s' → Q .none s') : wpAny (model X.prog X.w) X.A (call (.builtin "list.append") [.ref D, v]) Q E s := by
  obtain ⟨hz', its, n, ri, e⟩ := I.hok D _ hD
  have hl := ri.length
  refine append_at (hsz := by rw [List.size_toArray]; omega) e fun h' sb ho' => ?_
  refine h { s with heap := h' } (I.write (t' := s.toks) (by rw [hD]; trivial) (.inl rfl) (fun b u hb q => (sb.2 b hb).trans q) ⟨_, ho'⟩ ⟨by rw [List.length_append]; exact hz, its ++ [v], n + 1, ri.append (.cons r .nil), ?_⟩)
  rw [ho']
  simp
/-- a clause's tests -/
def PTs (X : Cx) (ifs : List Expr) (t : TT) : Prop :=
  ∀ (pins : List (Addr × Obj)) (s : Shared) (σ : St) (H : Hp) (Q : Bool → Hp → Prop), Inv X pins σ H s → t σ H Q →
    wpAny (model X.prog X.w) X.A (forIn ifs true fun c r => if r = true then do let ok ← isTrue c X.env (eval c X.env); pure (ForInStep.yield ok) else pure (ForInStep.yield r)) (TP X pins σ Q) X.xe s
def tYes : TT := fun _ H Q => Q true H
theorem pts_nil : PTs X [] tYes := fun _ _ _ H _ I h => wpAny_tests_nil ⟨H, I, h⟩
end
theorem thnF {α : Type} {t : Sem α} {Q Q' : α → Shared → Prop} {M : Model} {A : Around} {E : Value → Shared → Prop} {s : Shared} (h : wpAny M A t Q (fun _ _ => False) s) (hQ : ∀ a s, Q a s → Q' a s) : wpAny M A t Q' E s := wpAny_mono h hQ fun _ _ z => False.elim z
/-- the loop of a list comprehension's block, the target of any form (codeAny_compLoop_tests asks a target that no tuple goes to; statement and proof follow it, PyProof/CompMap.lean:41-61, with the step letOwnedTupleGo kept) -/
theorem compLoop_any {prog : Program} {w : World} {A : Around} {R : Result → Shared → Prop} {s : Shared} {elt target iter : Expr} {ifs : List Expr} {scope : Scope} {pos : Pos} {it acc : Value} {env : Env} (I : Nat → Shared → Prop)
    (turn : ∀ n s, I n s → wpAny (model prog w) A (pyNext it) (fun r s₁ => match r with
      | none => R (.ok .next) s₁
      | some v => wpAny (model prog w) A (letOwnedTupleGo target it v) (fun _ s₁' => wpAny (model prog w) A (assign target env v) (fun _ s₂ =>
          wpAny (model prog w) A (forIn ifs true fun c r => if r = true then do let ok ← isTrue c env (eval c env); pure (ForInStep.yield ok) else pure (ForInStep.yield r)) (fun ok s₃ =>
            if ok = true then wpAny (model prog w) A (eval elt env) (fun x s₄ =>
              wpAny (model prog w) A (call (.builtin "list.append") [acc, x]) (fun _ s₅ => ∃ m, m < n ∧ I m s₅) (notedBy (model prog w) A env fun e s' => R (.error e) s') s₄) (notedBy (model prog w) A env fun e s' => R (.error e) s') s₃
            else ∃ m, m < n ∧ I m s₃) (notedBy (model prog w) A env fun e s' => R (.error e) s') s₂) (notedBy (model prog w) A env fun e s' => R (.error e) s') s₁') (notedBy (model prog w) A env fun e s' => R (.error e) s') s₁) (notedBy (model prog w) A env fun e s' => R (.error e) s') s)
    (n : Nat) (h : I n s) :
    codeAny (model prog w) A (.compLoop (.ListComp elt [⟨target, iter, ifs, 0⟩] scope pos) 0 it acc env) R s := by
  refine codeAny_loop rfl I (fun n s hI => ?_) n h
  show wpAny _ A ((compTurn (.ListComp elt [⟨target, iter, ifs, 0⟩] scope pos) 0 it acc env).onRaise (fun x => do noteFrame x env; theTreesLotGoes x)) _ _ s
  refine wpAny_noted ?_
  rw [compTurn_list]
  refine wpAny_bind (wpAny_standAt (wpAny_bind (wpAny_mono (turn n s hI) (fun r s₁ h₁ => ?_) fun _ _ h' => h')))
  cases r with
  | none => exact wpAny_pure h₁
  | some v =>
    refine wpAny_bind (wpAny_mono h₁ (fun _ s₁' h₁' => ?_) fun _ _ h' => h')
    refine wpAny_bind (wpAny_mono h₁' (fun _ s₂ h₂ => wpAny_bind (wpAny_mono h₂ (fun ok s₃ h₃ => ?_) fun _ _ h' => h')) fun _ _ h' => h')
    cases ok with
    | false => exact wpAny_pure ⟨rfl, h₃⟩
    | true =>
      exact wpAny_bind (wpAny_bind (wpAny_mono h₃ (fun x s₄ h₄ => wpAny_bind (wpAny_mono h₄ (fun _ s₅ h₅ => wpAny_pure (wpAny_pure ⟨rfl, h₅⟩)) fun _ _ h' => h')) fun _ _ h' => h'))
section
variable {X : Cx}
/-- [elt for target in iter if ..]: D the new list; W by the turn and a measure, Nx what a turn is to reach -/
def tLc (wi : TI) (g : TG) (tt : TT) (te : TE) (vs : List Nat) : TE := fun σ H Q => wi σ H fun J H1 => ∀ D, H1 D = none → ∃ W : Nat → Nat → Hp → Prop, (∃ m, W 0 m (upd H1 D (.lst []))) ∧ ∀ i m H, W i m H →
  (J.stop i H ∧ Q (.ref D) H) ∨ (J.go i H ∧ ∃ Nx : Hp → Prop, (∀ H', Nx H' → ∃ m', m' < m ∧ W (i + 1) m' H') ∧ ∀ x H', J.yld i H x H' → g x (wipe σ vs) H' fun σ2 H2 => wipe σ2 vs = wipe σ vs ∧ tt σ2 H2 fun b H3 =>
    if b = true then te σ2 H3 fun y H4 => ∃ acc, H4 D = some (.lst acc) ∧ acc.length < sizeLine ∧ Nx (upd H4 D (.lst (acc ++ [y]))) else Nx H3)
theorem lc_core {pins : List (Addr × Obj)} {s : Shared} {σ : St} {H : Hp} {Q : VK} {elt tg iter : Expr} {ifs : List Expr} {scope : Scope} {own : List (Str × Nat)} {pos pos' : Pos} {wi : TI} {g : TG} {tt : TT} {te : TE} {use : Option (Value → Sem Unit)} {Qf : Value → Shared → Prop}
    (hc : X.calm = true) (hN : X.N.Nodup) (I : Inv X pins σ H s) (hi : PI X tg iter wi) (ok : BlkOk X.N X.env.scope scope own)
    (hg : ∀ (s : Shared) (H : Hp) (C : Addr) (cl : List (Str × Addr)) (fp : List Addr), PG (X.blk s H scope (compEnvC scope cl C X.env) fp) tg g) (ht : ∀ (s : Shared) (H : Hp) (C : Addr) (cl : List (Str × Addr)) (fp : List Addr), PTs (X.blk s H scope (compEnvC scope cl C X.env) fp) ifs tt)
    (he : ∀ (s : Shared) (H : Hp) (C : Addr) (cl : List (Str × Addr)) (fp : List Addr), PE (X.blk s H scope (compEnvC scope cl C X.env) fp) elt te) (hs : ∀ x, foldedSetIterable iter X.env x = pure x)
    (h : tLc wi g tt te (own.map (·.2)) σ H Q)
    (hRR : ∀ D C s' m H', Inv X pins σ H' s' → Q (.ref D) H' → s'.heap.Ns C m → FpOk X pins H' C → compPost (model X.prog X.w) X.A X.xe use Qf (.ref D) C (.ok .next) s') :
    wpAny (model X.prog X.w) X.A (comprehension (.ListComp elt [⟨tg, iter, ifs, 0⟩] scope pos) scope X.env pos' (newList []) false (eval iter X.env) use) Qf X.xe s := by
  have hfree : ∀ y ∈ scope.names, y.2 = .free → ∃ c, X.env.cells.lookup y.1 = some c := fun y hy e => by
    rcases ok.free y hy e with k | k
    · exact I.ok.has _ (.inl k)
    · exact I.ok.has _ (.inr k)
  refine wpAny_comprehension_free (use := use) rfl hs (closure_ok hfree) ok.kind (fun y hy e => by rw [ok.uniq y hy, e])
    (thn (hi pins s σ H _ I h) fun xv s1 hx => thn hx fun itv s2 h2 => ?_)
  obtain ⟨it, fp, tn, J, H2, e, I2, T, st2, f2, q⟩ := h2
  subst e
  refine wpAny_newObj_type (newEnv_comp ?_) (by show 0 ≤ sizeLine; decide)
  generalize hD : s2.heap.objs.size = D
  have hDn : H2 D = none := I2.hok.fresh (Nat.le_of_eq hD)
  obtain ⟨W, ⟨m0, w0⟩, turn⟩ := q D hDn
  -- the new list
  generalize hs3 : ({ s2 with heap := s2.heap.push { cls := .type "list", data := .seq ([] : List Value).toArray } } : Shared) = s3
  have I3 : Inv X pins σ (upd H2 D (.lst [])) s3 := by
    rw [← hs3]
    refine I2.laid (t' := s2.toks) (fun b o e => Heap.get?_push_of_some _ e) (Nat.le_of_eq hD) ⟨Nat.zero_le _, [], 0, .nil, ?_⟩
    rw [← hD]
    exact Heap.get?_push_size _ rfl
  have h3 : s3.heap = s2.heap.push { cls := .type "list", data := .seq ([] : List Value).toArray } := by rw [← hs3]
  have sz : ∀ b ∈ fp, b < s2.heap.objs.size := fun b hb => by
    obtain ⟨o, e, _⟩ := T.obj _ _ st2 b hb
    exact Heap.lt_size e
  have f3 : ∀ b ∈ fp, FpOk X pins (upd H2 D (.lst [])) b ∧ b < s3.heap.objs.size := fun b hb => by
    have hlt := sz b hb
    refine ⟨⟨?_, (f2 b hb).2⟩, by rw [h3, Heap.size_push]; exact Nat.lt_succ_of_lt hlt⟩
    rw [upd_ne (by rw [← hD]; exact Nat.ne_of_lt hlt)]
    exact (f2 b hb).1
  have st3 : tn 0 s3.heap := T.keep _ _ _ st2 fun b _ o e => by rw [h3]; exact Heap.get?_push_of_some _ e
  have I4 := block_start I3 ok hN f3
  have pg := hg s3 (upd H2 D (.lst [])) s3.heap.objs.size (cellsFrom (s3.heap.objs.size + 1) scope.names (cloFrom X.env.cells scope.names [])) fp
  have pt := ht s3 (upd H2 D (.lst [])) s3.heap.objs.size (cellsFrom (s3.heap.objs.size + 1) scope.names (cloFrom X.env.cells scope.names [])) fp
  have pe := he s3 (upd H2 D (.lst [])) s3.heap.objs.size (cellsFrom (s3.heap.objs.size + 1) scope.names (cloFrom X.env.cells scope.names [])) fp
  show codeAny _ _ (.compStart (.ListComp elt [⟨tg, iter, ifs, 0⟩] scope pos) 0 (.ref it) (.ref D) (compEnvC scope (cellsFrom (s3.heap.objs.size + 1) scope.names (cloFrom X.env.cells scope.names [])) s3.heap.objs.size X.env)) (compPost (model X.prog X.w) X.A X.xe use Qf (.ref D) s3.heap.objs.size) { s3 with heap := pushCells (s3.heap.push { cls := .type "dict", data := .dict #[] }) scope.names }
  have nfp : ∀ b ∈ fp, (upd H2 D (.lst [])) b = none := fun b hb => (f3 b hb).1.1
  generalize hce : compEnvC scope (cellsFrom (s3.heap.objs.size + 1) scope.names (cloFrom X.env.cells scope.names [])) s3.heap.objs.size X.env = ce at I4 pg pt pe ⊢
  have cL : ce.locals = s3.heap.objs.size := by subst hce; rfl
  generalize hH3 : upd H2 D (.lst []) = H3 at I3 I4 pg pt pe w0 nfp f3
  generalize hs4 : ({ s3 with heap := pushCells (s3.heap.push { cls := .type "dict", data := .dict #[] }) scope.names } : Shared) = s4 at I4 ⊢
  have st4 : tn 0 s4.heap := T.keep _ _ _ st3 fun b _ o e => by rw [← hs4]; exact pushCells_keeps _ _ _ _ (Heap.get?_push_of_some _ e)
  have stat : ∀ {σ' : St} {H' : Hp} {s' : Shared}, Inv (X.blk s3 H3 scope ce fp) [] σ' H' s' → (∀ b ∈ fp, H' b = none) → ∀ b ∈ fp, FpOk (X.blk s3 H3 scope ce fp) [] H' b := fun {σ' H' s'} I' hn b hb =>
    ⟨hn b hb, (I'.ok.exf b hb).1, I'.ok.exfs b hb, .inl hb, fun x c e => (I'.ok.exf b hb).2 x c e, fun p hp => absurd (show p ∈ ([] : List (Addr × Obj)) ++ [] from hp) (by simp)⟩
  have loop : codeAny (model X.prog X.w) X.A (.compLoop (.ListComp elt [⟨tg, iter, ifs, 0⟩] scope pos) 0 (.ref it) (.ref D) ce) (compPost (model X.prog X.w) X.A X.xe use Qf (.ref D) s3.heap.objs.size) s4 := by
    refine compLoop_any (fun n s' => ∃ i H', Inv (X.blk s3 H3 scope ce fp) [] (wipe σ (own.map (·.2))) H' s' ∧ tn i s'.heap ∧ (∀ b ∈ fp, H' b = none) ∧ W i n H') ?_ m0 ⟨0, H3, I4, st4, nfp, w0⟩
    rintro n s5 ⟨i, H5, I5, st5, n5, w5⟩
    rcases turn i n H5 w5 with ⟨stop, qq⟩ | ⟨go, Nx, hNx, step⟩
    · have td := T.done (X.blk s3 H3 scope ce fp) rfl rfl rfl hc i [] s5 _ H5 (fun _ _ => False) I5 (stat I5 n5) st5 stop
      refine thnF td fun r s6 ⟨hr, I6⟩ => ?_
      subst hr
      -- back in the def's context
      have I7 : Inv X pins σ H5 s6 := I3.call' (ch := fp) I6.os I6.base I6.hok I6.bare fun b hb => ⟨(f3 b hb).1.2.2.2.1, (f3 b hb).1.2.1, (f3 b hb).1.2.2.2.2.1, (f3 b hb).1.2.2.2.2.2⟩
      have nC : H5 s3.heap.objs.size = none := by
        have z : H5 ce.locals = none := I6.free
        rw [cL] at z
        exact z
      obtain ⟨m, hn, _⟩ := I6.loc
      have hn : s6.heap.Ns ce.locals m := hn
      rw [cL] at hn
      exact hRR D s3.heap.objs.size s6 m H5 I7 qq hn (I3.fpOk (Nat.le_refl _) nC)
    · have ti := T.item (X.blk s3 H3 scope ce fp) rfl rfl rfl hc i [] s5 _ H5 (fun _ _ => False) I5 (stat I5 n5) st5 go
      refine thnF ti fun r s6 ⟨u, hr, h6⟩ => ?_
      subst hr
      refine thnF h6 fun _ s7 ⟨x, H7, I7, r7, y7, st7, n7⟩ => ?_
      have I7' := I7.pinned (stat I7 n7) (T.obj _ _ st7)
      refine thnF (pg _ s7 _ H7 x u _ I7' r7 (step x H7 y7)) fun _ s8 ⟨σ8, H8, I8, hw8, q8⟩ => ?_
      refine thnF (pt _ s8 σ8 H8 _ I8 q8) fun b s9 ⟨H9, I9, q9⟩ => ?_
      -- the turn's end
      have fin : ∀ {s' : Shared} {H' : Hp}, Inv (X.blk s3 H3 scope ce fp) ([] ++ pinsAt fp s7.heap) σ8 H' s' → Nx H' → ∃ m, m < n ∧ ∃ i H', Inv (X.blk s3 H3 scope ce fp) [] (wipe σ (own.map (·.2))) H' s' ∧ tn i s'.heap ∧ (∀ b ∈ fp, H' b = none) ∧ W i m H' := fun {s' H'} I' nx => by
        obtain ⟨m', hm, w'⟩ := hNx H' nx
        have pin' : ∀ b ∈ fp, ∀ o, s7.heap.get? b = some o → s'.heap.get? b = some o ∧ H' b = none := fun b hb o e =>
          let z := I'.pin (b, o) (List.mem_append_right _ (List.mem_append_right _ (mem_pinsAt hb e)))
          ⟨z.1, z.2.1⟩
        have hl : (wipe σ (own.map (·.2))).length = σ8.length := by rw [← hw8, wipe_length]
        refine ⟨m', hm, i + 1, H', (I'.unpinned (pins := [])).weak hl (fun j v e => ?_), T.keep _ _ _ st7 fun b hb o e => (pin' b hb o e).1, fun b hb => ?_, w'⟩
        · rw [← hw8] at e
          exact (wipe_some e).1
        · obtain ⟨o, e, _⟩ := T.obj _ _ st7 b hb
          exact (pin' b hb o e).2
      cases b with
      | false =>
        simp only [Bool.false_eq_true, if_false] at q9 ⊢
        exact fin I9 q9
      | true =>
        simp only [if_true] at q9 ⊢
        refine thnF (pe _ s9 σ8 H9 _ I9 q9) fun z s10 ⟨yv, H10, I10, r10, acc, hD10, hz10, nx⟩ => ?_
        exact app_ok (X := X.blk s3 H3 scope ce fp) I10 hD10 hz10 r10 fun s11 I11 => fin I11 nx
  exact codeAny_compStart_list loop (T.self X.A 0 _ _ _ st4 loop)
/-- as a value -/
theorem pe_lc {elt tg iter : Expr} {ifs : List Expr} {scope : Scope} {own : List (Str × Nat)} {pos : Pos} {wi : TI} {g : TG} {tt : TT} {te : TE} (hc : X.calm = true) (hN : X.N.Nodup) (hi : PI X tg iter wi) (ok : BlkOk X.N X.env.scope scope own)
    (hg : ∀ (s : Shared) (H : Hp) (C : Addr) (cl : List (Str × Addr)) (fp : List Addr), PG (X.blk s H scope (compEnvC scope cl C X.env) fp) tg g) (ht : ∀ (s : Shared) (H : Hp) (C : Addr) (cl : List (Str × Addr)) (fp : List Addr), PTs (X.blk s H scope (compEnvC scope cl C X.env) fp) ifs tt)
    (he : ∀ (s : Shared) (H : Hp) (C : Addr) (cl : List (Str × Addr)) (fp : List Addr), PE (X.blk s H scope (compEnvC scope cl C X.env) fp) elt te) (hs : ∀ x, foldedSetIterable iter X.env x = pure x := by intro _; rfl) :
    PE X (.ListComp elt [⟨tg, iter, ifs, 0⟩] scope pos) (tLc wi g tt te (own.map (·.2))) := by
  intro pins s σ H Q I h
  rw [eval_ListComp]
  refine lc_core hc hN I hi ok hg ht he hs h fun D C s' m H' I' q hn f => ⟨m, hn, fun h'' sb => ?_⟩
  obtain ⟨f0, f1, f2, f3, f4, f5⟩ := f
  exact ⟨.ref D, H', I'.turned (t' := s'.toks) (fun b o hb e => (sb.2 b hb).trans e) f0 f1 f3 f4 f5, rfl, q⟩
/-- name = [..] on one line, the name a local -/
theorem ps_setLc {i : Nat} {y : Str} {py : Pos} {elt tg iter : Expr} {ifs : List Expr} {scope : Scope} {own : List (Str × Nat)} {pos spos : Pos} {wi : TI} {g : TG} {tt : TT} {te : TE} (hc : X.calm = true) (hN : X.N.Nodup) (hy : X.N[i]? = some y) (hyl : X.env.scope.names.lookup y = some .local)
    (hsw : swapsWith (.ListComp elt [⟨tg, iter, ifs, 0⟩] scope pos) (some (.Name y py)) spos.line X.env = pure true) (hi : PI X tg iter wi) (ok : BlkOk X.N X.env.scope scope own)
    (hg : ∀ (s : Shared) (H : Hp) (C : Addr) (cl : List (Str × Addr)) (fp : List Addr), PG (X.blk s H scope (compEnvC scope cl C X.env) fp) tg g) (ht : ∀ (s : Shared) (H : Hp) (C : Addr) (cl : List (Str × Addr)) (fp : List Addr), PTs (X.blk s H scope (compEnvC scope cl C X.env) fp) ifs tt)
    (he : ∀ (s : Shared) (H : Hp) (C : Addr) (cl : List (Str × Addr)) (fp : List Addr), PE (X.blk s H scope (compEnvC scope cl C X.env) fp) elt te) (hs : ∀ x, foldedSetIterable iter X.env x = pure x := by intro _; rfl) :
    PS X (.Assign [.Name y py] (.ListComp elt [⟨tg, iter, ifs, 0⟩] scope pos) spos) (tAsg (tLc wi g tt te (own.map (·.2))) (gName i)) := by
  intro pins s σ H D I h
  rw [exec_Assign_Name_used _ _ _ _ hsw]
  refine wpAny_bind (wpAny_standAt (wpAny_bind ?_))
  show wpAny _ X.A (do let _ ← comprehension (.ListComp elt [⟨tg, iter, ifs, 0⟩] scope pos) scope X.env (firstIterPos [⟨tg, iter, ifs, 0⟩] pos) (newList []) false (eval iter X.env) (some (assign (.Name y py) X.env))) _ _ s
  have h : tLc wi g tt te (own.map (·.2)) σ H (fun x H1 => gName i x σ H1 D.nx) := h
  refine wpAny_bind (thn (lc_core (Qf := fun _ s' => SP X pins D .next s') hc hN I hi ok hg ht he hs h fun L C s' m H' I' q hn f => ?_) fun _ s' hq => wpAny_pure (wpAny_pure hq))
  show wpAny _ _ (assign (.Name y py) X.env (.ref L)) _ _ _
  refine wpAny_assign_Name (store_ok2 (v := V.ref L) I' hN hy (.inl hyl) rfl (fun s2 I2 ⟨a, sb, ha⟩ => ?_) (.inr hyl))
  obtain ⟨f0, f1, f2, f3, f4, f5⟩ := f
  have haC : C ≠ a := by
    rcases ha with z | z
    · rw [z]; exact f1
    · exact fun e => f4 y a z e.symm
  refine ⟨m, hn.sameBut sb haC, fun h3 sb3 => ?_⟩
  exact ⟨_, H', I2.turned (t' := s2.toks) (fun b o hb e => (sb3.2 b hb).trans e) f0 f1 f3 f4 f5, q⟩
theorem sw_true {elt : Expr} {gs : List Comprehension} {scope : Scope} {pos py : Pos} {y : Str} {l : Nat} {env : Env} (hk : env.scope.kind = .function) (hy : env.scope.names.lookup y = some .local) (hl : (py.line == pos.line) = true)
    (ha : (scope.names.any fun (n, k) => n == y && (k == .local || k == .cell)) = false) : swapsWith (.ListComp elt gs scope pos) (some (.Name y py)) l env = pure true := by
  have ky : env.kindOf y = some .local := hy
  have hb : env.blockKind = .function := by unfold Env.blockKind; rw [hk]; rfl
  unfold swapsWith
  simp only [hb, ky, ha, Expr.pos, hl]
  rfl
end
/-! ### the forms one uses -/
/-- over a range: Pv by the turn and the heap (the new list at D within) -/
theorem lc_range {lo : Int} {n : Nat} {g : TG} {tt : TT} {te : TE} {vs : List Nat} {σ : St} {H1 : Hp} {D : Addr} {Qd : Hp → Prop} (Pv : Nat → Hp → Prop) (h0 : Pv 0 (upd H1 D (.lst [])))
    (hs : ∀ i H, i < n → Pv i H → g (.int (lo + i)) (wipe σ vs) H fun σ2 H2 => wipe σ2 vs = wipe σ vs ∧ tt σ2 H2 fun b H3 =>
      if b = true then te σ2 H3 fun y H4 => ∃ acc, H4 D = some (.lst acc) ∧ acc.length < sizeLine ∧ Pv (i + 1) (upd H4 D (.lst (acc ++ [y]))) else Pv (i + 1) H3) (hd : ∀ H, Pv n H → Qd H) :
    ∃ W : Nat → Nat → Hp → Prop, (∃ m, W 0 m (upd H1 D (.lst []))) ∧ ∀ i m H, W i m H →
      ((Itr lo n).stop i H ∧ Qd H) ∨ ((Itr lo n).go i H ∧ ∃ Nx : Hp → Prop, (∀ H', Nx H' → ∃ m', m' < m ∧ W (i + 1) m' H') ∧ ∀ x H', (Itr lo n).yld i H x H' → g x (wipe σ vs) H' fun σ2 H2 => wipe σ2 vs = wipe σ vs ∧ tt σ2 H2 fun b H3 =>
        if b = true then te σ2 H3 fun y H4 => ∃ acc, H4 D = some (.lst acc) ∧ acc.length < sizeLine ∧ Nx (upd H4 D (.lst (acc ++ [y]))) else Nx H3) := by
  refine ⟨fun i m H => m = n - i ∧ i ≤ n ∧ Pv i H, ⟨n, by simp, Nat.zero_le _, h0⟩, ?_⟩
  rintro i m H ⟨rfl, hi, p⟩
  by_cases hlt : i < n
  · refine .inr ⟨hlt, Pv (i + 1), fun H' p' => ⟨n - (i + 1), by omega, rfl, hlt, p'⟩, fun x H' y => ?_⟩
    obtain ⟨e, y⟩ := y
    subst e y
    exact hs i _ hlt p
  · have e : i = n := by omega
    subst e
    exact .inl ⟨Nat.le_refl _, hd H p⟩
/-- over a list that the block leaves as it is -/
theorem lc_list {K : PySem.W.Frag} {a : Addr} {xs : List V} {g : TG} {tt : TT} {te : TE} {vs : List Nat} {σ : St} {H1 : Hp} {D : Addr} {Qd : Hp → Prop} (Pv : Nat → Hp → Prop) (h0 : Pv 0 (upd H1 D (.lst []))) (hl : ∀ i H, i ≤ xs.length → Pv i H → SqL K H a xs)
    (hs : ∀ i x H, xs[i]? = some x → Pv i H → g x (wipe σ vs) H fun σ2 H2 => wipe σ2 vs = wipe σ vs ∧ tt σ2 H2 fun b H3 =>
      if b = true then te σ2 H3 fun y H4 => ∃ acc, H4 D = some (.lst acc) ∧ acc.length < sizeLine ∧ Pv (i + 1) (upd H4 D (.lst (acc ++ [y]))) else Pv (i + 1) H3) (hd : ∀ H, Pv xs.length H → Qd H) :
    ∃ W : Nat → Nat → Hp → Prop, (∃ m, W 0 m (upd H1 D (.lst []))) ∧ ∀ i m H, W i m H →
      ((Itl K a).stop i H ∧ Qd H) ∨ ((Itl K a).go i H ∧ ∃ Nx : Hp → Prop, (∀ H', Nx H' → ∃ m', m' < m ∧ W (i + 1) m' H') ∧ ∀ x H', (Itl K a).yld i H x H' → g x (wipe σ vs) H' fun σ2 H2 => wipe σ2 vs = wipe σ vs ∧ tt σ2 H2 fun b H3 =>
        if b = true then te σ2 H3 fun y H4 => ∃ acc, H4 D = some (.lst acc) ∧ acc.length < sizeLine ∧ Nx (upd H4 D (.lst (acc ++ [y]))) else Nx H3) := by
  refine ⟨fun i m H => m = xs.length - i ∧ i ≤ xs.length ∧ Pv i H, ⟨xs.length, by simp, Nat.zero_le _, h0⟩, ?_⟩
  rintro i m H ⟨rfl, hi, p⟩
  have q := hl i H hi p
  by_cases hlt : i < xs.length
  · refine .inr ⟨⟨xs, xs[i], q, by simp [hlt]⟩, Pv (i + 1), fun H' p' => ⟨xs.length - (i + 1), by omega, rfl, hlt, p'⟩, fun x H' y => ?_⟩
    obtain ⟨e, y⟩ := y
    subst e
    exact hs i x _ (y xs q) p
  · have e : i = xs.length := by omega
    subst e
    exact .inl ⟨⟨xs, q, Nat.le_refl _⟩, hd H p⟩
/-- over a tuple -/
theorem lc_tup {K : PySem.W.Frag} {a : Addr} {xs : List V} {g : TG} {tt : TT} {te : TE} {vs : List Nat} {σ : St} {H1 : Hp} {D : Addr} {Qd : Hp → Prop} (Pv : Nat → Hp → Prop) (h0 : Pv 0 (upd H1 D (.lst []))) (hl : ∀ i H, i ≤ xs.length → Pv i H → SqT K H a xs)
    (hs : ∀ i x H, xs[i]? = some x → Pv i H → g x (wipe σ vs) H fun σ2 H2 => wipe σ2 vs = wipe σ vs ∧ tt σ2 H2 fun b H3 =>
      if b = true then te σ2 H3 fun y H4 => ∃ acc, H4 D = some (.lst acc) ∧ acc.length < sizeLine ∧ Pv (i + 1) (upd H4 D (.lst (acc ++ [y]))) else Pv (i + 1) H3) (hd : ∀ H, Pv xs.length H → Qd H) :
    ∃ W : Nat → Nat → Hp → Prop, (∃ m, W 0 m (upd H1 D (.lst []))) ∧ ∀ i m H, W i m H →
      ((Itt K a).stop i H ∧ Qd H) ∨ ((Itt K a).go i H ∧ ∃ Nx : Hp → Prop, (∀ H', Nx H' → ∃ m', m' < m ∧ W (i + 1) m' H') ∧ ∀ x H', (Itt K a).yld i H x H' → g x (wipe σ vs) H' fun σ2 H2 => wipe σ2 vs = wipe σ vs ∧ tt σ2 H2 fun b H3 =>
        if b = true then te σ2 H3 fun y H4 => ∃ acc, H4 D = some (.lst acc) ∧ acc.length < sizeLine ∧ Nx (upd H4 D (.lst (acc ++ [y]))) else Nx H3) := by
  refine ⟨fun i m H => m = xs.length - i ∧ i ≤ xs.length ∧ Pv i H, ⟨xs.length, by simp, Nat.zero_le _, h0⟩, ?_⟩
  rintro i m H ⟨rfl, hi, p⟩
  have q := hl i H hi p
  by_cases hlt : i < xs.length
  · refine .inr ⟨⟨xs, xs[i], q, by simp [hlt]⟩, Pv (i + 1), fun H' p' => ⟨xs.length - (i + 1), by omega, rfl, hlt, p'⟩, fun x H' y => ?_⟩
    obtain ⟨e, y⟩ := y
    subst e
    exact hs i x _ (y xs q) p
  · have e : i = xs.length := by omega
    subst e
    exact .inl ⟨⟨xs, q, Nat.le_refl _⟩, hd H p⟩
def blkC (N : List Str) (sc scope : Scope) (own : List (Str × Nat)) : Bool :=
  (match scope.kind with | .function => true | _ => false) && (scope.names.all fun y => decide (scope.names.lookup y.1 = some y.2)) && (own.all fun p => decide (N[p.2]? = some p.1)) &&
    (scope.names.all fun y => match y.2 with
      | .free => (match sc.names.lookup y.1 with | some .cell => true | some .free => true | _ => false)
      | .local => decide (y.1 ∈ own.map (·.1)) || decide (y.1 ∉ N)
      | .cell => decide (y.1 ∈ own.map (·.1)) || decide (y.1 ∉ N)
      | _ => true)
theorem blkOk_by {N : List Str} {sc scope : Scope} {own : List (Str × Nat)} (h : blkC N sc scope own = true) : BlkOk N sc scope own := by
  unfold blkC at h
  simp only [Bool.and_eq_true, List.all_eq_true, decide_eq_true_eq] at h
  obtain ⟨⟨⟨h1, h2⟩, h3⟩, h4⟩ := h
  refine ⟨?_, h2, h3, fun y hy e => ?_, fun y hy e => ?_⟩
  · split at h1
    · assumption
    · cases h1
  · have q := h4 y hy
    simp only [e] at q
    split at q <;> first | exact .inl (by assumption) | exact .inr (by assumption) | cases q
  · have q := h4 y hy
    rcases e with e | e <;> (simp only [e, Bool.or_eq_true, decide_eq_true_eq] at q; exact q)
end L2
namespace L2
open PySem PySem.Spec PyProof.Rows
/-! ### lists of pairs as tables -/
section
variable {κ : Type} [DecidableEq κ]
def valV (kvs : List (κ × V)) (k : κ) : Option V := (kvs.find? fun kv => decide (kv.1 = k)).map (·.2)
/-- in its place, or at the end -/
def putK (kvs : List (κ × V)) (k : κ) (v : V) : List (κ × V) :=
  if (kvs.any fun kv => decide (kv.1 = k)) = true then kvs.map (fun kv => if kv.1 = k then (kv.1, v) else kv) else kvs ++ [(k, v)]
def dropK (kvs : List (κ × V)) (k : κ) : List (κ × V) := kvs.filter fun kv => decide (kv.1 ≠ k)
theorem valV_nil {k : κ} : valV ([] : List (κ × V)) k = none := rfl
theorem valV_pos {p : κ × V} {r : List (κ × V)} {k : κ} (e : p.1 = k) : valV (p :: r) k = some p.2 := by simp [valV, List.find?_cons, e]
theorem valV_neg {p : κ × V} {r : List (κ × V)} {k : κ} (e : ¬ p.1 = k) : valV (p :: r) k = valV r k := by simp [valV, List.find?_cons, e]
theorem valV_any (k : κ) : ∀ kvs : List (κ × V), (kvs.any fun kv => decide (kv.1 = k)) = (valV kvs k).isSome
  | [] => rfl
  | p :: r => by
    rw [List.any_cons]
    by_cases e : p.1 = k
    · simp only [valV_pos e, decide_eq_true e, Bool.true_or, Option.isSome_some]
    · rw [valV_neg e, decide_eq_false e, Bool.false_or]; exact valV_any k r
theorem valV_map (k j : κ) (y : V) : ∀ kvs : List (κ × V), valV (kvs.map fun kv => if kv.1 = k then (kv.1, y) else kv) j = (valV kvs j).map fun x => if j = k then y else x
  | [] => rfl
  | p :: r => by
    have ih := valV_map k j y r
    rw [List.map_cons]
    by_cases h : p.1 = k
    · rw [if_pos h]
      by_cases e : p.1 = j
      · rw [valV_pos (p := (p.1, y)) e, valV_pos e, Option.map_some, if_pos (e.symm.trans h)]
      · rw [valV_neg (p := (p.1, y)) e, valV_neg e, ih]
    · rw [if_neg h]
      by_cases e : p.1 = j
      · rw [valV_pos (p := p) e, valV_pos e, Option.map_some, if_neg (fun z => h (e.trans z))]
      · rw [valV_neg (p := p) e, valV_neg e, ih]
theorem valV_snoc (k j : κ) (y : V) : ∀ kvs : List (κ × V), valV kvs k = none → valV (kvs ++ [(k, y)]) j = if j = k then some y else valV kvs j
  | [], _ => by
    by_cases e : k = j
    · rw [if_pos e.symm]; exact valV_pos (p := (k, y)) e
    · rw [if_neg (fun z => e z.symm)]; exact valV_neg (p := (k, y)) e
  | p :: r, hn => by
    rw [List.cons_append]
    have hk : ¬ p.1 = k := fun z => by rw [valV_pos z] at hn; cases hn
    rw [valV_neg hk] at hn
    have ih := valV_snoc k j y r hn
    by_cases e : p.1 = j
    · rw [valV_pos e, valV_pos e, if_neg (fun z => hk (e.trans z))]
    · rw [valV_neg e, valV_neg e, ih]
theorem valV_put (kvs : List (κ × V)) (k j : κ) (y : V) : valV (putK kvs k y) j = if j = k then some y else valV kvs j := by
  unfold putK
  by_cases a : (kvs.any fun kv => decide (kv.1 = k)) = true
  · rw [if_pos a, valV_map]
    rw [valV_any] at a
    by_cases e : j = k
    · obtain ⟨x, hx⟩ := Option.isSome_iff_exists.mp a
      rw [if_pos e, e, hx, Option.map_some, if_pos rfl]
    · rw [if_neg e]
      cases valV kvs j with
      | none => rfl
      | some x => rw [Option.map_some, if_neg e]
  · rw [if_neg a]
    refine valV_snoc k j y kvs ?_
    rw [valV_any] at a
    cases q : valV kvs k with
    | none => rfl
    | some x => rw [q] at a; exact (a rfl).elim
theorem putK_new {kvs : List (κ × V)} {k : κ} (v : V) (h : valV kvs k = none) : putK kvs k v = kvs ++ [(k, v)] := by
  unfold putK
  rw [valV_any, h]
  exact if_neg (by decide)
theorem RelO.isSome_eq {o : Option V} {u : Option Value} (r : RelO o u) : o.isSome = u.isSome := by
  cases o with
  | none => cases u with
    | none => rfl
    | some _ => exact (show False from r).elim
  | some _ => cases u with
    | none => exact (show False from r).elim
    | some _ => rfl
theorem RelO.getD {o : Option V} {u : Option Value} {d : V} {d' : Value} (r : RelO o u) (rd : RelV d d') : RelV (o.getD d) (u.getD d') := by
  cases o with
  | none => cases u with
    | none => exact rd
    | some _ => exact (show False from r).elim
  | some _ => cases u with
    | none => exact (show False from r).elim
    | some _ => exact r
/-- raw tables of the same keys -/
theorem KV.val {kvs : List (κ × V)} {vs : List (κ × Value)} (r : KV kvs vs) (k : κ) : RelO (valV kvs k) (valueAt vs k) := by
  unfold KV at r
  induction r with
  | nil => exact True.intro
  | @cons p q ps qs h t ih =>
    obtain ⟨h1, h2⟩ := h
    by_cases e : p.1 = k
    · have e' : q.1 = k := h1.symm.trans e
      have b : valueAt (q :: qs) k = some q.2 := by simp [valueAt, List.find?_cons, e']
      rw [valV_pos e, b]; exact h2
    · have e' : ¬ q.1 = k := fun z => e (h1.trans z)
      have b : valueAt (q :: qs) k = valueAt qs k := by simp [valueAt, List.find?_cons, e']
      rw [valV_neg e, b]; exact ih
theorem KV.any {kvs : List (κ × V)} {vs : List (κ × Value)} (r : KV kvs vs) (k : κ) : (kvs.any fun kv => decide (kv.1 = k)) = vs.any fun kv => decide (kv.1 = k) := by
  unfold KV at r
  induction r with
  | nil => rfl
  | cons h t ih => rw [List.any_cons, List.any_cons, ih, h.1]
theorem KV.repl {kvs : List (κ × V)} {vs : List (κ × Value)} (r : KV kvs vs) (k : κ) {y : V} {u : Value} (ry : RelV y u) :
    KV (kvs.map fun kv => if kv.1 = k then (kv.1, y) else kv) (vs.map fun kv => if kv.1 = k then (kv.1, u) else kv) := by
  unfold KV at r ⊢
  induction r with
  | nil => exact .nil
  | @cons p q ps qs h t ih =>
    rw [List.map_cons, List.map_cons]
    refine .cons ?_ ih
    obtain ⟨h1, h2⟩ := h
    by_cases e : p.1 = k
    · rw [if_pos e, if_pos (h1.symm.trans e)]; exact ⟨h1, ry⟩
    · rw [if_neg e, if_neg (fun z => e (h1.trans z))]; exact ⟨h1, h2⟩
theorem KV.put {kvs : List (κ × V)} {vs : List (κ × Value)} (r : KV kvs vs) (k : κ) {y : V} {u : Value} (ry : RelV y u) : KV (putK kvs k y) (stored vs k u) := by
  unfold putK stored
  rw [r.any k]
  by_cases e : (vs.any fun kv => decide (kv.1 = k)) = true
  · rw [if_pos e, if_pos e]; exact r.repl k ry
  · rw [if_neg e, if_neg e]; exact Paired.snoc r ⟨rfl, ry⟩
theorem KV.drop {kvs : List (κ × V)} {vs : List (κ × Value)} (r : KV kvs vs) (k : κ) : KV (dropK kvs k) (without vs k) := by
  unfold KV at r ⊢
  unfold dropK without
  induction r with
  | nil => exact .nil
  | @cons p q ps qs h t ih =>
    obtain ⟨h1, h2⟩ := h
    rw [List.filter_cons, List.filter_cons]
    by_cases e : p.1 = k
    · have a : ¬ decide (p.1 ≠ k) = true := by simp [e]
      have b : ¬ decide (q.1 ≠ k) = true := by simp [h1.symm.trans e]
      rw [if_neg a, if_neg b]; exact ih
    · have e' : ¬ q.1 = k := fun z => e (h1.trans z)
      have a : decide (p.1 ≠ k) = true := by simp [e]
      have b : decide (q.1 ≠ k) = true := by simp [e']
      rw [if_pos a, if_pos b]; exact .cons ⟨h1, h2⟩ ih
theorem KV.length {kvs : List (κ × V)} {vs : List (κ × Value)} (r : KV kvs vs) : kvs.length = vs.length := Paired.length r
end
/-- raw entries of a dict with tuple keys -/
abbrev KT (H : Hp) : List (List Key × V) → List (List Key × Addr × Value) → Prop := Paired fun p q => p.1 = q.1 ∧ H q.2.1 = some (.tup (p.1.map kV)) ∧ RelV p.2 q.2.2
theorem KT.val {H : Hp} {kvs : List (List Key × V)} {xs : List (List Key × Addr × Value)} (r : KT H kvs xs) (k : List Key) : RelO (valV kvs k) ((atKey xs k).map (·.2)) := by
  induction r with
  | nil => exact True.intro
  | @cons p q ps qs h t ih =>
    obtain ⟨h1, _, h2⟩ := h
    by_cases e : p.1 = k
    · have e' : q.1 = k := h1.symm.trans e
      have b : atKey (q :: qs) k = some q.2 := by simp [atKey, List.find?_cons, e']
      rw [valV_pos e, b]; exact h2
    · have e' : ¬ q.1 = k := fun z => e (h1.trans z)
      have b : atKey (q :: qs) k = atKey qs k := by simp [atKey, List.find?_cons, e']
      rw [valV_neg e, b]; exact ih
theorem KT.repl {H : Hp} {kvs : List (List Key × V)} {xs : List (List Key × Addr × Value)} (r : KT H kvs xs) (k : List Key) {y : V} {u : Value} (ry : RelV y u) :
    KT H (kvs.map fun kv => if kv.1 = k then (kv.1, y) else kv) (xs.map (putAt k u)) := by
  induction r with
  | nil => exact .nil
  | @cons p q ps qs h t ih =>
    rw [List.map_cons, List.map_cons]
    refine .cons ?_ ih
    obtain ⟨h1, h2, h3⟩ := h
    unfold putAt
    by_cases e : p.1 = k
    · rw [if_pos e, if_pos (h1.symm.trans e)]; exact ⟨h1, h2, ry⟩
    · rw [if_neg e, if_neg (fun z => e (h1.trans z))]; exact ⟨h1, h2, h3⟩
theorem KT.put {H : Hp} {kvs : List (List Key × V)} {xs : List (List Key × Addr × Value)} (r : KT H kvs xs) (k : List Key) {b : Addr} {y : V} {u : Value} (hb : H b = some (.tup (k.map kV))) (ry : RelV y u) :
    KT H (putK kvs k y) (storedH xs k b u) := by
  have e : (kvs.any fun kv => decide (kv.1 = k)) = (atKey xs k).isSome := by
    rw [valV_any, (r.val k).isSome_eq, Option.isSome_map]
  unfold putK storedH
  rw [e]
  by_cases q : (atKey xs k).isSome = true
  · rw [if_pos q, if_pos q]; exact r.repl k ry
  · rw [if_neg q, if_neg q]; exact Paired.snoc r ⟨rfl, hb, ry⟩
theorem KT.keeps {H H' : Hp} {kvs : List (List Key × V)} {xs : List (List Key × Addr × Value)} (r : KT H kvs xs) (ht : ∀ b ys, H b = some (.tup ys) → H' b = some (.tup ys)) : KT H' kvs xs :=
  Paired.mapP r fun _ _ z => ⟨z.1, ht _ _ z.2.1, z.2.2⟩
section
variable {P : Program} {w : World} {H : Hp} {h : Heap} {a : Addr}
theorem rd_of {u : HO} (ok : HOk P w H h) (e : Rd H a u) : ObjOk P w H h a u := e.ok ok
end
/-- what the dict at a holds at the key y -/
def DGet (H : Hp) (a : Addr) (y : V) (r : Option V) : Prop :=
  (∃ kvs k, Rd H a (.dK kvs) ∧ y = kV k ∧ r = valV kvs k) ∨ ∃ kvs k b, Rd H a (.dT kvs) ∧ y = .ref b ∧ H b = some (.tup (k.map kV)) ∧ r = valV kvs k
/-- the heap behind a[y] = v -/
def DPut (H : Hp) (a : Addr) (y v : V) (H' : Hp) : Prop :=
  (∃ kvs k, H a = some (.dK kvs) ∧ y = kV k ∧ kvs.length < sizeLine ∧ H' = upd H a (.dK (putK kvs k v))) ∨
  ∃ kvs k b, H a = some (.dT kvs) ∧ y = .ref b ∧ H b = some (.tup (k.map kV)) ∧ kvs.length < sizeLine ∧ H' = upd H a (.dT (putK kvs k v))
theorem DGet.k {H : Hp} {a : Addr} {kvs : List (Key × V)} {k : Key} (e : H a = some (.dK kvs)) : DGet H a (kV k) (valV kvs k) := .inl ⟨kvs, k, .inl e, rfl, rfl⟩
theorem DGet.t {H : Hp} {a b : Addr} {kvs : List (List Key × V)} {k : List Key} (e : H a = some (.dT kvs)) (eb : H b = some (.tup (k.map kV))) : DGet H a (.ref b) (valV kvs k) := .inr ⟨kvs, k, b, .inl e, rfl, eb, rfl⟩
theorem DPut.k {H : Hp} {a : Addr} {kvs : List (Key × V)} {k : Key} {v : V} (e : H a = some (.dK kvs)) (hl : kvs.length < sizeLine) : DPut H a (kV k) v (upd H a (.dK (putK kvs k v))) := .inl ⟨kvs, k, e, rfl, hl, rfl⟩
theorem DPut.t {H : Hp} {a b : Addr} {kvs : List (List Key × V)} {k : List Key} {v : V} (e : H a = some (.dT kvs)) (eb : H b = some (.tup (k.map kV))) (hl : kvs.length < sizeLine) :
    DPut H a (.ref b) v (upd H a (.dT (putK kvs k v))) := .inr ⟨kvs, k, b, e, rfl, eb, hl, rfl⟩
/-! ### methods -/
/-- a method call o.m(e) of a built-in, with one argument: what must be seen of the text -/
structure M1 (X : Cx) (o : Expr) (m : Str) (apos : Pos) (e : Expr) (cpos : Pos) : Prop where
  base : attributeBase o m X.env (eval o X.env) = eval o X.env
  few : ((backTo cpos (starEach [e] X.env)).all (fun x => !x.1) && (backToKw cpos (keywordEach [] X.env)).all (fun x => x.1.isSome)
    && decide (([e] : List Expr).length + ([] : List Keyword).length + (if ([] : List Keyword).isEmpty then 0 else 1) < 30)) = true
  line : (apos.endLine == cpos.line) = true
  trees : backTo cpos (starEach [e] X.env) = [(false, eval e X.env)]
structure M2 (X : Cx) (o : Expr) (m : Str) (apos : Pos) (e f : Expr) (cpos : Pos) : Prop where
  base : attributeBase o m X.env (eval o X.env) = eval o X.env
  few : ((backTo cpos (starEach [e, f] X.env)).all (fun x => !x.1) && (backToKw cpos (keywordEach [] X.env)).all (fun x => x.1.isSome)
    && decide (([e, f] : List Expr).length + ([] : List Keyword).length + (if ([] : List Keyword).isEmpty then 0 else 1) < 30)) = true
  line : (apos.endLine == cpos.line) = true
  trees : backTo cpos (starEach [e, f] X.env) = [(false, eval e X.env), (false, eval f X.env)]
end L2
namespace L2
open PySem PySem.Spec PyProof.Rows
section
variable {X : Cx} {pins : List (Addr × Obj)} {σ : St} {H : Hp} {s : Shared} {h' : Heap}
/-- several records of ours have turned -/
theorem Inv.turnedL {t' : Nat} {ch : List Addr} (I : Inv X pins σ H s) (k : ∀ b o, b ∉ ch → s.heap.get? b = some o → h'.get? b = some o) (hf : ∀ b ∈ ch, FpOk X pins H b) : Inv X pins σ H { s with heap := h', toks := t' } := by
  have nit : ∀ b u, H b = some u → b ∉ ch := fun b u e z => by
    have q := (hf b z).1
    rw [q] at e; cases e
  refine I.step (g' := s.gens) (d' := s.drawn) (ch := ch) (fun b hb => ⟨(hf b hb).2.2.2.1, (hf b hb).2.1, (hf b hb).2.2.2.2.1, (hf b hb).2.2.2.2.2⟩) (fun b o _ _ hc e _ => k b o hc e) (fun b o _ _ hc e _ => ⟨o.slots, k b o hc e⟩)
    (fun _ _ _ _ n => n) (fun b o hc e => ⟨o, k b o hc e⟩) (fun _ _ e => e) (fun _ _ _ e => e) (fun b ps e => ⟨#[], by rw [e]; simp⟩) (fun m hm => ?_) (fun b u e => ?_) I.bare
  · obtain ⟨o, es, ep, ho, r⟩ := hm
    exact ⟨o, es, ep, k _ o (fun z => (hf _ z).2.1 rfl) ho, r⟩
  · refine (I.hok b u e).stay (fun c v hc q => k c v ?_ q) (fun _ q => q) fun _ _ q => q
    rcases hc with z | z
    · rw [z]; exact nit b u e
    · exact nit c _ z
/-- .. and one new object is laid -/
theorem Inv.turnedNew {t' : Nat} {ch : List Addr} {T : Addr} {ob : HO} (I : Inv X pins σ H s) (k : ∀ b o, b ∉ ch → s.heap.get? b = some o → h'.get? b = some o) (hf : ∀ b ∈ ch, FpOk X pins H b) (hT : s.heap.objs.size ≤ T)
    (new : ObjOk X.prog X.w (upd H T ob) h' T ob) : Inv X pins σ (upd H T ob) { s with heap := h', toks := t' } := by
  have hn : H T = none := I.hok.fresh hT
  have nit : ∀ b u, H b = some u → b ∉ ch := fun b u e z => by
    have q := (hf b z).1
    rw [q] at e; cases e
  refine I.step (g' := s.gens) (d' := s.drawn) (ch := ch) (fun b hb => ⟨(hf b hb).2.2.2.1, (hf b hb).2.1, (hf b hb).2.2.2.2.1, (hf b hb).2.2.2.2.2⟩) (fun b o _ _ hc e _ => k b o hc e) (fun b o _ _ hc e _ => ⟨o.slots, k b o hc e⟩)
    (fun b o _ e n => ?_) (fun b o hc e => ⟨o, k b o hc e⟩) (fun b xs e => ?_) (fun b o u e => ?_) (fun b ps e => ⟨#[], ?_⟩) (fun m hm => ?_) (fun b u e => ?_) I.bare
  · rw [upd_ne (Nat.ne_of_lt (Nat.lt_of_lt_of_le (Heap.lt_size e) hT))]; exact n
  · rw [upd_ne (ne_of_none e hn)]; exact e
  · rw [upd_ne (ne_of_none e hn)]; exact e
  · rw [upd_ne (ne_of_none e hn), e]; simp
  · obtain ⟨o, es, ep, ho, r⟩ := hm
    exact ⟨o, es, ep, k _ o (fun z => (hf _ z).2.1 rfl) ho, r⟩
  · by_cases hb : b = T
    · subst hb
      rw [upd_same] at e
      cases e
      exact new
    · rw [upd_ne hb] at e
      refine (I.hok b u e).stay (fun c v hc q => k c v ?_ q) (fun c q => by rw [upd_ne (ne_of_none q hn)]; exact q) fun c xs q => by rw [upd_ne (ne_of_none q hn)]; exact q
      rcases hc with z | z
      · rw [z]; exact nit b u e
      · exact nit c _ z
end
/-- range(i, j, c): small bounds, n items -/
def RgC (i j c : Int) (n : Nat) : Prop := c ≠ 0 ∧ c.natAbs < 1073741824 ∧ Builtin.Range.small i j c = true ∧ Builtin.Range.rangeSize i j c = n
theorem RgC.neg {i j : Int} (ha : -(2 ^ 62) ≤ i) (ha' : i < 2 ^ 62) (hb : -(2 ^ 62) ≤ j) (hb' : j < 2 ^ 62) : RgC i j (-1) (i - j).toNat :=
  ⟨by decide, by decide, PySem.W.small_down ha ha' hb hb', PySem.W.rangeSize_downNat i j⟩
/-! ### enumerate(list) -/
/-- the list at a as it stands at each turn, each item in a new pair -/
def Ite (K : PySem.W.Frag) (a : Addr) : It :=
  ⟨fun i H => ∃ (xs : List V) (x : V), SqL K H a xs ∧ xs[i]? = some x, fun i H v H' => ∃ T x, v = .ref T ∧ H T = none ∧ H' = upd H T (.tup [.int (i : Nat), x]) ∧ ∀ xs, SqL K H a xs → xs[i]? = some x, fun i H => ∃ xs : List V, SqL K H a xs ∧ xs.length ≤ i⟩
theorem turn_enum {P : Program} {w : World} {K : PySem.W.Frag} {elts : List Expr} {kk : Nat} {tpos : Pos} (a e it : Addr) :
    Turn P w K (.Tuple elts kk tpos) (Ite K a) [e, it] e (fun i h => (∃ old, IsEnum h e it ((i : Nat) : Int) old) ∧ h.IsListIter it a i ∧ e ≠ it) where
  mem := by simp
  obj := fun i h st b hb => by
    obtain ⟨⟨old, he⟩, ⟨o, ho, hc, hd⟩, _⟩ := st
    have e' : b = e ∨ b = it := by simpa using hb
    rcases e' with z | z
    · rw [z]; exact ⟨_, he, fun v q => nomatch q⟩
    · rw [z]; exact ⟨o, ho, fun v q => by rw [hd] at q; cases q⟩
  keep := fun i h h' st k => let ⟨⟨old, he⟩, hi, hne⟩ := st; ⟨⟨old, k e (by simp) _ he⟩, hi.at fun o q => k it (by simp) o q, hne⟩
  item := by
    intro X hP hw hK hc i pins s σ H E I hf st hg
    subst hP hw hK
    obtain ⟨⟨old, he⟩, hit, hne⟩ := st
    obtain ⟨xs, x, hq, hx⟩ := hg
    obtain ⟨its, rv, p, hz⟩ := I.list hq
    obtain ⟨u, hu, ru⟩ := rv.get hx
    have hel : e < s.heap.objs.size := Heap.lt_size he
    have hil : it < s.heap.objs.size := by obtain ⟨_, q, _⟩ := hit; exact Heap.lt_size q
    refine wpAny_pyNext_enum_item he hit p.isList (x := u) (by simpa using hu) hne fun h' ho hit' hT hsz hk => ?_
    refine ⟨_, rfl, wpAny_letOwnedTupleGo_enum (s := { s with heap := h', toks := s.toks + 1 }) ho fun h'' he' sb => ?_⟩
    have hT2 : h''.get? s.heap.objs.size = some { cls := .type "tuple", data := .seq #[.int i s.toks, u] } := (sb.2 _ (Nat.ne_of_gt hel)).trans hT
    have new : ObjOk X.prog X.w (upd H s.heap.objs.size (.tup [.int (i : Nat), x])) h'' s.heap.objs.size (.tup [.int (i : Nat), x]) :=
      ⟨by show 2 ≤ sizeLine; decide, [.int i s.toks, u], .cons ⟨_, rfl⟩ (.cons ru .nil), ⟨_, hT2, rfl, _, rfl⟩⟩
    have I1 : Inv X pins σ (upd H s.heap.objs.size (.tup [.int (i : Nat), x])) { s with heap := h'', toks := s.toks + 1 } :=
      I.turnedNew (ch := [e, it]) (fun b ob hb q => (sb.2 b (fun z => hb (by simp [z]))).trans (hk b ob (fun z => hb (by simp [z])) (fun z => hb (by simp [z])) q)) hf (Nat.le_refl _) new
    refine ⟨.ref s.heap.objs.size, _, I1, rfl, ⟨_, x, rfl, I.hok.fresh (Nat.le_refl _), rfl, fun ys hy => by rw [I.list_inj hy hq]; exact hx⟩, ⟨⟨u, ?_⟩, hit'.at fun o q => (sb.2 it (Ne.symm hne)).trans q, hne⟩, fun b hb => ?_⟩
    · have e1 : ((i + 1 : Nat) : Int) = (i : Int) + 1 := by omega
      rw [e1]; exact he'
    · have hb' : b < s.heap.objs.size := by
        have e' : b = e ∨ b = it := by simpa using hb
        rcases e' with z | z
        · rw [z]; exact hel
        · rw [z]; exact hil
      rw [upd_ne (Nat.ne_of_lt hb')]
      exact (hf b hb).1
  done := by
    intro X hP hw hK hc i pins s σ H E I hf st hg
    subst hP hw hK
    obtain ⟨⟨old, he⟩, hit, hne⟩ := st
    obtain ⟨xs, hq, hx⟩ := hg
    obtain ⟨its, rv, p, hz⟩ := I.list hq
    obtain ⟨f0, f1, f2, f3, f4, f5⟩ := hf it (by simp)
    have hl := rv.length
    exact wpAny_pyNext_enum_end (I.ok.hd hc) he hit p.isList (by simp; omega) fun h' eb => ⟨rfl, I.turned (t' := s.toks) (fun b o hb q => eb b o hb q) f0 f1 f3 f4 f5⟩
  self := fun A i s Q E st h => let ⟨⟨_, he⟩, _⟩ := st; wpAny_pyIter_enum he h
def iEnum (K : PySem.W.Frag) (ta : TA) : TI := fun σ H R => ta σ H fun vs H1 => ∃ a xs, vs = [.ref a] ∧ SqL K H1 a xs ∧ R (Ite K a) H1
theorem pi_enum {X : Cx} {e : Expr} {ta : TA} {p pos tpos : Pos} {elts : List Expr} {kk : Nat} (hg : Gl X "enumerate") (hm : X.mg "enumerate" = none) (ha : PA X [e] ta) (hs : starEach [e] X.env = [(false, eval e X.env)] := by rfl) :
    PI X (.Tuple elts kk tpos) (.Call (.Name "enumerate" p) [e] [] pos) (iEnum X.K ta) := by
  intro pins s σ H R I h
  refine Call_ (ld_blt I hg hm boot_enumerate (PyProof.Rows.callWith_type1 (thn (ha pos pins s σ H _ I h) fun us s1 ⟨vs, H1, I1, r1, q1⟩ => ?_) hs rfl))
  obtain ⟨a, xs, ex, hq, q⟩ := q1
  subst ex
  cases r1 with
  | cons r rr =>
    cases rr
    cases r
    obtain ⟨its, rv, p', hz⟩ := I1.list hq
    refine call_enumerate_list p'.isList fun h' he hit hsz hk => wpAny_pyIter_enum he ?_
    have I2 : Inv X pins σ H1 { s1 with heap := h' } := I1.kept (t' := s1.toks) hk
    refine ⟨s1.heap.objs.size + 1, [s1.heap.objs.size + 1, s1.heap.objs.size], _, _, H1, rfl, I2, turn_enum a (s1.heap.objs.size + 1) s1.heap.objs.size, ⟨⟨.none, he⟩, hit, Nat.succ_ne_self _⟩, fun b hb => ?_, q⟩
    have e' : b = s1.heap.objs.size + 1 ∨ b = s1.heap.objs.size := by simpa using hb
    have hle : s1.heap.objs.size ≤ b := by
      rcases e' with z | z
      · rw [z]; exact Nat.le_add_right _ _
      · rw [z]; exact Nat.le_refl _
    exact I1.fpOk hle (I1.hok.fresh hle)
/-! ### zip(list, list) -/
theorem boot_zip5 : bootBuiltins "zip" = some (.type "zip") := by decide +kernel
end L2
section 
namespace TL
open PySem PySem.Builtin PySem.Builtin.Str PySem.StrLaws
abbrev tl (x : Str) : List Nat := x.cps.toList
theorem len_tl (x : Str) : x.length = (tl x).length := by simp [tl, Str.length]
theorem ext_tl {x y : Str} (h : tl x = tl y) : x = y := Str.ext' (Array.toList_inj.mp h)
theorem tl_append (x y : Str) : tl (x ++ y) = tl x ++ tl y := by
  show (x ++ y).cps.toList = _
  rw [Str.cps_append, Array.toList_append]
theorem mk_tl (x : Str) : (⟨(tl x).toArray⟩ : Str) = x := ext_tl rfl
theorem map_tl_inj : ∀ {l m : List Str}, l.map tl = m.map tl → l = m
  | [], [], _ => rfl
  | [], _ :: _, h => by simp at h
  | _ :: _, [], h => by simp at h
  | x :: l, y :: m, h => by
    rw [List.map_cons, List.map_cons] at h
    injection h with h1 h2
    rw [ext_tl h1, map_tl_inj h2]
/-! ### the list functions -/
/-- S stands at the head of l -/
def pre (S l : List Nat) : Bool := l.take S.length == S
/-- l cut at each S from the left; k signs are still to be passed over -/
def spl (S : List Nat) : Nat → List Nat → List Nat → List (List Nat)
  | _, acc, [] => [acc]
  | 0, acc, c :: r => if pre S (c :: r) = true then acc :: spl S (S.length - 1) [] r else spl S 0 (acc ++ [c]) r
  | k + 1, acc, _ :: r => spl S k acc r
/-- what stands before the first S, and behind it -/
def par (S : List Nat) : List Nat → List Nat → Option (List Nat × List Nat)
  | _, [] => none
  | acc, c :: r => if pre S (c :: r) = true then some (acc, (c :: r).drop S.length) else par S (acc ++ [c]) r
theorem spl_nil (S : List Nat) (k : Nat) (acc : List Nat) : spl S k acc [] = [acc] := by cases k <;> rfl
theorem spl_hit {S acc r : List Nat} {c : Nat} (h : pre S (c :: r) = true) : spl S 0 acc (c :: r) = acc :: spl S (S.length - 1) [] r := by
  show (if pre S (c :: r) = true then acc :: spl S (S.length - 1) [] r else spl S 0 (acc ++ [c]) r) = _
  rw [if_pos h]
theorem spl_miss {S acc r : List Nat} {c : Nat} (h : pre S (c :: r) = false) : spl S 0 acc (c :: r) = spl S 0 (acc ++ [c]) r := by
  show (if pre S (c :: r) = true then acc :: spl S (S.length - 1) [] r else spl S 0 (acc ++ [c]) r) = _
  rw [if_neg (by rw [h]; exact Bool.false_ne_true)]
theorem spl_pass (S : List Nat) : ∀ (k : Nat) (acc l : List Nat), spl S k acc l = spl S 0 acc (l.drop k)
  | 0, _, _ => by rw [List.drop_zero]
  | k + 1, acc, [] => by rw [List.drop_nil, spl_nil, spl_nil]
  | k + 1, acc, c :: r => by
    show spl S k acc r = spl S 0 acc (r.drop k)
    exact spl_pass S k acc r
theorem par_hit {S acc r : List Nat} {c : Nat} (h : pre S (c :: r) = true) : par S acc (c :: r) = some (acc, (c :: r).drop S.length) := by
  show (if pre S (c :: r) = true then some (acc, (c :: r).drop S.length) else par S (acc ++ [c]) r) = _
  rw [if_pos h]
theorem par_miss {S acc r : List Nat} {c : Nat} (h : pre S (c :: r) = false) : par S acc (c :: r) = par S (acc ++ [c]) r := by
  show (if pre S (c :: r) = true then some (acc, (c :: r).drop S.length) else par S (acc ++ [c]) r) = _
  rw [if_neg (by rw [h]; exact Bool.false_ne_true)]
theorem pre_nil {S : List Nat} (hS : S ≠ []) : pre S [] = false := by
  cases S with
  | nil => exact absurd rfl hS
  | cons s S => rfl
theorem pre_of_head {s c : Nat} (S r : List Nat) (h : c ≠ s) : pre (s :: S) (c :: r) = false := by
  cases hp : pre (s :: S) (c :: r) with
  | false => rfl
  | true =>
    have e : (c :: r).take (s :: S).length = s :: S := eq_of_beq hp
    rw [List.length_cons, List.take_succ_cons] at e
    injection e with e1 e2
    exact absurd e1 h
theorem pre_self (S r : List Nat) : pre S (S ++ r) = true := by
  show ((S ++ r).take S.length == S) = true
  have e : (S ++ r).take S.length = S := List.take_left
  rw [e] <;> exact beq_self_eq_true S
theorem getElem_drop_cons {L : List Nat} {a : Nat} (h : a < L.length) : ∃ c, L.drop a = c :: L.drop (a + 1) := ⟨L[a], List.drop_eq_getElem_cons h⟩
theorem spl_run (S L : List Nat) : ∀ (m a : Nat) (acc : List Nat), a + m ≤ L.length → (∀ k, a ≤ k → k < a + m → pre S (L.drop k) = false) →
    spl S 0 acc (L.drop a) = spl S 0 (acc ++ (L.drop a).take m) (L.drop (a + m))
  | 0, a, acc, _, _ => by rw [List.take_zero, List.append_nil, Nat.add_zero]
  | m + 1, a, acc, h, hn => by
    have hlt : a < L.length := by omega
    obtain ⟨c, e⟩ := getElem_drop_cons hlt
    have h0 := hn a (Nat.le_refl _) (by omega)
    have ih := spl_run S L m (a + 1) (acc ++ [c]) (by omega) (fun k h1 h2 => hn k (by omega) (by omega))
    have e2 : a + 1 + m = a + (m + 1) := by omega
    rw [e2] at ih
    rw [e] at h0
    rw [e, spl_miss h0, ih, List.take_succ_cons, List.append_assoc] <;> rfl
theorem par_run (S L : List Nat) : ∀ (m a : Nat) (acc : List Nat), a + m ≤ L.length → (∀ k, a ≤ k → k < a + m → pre S (L.drop k) = false) →
    par S acc (L.drop a) = par S (acc ++ (L.drop a).take m) (L.drop (a + m))
  | 0, a, acc, _, _ => by rw [List.take_zero, List.append_nil, Nat.add_zero]
  | m + 1, a, acc, h, hn => by
    have hlt : a < L.length := by omega
    obtain ⟨c, e⟩ := getElem_drop_cons hlt
    have h0 := hn a (Nat.le_refl _) (by omega)
    have ih := par_run S L m (a + 1) (acc ++ [c]) (by omega) (fun k h1 h2 => hn k (by omega) (by omega))
    have e2 : a + 1 + m = a + (m + 1) := by omega
    rw [e2] at ih
    rw [e] at h0
    rw [e, par_miss h0, ih, List.take_succ_cons, List.append_assoc] <;> rfl
theorem drop_two (L : List Nat) (a b : Nat) : (L.drop a).drop b = L.drop (a + b) := by
  first
    | rw [List.drop_drop]
    | rw [List.drop_drop, Nat.add_comm]
theorem spl_at {S L : List Nat} (hS : S ≠ []) {c : Nat} {acc : List Nat} (h : pre S (L.drop c) = true) : spl S 0 acc (L.drop c) = acc :: spl S 0 [] (L.drop (c + S.length)) := by
  rw [← drop_two]
  cases e : L.drop c with
  | nil => rw [e, pre_nil hS] at h; cases h
  | cons d r =>
    rw [e] at h
    rw [spl_hit h, spl_pass]
    cases S with
    | nil => exact absurd rfl hS
    | cons s S => rfl
theorem par_at {S L : List Nat} (hS : S ≠ []) {c : Nat} {acc : List Nat} (h : pre S (L.drop c) = true) : par S acc (L.drop c) = some (acc, L.drop (c + S.length)) := by
  rw [← drop_two]
  cases e : L.drop c with
  | nil => rw [e, pre_nil hS] at h; cases h
  | cons d r =>
    rw [e] at h
    rw [par_hit h]
/-! ### the model's split and partition are these -/
theorem at_iff {x y : Str} (hy : tl y ≠ []) (i : Nat) : At x y x.length i ↔ pre (tl y) ((tl x).drop i) = true := by
  have hx := len_tl x
  have hl := len_tl y
  constructor
  · intro h
    have h2 := h.2
    rw [subAt_eq, hl] at h2
    exact h2
  · intro h
    have e : ((tl x).drop i).take (tl y).length = tl y := eq_of_beq h
    have e1 := congrArg List.length e
    rw [List.length_take, List.length_drop] at e1
    have e2 : 0 < (tl y).length := List.length_pos_iff.mpr hy
    refine ⟨by omega, ?_⟩
    rw [subAt_eq, hl]
    exact h
theorem no_at {x y : Str} (hy : tl y ≠ []) {i : Nat} (h : ¬ At x y x.length i) : pre (tl y) ((tl x).drop i) = false := by
  cases hp : pre (tl y) ((tl x).drop i) with
  | false => rfl
  | true => exact absurd ((at_iff hy i).mpr hp) h
theorem len1 {y : Str} (hy : tl y ≠ []) : 1 ≤ y.length := by
  have e2 : 0 < (tl y).length := List.length_pos_iff.mpr hy
  rw [len_tl y]
  exact e2
theorem tl_strSub (x : Str) (i j : Nat) : tl (strSub x i j) = ((tl x).drop i).take (j - i) := strSub_toList x i j
theorem tl_strSub_end (x : Str) (i : Nat) : tl (strSub x i x.length) = (tl x).drop i := by
  rw [tl_strSub, len_tl x]
  exact List.take_of_length_le (by rw [List.length_drop] <;> omega)
theorem parts_spl {x y : Str} (hy : tl y ≠ []) : ∀ (cuts : List Nat) (a f : Nat), a ≤ (tl x).length → ChainG x y x.length a cuts f → (∀ k, f ≤ k → ¬ At x y x.length k) →
    (partsFrom x y.length a cuts).map tl = spl (tl y) 0 [] ((tl x).drop a)
  | [], a, f, ha, h, hn => by
    have e : f = a := h
    subst e
    show [tl (strSub x f x.length)] = _
    have run := spl_run (tl y) (tl x) ((tl x).length - f) f [] (by omega) (fun k h1 _ => no_at hy (hn k h1))
    have e2 : f + ((tl x).length - f) = (tl x).length := by omega
    rw [e2, List.drop_length, spl_nil, List.nil_append, List.take_of_length_le (by rw [List.length_drop] <;> omega)] at run
    rw [run, tl_strSub_end]
  | c :: r, a, f, ha, h, hn => by
    obtain ⟨h1, h2, h3, h4⟩ := h
    have hc : c + y.length ≤ x.length := h2.1
    have hx := len_tl x
    have hl := len_tl y
    have ih := parts_spl hy r (c + y.length) f (by omega) h4 hn
    show tl (strSub x a c) :: (partsFrom x y.length (c + y.length) r).map tl = _
    have run := spl_run (tl y) (tl x) (c - a) a [] (by omega) (fun k k1 k2 => no_at hy (h3 k k1 (by omega)))
    have e2 : a + (c - a) = c := by omega
    rw [e2, List.nil_append, spl_at hy ((at_iff hy c).mp h2)] at run
    rw [run, ih, tl_strSub, hl]
/-- hk: by kind_ok where the separator is plain -/
theorem split_spl (x y : Str) (hy : tl y ≠ []) (hk : ¬ Builtin.Str.strKind x < Builtin.Str.strKind y) : (Txt.split x y).map tl = spl (tl y) 0 [] (tl x) := by
  obtain ⟨f, g, hn⟩ := occ_tight x y (len1 hy)
  have key := parts_spl hy _ 0 f (Nat.zero_le _) g hn
  rw [List.drop_zero] at key
  have none_case : occurrences x y 0 x.length (x.length + 1) = [] → [x].map tl = spl (tl y) 0 [] (tl x) := fun ho => by
    rw [ho] at key
    rw [← key]
    show [tl x] = [tl (strSub x 0 x.length)]
    rw [sub_whole]
  unfold Txt.split
  by_cases h1 : (decide (x.length < y.length) || decide (Builtin.Str.strKind x < Builtin.Str.strKind y)) = true
  · rw [if_pos h1]
    have hlt : x.length < y.length := by
      simp only [Bool.or_eq_true, decide_eq_true_eq] at h1
      rcases h1 with h | h
      · exact h
      · exact absurd h hk
    refine none_case ?_
    cases ho : occurrences x y 0 x.length (x.length + 1) with
    | nil => rfl
    | cons c r =>
      rw [ho] at g
      have hc : c + y.length ≤ x.length := g.2.1.1
      omega
  · rw [if_neg h1]
    by_cases h2 : (occurrences x y 0 x.length (x.length + 1)).isEmpty = true
    · rw [if_pos h2]
      exact none_case (List.isEmpty_iff.mp h2)
    · rw [if_neg h2, partsBetween_eq]
      exact key
theorem kind_ok {x y : Str} (h : y.cps.all (· < 256) = true) : ¬ Builtin.Str.strKind x < Builtin.Str.strKind y := by
  have e : Builtin.Str.strKind y = 1 := by unfold PySem.Builtin.Str.strKind; rw [if_pos h]
  rw [e]
  unfold PySem.Builtin.Str.strKind
  split
  · omega
  · split <;> omega
theorem partition_par (x y : Str) (hy : tl y ≠ []) :
    Txt.partition x y = (match par (tl y) [] (tl x) with | some (a, b) => (⟨a.toArray⟩, y, ⟨b.toArray⟩) | none => (x, Str.empty, Str.empty)) := by
  have hx := len_tl x
  have hl := len_tl y
  rcases PyProof.Rows.partition_whole x y with ⟨e, hn⟩ | ⟨i, e, hi, hn⟩
  · have run := par_run (tl y) (tl x) (tl x).length 0 [] (by omega) (fun k _ _ => no_at hy (hn k))
    rw [List.drop_zero, Nat.zero_add, List.drop_length] at run
    rw [e, run] <;> rfl
  · have hb : i + y.length ≤ x.length := hi.1
    have run := par_run (tl y) (tl x) i 0 [] (by omega) (fun k _ k2 => no_at hy (hn k (by omega)))
    rw [List.drop_zero, Nat.zero_add, List.nil_append, par_at hy ((at_iff hy i).mp hi)] at run
    rw [e, run]
    have e1 : strSub x 0 i = ⟨((tl x).take i).toArray⟩ := ext_tl (by rw [tl_strSub, List.drop_zero, Nat.sub_zero])
    have e2 : strSub x (i + y.length) x.length = ⟨((tl x).drop (i + (tl y).length)).toArray⟩ := ext_tl (by rw [tl_strSub_end, hl])
    rw [e1, e2] <;> rfl
/-! ### computing spl and par -/
/-- a part that the separator does not begin in, then the separator -/
theorem spl_part {S p rest acc : List Nat} (hS : S ≠ []) (h : ∀ i, i < p.length → pre S ((p ++ (S ++ rest)).drop i) = false) :
    spl S 0 acc (p ++ (S ++ rest)) = (acc ++ p) :: spl S 0 [] rest := by
  have run := spl_run S (p ++ (S ++ rest)) p.length 0 acc (by rw [List.length_append]; omega) (fun k _ k2 => h k (by omega))
  have ed : (p ++ (S ++ rest)).drop p.length = S ++ rest := List.drop_left
  rw [List.drop_zero, Nat.zero_add, List.take_left] at run
  rw [run, spl_at hS (by rw [ed]; exact pre_self S rest), ← drop_two, ed, List.drop_left]
theorem spl_last {S p acc : List Nat} (h : ∀ i, i < p.length → pre S (p.drop i) = false) : spl S 0 acc p = [acc ++ p] := by
  have run := spl_run S p p.length 0 acc (by omega) (fun k _ k2 => h k (by omega))
  rw [List.drop_zero, Nat.zero_add, List.drop_length, spl_nil, List.take_length] at run
  exact run
theorem par_part {S p rest acc : List Nat} (hS : S ≠ []) (h : ∀ i, i < p.length → pre S ((p ++ (S ++ rest)).drop i) = false) :
    par S acc (p ++ (S ++ rest)) = some (acc ++ p, rest) := by
  have run := par_run S (p ++ (S ++ rest)) p.length 0 acc (by rw [List.length_append]; omega) (fun k _ k2 => h k (by omega))
  have ed : (p ++ (S ++ rest)).drop p.length = S ++ rest := List.drop_left
  rw [List.drop_zero, Nat.zero_add, List.take_left] at run
  rw [run, par_at hS (by rw [ed]; exact pre_self S rest), ← drop_two, ed, List.drop_left]
/-- the separator's first sign is not in the part -/
theorem free_of {s : Nat} {S p q : List Nat} (h : s ∉ p) : ∀ i, i < p.length → pre (s :: S) ((p ++ q).drop i) = false := fun i hi => by
  have hlt : i < (p ++ q).length := by rw [List.length_append]; omega
  have e : (p ++ q).drop i = (p ++ q)[i] :: (p ++ q).drop (i + 1) := List.drop_eq_getElem_cons hlt
  rw [e]
  refine pre_of_head _ _ fun z => h ?_
  have e1 : (p ++ q)[i] = p[i] := List.getElem_append_left hi
  rw [← z, e1]
  exact List.getElem_mem hi
theorem spl_part1 {s : Nat} {S p rest acc : List Nat} (h : s ∉ p) : spl (s :: S) 0 acc (p ++ (s :: S ++ rest)) = (acc ++ p) :: spl (s :: S) 0 [] rest :=
  spl_part (by simp) (free_of h)
theorem spl_last1 {s : Nat} {S p acc : List Nat} (h : s ∉ p) : spl (s :: S) 0 acc p = [acc ++ p] := spl_last fun i hi => by
  have z := free_of (S := S) (q := []) h i hi
  rw [List.append_nil] at z
  exact z
theorem par_part1 {s : Nat} {S p rest acc : List Nat} (h : s ∉ p) : par (s :: S) acc (p ++ (s :: S ++ rest)) = some (acc ++ p, rest) := par_part (by simp) (free_of h)
/-- joined lists -/
def joinL (S : List Nat) : List (List Nat) → List Nat
  | [] => []
  | [p] => p
  | p :: q :: r => p ++ (S ++ joinL S (q :: r))
theorem tl_join (y : Str) : ∀ parts : List Str, tl (Str.join y parts) = joinL (tl y) (parts.map tl)
  | [] => rfl
  | [_] => rfl
  | x :: z :: r => by
    show tl (x ++ y ++ Str.join y (z :: r)) = tl x ++ (tl y ++ joinL (tl y) ((z :: r).map tl))
    rw [tl_append, tl_append, tl_join y (z :: r), List.append_assoc]
theorem spl_join {s : Nat} {S : List Nat} : ∀ {parts : List (List Nat)}, parts ≠ [] → (∀ p ∈ parts, s ∉ p) → spl (s :: S) 0 [] (joinL (s :: S) parts) = parts
  | [], h, _ => absurd rfl h
  | [p], _, hp => by
    show spl (s :: S) 0 [] p = [p]
    rw [spl_last1 (hp p (List.mem_singleton.mpr rfl)), List.nil_append]
  | p :: q :: r, _, hp => by
    show spl (s :: S) 0 [] (p ++ (s :: S ++ joinL (s :: S) (q :: r))) = p :: q :: r
    rw [spl_part1 (hp p (List.mem_cons_self ..)), List.nil_append, spl_join (by simp) fun z hz => hp z (List.mem_cons_of_mem _ hz)]
theorem join_eq (y : Str) (parts : List Str) : Txt.join y parts = Str.join y parts := glued_eq_join y parts
/-- THE READ-BACK: a joined text, split -/
theorem split_join {y : Str} {s : Nat} {S : List Nat} (ey : tl y = s :: S) (hk : y.cps.all (· < 256) = true) {parts : List Str} (hne : parts ≠ []) (hp : ∀ p ∈ parts, s ∉ tl p) :
    Txt.split (Txt.join y parts) y = parts := by
  refine map_tl_inj ?_
  rw [split_spl _ y (by rw [ey]; simp) (kind_ok hk), join_eq, tl_join, ey]
  refine spl_join (fun e => hne (List.map_eq_nil_iff.mp e)) fun p h => ?_
  obtain ⟨z, hz, rfl⟩ := List.mem_map.mp h
  exact hp z hz
/-- a text cut at its first separator -/
theorem partition_app {y : Str} {s : Nat} {S : List Nat} (ey : tl y = s :: S) {a b : Str} (h : s ∉ tl a) : Txt.partition (a ++ y ++ b) y = (a, y, b) := by
  rw [partition_par _ y (by rw [ey]; simp), tl_append, tl_append, List.append_assoc, ey, par_part1 h]
  show ((⟨([] ++ tl a).toArray⟩ : Str), y, (⟨(tl b).toArray⟩ : Str)) = _
  rw [List.nil_append, mk_tl, mk_tl]
end TL
end 
namespace L2
open PySem PySem.Spec PyProof.Rows
/-- a list of texts, of numbered texts -/
theorem vals_strs : ∀ l : List (Str × Tok), Vals ((l.map (·.1)).map V.str) (strValues l)
  | [] => .nil
  | p :: r => .cons ⟨p.2, rfl⟩ (vals_strs r)
theorem strs_of_vals : ∀ {ys : List Str} {us : List Value}, Vals (ys.map V.str) us → StrsAre us ys
  | [], _, .nil => .nil
  | y :: ys, _, .cons r t => by
    obtain ⟨k, rfl⟩ := r
    exact .cons y k (strs_of_vals t)
/-- a new list of texts, tracked -/
def rNewStrs (ys : List Str) : Hp → VK → Prop := fun H Q => ∀ p, H p = none → Q (.ref p) (upd H p (.lst (ys.map V.str)))
section
variable {X : Cx} {pins : List (Addr × Obj)} {σ : St} {H : Hp} {s : Shared} {Q : VK}
theorem laid_strs {l : List (Str × Tok)} {ys : List Str} {k : Nat} (I : Inv X pins σ H s) (e : l.map (·.1) = ys) (hz : ys.length ≤ sizeLine) (h : rNewStrs ys H Q) :
    EP X pins σ Q (.ref s.heap.objs.size) { s with toks := k, heap := s.heap.push { cls := .type "list", data := .seq (strValues l).toArray } } := by
  have hp := I.hok.fresh (Nat.le_refl _)
  refine ⟨.ref s.heap.objs.size, upd H s.heap.objs.size (.lst (ys.map V.str)), I.laid (fun b u q => Heap.get?_push_of_some _ q) (Nat.le_refl _) ⟨by rw [List.length_map]; exact hz, strValues l, _, ?_, Heap.get?_push_size _ rfl⟩, rfl, h _ hp⟩
  rw [← e]
  exact vals_strs l
theorem laid_parts {x y z : Str} {t u v : Tok} {k : Nat} (I : Inv X pins σ H s) (h : ∀ p, H p = none → Q (.ref p) (upd H p (.tup [.str x, .str y, .str z]))) :
    EP X pins σ Q (.ref s.heap.objs.size) { s with toks := k, heap := s.heap.push { cls := .type "tuple", data := .seq [Value.str x t, .str y u, .str z v].toArray } } := by
  have hp := I.hok.fresh (Nat.le_refl _)
  exact ⟨.ref s.heap.objs.size, upd H s.heap.objs.size (.tup [.str x, .str y, .str z]), I.laid (fun b u q => Heap.get?_push_of_some _ q) (Nat.le_refl _)
    ⟨by show 3 ≤ sizeLine; decide, [Value.str x t, .str y u, .str z v], .cons ⟨t, rfl⟩ (.cons ⟨u, rfl⟩ (.cons ⟨v, rfl⟩ .nil)), _, Heap.get?_push_size _ rfl, rfl, _, rfl⟩, rfl, h _ hp⟩
end
section
variable {X : Cx}
/-- x.split(sep) -/
theorem mt_split : MtR X "str.split" (fun x xs H Q => ∃ a b, x = .str a ∧ xs = [.str b] ∧ (b.length == 0) = false ∧ a.length + 2 ≤ sizeLine ∧ rNewStrs (Txt.split a b) H Q) := by
  intro pins s σ H x xs v us Q I rx rs h
  obtain ⟨a, b, rfl, rfl, hb, hz, h⟩ := h
  obtain ⟨t, rfl⟩ := rx
  cases rs with
  | cons r1 rs =>
    cases rs
    obtain ⟨u, rfl⟩ := r1
    have hl : (Txt.split a b).length ≤ sizeLine := Nat.le_trans (PyProof.Rows.split_le a b) hz
    have hn : (Builtin.Str.partsBetween a (Builtin.Str.occurrences a b 0 a.length (a.length + 1)) b.length).length ≤ sizeLine := by
      have e1 := StrLaws.occ_length_le a b 0 a.length (a.length + 1)
      rw [length_partsBetween]; omega
    cases h1 : (decide (a.length < b.length) || decide (Builtin.Str.strKind a < Builtin.Str.strKind b))
    · cases hf : (Builtin.Str.occurrences a b 0 a.length (a.length + 1)).isEmpty
      · refine call_meets F.slot_str_split (typeIs_str _ _ _) F.entry_str_split (F.args_str_split_2 _ _) (meets_str_split_sep a b t u h1 hb hf (by omega) hn) ?_
        show EP X pins σ Q (.ref s.heap.objs.size) { s with toks := _, heap := s.heap.push { cls := .type "list", data := .seq (strsFrom s.toks (Builtin.Str.partsBetween a (Builtin.Str.occurrences a b 0 a.length (a.length + 1)) b.length)).toArray } }
        rw [strsFrom_eq]
        exact laid_strs (ys := Txt.split a b) I ((numbered_texts _ _).trans ((if_neg (ne_true_of_eq_false h1)).trans (if_neg (ne_true_of_eq_false hf))).symm) hl h
      · refine call_meets F.slot_str_split (typeIs_str _ _ _) F.entry_str_split (F.args_str_split_2 _ _) (meets_str_split_not_found a b t u h1 hb hf) ?_
        exact laid_strs (l := [(a, t)]) (ys := Txt.split a b) (k := s.toks) I ((if_neg (ne_true_of_eq_false h1)).trans (if_pos hf)).symm hl h
    · refine call_meets F.slot_str_split (typeIs_str _ _ _) F.entry_str_split (F.args_str_split_2 _ _) (meets_str_split_cannot_occur a b t u h1) ?_
      exact laid_strs (l := [(a, t)]) (ys := Txt.split a b) (k := s.toks) I (if_pos h1).symm hl h
/-- x.partition(sep) -/
theorem mt_partition : MtR X "str.partition" (fun x xs H Q => ∃ a b, x = .str a ∧ xs = [.str b] ∧ (b.length == 0) = false ∧ a.length ≤ sizeLine ∧
    ∀ p, H p = none → Q (.ref p) (upd H p (.tup [.str (Txt.partition a b).1, .str (Txt.partition a b).2.1, .str (Txt.partition a b).2.2]))) := by
  intro pins s σ H x xs v us Q I rx rs h
  obtain ⟨a, b, rfl, rfl, hb, hz, h⟩ := h
  obtain ⟨t, rfl⟩ := rx
  cases rs with
  | cons r1 rs =>
    cases rs
    obtain ⟨u, rfl⟩ := r1
    refine call_meets F.slot_str_partition (typeIs_str _ _ _) F.entry_str_partition (F.args_str_partition_2 _ _) (meets_str_partition a b t u hb hz) ?_
    unfold Txt.partition at h
    revert h
    cases Builtin.Str.occurrences a b 0 a.length 1 with
    | nil => intro h; exact laid_parts I h
    | cons i r => intro h; exact laid_parts I h
/-- sep.join(a list | a tuple of texts) -/
theorem mt_join : MtR X "str.join" (fun x xs H Q => ∃ a p, ∃ ys : List Str, x = .str a ∧ xs = [.ref p] ∧ (SqL X.K H p (ys.map V.str) ∨ SqT X.K H p (ys.map V.str)) ∧
    (ys.map (·.length)).sum + ys.length * a.length ≤ 16777216 ∧ Q (.str (Txt.join a ys)) H) := by
  intro pins s σ H x xs v us Q I rx rs h
  obtain ⟨a, p, ys, rfl, rfl, hp, hz, h⟩ := h
  obtain ⟨t, rfl⟩ := rx
  cases rs with
  | cons r1 rs =>
    cases rs
    cases r1
    rcases hp with hp | hp
    · obtain ⟨its, r, ⟨o, n, ho, hc, _, hd⟩, _⟩ := I.list hp
      exact PyProof.Rows.join_list (items := its.toArray) ⟨o, ho, hc, n, hd⟩ (by rw [List.toList_toArray]; exact strs_of_vals r) hz fun t' k => ⟨.str _, H, I.tok k, ⟨t', rfl⟩, h⟩
    · obtain ⟨its, r, ht, _⟩ := I.tuple hp
      exact PyProof.Rows.join_tuple (items := its.toArray) ht (by rw [List.toList_toArray]; exact strs_of_vals r) hz fun t' k => ⟨.str _, H, I.tok k, ⟨t', rfl⟩, h⟩
/-! ### of a text and a text -/
theorem mt1 {id : String} {g : Str → Str → V} (rule : ∀ (a b : Str) (t u : Tok) (s : Shared) (Q : Value → Shared → Prop), (∀ (v : Value) (k : Nat), RelV (g a b) v → Q v { s with toks := k }) →
    wpAny (model X.prog X.w) X.A (call (.builtin id) [.str a t, .str b u]) Q X.xe s) : MtR X id (fun x xs H Q => ∃ a b, x = .str a ∧ xs = [.str b] ∧ Q (g a b) H) := by
  intro pins s σ H x xs v us Q I rx rs h
  obtain ⟨a, b, rfl, rfl, h⟩ := h
  obtain ⟨t, rfl⟩ := rx
  cases rs with
  | cons r1 rs =>
    cases rs
    obtain ⟨u, rfl⟩ := r1
    exact rule a b t u s _ fun v k r => ⟨g a b, H, I.tok k, r, h⟩
theorem mt_startswith : MtR X "str.startswith" (fun x xs H Q => ∃ a b, x = .str a ∧ xs = [.str b] ∧ Q (.bl (Txt.startswith a b)) H) :=
  mt1 (g := fun a b => .bl (Txt.startswith a b)) fun _ _ _ _ s _ h => PySem.SC.startswith (h _ s.toks rfl)
end
section
variable {X : Cx} {o e : Expr} {to te : TE}
def tM1 (r : V → List V → Hp → VK → Prop) (to te : TE) : TE := fun σ H Q => to σ H fun x H1 => (∃ a, x = .str a) ∧ te σ H1 fun y H2 => r x [y] H2 Q
theorem pe_m1 {id : String} {name : Str} {apos pos : Pos} {r : V → List V → Hp → VK → Prop} (slot : Slot "str" name id) (ty : typeOf (.builtin id) = pure (.type "method_descriptor")) (rule : MtR X id r) (ho : PE X o to) (he : PE X e te)
    (hs : starEach [e] X.env = [(false, eval e X.env)] := by rfl) (hbase : attributeBase o name X.env (eval o X.env) = eval o X.env := by rfl) (hline : (apos.endLine == pos.line) = true := by rfl) :
    PE X (.Call (.Attribute o name apos) [e] [] pos) (tM1 r to te) := by
  intro pins s σ H Q I h
  refine PySem.Call_method1 hbase hs hline (thn (ho pins s σ H _ I h) fun v s1 ⟨x, H1, I1, r1, q1⟩ => ?_)
  obtain ⟨⟨a, rfl⟩, q1⟩ := q1
  obtain ⟨t, rfl⟩ := _root_.id r1
  refine ⟨"str", _, F.plainAttrs_str, slot, ty, typeIs_str _ _ _, (fun _ e => nomatch e), Calls.callWith_builtin rfl (Calls.evalArgs_plain (Calls.spliced_cons ?_))⟩
  exact thn (he pins s1 σ H1 _ I1 q1) fun u s2 ⟨y, H2, I2, r2, q2⟩ => Calls.spliced_nil (rule pins s2 σ H2 _ [y] _ [u] Q I2 r1 (.cons r2 .nil) q2)
theorem pe_split {apos pos : Pos} (ho : PE X o to) (he : PE X e te) (hs : starEach [e] X.env = [(false, eval e X.env)] := by rfl) (hbase : attributeBase o "split" X.env (eval o X.env) = eval o X.env := by rfl) (hline : (apos.endLine == pos.line) = true := by rfl) :
    PE X (.Call (.Attribute o "split" apos) [e] [] pos) (tM1 (fun x xs H Q => ∃ a b, x = .str a ∧ xs = [.str b] ∧ (b.length == 0) = false ∧ a.length + 2 ≤ sizeLine ∧ rNewStrs (Txt.split a b) H Q) to te) :=
  pe_m1 F.slot_str_split F.type_str_split mt_split ho he hs hbase hline
theorem pe_partition {apos pos : Pos} (ho : PE X o to) (he : PE X e te) (hs : starEach [e] X.env = [(false, eval e X.env)] := by rfl) (hbase : attributeBase o "partition" X.env (eval o X.env) = eval o X.env := by rfl) (hline : (apos.endLine == pos.line) = true := by rfl) :
    PE X (.Call (.Attribute o "partition" apos) [e] [] pos) (tM1 (fun x xs H Q => ∃ a b, x = .str a ∧ xs = [.str b] ∧ (b.length == 0) = false ∧ a.length ≤ sizeLine ∧
      ∀ p, H p = none → Q (.ref p) (upd H p (.tup [.str (Txt.partition a b).1, .str (Txt.partition a b).2.1, .str (Txt.partition a b).2.2]))) to te) :=
  pe_m1 F.slot_str_partition F.type_str_partition mt_partition ho he hs hbase hline
theorem pe_join {apos pos : Pos} (ho : PE X o to) (he : PE X e te) (hs : starEach [e] X.env = [(false, eval e X.env)] := by rfl) (hbase : attributeBase o "join" X.env (eval o X.env) = eval o X.env := by rfl) (hline : (apos.endLine == pos.line) = true := by rfl) :
    PE X (.Call (.Attribute o "join" apos) [e] [] pos) (tM1 (fun x xs H Q => ∃ a p, ∃ ys : List Str, x = .str a ∧ xs = [.ref p] ∧ (SqL X.K H p (ys.map V.str) ∨ SqT X.K H p (ys.map V.str)) ∧
      (ys.map (·.length)).sum + ys.length * a.length ≤ 16777216 ∧ Q (.str (Txt.join a ys)) H) to te) :=
  pe_m1 F.slot_str_join F.type_str_join mt_join ho he hs hbase hline
end
end L2
namespace L2
open PySem PySem.Spec PyProof.Rows
section
variable {X : Cx}
theorem op_le_str : OpR X (compareOp .LtE) (fun x y H Q => ∃ i j, x = .str i ∧ y = .str j ∧ Q (.bl (!decide (j.cps.toList < i.cps.toList))) H) := by
  intro pins s σ H x y v u Q I rx ry h
  obtain ⟨i, j, rfl, rfl, q⟩ := h
  obtain ⟨t, rfl⟩ := rx
  obtain ⟨t', rfl⟩ := ry
  exact PySem.P.le_str (fin_bl I q rfl)
end
/-! ### slices of a text -/
theorem IsPart.raw {v : Value} {o : Option Int} (p : IsPart v o) : ∃ l : Option (Int × Tok), v = partValue l ∧ l.map (·.1) = o := by
  cases p with
  | none => exact ⟨none, rfl, rfl⟩
  | int i t => exact ⟨some (i, t), rfl, rfl⟩
/-- a part, clipped, as the text's slice reckons it -/
def clipS (n d : Nat) : Option Int → Int
  | none => (d : Int)
  | some i => max 0 (min (if i < 0 then i + (n : Int) else i) (n : Int))
theorem clipS_eq (n d : Nat) (o : Option Int) : clipS n d o = ((HT.sIx n d o : Nat) : Int) := by
  cases o with
  | none => rfl
  | some v =>
    show max (0 : Int) (min (if v < 0 then v + (n : Int) else v) (n : Int)) = (((if v < 0 then (v + (n : Int)).toNat else min v.toNat n) : Nat) : Int)
    by_cases hv : v < 0
    · simp only [if_pos hv]
      omega
    · simp only [if_neg hv]
      omega
theorem sidx_clip (a b : Option Int) (n : Nat) : Builtin.Str.strSliceIndices a b 1 n = sliceRange (clipS n 0 a) (clipS n n b) 1 := by
  have h1 : ((1 : Int) > 0) = True := by simp
  cases a <;> cases b <;> first
    | rfl
    | (simp only [Builtin.Str.strSliceIndices, clipS, h1, if_true]; rfl)
    | simp [Builtin.Str.strSliceIndices, clipS]
theorem sidx (a b : Option Int) (n : Nat) : Builtin.Str.strSliceIndices a b 1 n = (List.range (HT.sIx n n b - HT.sIx n 0 a)).map (fun k => HT.sIx n 0 a + k) := by
  rw [sidx_clip, clipS_eq, clipS_eq]
  generalize HT.sIx n 0 a = p
  generalize HT.sIx n n b = q
  simp only [sliceRange, show ((1 : Int) > 0) = True from by simp, if_true]
  by_cases hlt : (p : Int) < q
  · have e3 : (((q : Int) - p + 1 - 1) / 1).toNat = q - p := by first | omega | (simp; done) | (simp; omega)
    simp only [hlt, if_true, e3]
    refine List.map_congr_left fun k _ => ?_
    omega
  · have : q - p = 0 := by omega
    simp [hlt, this]
/-- z[lo:hi] -/
def cutS (z : Str) (lo hi : Option Int) : Str :=
  ⟨((z.cps.toList.drop (HT.sIx z.length 0 lo)).take (HT.sIx z.length z.length hi - HT.sIx z.length 0 lo)).toArray⟩
theorem sliceText_cut (z : Str) (lo hi : Option Int) : PySem.StrLaws.sliceText z lo hi = cutS z lo hi := by
  have h1 : HT.sIx z.length 0 lo ≤ z.length := HT.sIx_le _ _ (Nat.zero_le _) _
  have h2 : HT.sIx z.length z.length hi ≤ z.length := HT.sIx_le _ _ (Nat.le_refl _) _
  have hp : HT.sIx z.length 0 lo ≤ max (HT.sIx z.length 0 lo) (HT.sIx z.length z.length hi) := Nat.le_max_left _ _
  have hq : max (HT.sIx z.length 0 lo) (HT.sIx z.length z.length hi) ≤ z.length := Nat.max_le.mpr ⟨h1, h2⟩
  have hd : max (HT.sIx z.length 0 lo) (HT.sIx z.length z.length hi) - HT.sIx z.length 0 lo = HT.sIx z.length z.length hi - HT.sIx z.length 0 lo := by omega
  have e : Builtin.Str.strSliceIndices lo hi 1 z.length =
      Builtin.Str.strSliceIndices (some ((HT.sIx z.length 0 lo : Nat) : Int)) (some ((max (HT.sIx z.length 0 lo) (HT.sIx z.length z.length hi) : Nat) : Int)) 1 z.length := by
    rw [PySem.StrLaws.strSliceIndices_plain hp hq, hd, sidx]
  have e2 : PySem.StrLaws.sliceText z lo hi =
      PySem.StrLaws.sliceText z (some ((HT.sIx z.length 0 lo : Nat) : Int)) (some ((max (HT.sIx z.length 0 lo) (HT.sIx z.length z.length hi) : Nat) : Int)) := by
    unfold PySem.StrLaws.sliceText
    rw [e]
  rw [e2, PySem.StrLaws.sliceText_nat z hp hq, hd]
  rfl
theorem cutS_length (z : Str) (lo hi : Option Int) : (cutS z lo hi).length ≤ z.length := by
  show (((z.cps.toList.drop (HT.sIx z.length 0 lo)).take (HT.sIx z.length z.length hi - HT.sIx z.length 0 lo)).toArray).size ≤ z.cps.size
  rw [List.size_toArray, List.length_take, List.length_drop, Array.length_toList]
  omega
def rSlS : V → Option Int → Option Int → Hp → VK → Prop := fun x lo hi H Q => ∃ z, x = .str z ∧ z.length ≤ sizeLine ∧ Q (.str (cutS z lo hi)) H
theorem sl_str {X : Cx} : SlR X rSlS := by
  intro pins s σ H x v vl vu lo hi sl Q I rx hs pl pu h
  obtain ⟨z, rfl, hz, q⟩ := h
  obtain ⟨t, rfl⟩ := rx
  obtain ⟨os, hos, hcs, hds⟩ := hs
  obtain ⟨l, rfl, rfl⟩ := IsPart.raw pl
  obtain ⟨u, rfl, rfl⟩ := IsPart.raw pu
  refine ⟨"str", _, F.slot_str_getitem.lookup, typeIs_str _ _ _, ?_⟩
  refine wpAny_getItem_str_slice (l := l) (u := u) (st := none) ⟨os, hos, hcs, hds⟩ rfl ?_
  have hl : (PySem.StrLaws.sliceText z (l.map (·.1)) (u.map (·.1))).length ≤ sizeLine := by
    rw [sliceText_cut]
    exact Nat.le_trans (cutS_length z _ _) hz
  rw [← sliceText_cut] at q
  unfold PySem.StrLaws.sliceText at q hl
  show Made.post (if ((1 : Int) == 1 && (Builtin.Str.strSliceIndices (l.map (·.1)) (u.map (·.1)) 1 z.length).length == z.length) = true then Made.val (.str z t)
    else Made.str ⟨((Builtin.Str.strSliceIndices (l.map (·.1)) (u.map (·.1)) 1 z.length).filterMap (z.cps[·]?)).toArray⟩) (EP X pins σ Q) s
  by_cases c : ((1 : Int) == 1 && (Builtin.Str.strSliceIndices (l.map (·.1)) (u.map (·.1)) 1 z.length).length == z.length) = true
  · rw [if_pos c] at q ⊢
    exact ⟨.str z, H, I, ⟨t, rfl⟩, q⟩
  · rw [if_neg c] at q hl ⊢
    exact ⟨hl, .str _, H, I.tok _, ⟨_, rfl⟩, q⟩
end L2
namespace Att
open PySem PySem.W PySem.Calls PyProof.Rows
/-! ### the script -/
theorem ints_of_wellAll {P : Params} {h : Heap} : ∀ (ns : List Int) (vs : List Value), WellAll P h vs (ns.map WData.int) → IntsAre vs ns := by
  intro ns
  induction ns with
  | nil =>
    intro vs w
    rw [List.map_nil] at w
    cases w
    exact .nil
  | cons n ns ih =>
    intro vs w
    rw [List.map_cons] at w
    cases w with
    | cons a b =>
      cases a
      exact .cons _ _ (ih _ b)
theorem script_of {l : OpenLaw} {n : Nat} (hn : l.most = some n) {P : Params} {h : Heap} {args : List WData} {vals : List Value}
    (hpre : l.row.toRowW.claim.pre args = true) (hwl : WellAll P h vals args) :
    ∃ a vs ns, vals = [Value.ref a] ∧ args = [WData.list (ns.map WData.int)] ∧ h.get? a = some { cls := .type "list", data := .seq vs.toArray } ∧ IntsAre vs ns ∧ ns.length ≤ n := by
  have hsh : WShape.hasAll [] args [.list .int] = true := (pre_splitW hpre).1
  have hc : l.pre.holds [] { args := args } = true := (pre_splitW hpre).2
  obtain ⟨d, r, rfl, h1, h2⟩ := hasAllW_cons hsh
  obtain rfl := hasAllW_nil h2
  obtain ⟨xs, rfl, h3⟩ := hasW_list h1
  obtain ⟨ns, rfl⟩ := items_int h3
  have hlen : ns.length ≤ n := by
    unfold OpenLaw.pre at hc
    have h4 : (WTm.not (.lt (.lit (.int (n : Int))) (.len (.arg 0)))).holds [] { args := [.list (ns.map .int)] } = true := by
      have h4 := (holds_andW hc).1
      rw [hn] at h4
      exact h4
    have h5 := condW_of h4 (w_not (w_lt w_lit (w_len_list (w_arg rfl))))
    rw [List.length_map] at h5
    refine Nat.le_of_not_lt fun q => ?_
    have q' : (n : Int) < ((ns.length : Nat) : Int) := by omega
    first
      | (rw [decide_eq_true q'] at h5; exact absurd h5 (by decide))
      | (simp at h5; omega)
  cases hwl with
  | cons w1 w2 =>
    cases w2
    cases w1 with
    | list ho hall => exact ⟨_, _, ns, rfl, rfl, ho, ints_of_wellAll ns _ hall, hlen⟩
theorem post_true (l : OpenLaw) (args : List WData) : l.row.toRowW.claim.post args (.bool true) args = true :=
  postW_of (r := l.row.toRowW) (X := (true == true))
    (show WShape.has [] (.bool true) .bool = true by first | rfl | decide | simp [WShape.has, WShape.arms, WShape.armsAll])
    (show (WTm.eq .res (.lit (.bool true))).value [] { args := args, res := some (.bool true), after := args } = some (.bool (true == true)) from w_eq_bool (w_res rfl) w_lit) rfl
/-- the same from a codeAny of the CALL (for a layer whose function contracts speak of calls) -/
theorem attach_call {l : OpenLaw} {n : Nat} {q : Program} {loose : List Str} {XP : (Str → Option Value) → Heap → Prop} {YP : World → Heap → Prop} {d : DefRec}
    (hn : l.most = some n) (hdf : d.params.defaults = [])
    (call : ∀ (w : World) (s₀ s₁ : Shared) (mg mb : Str → Option Value) (fa : Addr) (o : Obj) (pm cd doc : Value) (a : Addr) (vs : List Value) (ns : List Int),
      Ground q loose [] XP w s₀ mg mb s₁.heap → YP w s₁.heap →
      s₁.heap.get? fa = some o → o.data = .func (docDef d.name d.params d.body d.scope pm cd doc) → s₁.heap.CodeRec cd d.name → mg d.name = some (.ref fa) →
      s₁.heap.get? a = some { cls := .type "list", data := .seq vs.toArray } → IntsAre vs ns → ns.length ≤ n → s₁.gens = #[] →
      codeAny (model l.prog w) callerA (.call (.ref fa) ⟨[.ref a], []⟩) (fun r s' => r = .ok (.ret (.bool true)) ∧ OldK s₁.heap s'.heap ∧ s'.os = s₁.os ∧ AllBare s'.gens) s₁) :
    WalkO q loose XP YP l.row.toRowW d [] (fun f vs => PySem.call f vs) := by
  intro w s₀ s₁ mg mb G Y fa o pm cd doc dV kV ho hd hcd hD hmg hg args vals as hpre hlay hrd hwl hlo
  obtain rfl : dV = .none := Dflts.none hD hdf
  obtain rfl : kV = .none := Dflts.noKw hD
  obtain ⟨a, vs, ns, rfl, rfl, hobj, hints, hlen⟩ := script_of hn hpre hwl
  refine enter_call (codeAny_mono (call w s₀ s₁ mg mb fa o pm cd doc a vs ns G Y ho (fd_plain hd) hcd hmg hobj hints hlen hg) fun r s' hq => ?_)
  obtain ⟨rfl, h2, h3, h4⟩ := hq
  exact ⟨.inl ⟨.bool true, .bool true, [], rfl, fun _ => rfl, .bool true, post_true l _, fun _ => ⟨List.Pairwise.nil, fun _ hm => (nomatch hm)⟩⟩, h2, h3, h4⟩
/-! ### rules over ANY heap (no ledger) from facts about the written part K: the library's own take a ledger (News) for what they write -/
section
variable {prog : Program} {w : World} {A : Around} {E : Value → Shared → Prop} {s : Shared} {K : Frag}
/-- a def of the module, or a method (qual 'C.m'), entered: the frame is the next address; cells behind it -/
theorem call_fn {R : Result → Shared → Prop} {name qual : Str} {params : Arguments} {body : List Stmt} {scope : Scope} {dV kV doc pm cdv ct oc : Value} {an od : Option Addr} {osl : Array (Option Value)} {f : Addr} {args : Args} {binds : List (Str × Value)}
    (X : K.In s.heap) (hlim : s.heap.NoLimit) (ho : K.lookup f = some ⟨oc, od, .func (fnOf name qual params body scope dV kV doc pm an cdv ct), osl⟩) (hcd : codeIn K cdv qual = true) (hroom : A.depth < recursionLimit)
    (hbind : BindsTo s (fnOf name qual params body scope dV kV doc pm an cdv ct) args binds)
    (hkind : (binds.all fun y => scope.names.lookup y.1 == some .local || scope.names.lookup y.1 == some .cell) = true)
    (h : ∀ s₁, InCallC s s.heap.objs.size (bindL (envOfC qual scope s.heap.objs.size f cdv).kindOf binds fun _ => none) (cellsFrom (s.heap.objs.size + 1) scope.names [])
        (bindC (envOfC qual scope s.heap.objs.size f cdv).kindOf binds fun _ => none) s₁ →
      wpAny (model prog w) (A.deeper (envOfC qual scope s.heap.objs.size f cdv)) (execs body (envOfC qual scope s.heap.objs.size f cdv))
        (fun fl s' => R (.ok (.ret (match fl with | .ret v => v | _ => .none))) s')
        (fun e s' => wpAny (model prog w) (A.deeper (envOfC qual scope s.heap.objs.size f cdv)) (leaving (envOfC qual scope s.heap.objs.size f cdv) e) (fun _ s'' => R (.error e) s'') (fun e' s'' => R (.error e') s'') s') s₁)
    (hco : scope.isCoroutine = false) (hgen : scope.isGenerator = false) (hk : scope.kind = .function) : codeAny (model prog w) A (.call (.ref f) args) R s := by
  refine codeAny_call_function hroom (X _ _ ho) rfl hco hgen rfl (codeRec_of X hcd) (hbind _ _ _ _ ?_)
  refine wpAny_newFunctionEnv_cells hk (kindsX hkind _) fun env he s₁ x => ?_
  subst he
  exact ⟨hlim.keeps x.toInCall.keep, codeAny_func (h s₁ x)⟩
end
end Att
namespace L2
open PySem PySem.Spec PyProof.Rows
theorem vals_ints : ∀ {vs : List Value} {ns : List Int}, IntsAre vs ns → Vals (ns.map V.int) vs
  | _, _, .nil => .nil
  | _, _, .cons n t h => .cons ⟨t, rfl⟩ (vals_ints h)
end L2
/- THE LAST THEOREM (shape; LID, My.* are yours):
   My.Adr: a structure of the addresses that your layer names (classes, functions); My.Txt K t: a structure (Prop) of the equations over K;
   My.txt_mk : {K} {implicit addresses ..} (e1 : nsIn K mainGlobals "law" = some (some (.ref f))) (e2 : K.lookup f = some ⟨oc, od, .func (fnOf "law" "law" params body scope dV kV doc pm an cdv ct), sl⟩) (e3 : codeIn K cdv "law" = true) .. : ∃ t, My.Txt K t
set_option maxRecDepth 100000 in
set_option maxHeartbeats 0 in
theorem PySem.Challenge.cw_LID_holds : PySem.Challenge.rw_LID.Holds := by
  w_on; o_law; k_head; (case hw => w_witness2)
  k_fill
  refine L2.walk_of (l := PySem.Challenge.rw_LID) (n := 63) (k := 40) (x := "script") (CX := fun w => ..) (sp := fun _ => My.sp_law) rfl (by decide) rfl ⟨rfl, by decide, by decide⟩ (fun w h Y => PySem.W.kIn_of Y) ?F ?S ?C
  case F =>
    intro w mg fa h KX G hmg
    have T : ∃ t, My.Txt (L2.KOf KX) t := by
      dsimp only [L2.KOf]                          -- K must stand as «<heap const> w.params» for k_is
      refine' My.txt_mk ?e1 ?e2 ?e3 ..
      (case e1 => PySem.W.k_is)                    -- in the order: a name -> its address -> its object -> its parts
      (case e2 => PySem.W.k_is)
      ..
    obtain ⟨t, T⟩ := T
    have e0 := hmg.symm.trans (PySem.W.mg_of KX G T.law)
    cases e0                                       -- fa is the law's own address
    exact ⟨_, fun s u => .of_eq rfl, fun base kb nb => My.law_fn T kb nb⟩     -- if «.of_eq rfl» comes too early: refine' ⟨_, ?b, fun base kb nb => My.law_fn T kb nb⟩; exact fun s u => .of_eq rfl
  case S => exact fun w H a ns hl hO hS => ..
  case C => exact ..
(the tactic k_is has no namespace: write k_is) -/
/-! SHORT WORDS over the layer: a def of the text, its body, what a loop and a test want. -/
namespace L2
open PySem PySem.Spec PyProof.Rows
def defArgs (s : Stmt) : Arguments := match s with
  | .FunctionDef _ a _ _ _ _ _ _ _ _ => a
  | _ => { posonlyargs := [], args := [], vararg := none, kwonlyargs := [], kw_defaults := [], kwarg := none, defaults := [] }
def defBody (s : Stmt) : List Stmt := match s with
  | .FunctionDef _ _ b _ _ _ _ _ _ _ => b
  | _ => []
def defScope (s : Stmt) : Scope := match s with
  | .FunctionDef _ _ _ _ _ _ sc _ _ _ => sc
  | _ => { kind := .function, names := [], isGenerator := false, isCoroutine := false }
/-! ### no exception leaves a def -/
abbrev CX0 : CXT := fun _ _ _ _ _ _ => False
abbrev E0 : XK := fun _ _ _ => False
theorem pass0 {X : Cx} : Passes CX0 X E0 := fun _ _ _ _ _ _ _ h => h.elim
/-! ### a def (or method) of the text as it stands behind the top -/
structure Fun (K : PySem.W.Frag) (x qual : Str) (st : Stmt) (f : Addr) (fd : FuncData) : Prop where
  ex : ∃ (oc : Value) (od : Option Addr) (kV doc pm : Value) (an : Option Addr) (cdv ct : Value) (osl : Array (Option Value)),
    fd = PySem.W.fnOf x qual (defArgs st) (defBody st) (defScope st) .none kV doc pm an cdv ct ∧ K.lookup f = some ⟨oc, od, .func fd, osl⟩ ∧ PySem.W.codeIn K cdv qual = true
  kp : PySem.W.keepIn K (.ref f) = true
section
variable {P : Program} {w : World} {K : PySem.W.Frag} {mg : Str → Option Value} {base : Heap}
/-- THE RULE for a def: its body as a term of rules, and the reading of that term -/
theorem Fun.ok {x qual : Str} {st : Stmt} {f : Addr} {fd : FuncData} {N ps : List Str} {k : Nat} {sp : Sp} (F : Fun K x qual st f fd) (S : FnScope N ps (defScope st)) (len : ∀ vs H Q E, sp vs H Q E → vs.length = ps.length)
    (hbody : ∀ (cdv : Value) (A : Around) (outer : List Env) (s : Shared) (H : Hp) (vs : List V) (Q : VK) (E : XK), Room k (A.deeper (envOfC qual (defScope st) s.heap.objs.size f cdv)) → sp vs H Q E →
      ∃ t, PSs (cxOf CX0 P w K mg base N qual (defScope st) f cdv A outer s H E).nox (defBody st) t ∧ t { nx := fun _ H' => Q .non H', rt := Q } (start N vs) H) : FnOk P w K mg base CX0 (k + 1) f fd ps sp := by
  obtain ⟨oc, od, kV, doc, pm, an, cdv, ct, osl, rfl, lk, hcd⟩ := F.ex
  refine fn_of lk hcd S len fun A outer s H vs Q E hr hsp => ?_
  obtain ⟨t, h, q⟩ := hbody cdv A outer s H vs Q E hr hsp
  exact ⟨t, h.nox, q⟩
/-- how its arguments bind (no defaults): h is «fun _ _ _ _ _ _ us hl => match us, hl with | [_, _], _ => rfl», one _ a parameter -/
theorem Fun.binds {x qual : Str} {st : Stmt} {f : Addr} {fd : FuncData} {ps : List Str} (F : Fun K x qual st f fd)
    (h : ∀ (kV doc pm : Value) (an : Option Addr) (cdv ct : Value) (us : List Value), us.length = ps.length → bindArgs (PySem.W.fnOf x qual (defArgs st) (defBody st) (defScope st) .none kV doc pm an cdv ct) ⟨us, []⟩ = pure (ps.zip us)) : Binds K fd ps [] := by
  obtain ⟨oc, od, kV, doc, pm, an, cdv, ct, osl, rfl, lk, hcd⟩ := F.ex
  exact .all (h kV doc pm an cdv ct)
theorem fun_mk {x qual : Str} {st : Stmt} {f : Addr} {oc : Value} {od an : Option Addr} {osl : Array (Option Value)} {kV doc pm cdv ct : Value} (l : K.lookup f = some ⟨oc, od, .func (PySem.W.fnOf x qual (defArgs st) (defBody st) (defScope st) .none kV doc pm an cdv ct), osl⟩)
    (c : PySem.W.codeIn K cdv qual = true) (k : PySem.W.keepIn K (.ref f) = true) : Fun K x qual st f (PySem.W.fnOf x qual (defArgs st) (defBody st) (defScope st) .none kV doc pm an cdv ct) := ⟨⟨oc, od, kV, doc, pm, an, cdv, ct, osl, rfl, l, c⟩, k⟩
end
/-! ### expressions in short: the name that stands in the i-th slot -/
section
variable {X : Cx}
theorem pv (i : Nat) {x : Str} {pos : Pos} (hN : X.N[i]? = some x := by rfl) (hv : Vis X.env.scope x := by first | exact Or.inl rfl | exact Or.inr (Or.inl rfl) | exact Or.inr (Or.inr rfl)) (hd : (x == ("__debug__" : Str)) = false := by decide)
    (hcd : (x == ("__classdict__" : Str)) = false := by decide) : PE X (.Name x pos) (tVar i) := pe_var hN hv hd hcd
end
/-! ### tests -/
theorem iteF {A B : Prop} (h : B) : if false = true then A else B := by
  rw [if_neg Bool.false_ne_true]
  exact h
theorem iteT {A B : Prop} (h : A) : if true = true then A else B := by
  rw [if_pos rfl]
  exact h
theorem ite2 {c A B : Prop} [Decidable c] (h1 : c → A) (h2 : ¬ c → B) : if c then A else B := by
  by_cases h : c
  · rw [if_pos h]
    exact h1 h
  · rw [if_neg h]
    exact h2 h
/-! ### heaps -/
/-- all that was tracked is as it was -/
def Same (H H' : Hp) : Prop := ∀ b o, H b = some o → H' b = some o
theorem Same.refl (H : Hp) : Same H H := fun _ _ h => h
theorem Same.trans {H H1 H2 : Hp} (a : Same H H1) (b : Same H1 H2) : Same H H2 := fun c o h => b c o (a c o h)
theorem Same.free {H H' : Hp} (e : Same H H') {l : Addr} (h : H' l = Option.none) : H l = Option.none := by
  cases q : H l with
  | none => rfl
  | some o =>
    rw [e l o q] at h
    cases h
theorem Same.seq {K : PySem.W.Frag} {H H' : Hp} {a : Addr} {xs : List V} (e : Same H H') (h : SqL K H a xs) : SqL K H' a xs := by
  rcases h with (h | ⟨o, h⟩) | h
  · exact .inl (.inl (e _ _ h))
  · exact .inl (.inr ⟨o, e _ _ h⟩)
  · exact .inr h
/-! ### a dict's pairs: keys that differ -/
section
variable {κ : Type} [DecidableEq κ]
theorem valV_not {kvs : List (κ × V)} {k : κ} (h : valV kvs k = none) : ¬ k ∈ kvs.map (·.1) := by
  intro m
  obtain ⟨p, hp, e⟩ := List.mem_map.mp m
  have q : (kvs.any fun kv => decide (kv.1 = k)) = true := List.any_eq_true.mpr ⟨p, hp, decide_eq_true e⟩
  rw [valV_any, h] at q
  exact absurd q (by simp)
theorem nd_snoc : ∀ {l : List κ} {k : κ}, l.Nodup → ¬ k ∈ l → (l ++ [k]).Nodup
  | [], k, _, _ => by simp
  | a :: r, k, h, hk => by
    obtain ⟨h1, h2⟩ := List.nodup_cons.mp h
    show (a :: (r ++ [k])).Nodup
    refine List.nodup_cons.mpr ⟨fun m => ?_, nd_snoc h2 fun m => hk (List.mem_cons.mpr (Or.inr m))⟩
    rcases List.mem_append.mp m with q | q
    · exact h1 q
    · exact hk (List.mem_cons.mpr (Or.inl (List.mem_singleton.mp q).symm))
theorem nd_putK {kvs : List (κ × V)} {k : κ} (v : V) (hn : (kvs.map (·.1)).Nodup) (h : valV kvs k = none) : ((putK kvs k v).map (·.1)).Nodup := by
  rw [putK_new v h, List.map_append]
  exact nd_snoc hn (valV_not h)
theorem dropK_pos {p : κ × V} {r : List (κ × V)} {k : κ} (e : p.1 = k) : dropK (p :: r) k = dropK r k := by
  unfold dropK
  rw [List.filter_cons, if_neg (by simp [e])]
theorem dropK_neg {p : κ × V} {r : List (κ × V)} {k : κ} (e : ¬ p.1 = k) : dropK (p :: r) k = p :: dropK r k := by
  unfold dropK
  rw [List.filter_cons, if_pos (by simp [e])]
theorem dropK_mem {kvs : List (κ × V)} {k : κ} {p : κ × V} (h : p ∈ dropK kvs k) : p ∈ kvs := (List.mem_filter.mp h).1
theorem nd_dropK : ∀ {kvs : List (κ × V)} {k : κ}, (kvs.map (·.1)).Nodup → ((dropK kvs k).map (·.1)).Nodup
  | [], _, _ => List.nodup_nil
  | p :: r, k, h => by
    have h : (p.1 :: r.map (·.1)).Nodup := h
    obtain ⟨h1, h2⟩ := List.nodup_cons.mp h
    by_cases e : p.1 = k
    · rw [dropK_pos e]
      exact nd_dropK h2
    · rw [dropK_neg e]
      show (p.1 :: (dropK r k).map (·.1)).Nodup
      refine List.nodup_cons.mpr ⟨fun m => h1 ?_, nd_dropK h2⟩
      obtain ⟨q, hq, eq⟩ := List.mem_map.mp m
      exact List.mem_map.mpr ⟨q, dropK_mem hq, eq⟩
end
end L2
set_option maxHeartbeats 4000000
set_option linter.all false
set_option maxRecDepth 100000
namespace L2
open PySem PySem.Spec PyProof.Rows
/-- a code object's table of what stands at its places -/
def tbP (P : Addr) (h : Heap) : Prop := ∃ ps : Array Value, h.get? P = some { cls := .none, data := .fields ps } ∧ TriplesOk ps.toList
def TbO (P : Addr) : HO := .ext (tbP P)
/-- the running def's code object, over the base -/
def CodeC (base : Heap) (c P : Addr) : Prop :=
  ∃ (o : Obj) (vs : Array Value) (file : Str) (tf : Tok) (flags : Int) (tg : Tok) (inF : Bool) (text : Int) (tt : Tok), base.get? c = some o ∧ o.cls = .type "code" ∧ o.data = .fields vs ∧ vs[11]? = some (.ref P) ∧
    vs.getD 11 .none = .ref P ∧ vs.getD 18 .none = .str file tf ∧ vs.getD 7 .none = .int flags tg ∧ vs.getD 9 .none = .bool inF ∧ vs.getD 10 .none = .int text tt ∧ c ≠ P
theorem CodeC.of {h : Heap} {c P : Addr} {ps : Array Value} (a : h.IsCode c P ps) (t : h.TableAt c P ps) : CodeC h c P := by
  obtain ⟨o, vs, file, tf, flags, tg, inF, text, tt, op, ho, hd, h11, h2, h7, h9, h10, hop, hpd, htr, hne⟩ := a
  obtain ⟨⟨o', vs', ho', hc', hd', h'⟩, _⟩ := t
  rw [ho] at ho'; cases ho'
  rw [hd] at hd'; cases hd'
  exact ⟨o, vs, file, tf, flags, tg, inF, text, tt, ho, hc', hd, h', h11, h2, h7, h9, h10, hne⟩
theorem CodeC.keeps {h h' : Heap} {c P : Addr} (x : CodeC h c P) (k : ∀ o, h.get? c = some o → h'.get? c = some o) : CodeC h' c P := by
  obtain ⟨o, vs, file, tf, flags, tg, inF, text, tt, ho, r⟩ := x
  exact ⟨o, vs, file, tf, flags, tg, inF, text, tt, k o ho, r⟩
theorem CodeC.is {h : Heap} {c P : Addr} {ps : Array Value} (x : CodeC h c P) (hp : h.get? P = some { cls := .none, data := .fields ps }) (ht : TriplesOk ps.toList) : h.IsCode c P ps ∧ h.TableAt c P ps := by
  obtain ⟨o, vs, file, tf, flags, tg, inF, text, tt, ho, hc', hd, h', h11, h2, h7, h9, h10, hne⟩ := x
  exact ⟨⟨o, vs, file, tf, flags, tg, inF, text, tt, _, ho, hd, h11, h2, h7, h9, h10, hp, rfl, ht, hne⟩, ⟨⟨o, vs, ho, hc', hd, h'⟩, hp⟩⟩
theorem upd_self {H : Hp} {a : Addr} {o : HO} (h : H a = some o) : upd H a o = H := by
  funext b
  unfold upd
  split
  · rename_i e; rw [e]; exact h.symm
  · rfl
theorem tb_ok {P : Program} {w : World} {H : Hp} {h : Heap} {p : Addr} {ps : Array Value} (hp : h.get? p = some { cls := .none, data := .fields ps }) (ht : TriplesOk ps.toList) : ObjOk P w H h p (TbO p) := by
  show tbP p h ∧ (∃ o, h.get? p = some o) ∧ ∀ h1 h2 : Heap, tbP p h1 → (∀ o, h1.get? p = some o → h2.get? p = some o) → tbP p h2
  exact ⟨⟨ps, hp, ht⟩, ⟨_, hp⟩, fun h1 h2 ⟨qs, e, t⟩ k => ⟨qs, k _ e, t⟩⟩
theorem tb_get {P : Program} {w : World} {H : Hp} {h : Heap} {p : Addr} (x : HOk P w H h) (e : H p = some (TbO p)) : tbP p h := by
  have q : tbP p h ∧ (∃ o, h.get? p = some o) ∧ ∀ h1 h2 : Heap, tbP p h1 → (∀ o, h1.get? p = some o → h2.get? p = some o) → tbP p h2 := x p _ e
  exact q.1
section
variable {X : Cx} {pins : List (Addr × Obj)} {σ : St} {H : Hp} {s : Shared}
/-- the table may have grown, all else is kept; generators may have come -/
theorem Inv.tb {g' : Array GenState} {t' : Nat} {d' : Drawn} {h' : Heap} {p : Addr} (I : Inv X pins σ H s) (hp : H p = some (TbO p)) (k : ∀ b u, b ≠ p → s.heap.get? b = some u → h'.get? b = some u) (ht : tbP p h') (hg : AllBare g') :
    Inv X pins σ H { s with heap := h', gens := g', drawn := d', toks := t' } := by
  obtain ⟨ps, e1, e2⟩ := id ht
  have mu : Mut (H p) := by rw [hp]; trivial
  have I1 : Inv X pins σ (upd H p (TbO p)) { s with heap := h', toks := t' } := I.write mu (.inl rfl) k ⟨_, e1⟩ (tb_ok e1 e2)
  rw [upd_self hp] at I1
  exact ⟨I1.ok, I1.os, hg, I1.base, I1.loc, I1.cell, I1.free, I1.freeC, I1.pin, I1.hok, I1.len⟩
end
section
variable {M : Model} {A : Around} {E : Value → Shared → Prop} {s : Shared}
theorem gcode {env : Env} {c P : Addr} {ps : Array Value} {pos : Pos} {qualname : Str} {scope : Scope} {Q : Value → Shared → Prop} (hc : env.code = .ref c) (hok : s.heap.IsCode c P ps) (htab : s.heap.TableAt c P ps) (ht : TriplesOk ps.toList)
    (hQ : ∀ code h' tk, Heap.ExtBut P s.heap h' → s.heap.objs.size ≤ h'.objs.size → tbP P h' → Q code { s with heap := h', toks := tk }) :
    wpAny M A (genexprCode env pos qualname scope) Q E s := by
  cases hnf : codeAmong pos ps.toList with
  | none =>
    refine wpAny_genexprCodeX hc hok htab hnf fun c' h' tk hx h1 h2 hcode _ htab' _ => ?_
    refine hQ _ h' tk hx (Nat.le_trans h1 (Nat.le_of_lt h2)) ⟨_, htab'.2, ?_⟩
    have := TriplesOk_snoc pos.line pos.col (.ref c') _ ht
    simpa using this
  | some cv =>
    obtain ⟨o, vs, file, tf, flags, tg, inF, text, tt, op, ho, hd, h11, h2, h7, h9, h10, hop, hpd, htr, hne⟩ := id hok
    unfold genexprCode codeAt
    rw [hc, if_neg (show ¬ ((Value.ref c == Value.none) = true) from Bool.false_ne_true)]
    refine wpAny_bind (wpAny_fieldsOf ho hd ?_)
    rw [h11]
    refine wpAny_bind (wpAny_fieldsOf hop hpd ?_)
    rw [hnf]
    exact wpAny_pure (hQ cv s.heap s.toks (Heap.ExtBut.refl _ _) (Nat.le_refl _) ⟨ps, htab.2, ht⟩)
end
theorem all_pass (n : Nat) : passing (fun _ => true) n 0 = List.range n := by
  unfold passing; simp
theorem range_all_get (l : Array Nat) (q : Nat → Bool) : (List.range l.size).all (fun j => (l[j]?.map q).getD true) = l.toList.all q := by
  rw [Bool.eq_iff_iff, List.all_eq_true, List.all_eq_true]
  constructor
  · intro h b hb
    obtain ⟨j, hj, rfl⟩ := List.getElem_of_mem hb
    have hj' : j < l.size := by simpa using hj
    have := h j (List.mem_range.mpr hj')
    simpa [hj'] using this
  · intro h j hj
    have hj' := List.mem_range.mp hj
    have := h (l[j]) (by simp)
    simp [hj', this]
section
variable {X : Cx} {scope : Scope} {elt iter : Expr} {x : Str} {px pos pos2 p : Pos} {ti : TE} {bm c P : Addr} {ob : Obj}
/-- all(e for x in t), t a text, e one of its sign alone that leaves all as it was -/
theorem pe_allStr {k : Nat} (q : Nat → Bool) (hbm : BMod X.base mainGlobals X.mg bm ob) (hc : CodeC X.base c P) (hcode : X.env.code = .ref c) (hr : Room k X.A) (hm : X.mg "all" = none)
    (hi : PE X iter ti)
    (helt : ∀ (A' : Around) (E' : Value → Shared → Prop) (code : Value) (C : Addr) (ch : Nat) (t : Tok) (s2 : Shared) (m2 : Str → Option Value), A'.handled = none → A'.depth ≤ X.A.depth + 1 → A'.units ≤ X.A.units + 8 → X.K.In s2.heap → s2.heap.NoLimit →
      s2.heap.Ns mainGlobals X.mg → s2.heap.Ns C m2 → m2 x = some (.str ⟨#[ch]⟩ t) → wpAny (model X.prog X.w) A' (eval elt (genEnv scope [] C code builtinsNs X.env)) (fun y s3 => y = .bool (q ch) ∧ Keeps s2 s3) E' s2)
    (hg : Gl X "all" := by rfl) (hco : scope.isCoroutine = false := by rfl) (hclos : closureFor scope X.env = pure [] := by rfl) (hcell : ∀ y ∈ scope.names, y.2 ≠ .cell := by decide +kernel) (h0 : scope.names.lookup (".0" : Str) = some NameKind.local := by rfl)
    (hx : scope.names.lookup x = some .local := by rfl) (hkind : scope.kind = .function := by rfl)
    (hs : ∀ x, genFold iter X.env x = pure x := by intro _; rfl) :
    PE X (.Call (.Name "all" p) [.GeneratorExp elt [⟨.Name x px, iter, [], 0⟩] scope pos] [] pos2)
      (fun σ H Q => ti σ H fun v H1 => ∃ z : Str, v = .str z ∧ H1 P = some (TbO P) ∧ Q (.bl (z.cps.toList.all q)) H1) := by
  intro pins s σ H Q I h
  refine wpAny_Call_Name_kw (ld_blt I hg hm (u := .builtin "all") (by decide +kernel) ?_ (by decide) (by decide))
  refine PyProof.Rows.callWith_builtin1 (id := "all") ?_ rfl rfl
  show wpAny _ _ (spliced ((false, eval (.GeneratorExp elt [⟨.Name x px, iter, [], 0⟩] scope pos) X.env) :: backTo pos2 (starEach [] X.env))) _ _ s
  refine Calls.spliced_cons ?_
  refine wpAny_GeneratorExp_walksQD hr.hd hco hclos hcell h0 hx hkind hr.depth ?_ hs
  refine thn (hi pins s σ H _ I h) fun xv s1 ⟨v, H1, I1, r1, z, ev, hp, hq⟩ => ?_
  subst ev
  obtain ⟨t, rfl⟩ := (show ∃ t, xv = Value.str z t from r1)
  refine wpAny_pyIter_str fun o St W st0 => ?_
  have k1 : ∀ b u, s1.heap.get? b = some u → (s1.heap.push o).get? b = some u := fun b u e => Heap.get?_push_of_some _ e
  have I2 : Inv X pins σ H1 { s1 with heap := s1.heap.push o, toks := s1.toks } := I1.kept k1
  obtain ⟨ps, e1, e2⟩ := tb_get I2.hok hp
  obtain ⟨ic, it⟩ := (hc.keeps fun o e => I2.bk _ o e).is e1 e2
  refine ⟨I2.nolimit, gcode hcode ic it e2 fun code h3 tk hx3 hsz3 tb3 => ?_⟩
  have I3 : Inv X pins σ H1 { s1 with heap := h3, toks := tk } := I2.tb (g' := s1.gens) (d' := s1.drawn) (t' := tk) hp (fun b u hb e => hx3 b u hb e) tb3 I2.bare
  have M3 : BMod h3 mainGlobals X.mg bm ob := hbm.keeps I3.bk
  refine wpAny_builtinsFor (by rw [I.ok.glob]; exact M3.ns) M3.name M3.ne M3.obj M3.cls M3.dict M3.data ?_
  have hsz3' : s1.heap.objs.size + 1 ≤ h3.objs.size := by
    have z3 : (s1.heap.push o).objs.size ≤ h3.objs.size := hsz3
    rwa [Heap.size_push] at z3
  have hPlt : @LT.lt Nat _ P s1.heap.objs.size := I1.hok.lt hp
  have hW : ∀ A' : Around, A'.handled = none → Walks X.prog X.w A' s1.heap.objs.size [s1.heap.objs.size] [s1.heap.objs.size] z.cps.size (SignAt z) St := W
  refine ⟨s1.heap.objs.size, [s1.heap.objs.size], [s1.heap.objs.size], z.cps.size, SignAt z, St, fun _ => true, fun i y => ∃ ch, z.cps[i]? = some ch ∧ y = .bool (q ch), rfl, hW, ?_, ?_, I3.nolimit, ?_, ?_, ?_⟩
  · refine (hW X.A hr.hd).frame _ _ _ st0 fun b hb u e => ?_
    have hb' : b = s1.heap.objs.size := by simpa using hb
    exact hx3 b u (by rw [hb']; exact (Nat.ne_of_lt hPlt).symm) e
  · intro b hb
    have hb' : @Eq Nat b s1.heap.objs.size := by simpa using hb
    show @LT.lt Nat _ b h3.objs.size
    omega
  · intro hb
    have hb' : @Eq Nat cStatics s1.heap.objs.size := by simpa using hb
    have hcl : @LT.lt Nat _ cStatics s1.heap.objs.size := let ⟨_, hn, _⟩ := I1.nolimit; hn.lt
    omega
  · intro href hhref
    have bs : ∀ {s2 : Shared}, (∀ b ∈ List.range h3.objs.size, b ∉ [s1.heap.objs.size] → ∀ o, href.get? b = some o → s2.heap.get? b = some o) → ∀ b u, X.base.get? b = some u → s2.heap.get? b = some u := fun {s2} hk b u e => by
      have e3 := I3.bk b u e
      have b1 : @LT.lt Nat _ b s1.heap.objs.size := Heap.lt_size (I1.bk b u e)
      exact hk b (List.mem_range.mpr (Heap.lt_size e3)) (fun z0 => by have z1 : @Eq Nat b s1.heap.objs.size := (by simpa using z0); omega) u (hhref b u e3)
    refine ⟨fun A' E' i v s2 m2 hA hD hU hP hn hm2 hk => ?_, fun A' E' i v s2 m2 hA hD hU hP _ hn hm2 hk => ?_⟩
    · exact wpAny_pure ⟨rfl, ⟨s2.heap, s2.toks, rfl, fun _ _ e => e⟩⟩
    · obtain ⟨ch, u, e, ev⟩ := hP
      subst ev
      refine wpAny_mono (helt A' E' code _ ch u s2 m2 hA hD hU (I.ok.mod.kin.keeps (bs hk)) (I.ok.mod.nolimit.keeps (bs hk)) (I.ok.mod.glob.keeps (bs hk)) hn hm2) (fun y s3 hy => ⟨⟨ch, e, hy.1⟩, hy.2⟩) fun _ _ e => e
  · intro a h5 tk5 gs hgb hag hsz5 hk5 W5 hat
    refine Calls.spliced_nil ?_
    have hWS := W5.in4_1
    refine call_all_walkS (hWS.self 0 _ _ _ hat ⟨a, _, _, _, _, _, _, (fun j => (z.cps[j]?.map q).getD true), rfl, hWS, hat, ?_, fun s' hmv => ?_⟩)
    · intro j v sj Qj Ej hv hQj
      obtain ⟨i, hi', ch, he, hy⟩ := hv
      subst hy
      rw [all_pass] at hi'
      have hij : j = i := by
        obtain ⟨h1, h2⟩ := List.getElem?_eq_some_iff.mp hi'
        simpa using h2
      subst hij
      simp only [he, Option.map_some, Option.getD_some] at hQj
      exact wpAny_truthy_bool hQj
    · have keepAll : ∀ b u, b ≠ P → s1.heap.get? b = some u → s'.heap.get? b = some u := fun b u hb e => by
        have hb1 : @LT.lt Nat _ b s1.heap.objs.size := Heap.lt_size e
        refine hmv.heap b u (fun hmem => ?_) (hk5 b u (hx3 b u hb (k1 b u e)))
        rcases List.mem_cons.mp hmem with z1 | z1
        · have z1' : @Eq Nat b h3.objs.size := z1
          omega
        · have z2 : @Eq Nat b s1.heap.objs.size := by simpa using z1
          omega
      have tb' : tbP P s'.heap := by
        obtain ⟨qs, g1, g2⟩ := tb3
        refine ⟨qs, hmv.heap P _ (fun hmem => ?_) (hk5 P _ g1), g2⟩
        rcases List.mem_cons.mp hmem with z1 | z1
        · have z1' : @Eq Nat P h3.objs.size := z1
          omega
        · have z2 : @Eq Nat P s1.heap.objs.size := by simpa using z1
          omega
      have bare' : AllBare s'.gens := AllBare.movedS (AllBare.push I1.bare hgb) hmv
      have I6 := I1.tb (h' := s'.heap) (g' := s'.gens) (d' := s'.drawn) (t' := s'.toks) hp keepAll tb' bare'
      have os' : s'.os = s1.os := hmv.os
      have es' : ({ s1 with heap := s'.heap, gens := s'.gens, drawn := s'.drawn, toks := s'.toks } : Shared) = s' := by
        obtain ⟨ah, ag, ad, at_, ao⟩ := s'
        have os'' : ao = s1.os := os'
        subst os''
        rfl
      rw [es'] at I6
      refine ⟨.bl (z.cps.toList.all q), H1, I6, ?_, hq⟩
      show Value.bool _ = Value.bool _
      rw [all_pass, List.length_range, range_all_get]
end
end L2
set_option maxHeartbeats 4000000
set_option linter.all false
set_option maxRecDepth 100000
namespace L2
open PySem PySem.Spec PyProof.Rows
/-- a sign from a to z -/
def isLet (c : Nat) : Bool := !decide (c < 97) && !decide (122 < c)
theorem one_lt (a b : Nat) : (([a] : List Nat) < [b]) ↔ a < b := by
  constructor
  · intro h
    cases h with
    | rel h => exact h
    | cons h => cases h
  · intro h
    exact List.Lex.rel h
theorem le_sign (a b : Nat) : (!decide (([b] : List Nat) < [a])) = !decide (b < a) := by
  congr 1
  exact decide_eq_decide.mpr (one_lt b a)
section
variable {X : Cx} {scope : Scope} {x : Str} {p1 p2 p3 q0 q1 q2 q3 q4 : Pos} {k1 k2 : Nat}
theorem letter_elt {k : Nat} {f : Addr} {args : Arguments} {sc : Scope} {kV doc pm cdv ct oc : Value} {an od : Option Addr} {osl : Array (Option Value)}
    (lk : X.K.lookup f = some ⟨oc, od, .func (PySem.W.fnOf "is_letter" "is_letter" args [.Return (some (.Compare (.Constant (.str "a") k1 q1) [.LtE, .LtE] [.Name "sign" q2, .Constant (.str "z") k2 q3] q4)) q0] sc .none kV doc pm an cdv ct), osl⟩)
    (hcd : PySem.W.codeIn X.K cdv "is_letter" = true) (hkp : PySem.W.keepIn X.K (.ref f) = true) (hm : X.mg "is_letter" = some (.ref f)) (hr : Room (k + 1) X.A)
    (hbind : ∀ v : Value, bindArgs (PySem.W.fnOf "is_letter" "is_letter" args [.Return (some (.Compare (.Constant (.str "a") k1 q1) [.LtE, .LtE] [.Name "sign" q2, .Constant (.str "z") k2 q3] q4)) q0] sc .none kV doc pm an cdv ct) ⟨[v], []⟩ = pure [(("sign" : Str), v)])
    (hglob : X.env.globals = mainGlobals)
    (hsc : sc.names.lookup ("sign" : Str) = some .local) (hco : sc.isCoroutine = false) (hgen : sc.isGenerator = false) (hk : sc.kind = .function)
    (hkind : scope.kind = .function) (hxl : scope.names.lookup x = some .local) (hgl : scope.names.lookup ("is_letter" : Str) = some .globalImplicit) (hdx : (x == ("__debug__" : Str)) = false) :
    ∀ (A' : Around) (E' : Value → Shared → Prop) (code : Value) (C : Addr) (ch : Nat) (t : Tok) (s2 : Shared) (m2 : Str → Option Value), A'.handled = none → A'.depth ≤ X.A.depth + 1 → A'.units ≤ X.A.units + 8 → X.K.In s2.heap → s2.heap.NoLimit →
      s2.heap.Ns mainGlobals X.mg → s2.heap.Ns C m2 → m2 x = some (.str ⟨#[ch]⟩ t) →
      wpAny (model X.prog X.w) A' (eval (.Call (.Name "is_letter" p1) [.Name x p2] [] p3) (genEnv scope [] C code builtinsNs X.env)) (fun y s3 => y = .bool (isLet ch) ∧ Keeps s2 s3) E' s2 := by
  intro A' E' code C ch t s2 m2 hA hD hU KX lim hG hn hx
  refine wpAny_Call_Name_kw (Calls.Name_function_global (by exact hkind) (by exact hgl) (Calls.loadGlobal_global (mg := X.mg) (by show s2.heap.Ns X.env.globals _; rw [hglob]; exact hG) hm ?_) (by decide))
  refine PySem.W.callWith_K (h₀ := s2.heap) KX hkp ?_ rfl rfl
  show wpAny _ _ (spliced ((false, eval (.Name x p2) (genEnv scope [] C code builtinsNs X.env)) :: backTo p3 (starEach [] (genEnv scope [] C code builtinsNs X.env)))) _ _ s2
  refine Calls.spliced_cons (wpAny_Name (wpAny_loadName_local (by exact hkind) (by exact hxl) hn hx ?_) hdx)
  refine Calls.spliced_nil ⟨KX, ?_⟩
  refine wpAny_call ?_
  have hroom : A'.depth < recursionLimit := by have := hr.dp; omega
  refine Att.call_fn KX lim lk hcd hroom (.of_eq (hbind _)) (by simp [hsc]) (fun s1 hIn => ?_) hco hgen hk
  have hns : s1.heap.Ns s2.heap.objs.size _ := hIn.toInCall.ns
  obtain ⟨h1, tk1, e1⟩ := hIn.toInCall.same
  have hkeep := hIn.toInCall.keep
  have hsign : bindL (envOfC "is_letter" sc s2.heap.objs.size f cdv).kindOf [(("sign" : Str), .str ⟨#[ch]⟩ t)] (fun _ => none) "sign" = some (.str ⟨#[ch]⟩ t) := by
    have hkk : (envOfC "is_letter" sc s2.heap.objs.size f cdv).kindOf "sign" = some .local := hsc
    simp [bindL, hkk]
  subst e1
  refine wpAny_execs_cons (wpAny_Return_some ?_)
  refine Compare_chain ?_ (by with_unfolding_all rfl)
  refine Calls.Constant_str ?_
  refine chain_link ?_
  refine wpAny_Name (wpAny_loadName_local (by exact hk) (by exact hsc) hns hsign ?_) (by decide)
  refine PySem.P.le_str ?_
  refine wpAny_truthy_bool ?_
  have e97 : (("a" : Str).cps.toList) = [97] := by decide +kernel
  have e122 : (("z" : Str).cps.toList) = [122] := by decide +kernel
  have f1 : (!decide ((⟨#[ch]⟩ : Str).cps.toList < ("a" : Str).cps.toList)) = !decide (ch < 97) := by rw [e97]; exact le_sign 97 ch
  have f2 : (!decide (("z" : Str).cps.toList < (⟨#[ch]⟩ : Str).cps.toList)) = !decide (122 < ch) := by rw [e122]; exact le_sign ch 122
  rw [f1]
  cases hb : (!decide (ch < 97)) with
  | false =>
    refine ite_ff ?_
    refine ⟨by show Value.bool false = _; unfold isLet; rw [hb]; rfl, ?_⟩
    exact ⟨_, _, rfl, hkeep⟩
  | true =>
    refine ite_tt (chain_last ?_)
    refine Calls.Constant_str ?_
    refine PySem.P.le_str ?_
    rw [f2]
    refine ⟨by unfold isLet; rw [hb]; rfl, ?_⟩
    exact ⟨_, _, rfl, hkeep⟩
end
end L2
set_option maxHeartbeats 4000000
set_option linter.all false
set_option maxRecDepth 100000
namespace L2
open PySem PySem.Spec PyProof.Rows
/-- the def name's own code object c and its table P at the law's entry, and the module of built-ins -/
structure Tbl (K : PySem.W.Frag) (mg : Str → Option Value) (base : Heap) (c P bm : Addr) (ob : Obj) : Prop where
  bm : BMod base mainGlobals mg bm ob
  cc : CodeC base c P
/-- no table of a code object stands in K -/
def noTab (o : Obj) : Bool := match o.cls with
  | .none => (match o.data with
    | .fields _ => false
    | _ => true)
  | _ => true
def kbF (K : PySem.W.Frag) : Bool := K.all fun p => noTab p.2
theorem law_callP {P : Program} {w : World} {K : PySem.W.Frag} {mg mb : Str → Option Value} {CX : CXT} {k : Nat} {fa a c p bm : Addr} {ob : Obj} {fd : FuncData} {x : Str} {sp : Sp} {s₁ : Shared} {vs : List Value} {ns : List Int}
    (KX : K.In s₁.heap) (hns : s₁.heap.Ns mainGlobals mg) (hb : s₁.heap.Ns builtinsNs mb) (hbb : ∀ x : Str, x ≠ "__name__" → mb x = bootBuiltins x) (hlim : s₁.heap.NoLimit) (hg : s₁.gens = #[])
    (ha : s₁.heap.get? a = some { cls := .type "list", data := .seq vs.toArray }) (hi : IntsAre vs ns) (hl : ns.length ≤ sizeLine) (hr : Room k callerA)
    (B : Based s₁.heap s₁.heap c p #[]) (M : BMod s₁.heap mainGlobals mg bm ob) (hK : kbF K = true)
    (F : ∀ base : Heap, K.In base → base.Ns mainGlobals mg → Tbl K mg base c p bm ob → FnOk P w K mg base CX k fa fd [x] sp) (hbind : ∀ (s : Shared) (u : Value), BindsTo s fd ⟨[u], []⟩ [(x, u)])
    (hsp : ∀ H : Hp, H p = some (TbO p) → SqL K H a (ns.map V.int) → sp [.ref a] H (fun v H' => v = .bl true ∧ H' p = some (TbO p)) fun _ _ _ => False)
    (hCX : ∀ H e s', CX [] H s₁ (fun _ _ _ => False) e s' → False) :
    codeAny (model P w) callerA (.call (.ref fa) ⟨[.ref a], []⟩) (fun r s' => r = .ok (.ret (.bool true)) ∧ OldK s₁.heap s'.heap ∧ s'.os = s₁.os ∧ AllBare s'.gens) s₁ := by
  have rv := vals_ints hi
  have lenV := hi.length
  have htab : s₁.heap.get? p = some { cls := .none, data := .fields #[] } := B.tab.2
  have hap : a ≠ p := fun e => by rw [e, htab] at ha; cases ha
  have hKp : K.lookup p = none := by
    cases q : K.lookup p with
    | none => rfl
    | some o =>
      have e1 := KX p o q
      have e2 : o = { cls := .none, data := .fields #[] } := Option.some.inj (e1.symm.trans htab)
      have q2 : noTab o = true := List.all_eq_true.mp hK (p, o) (PySem.W.kb_mem q)
      rw [e2] at q2
      cases q2
  have core : ∀ H : Hp, (∀ b, H b = none ∨ b = p ∨ ∃ o xs, H b = some (.frz o (.lst xs))) → H p = some (TbO p) → SqL K H a (ns.map V.int) → HOk P w H s₁.heap → (∀ b, H b ≠ none → b = a ∨ b = p) → (H a ≠ none → K.lookup a = none) →
      codeAny (model P w) callerA (.call (.ref fa) ⟨[.ref a], []⟩) (fun r s' => r = .ok (.ret (.bool true)) ∧ OldK s₁.heap s'.heap ∧ s'.os = s₁.os ∧ AllBare s'.gens) s₁ := by
    intro H hO hHp hS hok hA hK2
    have base_of : ∀ {b : Addr} {o : Obj}, s₁.heap.get? b = some o → H b = none → (hidT s₁.heap H).get? b = some o := fun e n => hidT_get e n
    have noA : ∀ {b : Addr} {o : Obj} {es : Array DictEntry} {ep : Nat}, s₁.heap.get? b = some o → o.data = .dict es ep → H b = none := fun {b o es ep} e d => by
      cases q : H b with
      | none => rfl
      | some u =>
        rcases hA b (by rw [q]; simp) with e' | e'
        · subst e'
          rw [ha] at e; cases e
          have d' : Data.seq vs.toArray _ = Data.dict es ep := d
          cases d'
        · subst e'
          rw [htab] at e; cases e
          have d' : Data.fields #[] = Data.dict es ep := d
          cases d'
    have nsK : ∀ {b : Addr} {m : Str → Option Value}, s₁.heap.Ns b m → (hidT s₁.heap H).Ns b m := fun {b m} ⟨o, es, ep, e, d, r⟩ => ⟨o, es, ep, base_of e (noA e d), d, r⟩
    have hKb : K.In (hidT s₁.heap H) := fun b o e => base_of (KX b o e) (by
      cases q : H b with
      | none => rfl
      | some u =>
        rcases hA b (by rw [q]; simp) with e' | e'
        · subst e'
          rw [hK2 (by rw [q]; simp)] at e; cases e
        · subst e'
          rw [hKp] at e; cases e)
    have hM : Mod K mg (hidT s₁.heap H) := ⟨hKb, nsK hns, ⟨mb, nsK hb, hbb⟩, let ⟨mc, h1, h2⟩ := hlim; ⟨mc, nsK h1, h2⟩⟩
    have free_cls : ∀ {b : Addr} {o : Obj}, s₁.heap.get? b = some o → o.cls ≠ .none → o.cls ≠ .type "list" → H b = none := fun {b o} e h1 h2 => by
      cases q : H b with
      | none => rfl
      | some u =>
        rcases hA b (by rw [q]; simp) with e' | e'
        · subst e'; rw [ha] at e; cases e; exact absurd rfl h2
        · subst e'; rw [htab] at e; cases e; exact absurd rfl h1
    have hBM : BMod (hidT s₁.heap H) mainGlobals mg bm ob := ⟨nsK M.ns, M.name, M.ne, base_of M.obj (free_cls M.obj (by rw [M.cls]; intro z; cases z) (by rw [M.cls]; intro z; injection z with z; revert z; decide)), M.cls, M.dict, M.data⟩
    have hCC : CodeC (hidT s₁.heap H) c p := by
      obtain ⟨o, vs', file, tf, flags, tg, inF, text, tt, ho, hc', r⟩ := CodeC.of B.code B.tab
      exact ⟨o, vs', file, tf, flags, tg, inF, text, tt, base_of ho (free_cls ho (by rw [hc']; intro z; cases z) (by rw [hc']; intro z; injection z with z; revert z; decide)), hc', r⟩
    have e0 : Env0 P w K mg (hidT s₁.heap H) callerA [] s₁ H := ⟨rfl, hM, fun b o e => of_hidT e, Nat.le_of_eq (hidT_size _ _), trivial, fun b hb => absurd (show b ∈ ([] : List Addr) from hb) (by simp), hok, .of_eq hg⟩
    refine codeAny_mono ((F _ hKb (nsK hns) ⟨hBM, hCC⟩).run callerA [] s₁ H ⟨[.ref a], []⟩ [.ref a] [.ref a] _ _ hr e0 (hbind s₁ (.ref a)) (.cons rfl .nil) (hsp H hHp hS)) fun r s' h => ?_
    cases r with
    | error e => exact (hCX H e s' h).elim
    | ok fl =>
      cases fl with
      | next => exact False.elim h
      | brk => exact False.elim h
      | cont => exact False.elim h
      | ret u =>
        obtain ⟨v, H', os, bare, un, hok', r', q⟩ := h
        obtain ⟨q', qp⟩ : v = .bl true ∧ H' p = some (TbO p) := q
        subst q'
        obtain rfl : u = Value.bool true := r'
        obtain ⟨ps, t1, t2⟩ := tb_get hok' qp
        have keep : ∀ b o, b ≠ p → s₁.heap.get? b = some o → s'.heap.get? b = some o := fun b o hbp e => by
          cases q : H b with
          | none => exact un.keep b o e q (by intro z; exact absurd (show b ∈ ([] : List Addr) from z) (by simp)) (by simp)
          | some u =>
            rcases hO b with z | z | ⟨ob', xs, z⟩
            · rw [q] at z; cases z
            · exact absurd z hbp
            · have z2 := un.frzs b ob' _ z
              obtain ⟨e1, _⟩ := hok b _ z
              obtain ⟨e2, _⟩ := hok' b _ z2
              rw [e] at e1; cases e1
              exact e2
        have hcp : c ≠ p := by
          obtain ⟨_, _, _, _, _, _, _, _, _, _, _, _, _, _, _, _, _, _, z⟩ := CodeC.of B.code B.tab
          exact z
        have tab' : s'.heap.TableAt c p (#[] ++ ps) := by
          obtain ⟨⟨o, vs', e1, e2⟩, _⟩ := B.tab
          exact ⟨⟨o, vs', keep c o hcp e1, e2⟩, by rw [t1]; simp⟩
        exact ⟨rfl, OldK.step_table (OldK.refl s₁.heap) B.tab B.tab tab' (fun b o hbp e => keep b o hbp e) B.notStatics, os, bare⟩
  cases hk : K.lookup a with
  | some o =>
    have e := KX a o hk
    rw [ha] at e
    cases e
    refine core (fun b => if b = p then some (TbO p) else none) (fun b => ?_) (if_pos rfl) (.inr ⟨_, vs.toArray, _, hk, rfl, rfl, rfl, by rw [List.size_toArray, lenV]; exact hl, by simpa using rv⟩) (fun b u z => ?_) (fun b z => ?_) fun z => absurd (if_neg hap) z
    · by_cases hb : b = p
      · exact .inr (.inl hb)
      · exact .inl (if_neg hb)
    · by_cases hb : b = p
      · have z' := (if_pos hb).symm.trans z
        cases z'
        subst hb
        exact tb_ok htab trivial
      · have z' := (if_neg hb).symm.trans z
        cases z'
    · by_cases hb : b = p
      · exact .inr hb
      · exact absurd (if_neg hb) z
  | none =>
    refine core (fun b => if b = a then some (.frz { cls := .type "list", data := .seq vs.toArray } (.lst (ns.map V.int))) else if b = p then some (TbO p) else none) (fun b => ?_) (by rw [if_neg (Ne.symm hap), if_pos rfl]) (.inl (.inr ⟨{ cls := .type "list", data := .seq vs.toArray }, if_pos rfl⟩)) (fun b u z => ?_) (fun b z => ?_) fun _ => hk
    · by_cases hb : b = a
      · exact .inr (.inr ⟨_, _, if_pos hb⟩)
      · by_cases hb2 : b = p
        · exact .inr (.inl hb2)
        · left
          simp only [if_neg hb, if_neg hb2]
    · by_cases hb : b = a
      · have z' := (if_pos hb).symm.trans z
        cases z'
        subst hb
        exact ⟨ha, by rw [List.length_map]; exact hl, vs, _, rv, ha⟩
      · by_cases hb2 : b = p
        · simp only [if_neg hb, if_pos hb2] at z
          cases z
          subst hb2
          exact tb_ok htab trivial
        · simp only [if_neg hb, if_neg hb2] at z
          cases z
    · by_cases hb : b = a
      · exact .inl hb
      · by_cases hb2 : b = p
        · exact .inr hb2
        · exact absurd (by simp only [if_neg hb, if_neg hb2]) z
/-- the head, where one def of the module (gname) has a generator expression -/
theorem walk_ofP {l : PySem.W.OpenLaw} {n k : Nat} {q : Program} {loose : List Str} {XP : (Str → Option Value) → Heap → Prop} {YP : World → Heap → Prop} {d : DefRec} {K : Params → PySem.W.Frag} {sp : PySem.W.Frag → Addr → Sp} {x gname : Str}
    (hn : l.most = some n) (hn2 : n ≤ sizeLine) (hdf : d.params.defaults = []) (hr : Room k callerA)
    (hY : ∀ (w : World) (h : Heap), YP w h → (K w.params).In h) (hcl : ∀ w : World, kbF (K w.params) = true)
    (hfd : ((recsOf q).find? (fun e => e.name == gname)).isSome = true)
    (F : ∀ (w : World) (mg : Str → Option Value) (fa : Addr) (h : Heap), (K w.params).In h → h.Ns mainGlobals mg → mg d.name = some (.ref fa) →
      ∃ fd : FuncData, (∀ (s : Shared) (u : Value), BindsTo s fd ⟨[u], []⟩ [(x, u)]) ∧ ∃ (fg : Addr) (og : Obj) (gd : FuncData), mg gname = some (.ref fg) ∧ h.get? fg = some og ∧ og.data = .func gd ∧
        ∀ (base : Heap) (c P bm : Addr) (ob : Obj), gd.code = .ref c → (K w.params).In base → base.Ns mainGlobals mg → Tbl (K w.params) mg base c P bm ob → FnOk l.prog w (K w.params) mg base CX0 k fa fd [x] (sp (K w.params) P))
    (hsp : ∀ (K : PySem.W.Frag) (H : Hp) (a P : Addr) (ns : List Int), ns.length ≤ n → H P = some (TbO P) → SqL K H a (ns.map V.int) → sp K P [.ref a] H (fun v H' => v = .bl true ∧ H' P = some (TbO P)) fun _ _ _ => False) :
    PySem.W.WalkO q loose XP YP l.row.toRowW d [] (fun f vs => PySem.call f vs) := by
  refine Att.attach_call hn hdf fun w s₀ s₁ mg mb fa o pm cd doc a vs ns G Y ho hd hcd hmg hobj hints hlen hg => ?_
  have KX := hY w _ Y
  obtain ⟨fd, hb, fg, og, gd, e1, e2, e3, hF⟩ := F w mg fa _ KX G.T.g hmg
  obtain ⟨bm, ob, M⟩ := PySem.W.bmod_of_top G.T
  obtain ⟨dg, hfd'⟩ := Option.isSome_iff_exists.mp hfd
  obtain ⟨c, P, hcd', B⟩ := PySem.W.based_of_top G.T hfd' e1 e2 e3
  exact law_callP KX G.T.g G.T.b G.T.builtins G.T.nolimit hg hobj hints (Nat.le_trans hlen hn2) hr B M (hcl w) (fun base h1 h2 h3 => hF base c P bm ob hcd' h1 h2 h3) hb (fun H hp hS => hsp (K w.params) H a P ns hlen hp hS) fun H e s' h => h
section
variable {X : Cx}
/-- isinstance(x, T), T a built-in class -/
theorem call_isinst : CallR X (.builtin "isinstance") (fun xs H Q => ∃ (x : V) (n : String) (t : Value) (b : Bool), xs = [x, .ty n] ∧ TyOf X.K H x t ∧ PySem.W.kitOne X.K t (.type n) = some b ∧ Q (.bl b) H) := by
  intro pins s σ H xs us Q I r h
  obtain ⟨x, n, t, b, rfl, ty, e, q⟩ := h
  cases r with
  | cons r1 r2 =>
    cases r2 with
    | cons r2 r3 =>
      cases r3
      have e2 := r2
      cases (show _ = Value.type n from e2)
      exact isinst_ok I r1 ty e fun tk => ⟨.bl b, H, I.tok tk, rfl, q⟩
end
end L2
set_option maxHeartbeats 4000000
set_option linter.all false
set_option maxRecDepth 100000
namespace L2
open PySem PySem.Spec PyProof.Rows
theorem foldl_sign (c : Nat) : ∀ (n : Nat) (acc : Array Nat), (List.replicate n (#[c] : Array Nat)).foldl (· ++ ·) acc = acc ++ (List.replicate n c).toArray
  | 0, acc => by simp
  | n + 1, acc => by
    rw [List.replicate_succ, List.foldl_cons, foldl_sign c n, List.replicate_succ]
    apply Array.ext'
    simp
theorem mul_one_sign (c : Nat) (n : Int) (h : 1 ≤ n) : PySem.Txt.mul ⟨#[c]⟩ n = ⟨(List.replicate n.toNat c).toArray⟩ := by
  unfold PySem.Txt.mul
  rw [if_neg (by omega)]
  by_cases h1 : n = 1
  · subst h1
    rfl
  · have : (n == 1 || (⟨#[c]⟩ : Str).length == 0) = false := by
      have e1 : (n == 1) = false := by simpa using h1
      rw [e1]; rfl
    rw [if_neg (by rw [this]; exact Bool.false_ne_true)]
    show (⟨_⟩ : Str) = _
    congr 1
    have := foldl_sign c n.toNat #[]
    simpa using this
end L2
set_option maxHeartbeats 4000000
set_option linter.all false
set_option maxRecDepth 100000
namespace L2
open PySem PySem.Spec PyProof.Rows
/-- a def whose code object is known -/
theorem Fun.okC {P : Program} {w : World} {K : PySem.W.Frag} {mg : Str → Option Value} {base : Heap} {x qual : Str} {st : Stmt} {f c : Addr} {fd : FuncData} {N ps : List Str} {k : Nat} {sp : Sp} (F : Fun K x qual st f fd) (S : FnScope N ps (defScope st)) (len : ∀ vs H Q E, sp vs H Q E → vs.length = ps.length)
    (hc : fd.code = .ref c)
    (hbody : ∀ (A : Around) (outer : List Env) (s : Shared) (H : Hp) (vs : List V) (Q : VK) (E : XK), Room k (A.deeper (envOfC qual (defScope st) s.heap.objs.size f (.ref c))) → sp vs H Q E →
      ∃ t, PSs (cxOf CX0 P w K mg base N qual (defScope st) f (.ref c) A outer s H E).nox (defBody st) t ∧ t { nx := fun _ H' => Q .non H', rt := Q } (start N vs) H) : FnOk P w K mg base CX0 (k + 1) f fd ps sp := by
  obtain ⟨oc, od, kV, doc, pm, an, cdv, ct, osl, rfl, lk, hcd⟩ := F.ex
  obtain rfl : cdv = .ref c := hc
  refine fn_of lk hcd S len fun A outer s H vs Q E hr hsp => ?_
  obtain ⟨t, h, q⟩ := hbody A outer s H vs Q E hr hsp
  exact ⟨t, h.nox, q⟩
theorem app_len (x y : Str) : (x ++ y).length = x.length + y.length := by
  show (x.cps ++ y.cps).size = _
  rw [Array.size_append]
  rfl
end L2
set_option maxHeartbeats 4000000
set_option linter.all false
set_option maxRecDepth 100000
namespace L2
open PySem PySem.Spec PyProof.Rows
/-- a def of the module that keeps its promise, by its name -/
structure Cal (P : Program) (w : World) (K : PySem.W.Frag) (mg : Str → Option Value) (base : Heap) (k : Nat) (x : Str) (ps : List Str) (sp : Sp) : Prop where
  ex : ∃ (f : Addr) (fd : FuncData), FnOk P w K mg base CX0 k f fd ps sp ∧ mg x = some (.ref f) ∧ PySem.W.keepIn K (.ref f) = true ∧ Binds K fd ps []
section
variable {X : Cx} {k : Nat} {x : Str} {ps : List Str} {sp : Sp} {e : Expr} {es : List Expr} {t : TA} {p pos : Pos}
theorem pe_cal (C : Cal X.prog X.w X.K X.mg X.base k x ps sp) (hr : Room k X.A) (hg : Gl X x) (ha : PA X (e :: es) t) (hdb : (x == ("__debug__" : Str)) = false := by decide) (he : starEach (e :: es) X.env = (false, eval e X.env) :: starEach es X.env := by rfl) (hpl : (backTo pos (starEach es X.env)).any (·.1) = false := by rfl) :
    PE X (.Call (.Name x p) (e :: es) [] pos) (tCall sp [] E0 t) := by
  obtain ⟨f, fd, G, hm, hk, hb⟩ := C.ex
  exact pe_call G hr hg hm hk hb .nil pass0 ha hdb he hpl
end
/-- a def as the top has left it, by its name -/
structure Dfn (K : PySem.W.Frag) (mg : Str → Option Value) (x : Str) (st : Stmt) (ps : List Str) : Prop where
  ex : ∃ (f : Addr) (fd : FuncData), Fun K x x st f fd ∧ mg x = some (.ref f) ∧ Binds K fd ps []
section
variable {P : Program} {w : World} {K : PySem.W.Frag} {mg : Str → Option Value} {base : Heap}
theorem Dfn.cal {x : Str} {st : Stmt} {N ps : List Str} {k : Nat} {sp : Sp} (F : Dfn K mg x st ps) (S : FnScope N ps (defScope st)) (len : ∀ vs H Q E, sp vs H Q E → vs.length = ps.length)
    (hbody : ∀ (f : Addr) (cdv : Value) (A : Around) (outer : List Env) (s : Shared) (H : Hp) (vs : List V) (Q : VK) (E : XK), Room k (A.deeper (envOfC x (defScope st) s.heap.objs.size f cdv)) → sp vs H Q E →
      ∃ t, PSs (cxOf CX0 P w K mg base N x (defScope st) f cdv A outer s H E).nox (defBody st) t ∧ t { nx := fun _ H' => Q .non H', rt := Q } (start N vs) H) : Cal P w K mg base (k + 1) x ps sp := by
  obtain ⟨f, fd, G, hm, hb⟩ := F.ex
  exact ⟨f, fd, G.ok S len (hbody f), hm, G.kp, hb⟩
end
theorem same_new {H : Hp} {p : Addr} {o : HO} (h : H p = Option.none) : Same H (upd H p o) := fun b u e => by
  rw [upd_ne (ne_of_none e h)]
  exact e
end L2
set_option maxHeartbeats 4000000
set_option linter.all false
set_option maxRecDepth 100000
namespace L2
open PySem PySem.Spec PyProof.Rows
section
variable {prog : Program} {w : World} {A : Around} {E : Value → Shared → Prop} {s : Shared}
theorem IsRange.ty {r : Addr} {a b c : Int} {t u v : Tok} (x : IsRange s.heap r a b c t u v) : s.TypeIs (.ref r) "range" := ⟨_, x, rfl⟩
end
end L2
set_option maxHeartbeats 4000000
set_option linter.all false
set_option maxRecDepth 100000
namespace L2
open PySem PySem.Spec PyProof.Rows
/-- one sign, so many times, perhaps none -/
theorem mul_sign0 (c : Nat) (n : Int) (h : 0 ≤ n) : PySem.Txt.mul ⟨#[c]⟩ n = ⟨(List.replicate n.toNat c).toArray⟩ := by
  by_cases h1 : 1 ≤ n
  · exact mul_one_sign c n h1
  · obtain rfl : n = 0 := by omega
    rfl
section
variable {X : Cx}
theorem op_mul_sign0 : OpR X (binaryOp .Mult) (fun x y H Q => ∃ (c : Nat) (n : Int), x = .str ⟨#[c]⟩ ∧ y = .int n ∧ 0 ≤ n ∧ n ≤ 1000 ∧ Q (.str ⟨(List.replicate n.toNat c).toArray⟩) H) := by
  intro pins s σ H x y v u Q I rx ry h
  obtain ⟨c, n, rfl, rfl, h1, h2, q⟩ := h
  obtain ⟨t, rfl⟩ := rx
  obtain ⟨t', rfl⟩ := ry
  refine PySem.SB.mul (x := ⟨#[c]⟩) (n := n) ?_ fun t'' k => ?_
  · refine ⟨?_, fun h0 _ hgt => ?_, fun _ _ => ?_⟩
    · have e1 : decide (n < -(2 ^ 63 : Int)) = false := decide_eq_false (by omega)
      have e2 : decide (n ≥ 2 ^ 63) = false := decide_eq_false (by omega)
      rw [e1, e2]; rfl
    · have e1 : ((⟨#[c]⟩ : Str).length : Int) = 1 := rfl
      rw [e1] at hgt
      have : (1000 : Int) ≤ (2 ^ 63 - 1) / n := (Int.le_ediv_iff_mul_le (by omega)).mpr (by omega)
      omega
    · have e1 : (⟨#[c]⟩ : Str).length = 1 := rfl
      rw [e1]
      have hn : 1 * n.toNat ≤ sizeLine := Nat.le_trans (show 1 * n.toNat ≤ 1000 by omega) (by decide)
      unfold Builtin.Str.tooLong
      exact decide_eq_false (Nat.not_lt.mpr hn)
  · rw [mul_sign0 c n h1]
    exact ⟨.str _, H, I.tok k, ⟨t'', rfl⟩, q⟩
end
end L2
set_option maxHeartbeats 4000000
set_option linter.all false
set_option maxRecDepth 100000
namespace L2
open PySem PySem.Spec PyProof.Rows
/-- what a name is -/
def nameF (z : Str) : Bool := decide (1 ≤ z.length) && decide (z.length ≤ 8) && z.cps.toList.all isLet
/-- tuples, known things and tables stay; lists stay lists, dicts stay dicts -/
structure Kp (H H' : Hp) : Prop where
  tup : ∀ b xs, H b = some (.tup xs) → H' b = some (.tup xs)
  lst : ∀ b xs, H b = some (.lst xs) → ∃ ys, H' b = some (.lst ys)
  dK : ∀ b kvs, H b = some (.dK kvs) → ∃ k', H' b = some (.dK k')
  frz : ∀ b o u, H b = some (.frz o u) → H' b = some (.frz o u)
  ext : ∀ b φ, H b = some (.ext φ) → H' b = some (.ext φ)
theorem Kp.refl (H : Hp) : Kp H H := ⟨fun _ _ h => h, fun _ xs h => ⟨xs, h⟩, fun _ xs h => ⟨xs, h⟩, fun _ _ _ h => h, fun _ _ h => h⟩
theorem Kp.trans {H H1 H2 : Hp} (a : Kp H H1) (b : Kp H1 H2) : Kp H H2 :=
  ⟨fun c xs h => b.tup c xs (a.tup c xs h), fun c xs h => let ⟨_, h1⟩ := a.lst c xs h; b.lst c _ h1, fun c xs h => let ⟨_, h1⟩ := a.dK c xs h; b.dK c _ h1, fun c o u h => b.frz c o u (a.frz c o u h), fun c φ h => b.ext c φ (a.ext c φ h)⟩
theorem Kp.same {H H' : Hp} (s : Same H H') : Kp H H' := ⟨fun b xs h => s b _ h, fun b xs h => ⟨xs, s b _ h⟩, fun b xs h => ⟨xs, s b _ h⟩, fun b o u h => s b _ h, fun b φ h => s b _ h⟩
theorem Kp.new {H : Hp} {p : Addr} {o : HO} (h : H p = Option.none) : Kp H (upd H p o) := Kp.same (same_new h)
theorem Kp.lset {H : Hp} {l : Addr} {xs ys : List V} (h : H l = some (.lst xs)) : Kp H (upd H l (.lst ys)) := by
  refine ⟨fun b zs e => ?_, fun b zs e => ?_, fun b zs e => ?_, fun b o u e => ?_, fun b φ e => ?_⟩
  · rw [upd_ne (ne_of e h (by intro z; cases z))]; exact e
  · by_cases hb : b = l
    · subst hb; exact ⟨ys, upd_same⟩
    · exact ⟨zs, by rw [upd_ne hb]; exact e⟩
  · exact ⟨zs, by rw [upd_ne (ne_of e h (by intro z; cases z))]; exact e⟩
  · rw [upd_ne (ne_of e h (by intro z; cases z))]; exact e
  · rw [upd_ne (ne_of e h (by intro z; cases z))]; exact e
/-- the script, known to the object -/
theorem Kp.seq {K : PySem.W.Frag} {H H' : Hp} {a : Addr} {xs : List V} (k : Kp H H') (h : SqL K H a xs) (hf : ∀ ys, H a = some (.lst ys) → H' a = some (.lst ys)) : SqL K H' a xs := by
  rcases h with (h | ⟨o, h⟩) | h
  · exact .inl (.inl (hf _ h))
  · exact .inl (.inr ⟨o, k.frz _ _ _ h⟩)
  · exact .inr h
/-! ### kinds of things -/
def NTup (H : Hp) (v : V) : Prop := v = .non ∨ (∃ b, v = .bl b) ∨ (∃ i, v = .int i) ∨ (∃ z, v = .str z) ∨ (∃ a xs, v = .ref a ∧ H a = some (.lst xs)) ∨ (∃ a kvs, v = .ref a ∧ H a = some (.dK kvs))
def NStr (H : Hp) (v : V) : Prop := v = .non ∨ (∃ b, v = .bl b) ∨ (∃ i, v = .int i) ∨ (∃ a xs, v = .ref a ∧ H a = some (.tup xs)) ∨ (∃ a xs, v = .ref a ∧ H a = some (.lst xs)) ∨ (∃ a kvs, v = .ref a ∧ H a = some (.dK kvs))
theorem NTup.ty {K : PySem.W.Frag} {H : Hp} {v : V} (h : NTup H v) : ∃ t, TyOf K H v t ∧ PySem.W.kitOne K t (.type "tuple") = some false := by
  rcases h with rfl | ⟨b, rfl⟩ | ⟨i, rfl⟩ | ⟨z, rfl⟩ | ⟨a, xs, rfl, e⟩ | ⟨a, xs, rfl, e⟩
  · exact ⟨_, .non, rfl⟩
  · exact ⟨_, .bl b, rfl⟩
  · exact ⟨_, .int i, rfl⟩
  · exact ⟨_, .str z, rfl⟩
  · exact ⟨_, .lst e, rfl⟩
  · exact ⟨_, .dK e, rfl⟩
theorem NStr.ty {K : PySem.W.Frag} {H : Hp} {v : V} (h : NStr H v) : ∃ t, TyOf K H v t ∧ PySem.W.kitOne K t (.type "str") = some false := by
  rcases h with rfl | ⟨b, rfl⟩ | ⟨i, rfl⟩ | ⟨a, xs, rfl, e⟩ | ⟨a, xs, rfl, e⟩ | ⟨a, xs, rfl, e⟩
  · exact ⟨_, .non, rfl⟩
  · exact ⟨_, .bl b, rfl⟩
  · exact ⟨_, .int i, rfl⟩
  · exact ⟨_, .tup e, rfl⟩
  · exact ⟨_, .lst e, rfl⟩
  · exact ⟨_, .dK e, rfl⟩
theorem NTup.kp {H H' : Hp} {v : V} (h : NTup H v) (k : Kp H H') : NTup H' v := by
  rcases h with h | h | h | h | ⟨a, xs, rfl, e⟩ | ⟨a, xs, rfl, e⟩
  · exact .inl h
  · exact .inr (.inl h)
  · exact .inr (.inr (.inl h))
  · exact .inr (.inr (.inr (.inl h)))
  · obtain ⟨ys, e'⟩ := k.lst _ _ e
    exact .inr (.inr (.inr (.inr (.inl ⟨a, ys, rfl, e'⟩))))
  · obtain ⟨ys, e'⟩ := k.dK _ _ e
    exact .inr (.inr (.inr (.inr (.inr ⟨a, ys, rfl, e'⟩))))
theorem NStr.kp {H H' : Hp} {v : V} (h : NStr H v) (k : Kp H H') : NStr H' v := by
  rcases h with h | h | h | ⟨a, xs, rfl, e⟩ | ⟨a, xs, rfl, e⟩ | ⟨a, xs, rfl, e⟩
  · exact .inl h
  · exact .inr (.inl h)
  · exact .inr (.inr (.inl h))
  · exact .inr (.inr (.inr (.inl ⟨a, xs, rfl, k.tup _ _ e⟩)))
  · obtain ⟨ys, e'⟩ := k.lst _ _ e
    exact .inr (.inr (.inr (.inr (.inl ⟨a, ys, rfl, e'⟩))))
  · obtain ⟨ys, e'⟩ := k.dK _ _ e
    exact .inr (.inr (.inr (.inr (.inr ⟨a, ys, rfl, e'⟩))))
/-- what is no name -/
def NName (H : Hp) (v : V) : Prop := (∃ z, v = .str z ∧ z.length ≤ 1000 ∧ nameF z = false) ∨ NStr H v
theorem NName.kp {H H' : Hp} {v : V} (h : NName H v) (k : Kp H H') : NName H' v := h.elim .inl fun h => .inr (h.kp k)
/-- what is no document, as it shows without a look at its children -/
def NotDoc (H : Hp) (v : V) : Prop :=
  NTup H v ∨ (∃ a xs, v = .ref a ∧ H a = some (.tup xs) ∧ xs.length ≠ 2) ∨ (∃ a x y, v = .ref a ∧ H a = some (.tup [x, y]) ∧ NName H x) ∨ (∃ a z y, v = .ref a ∧ H a = some (.tup [.str z, y]) ∧ z.length ≤ 1000 ∧ NTup H y)
theorem NotDoc.kp {H H' : Hp} {v : V} (h : NotDoc H v) (k : Kp H H') : NotDoc H' v := by
  rcases h with h | ⟨a, xs, rfl, e, h⟩ | ⟨a, x, y, rfl, e, h⟩ | ⟨a, z, y, rfl, e, hz, h⟩
  · exact .inl (h.kp k)
  · exact .inr (.inl ⟨a, xs, rfl, k.tup _ _ e, h⟩)
  · exact .inr (.inr (.inl ⟨a, x, y, rfl, k.tup _ _ e, h.kp k⟩))
  · exact .inr (.inr (.inr ⟨a, z, y, rfl, k.tup _ _ e, hz, h.kp k⟩))
/-! ### documents, and things that look like them down to some place -/
inductive Tr where
  | node (name : Str) (kids : List Tr)
  | bad
mutual
def Tr.size : Tr → Nat
  | .node _ ks => 1 + Tr.sizes ks
  | .bad => 1
def Tr.sizes : List Tr → Nat
  | [] => 0
  | t :: r => t.size + Tr.sizes r
end
mutual
def Tr.ok : Tr → Bool
  | .node _ ks => Tr.oks ks
  | .bad => false
def Tr.oks : List Tr → Bool
  | [] => true
  | t :: r => t.ok && Tr.oks r
end
mutual
inductive TrAt (H : Hp) : V → Tr → Prop
  | node {a c : Addr} {n : Str} {vs : List V} {ks : List Tr} : H a = some (.tup [.str n, .ref c]) → H c = some (.tup vs) → nameF n = true → TrsAt H vs ks → TrAt H (.ref a) (.node n ks)
  | bad {v : V} : NotDoc H v → TrAt H v .bad
inductive TrsAt (H : Hp) : List V → List Tr → Prop
  | nil : TrsAt H [] []
  | cons {v : V} {t : Tr} {vs : List V} {ts : List Tr} : TrAt H v t → TrsAt H vs ts → TrsAt H (v :: vs) (t :: ts)
end
mutual
theorem TrAt.kp {H H' : Hp} {v : V} {t : Tr} (k : Kp H H') : TrAt H v t → TrAt H' v t
  | .node h1 h2 h3 h4 => .node (k.tup _ _ h1) (k.tup _ _ h2) h3 (TrsAt.kp k h4)
  | .bad h => .bad (h.kp k)
theorem TrsAt.kp {H H' : Hp} {vs : List V} {ts : List Tr} (k : Kp H H') : TrsAt H vs ts → TrsAt H' vs ts
  | .nil => .nil
  | .cons h1 h2 => .cons (TrAt.kp k h1) (TrsAt.kp k h2)
end
theorem TrsAt.len {H : Hp} : ∀ {vs : List V} {ts : List Tr}, TrsAt H vs ts → vs.length = ts.length
  | _, _, .nil => rfl
  | _, _, .cons _ h => congrArg (· + 1) h.len
theorem TrsAt.app {H : Hp} : ∀ {vs us : List V} {ts ss : List Tr}, TrsAt H vs ts → TrsAt H us ss → TrsAt H (vs ++ us) (ts ++ ss)
  | _, _, _, _, .nil, h => h
  | _, _, _, _, .cons a b, h => .cons a (b.app h)
theorem sizes_app : ∀ (ts ss : List Tr), Tr.sizes (ts ++ ss) = Tr.sizes ts + Tr.sizes ss
  | [], ss => by simp [Tr.sizes]
  | t :: r, ss => by
    show t.size + Tr.sizes (r ++ ss) = t.size + Tr.sizes r + Tr.sizes ss
    rw [sizes_app r ss]
    omega
theorem size_pos : ∀ t : Tr, 1 ≤ t.size
  | .node _ ks => by show 1 ≤ 1 + Tr.sizes ks; omega
  | .bad => Nat.le_refl _
theorem len_le_sizes : ∀ ts : List Tr, ts.length ≤ Tr.sizes ts
  | [] => Nat.le_refl _
  | t :: r => by
    have := len_le_sizes r
    have := size_pos t
    show r.length + 1 ≤ t.size + Tr.sizes r
    omega
/-- the last one of a row, taken off -/
theorem TrsAt.last {H : Hp} : ∀ {vs : List V} {ts : List Tr}, TrsAt H vs ts → vs ≠ [] → ∃ v t ts', vs[vs.length - 1]? = some v ∧ TrAt H v t ∧ TrsAt H vs.dropLast ts' ∧ ts = ts' ++ [t]
  | _, _, .nil, h => absurd rfl h
  | _, _, .cons (v := v) (t := t) h .nil, _ => ⟨v, t, [], rfl, h, .nil, rfl⟩
  | _, _, .cons (v := v) (t := t) h (.cons (v := v2) (t := t2) h2 h3), _ => by
    obtain ⟨w, s, ts', e1, e2, e3, e4⟩ := TrsAt.last (.cons h2 h3) (by simp)
    refine ⟨w, s, t :: ts', ?_, e2, .cons h e3, by rw [e4]; rfl⟩
    simpa using e1
end L2
set_option maxHeartbeats 4000000
set_option linter.all false
set_option maxRecDepth 100000
namespace L2
open PySem PySem.Spec PyProof.Rows
def ab : Str := "abcdefghijklmnopqrstuvwxyz"
theorem nameF_of {z : Str} (h1 : 1 ≤ z.length) (h2 : z.length ≤ 8) (h3 : z.cps.toList.all isLet = true) : nameF z = true := by
  unfold nameF
  rw [decide_eq_true h1, decide_eq_true h2, h3]
  rfl
theorem nameF_len {z : Str} (h : nameF z = true) : 1 ≤ z.length ∧ z.length ≤ 8 ∧ z.cps.toList.all isLet = true := by
  unfold nameF at h
  simp only [Bool.and_eq_true, decide_eq_true_eq] at h
  exact ⟨h.1.1, h.1.2, h.2⟩
theorem cps_app (x y : Str) : (x ++ y).cps.toList = x.cps.toList ++ y.cps.toList := by
  show (x.cps ++ y.cps).toList = _
  rw [Array.toList_append]
theorem all_app {x y : Str} (h1 : x.cps.toList.all isLet = true) (h2 : y.cps.toList.all isLet = true) : (x ++ y).cps.toList.all isLet = true := by
  rw [cps_app, List.all_append, h1, h2]
  rfl
end L2
set_option maxHeartbeats 4000000
set_option linter.all false
set_option maxRecDepth 100000
namespace L2
open PySem PySem.Spec PyProof.Rows
/-- a statement, by what holds behind it -/
def tCut (t : TS) : TS := fun D σ H => ∃ R : St → Hp → Prop, t { D with nx := R } σ H ∧ ∀ σ' H', R σ' H' → D.nx σ' H'
section
variable {X : Cx} {st : Stmt} {t : TS}
theorem ps_cut (h : PS X st t) : PS X st (tCut t) := by
  intro pins s σ H D I ⟨R, h1, h2⟩
  refine thn (h pins s σ H _ I h1) fun f s1 q => ?_
  cases f with
  | next =>
    obtain ⟨σ', H', I', r⟩ := q
    exact ⟨σ', H', I', h2 σ' H' r⟩
  | ret v => exact q
  | brk => exact q
  | cont => exact q
end
theorem yes_go {σ : St} {H : Hp} {A B : Hp → Prop} (h : A H) : tYes σ H (fun b H3 => if b = true then A H3 else B H3) := by
  show (if true = true then A H else B H)
  exact iteT h
/-- a list's item, by its place -/
theorem at_get {α : Type} {xs : List α} {j : Nat} {x : α} {i : Int} (e : i = (j : Int)) (h : xs[j]? = some x) : atI xs i = some x := by
  rw [e]
  exact atI_nat h
theorem ixN_of {n j : Nat} {i : Int} (e : i = (j : Int)) (h : j < n) : ixN n i = some j := by
  rw [e]
  unfold ixN
  rw [if_pos (by omega), if_pos (by omega)]
  simp
theorem ints_get {ns : List Int} {j : Nat} (h : j < ns.length) : ∃ n, n ∈ ns ∧ ns[j]? = some n ∧ (ns.map V.int)[j]? = some (.int n) := by
  refine ⟨ns[j], List.getElem_mem h, List.getElem?_eq_getElem h, ?_⟩
  rw [List.getElem?_map, List.getElem?_eq_getElem h]
  rfl
end L2
set_option maxHeartbeats 4000000
set_option linter.all false
set_option maxRecDepth 100000
namespace L2
open PySem PySem.Spec PyProof.Rows
theorem TrsAt.get {H : Hp} : ∀ {vs : List V} {ts : List Tr} {i : Nat} {v : V}, TrsAt H vs ts → vs[i]? = some v → ∃ t, ts[i]? = some t ∧ TrAt H v t
  | _, _, i, v, .nil, e => by simp at e
  | _, _, 0, v, .cons h _, e => ⟨_, rfl, by cases e; exact h⟩
  | _, _, i + 1, v, .cons _ h, e => by
    obtain ⟨t, e1, e2⟩ := h.get (i := i) (v := v) (by simpa using e)
    exact ⟨t, by simpa using e1, e2⟩
theorem size_get : ∀ {ts : List Tr} {i : Nat} {t : Tr}, ts[i]? = some t → t.size ≤ Tr.sizes ts
  | [], i, t, e => by simp at e
  | a :: r, 0, t, e => by
    cases e
    show a.size ≤ a.size + Tr.sizes r
    omega
  | a :: r, i + 1, t, e => by
    have := size_get (ts := r) (i := i) (t := t) (by simpa using e)
    show t.size ≤ a.size + Tr.sizes r
    omega
/-- a list of tuples, the j-th of which holds the documents kids j -/
structure KidsAt (H : Hp) (vs : List V) (kids : List (List Tr)) : Prop where
  len : vs.length = kids.length
  at_ : ∀ (j : Nat) (ks : List Tr), kids[j]? = some ks → ∃ (c : Addr) (us : List V), vs[j]? = some (.ref c) ∧ H c = some (.tup us) ∧ TrsAt H us ks
theorem KidsAt.kp {H H' : Hp} {vs : List V} {kids : List (List Tr)} (h : KidsAt H vs kids) (k : Kp H H') : KidsAt H' vs kids :=
  ⟨h.len, fun j ks e => let ⟨c, us, e1, e2, e3⟩ := h.at_ j ks e; ⟨c, us, e1, k.tup _ _ e2, e3.kp k⟩⟩
theorem KidsAt.set {H : Hp} {vs : List V} {kids : List (List Tr)} (h : KidsAt H vs kids) {j : Nat} {c : Addr} {us : List V} {ks : List Tr} (h2 : H c = some (.tup us)) (h3 : TrsAt H us ks) : KidsAt H (vs.set j (.ref c)) (kids.set j ks) := by
  refine ⟨by rw [List.length_set, List.length_set]; exact h.len, fun i ms e => ?_⟩
  by_cases hij : j = i
  · subst hij
    by_cases hl : j < kids.length
    · rw [List.getElem?_set_self hl] at e
      cases e
      exact ⟨c, us, List.getElem?_set_self (by rw [h.len]; exact hl), h2, h3⟩
    · rw [List.getElem?_eq_none (by rw [List.length_set]; omega)] at e
      cases e
  · rw [List.getElem?_set_ne hij] at e
    obtain ⟨d, ws, e1, e2, e3⟩ := h.at_ i ms e
    exact ⟨d, ws, by rw [List.getElem?_set_ne hij]; exact e1, e2, e3⟩
theorem KidsAt.snoc {H : Hp} {vs : List V} {kids : List (List Tr)} (h : KidsAt H vs kids) {c : Addr} {us : List V} {ks : List Tr} (h2 : H c = some (.tup us)) (h3 : TrsAt H us ks) : KidsAt H (vs ++ [.ref c]) (kids ++ [ks]) := by
  refine ⟨by rw [List.length_append, List.length_append, h.len]; rfl, fun i ms e => ?_⟩
  by_cases hi : i < kids.length
  · rw [List.getElem?_append_left hi] at e
    obtain ⟨d, ws, e1, e2, e3⟩ := h.at_ i ms e
    exact ⟨d, ws, by rw [List.getElem?_append_left (by rw [h.len]; exact hi)]; exact e1, e2, e3⟩
  · rw [List.getElem?_append_right (by omega)] at e
    have hz : i - kids.length = 0 := by
      rcases Nat.eq_zero_or_pos (i - kids.length) with z | z
      · exact z
      · rw [List.getElem?_eq_none (by simp; omega)] at e; cases e
    rw [hz] at e
    cases e
    exact ⟨c, us, by rw [List.getElem?_append_right (by rw [h.len]; omega), h.len, hz]; rfl, h2, h3⟩
theorem KidsAt.nil {H : Hp} : KidsAt H [] [] := ⟨rfl, fun j ks e => by simp at e⟩
end L2
set_option maxHeartbeats 4000000
set_option linter.all false
set_option maxRecDepth 100000
namespace L2
open PySem PySem.Spec PyProof.Rows
open PySem.AutoSeq1 (wpAny_loadPart')
section
variable {prog : Program} {w : World} {A : Around} {E : Value → Shared → Prop} {s : Shared}
theorem nextOf_tup_item {it l : Addr} {i : Nat} {items} {x : Value} {Q : Value → Shared → Prop} (hit : s.heap.IsTupleIter it l i)
    (hl : s.heap.IsTuple l items) (hx : items[i]? = some x)
    (hQ : ∀ h', h'.IsTupleIter it l (i + 1) → Heap.SameBut it s.heap h' → Q x { s with heap := h' }) :
    wpAny (model prog w) A (Builtin.SmallTypes.nextOf (.ref it)) Q E s := by
  obtain ⟨o, ho, hc, hd⟩ := id hit
  obtain ⟨ol, hol, _, nl, hdl⟩ := hl
  unfold Builtin.SmallTypes.nextOf
  refine wpAny_bind (wpAny_callSpecial?_slot (name := Str.ofString "__next__") hit.typeIs F.slot_tuple_iterator_next
    (wpAny_call_entry F.slot_tuple_iterator_next hit.typeIs F.entry_tuple_iterator_next ?_ (F.args_tuple_iterator_next_1 _)))
  show wpAny _ _ (field (.ref it) 0 >>= _) _ _ s
  refine wpAny_bind (wpAny_field ho hd (x := .ref l) rfl ?_)
  show wpAny _ _ (if (Value.ref l == Value.none) = true then _ else _) _ _ s
  rw [if_neg (show ¬ ((Value.ref l == Value.none) = true) from Bool.false_ne_true)]
  show wpAny _ _ (field (.ref it) 1 >>= _) _ _ s
  refine wpAny_bind (wpAny_field ho hd (x := .int i 0) rfl ?_)
  show wpAny _ _ (seqItems? (.ref l) >>= _) _ _ s
  refine wpAny_bind (wpAny_seqItems hol hdl ?_)
  simp only [Int.toNat_natCast, hx]
  refine wpAny_bind (wpAny_setField ho hd (by simp) (wpAny_pure ⟨x, rfl, wpAny_pure (hQ _ ?_ (Heap.SameBut.update ..))⟩))
  exact ⟨_, Heap.get?_update_self _ ho (Obj.isFreed_of_fields (Obj.data_mapFields hd _)), (Obj.cls_mapFields ..).trans hc, by
    rw [Obj.data_mapFields hd]; simp [rawInt]⟩
theorem nextOf_tup_end {it l : Addr} {i : Nat} {items} {Q : Value → Shared → Prop} (hh : A.handled = none)
    (hit : s.heap.IsTupleIter it l i) (hl : s.heap.IsTuple l items) (hx : items[i]? = none)
    (hE : ∀ h' e, Heap.ExtBut it s.heap h' → (∃ o, h'.get? e = some o ∧ o.cls = .type "StopIteration") → E (.ref e) { s with heap := h' }) :
    wpAny (model prog w) A (Builtin.SmallTypes.nextOf (.ref it)) Q E s := by
  obtain ⟨o, ho, hc, hd⟩ := id hit
  obtain ⟨ol, hol, _, nl, hdl⟩ := hl
  unfold Builtin.SmallTypes.nextOf
  refine wpAny_bind (wpAny_callSpecial?_slot (name := Str.ofString "__next__") hit.typeIs F.slot_tuple_iterator_next
    (wpAny_call_entry F.slot_tuple_iterator_next hit.typeIs F.entry_tuple_iterator_next ?_ (F.args_tuple_iterator_next_1 _)))
  show wpAny _ _ (field (.ref it) 0 >>= _) _ _ s
  refine wpAny_bind (wpAny_field ho hd (x := .ref l) rfl ?_)
  show wpAny _ _ (if (Value.ref l == Value.none) = true then _ else _) _ _ s
  rw [if_neg (show ¬ ((Value.ref l == Value.none) = true) from Bool.false_ne_true)]
  show wpAny _ _ (field (.ref it) 1 >>= _) _ _ s
  refine wpAny_bind (wpAny_field ho hd (x := .int i 0) rfl ?_)
  show wpAny _ _ (seqItems? (.ref l) >>= _) _ _ s
  refine wpAny_bind (wpAny_seqItems hol hdl ?_)
  simp only [Int.toNat_natCast, hx]
  refine wpAny_bind (wpAny_rule (wpAny_bind (wpAny_setField ho hd (by simp) ?_)))
  first
  | show wpAny _ _ (newExc (.type "StopIteration") [] >>= _) _ _ _
  | refine wpAny_bind (wpAny_letGo ?_)
  refine wpAny_bind ?_
  simp only [newExc, newTuple]
  refine wpAny_bind (wpAny_newObj_type ?_ (by size_fits))
  refine wpAny_bind (m := firstArgMember _ _) (wpAny_of_eq (a := Value.none) (by first | rfl | (simp only [firstArgMember]; rfl)) ?_)
  refine wpAny_newObj_type ?_ (by size_fits)
  simp only [raiseNew]
  refine wpAny_bind (wpAny_handled ?_)
  first | rw [show A.in1.handled = none from hh] | rw [hh]
  refine wpAny_bind (wpAny_pure (wpAny_throw ?_))
  exact hE _ _ (((Heap.SameBut.update ..).extBut.push _).push _) ⟨_, Heap.get?_push_size _ rfl, rfl⟩
end
theorem draws_tup {prog : Program} {w : World} {A : Around} (hh : A.handled = none) (it l : Addr) (hne : l ≠ it) (items : Array Value) :
    Draws prog w A it [it, l] items.size (fun i v => items[i]? = some v) (fun i h => h.IsTupleIter it l i ∧ h.IsTuple l items) where
  live := fun _ _ st => let ⟨o, ho, _⟩ := st.1; ⟨o, ho⟩
  frame := fun _ _ _ st hk => ⟨let ⟨o, ho, r⟩ := st.1; ⟨o, hk it (by simp) o ho, r⟩, let ⟨o, ho, r⟩ := st.2; ⟨o, hk l (by simp) o ho, r⟩⟩
  item := fun i s Q E hi st hQ => by
    refine nextOf_tup_item st.1 st.2 (x := items[i]) (by simp [hi]) fun h' hit' hs' => ?_
    exact hQ _ h' s.toks (by simp [hi]) ⟨hit', st.2.extBut hs'.extBut hne⟩ hs'
  done := fun s Q E st hE => nextOf_tup_end hh st.1 st.2 (by simp) hE
theorem meets_enum_newT (l : Addr) (items : Array Value) (n : Nat) (dct : Option Addr) (sl : Array (Option Value)) :
    Meets (Builtin.«enumerate.__new__» ⟨[.type "enumerate", .ref l], []⟩) (fun _ R s => s.heap.get? l = some { cls := .type "tuple", dict := dct, data := .seq items n, slots := sl } ∧
      R (.ok (.ret (.ref (s.heap.push { cls := .type "tuple_iterator", data := .fields #[.ref l, .int 0 0] }).objs.size)))
        { s with heap := (s.heap.push { cls := .type "tuple_iterator", data := .fields #[.ref l, .int 0 0] }).push { cls := .type "enumerate", data := .fields #[.none, .bool false, .ref s.heap.objs.size, rawInt 0, .none, .none] } }) :=
  .of_wp fun prog w A R s h => by
    obtain ⟨hp, g, d, tk, os⟩ := s; obtain ⟨hl, h⟩ := h
    have hsub := sub_enumerate
    have hL : Heap.IsTuple (Shared.heap ⟨hp, g, d, tk, os⟩) l items := ⟨_, hl, rfl, n, rfl⟩
    wp_walk using wpAny_loadPart' hl
    refine wpAny_stack_any fun st => wpAny_pure ?_
    split
    · rename_i c _ _ _ _ _
      cases (c == Value.type "enumerate")
      · wp_walk using wpAny_loadPart' hl, wpAny_pyIter_tuple hL
        exact ⟨_, rfl, h⟩
      · wp_walk using wpAny_loadPart' hl, wpAny_pyIter_tuple hL
        exact ⟨_, rfl, h⟩
    · wp_walk using wpAny_loadPart' hl, wpAny_pyIter_tuple hL
      exact ⟨_, rfl, h⟩
section
variable {prog : Program} {w : World} {A : Around} {E : Value → Shared → Prop} {s : Shared}
theorem call_enumerate_tup {l : Addr} {items : Array Value} {Q : Value → Shared → Prop} (hL : s.heap.IsTuple l items)
    (h : ∀ h', IsEnum h' (s.heap.objs.size + 1) s.heap.objs.size 0 .none → h'.IsTupleIter s.heap.objs.size l 0 → h'.objs.size = s.heap.objs.size + 2 →
      (∀ b o, s.heap.get? b = some o → h'.get? b = some o) → Q (.ref (s.heap.objs.size + 1)) { s with heap := h' }) :
    wpAny (model prog w) A (call (.type "enumerate") [.ref l]) Q E s := by
  obtain ⟨⟨c, dct, dt, sl⟩, hl, hc, n, hd⟩ := hL
  replace hc : c = .type "tuple" := hc
  replace hd : dt = .seq items n := hd
  subst hc hd
  refine callType_new F.called_enumerate (by decide) (F.typeCall_enumerate_1 _) (F.newCall_enumerate_1 _) (fun obj => F.args_object_init_2 obj _) F.entry_enumerate_new
    (meets_enum_newT l items n dct sl) ⟨hl, ?_⟩
  have hz : (s.heap.push { cls := .type "tuple_iterator", data := .fields #[.ref l, .int 0 0] }).objs.size = s.heap.objs.size + 1 := Heap.size_push ..
  show _ ∧ _
  rw [hz]
  have he : IsEnum ((s.heap.push { cls := .type "tuple_iterator", data := .fields #[.ref l, .int 0 0] }).push
      { cls := .type "enumerate", data := .fields #[.none, .bool false, .ref s.heap.objs.size, rawInt 0, .none, .none] }) (s.heap.objs.size + 1) s.heap.objs.size 0 .none := by
    have := Heap.get?_push_size (s.heap.push { cls := .type "tuple_iterator", data := .fields #[.ref l, .int 0 0] })
      (o := { cls := .type "enumerate", data := .fields #[.none, .bool false, .ref s.heap.objs.size, rawInt 0, .none, .none] }) rfl
    rw [hz] at this; exact this
  refine ⟨⟨_, he, rfl⟩, h _ he ⟨_, Heap.get?_push_of_some _ (Heap.get?_push_size _ rfl), rfl, rfl⟩ (by rw [Heap.size_push, hz]) fun b o x => Heap.get?_push_of_some _ (Heap.get?_push_of_some _ x)⟩
end
/-- the tuple at a, each item in a new pair -/
def IteT (K : PySem.W.Frag) (a : Addr) : It :=
  ⟨fun i H => ∃ (xs : List V) (x : V), SqT K H a xs ∧ xs[i]? = some x, fun i H v H' => ∃ T x, v = .ref T ∧ H T = none ∧ H' = upd H T (.tup [.int (i : Nat), x]) ∧ ∀ xs, SqT K H a xs → xs[i]? = some x, fun i H => ∃ xs : List V, SqT K H a xs ∧ xs.length ≤ i⟩
theorem turn_enumT {P : Program} {w : World} {K : PySem.W.Frag} {elts : List Expr} {kk : Nat} {tpos : Pos} (a e it : Addr) :
    Turn P w K (.Tuple elts kk tpos) (IteT K a) [e, it] e (fun i h => (∃ old, IsEnum h e it ((i : Nat) : Int) old) ∧ h.IsTupleIter it a i ∧ e ≠ it ∧ a ≠ it ∧ a ≠ e) where
  mem := by simp
  obj := fun i h st b hb => by
    obtain ⟨⟨old, he⟩, ⟨o, ho, hc, hd⟩, _⟩ := st
    have e' : b = e ∨ b = it := by simpa using hb
    rcases e' with z | z
    · rw [z]; exact ⟨_, he, fun v q => nomatch q⟩
    · rw [z]; exact ⟨o, ho, fun v q => by rw [hd] at q; cases q⟩
  keep := fun i h h' st k => let ⟨⟨old, he⟩, ⟨o, ho, r⟩, hne⟩ := st; ⟨⟨old, k e (by simp) _ he⟩, ⟨o, k it (by simp) o ho, r⟩, hne⟩
  item := by
    intro X hP hw hK hc i pins s σ H E I hf st hg
    subst hP hw hK
    obtain ⟨⟨old, he⟩, hit, hne, hai, hae⟩ := st
    obtain ⟨xs, x, hq, hx⟩ := hg
    obtain ⟨its, rv, p, hz⟩ := I.tuple hq
    obtain ⟨u, hu, ru⟩ := rv.get hx
    have hel : e < s.heap.objs.size := Heap.lt_size he
    have hil : it < s.heap.objs.size := by obtain ⟨_, q, _⟩ := hit; exact Heap.lt_size q
    have hlt : i < its.toArray.size := by
      have := (List.getElem?_eq_some_iff.mp hu).1
      simpa using this
    have Dr : Draws X.prog X.w X.A.in1 it [it, a] its.toArray.size (fun i v => its.toArray[i]? = some v) (fun i h => h.IsTupleIter it a i ∧ h.IsTuple a its.toArray) := draws_tup (by exact I.ok.hd hc) it a hai its.toArray
    refine wpAny_pyNext_enum_itemD Dr he ⟨hit, p⟩ hlt hne (by simp; exact ⟨hne, Ne.symm hae⟩) fun y h' tk hy ho hst hT hsz hk => ?_
    have hyu : y = u := by
      have h1 : its.toArray[i]? = some u := by simpa using hu
      rw [h1] at hy
      exact (Option.some.inj hy).symm
    subst hyu
    obtain ⟨hit', _⟩ := hst
    refine ⟨_, rfl, wpAny_letOwnedTupleGo_enum (s := { s with heap := h', toks := tk + 1 }) ho fun h'' he' sb => ?_⟩
    have hT2 : h''.get? s.heap.objs.size = some { cls := .type "tuple", data := .seq #[.int i tk, y] } := (sb.2 _ (Nat.ne_of_gt hel)).trans hT
    have new : ObjOk X.prog X.w (upd H s.heap.objs.size (.tup [.int (i : Nat), x])) h'' s.heap.objs.size (.tup [.int (i : Nat), x]) :=
      ⟨by show 2 ≤ sizeLine; decide, [.int i tk, y], .cons ⟨_, rfl⟩ (.cons ru .nil), ⟨_, hT2, rfl, _, rfl⟩⟩
    have I1 : Inv X pins σ (upd H s.heap.objs.size (.tup [.int (i : Nat), x])) { s with heap := h'', toks := tk + 1 } :=
      I.turnedNew (ch := [e, it]) (fun b ob hb q => (sb.2 b (fun z => hb (by simp [z]))).trans (hk b ob (fun z => hb (by simp [z])) (fun z => hb (by simp [z])) q)) hf (Nat.le_refl _) new
    refine ⟨.ref s.heap.objs.size, _, I1, rfl, ⟨_, x, rfl, I.hok.fresh (Nat.le_refl _), rfl, fun ys hy => by rw [I.tuple_inj hy hq]; exact hx⟩, ⟨⟨y, ?_⟩, ?_, hne, hai, hae⟩, fun b hb => ?_⟩
    · have e1 : ((i + 1 : Nat) : Int) = (i : Int) + 1 := by omega
      rw [e1]; exact he'
    · obtain ⟨o, ho1, r⟩ := hit'
      exact ⟨o, (sb.2 it (Ne.symm hne)).trans ho1, r⟩
    · have hb' : b < s.heap.objs.size := by
        have e' : b = e ∨ b = it := by simpa using hb
        rcases e' with z | z
        · rw [z]; exact hel
        · rw [z]; exact hil
      rw [upd_ne (Nat.ne_of_lt hb')]
      exact (hf b hb).1
  done := by
    intro X hP hw hK hc i pins s σ H E I hf st hg
    subst hP hw hK
    obtain ⟨⟨old, he⟩, hit, hne, hai, hae⟩ := st
    obtain ⟨xs, hq, hx⟩ := hg
    obtain ⟨its, rv, p, hz⟩ := I.tuple hq
    obtain ⟨f0, f1, f2, f3, f4, f5⟩ := hf it (by simp)
    have hl := rv.length
    have Dr : Draws X.prog X.w X.A.in1 it [it, a] i (fun i v => True) (fun j h => (j < i → False) ∧ h.IsTupleIter it a i ∧ h.IsTuple a its.toArray) := by
      refine ⟨fun _ _ st => let ⟨o, ho, _⟩ := st.2.1; ⟨o, ho⟩, fun _ _ _ st hk => ⟨st.1, let ⟨o, ho, r⟩ := st.2.1; ⟨o, hk it (by simp) o ho, r⟩, let ⟨o, ho, r⟩ := st.2.2; ⟨o, hk a (by simp) o ho, r⟩⟩, fun j s Q E hj st _ => (st.1 hj).elim, fun s Q E st hE => ?_⟩
      exact nextOf_tup_end (by exact I.ok.hd hc) st.2.1 st.2.2 (by simp; omega) hE
    exact wpAny_pyNext_enum_endD Dr he ⟨fun h => absurd h (Nat.lt_irrefl _), hit, p⟩ fun h' eb => ⟨rfl, I.turned (t' := s.toks) (fun b o hb q => eb b o hb q) f0 f1 f3 f4 f5⟩
  self := fun A i s Q E st h => let ⟨⟨_, he⟩, _⟩ := st; wpAny_pyIter_enum he h
def iEnumT (K : PySem.W.Frag) (ta : TA) : TI := fun σ H R => ta σ H fun vs H1 => ∃ a xs, vs = [.ref a] ∧ SqT K H1 a xs ∧ R (IteT K a) H1
theorem pi_enumT {X : Cx} {e : Expr} {ta : TA} {p pos tpos : Pos} {elts : List Expr} {kk : Nat} (hg : Gl X "enumerate") (hm : X.mg "enumerate" = none) (ha : PA X [e] ta) (hs : starEach [e] X.env = [(false, eval e X.env)] := by rfl) :
    PI X (.Tuple elts kk tpos) (.Call (.Name "enumerate" p) [e] [] pos) (iEnumT X.K ta) := by
  intro pins s σ H R I h
  refine Call_ (ld_blt I hg hm boot_enumerate (PyProof.Rows.callWith_type1 (thn (ha pos pins s σ H _ I h) fun us s1 ⟨vs, H1, I1, r1, q1⟩ => ?_) hs rfl))
  obtain ⟨a, xs, ex, hq, q⟩ := q1
  subst ex
  cases r1 with
  | cons r rr =>
    cases rr
    cases r
    obtain ⟨its, rv, p', hz⟩ := I1.tuple hq
    have hal : a < s1.heap.objs.size := by obtain ⟨_, z, _⟩ := p'; exact Heap.lt_size z
    refine call_enumerate_tup p' fun h' he hit hsz hk => wpAny_pyIter_enum he ?_
    have I2 : Inv X pins σ H1 { s1 with heap := h' } := I1.kept (t' := s1.toks) hk
    refine ⟨s1.heap.objs.size + 1, [s1.heap.objs.size + 1, s1.heap.objs.size], _, _, H1, rfl, I2, turn_enumT a (s1.heap.objs.size + 1) s1.heap.objs.size, ⟨⟨.none, he⟩, hit, Nat.succ_ne_self _, Nat.ne_of_lt hal, Nat.ne_of_lt (Nat.lt_succ_of_lt hal)⟩, fun b hb => ?_, q⟩
    have e' : b = s1.heap.objs.size + 1 ∨ b = s1.heap.objs.size := by simpa using hb
    have hle : s1.heap.objs.size ≤ b := by
      rcases e' with z | z
      · rw [z]; exact Nat.le_add_right _ _
      · rw [z]; exact Nat.le_refl _
    exact I1.fpOk hle (I1.hok.fresh hle)
/-- for i, x in enumerate(t) -/
theorem for_enumT {K : PySem.W.Frag} {a : Addr} {xs : List V} {g : TG} {tb : TS} {D : Ends} {σ : St} {H : Hp} (Pv : Nat → St → Hp → Prop) (h0 : Pv 0 σ H) (hl : ∀ i σ H, i ≤ xs.length → Pv i σ H → SqT K H a xs)
    (hs : ∀ i x σ H T, xs[i]? = some x → Pv i σ H → H T = none → g (.ref T) σ (upd H T (.tup [.int (i : Nat), x])) fun σ2 H2 => tb { D with nx := Pv (i + 1), ct := Pv (i + 1), bk := D.nx } σ2 H2) (hd : ∀ σ H, Pv xs.length σ H → D.nx σ H) :
    ∃ W : Nat → Nat → St → Hp → Prop, (∃ m, W 0 m σ H) ∧ ∀ i m σ H, W i m σ H →
      ((IteT K a).stop i H ∧ D.nx σ H) ∨ ((IteT K a).go i H ∧ ∃ N : St → Hp → Prop, (∀ σ' H', N σ' H' → ∃ m', m' < m ∧ W (i + 1) m' σ' H') ∧ ∀ y H', (IteT K a).yld i H y H' → g y σ H' fun σ2 H2 => tb { D with nx := N, ct := N, bk := D.nx } σ2 H2) := by
  refine ⟨fun i m σ H => m = xs.length - i ∧ i ≤ xs.length ∧ Pv i σ H, ⟨xs.length, by simp, Nat.zero_le _, h0⟩, ?_⟩
  rintro i m σ H ⟨rfl, hi, p⟩
  have q := hl i σ H hi p
  by_cases hlt : i < xs.length
  · refine .inr ⟨⟨xs, xs[i], q, by simp [hlt]⟩, Pv (i + 1), fun σ' H' p' => ⟨xs.length - (i + 1), by omega, rfl, hlt, p'⟩, fun y H' hy => ?_⟩
    obtain ⟨T, x, e1, e2, e3, e4⟩ := hy
    subst e1 e3
    exact hs i x σ H T (e4 xs q) p e2
  · have e : i = xs.length := by omega
    subst e
    exact .inl ⟨⟨xs, q, Nat.le_refl _⟩, hd σ H p⟩
/-! ### xs[::-1] -/
section
variable {X : Cx} {e : Expr} {te : TE} {pos p2 p3 p4 : Pos} {k1 : Nat}
theorem pe_rev (he : PE X e te) : PE X (.Subscript e (.Slice none none (some (.UnaryOp .USub (.Constant (.int 1) k1 p3) p4)) p2) pos)
    (fun σ H Q => te σ H fun x H1 => ∃ a xs, x = .ref a ∧ SqL X.K H1 a xs ∧ ∀ p, H1 p = none → Q (.ref p) (upd H1 p (.lst xs.reverse))) := by
  intro pins s σ H Q I h
  refine Subscript_ (thn (he pins s σ H _ I h) fun v s1 ⟨x, H1, I1, r1, a, xs, ex, hx, q⟩ => ?_)
  subst ex
  cases r1
  have hst : PO X (some (.UnaryOp .USub (.Constant (.int 1) k1 p3) p4)) (tPart (tUn (rU fun i => .int (-i)) (tC (.int 1)))) := po_some (pe_un un_neg pe_int)
  refine wpAny_Slice (thn (po_none (X := X) pins s1 σ H1 (fun o H2 => o = none ∧ H2 = H1) I1 ⟨rfl, rfl⟩) fun vl s2 ⟨l, H2, I2, pl, el, eh⟩ => thn (po_none (X := X) pins s2 σ H2 (fun o H3 => o = none ∧ H3 = H1) I2 ⟨rfl, eh⟩) fun vu s3 ⟨u, H3, I3, pu, eu, eh3⟩ => ?_)
  subst el eu eh
  refine thn (hst pins s3 σ H3 (fun o H4 => o = some (-1) ∧ H4 = H2) I3 ⟨1, rfl, _, rfl, rfl, eh3⟩) fun vs s4 ⟨st, H4, I4, ps, es, eh4⟩ => ?_
  subst es eh4
  obtain ⟨its, r, ht, hz⟩ := I4.list hx
  have hlen := r.length
  have I5 : Inv X pins σ H4 { s4 with heap := s4.heap.push { cls := .type "slice", data := .fields #[vl, vu, vs] } } := I4.kept (t' := s4.toks) fun b ob q => Heap.get?_push_of_some _ q
  obtain ⟨its', r', ht', hz'⟩ := I5.list hx
  show wpAny (model X.prog X.w) X.A (subscriptTail e (.Slice none none (some (.UnaryOp .USub (.Constant (.int 1) k1 p3) p4)) p2) (.ref a) (.ref s4.heap.objs.size)) (EP X pins σ Q) X.xe { s4 with heap := s4.heap.push { cls := .type "slice", data := .fields #[vl, vu, vs] } }
  refine tail_any (ops := [.ref a, .ref s4.heap.objs.size]) ht'.isList.typeIs slot_list_getitem.lookup ?_ (by with_unfolding_all rfl)
  refine wpAny_getItem_list_slice ht'.isList (Heap.IsSliceOf.new ..) pl pu ps (by decide) ?_ (by rw [List.size_toArray]; have := r'.length; omega)
  rw [PySem.W.krv_pick]
  have rr : Vals xs.reverse its'.reverse := by
    have gen : ∀ {xs : List V} {us : List Value}, Vals xs us → Vals xs.reverse us.reverse := fun {xs us} h => by
      induction h with
      | nil => exact .nil
      | cons a _ ih => rw [List.reverse_cons, List.reverse_cons]; exact ih.append (.cons a .nil)
    exact gen r'
  refine ⟨.ref (s4.heap.push { cls := .type "slice", data := .fields #[vl, vu, vs] }).objs.size, _, I5.laid (t' := s4.toks) (o := .lst xs.reverse) (fun b ob q => Heap.get?_push_of_some _ q) (Nat.le_refl _) ?_, rfl, q _ (I5.hok.fresh (Nat.le_refl _))⟩
  exact ⟨by rw [List.length_reverse]; exact hz, _, 0, rr, Heap.get?_push_size (s4.heap.push { cls := .type "slice", data := .fields #[vl, vu, vs] }) rfl⟩
end
end L2
set_option maxHeartbeats 4000000
set_option linter.all false
set_option maxRecDepth 100000
namespace L2
open PySem PySem.Spec PyProof.Rows
/-! ### heights, texts -/
mutual
def Tr.ht : Tr → Nat
  | .node _ ks => 1 + Tr.hts ks
  | .bad => 1
def Tr.hts : List Tr → Nat
  | [] => 0
  | t :: r => max t.ht (Tr.hts r)
end
theorem ht_get : ∀ {ts : List Tr} {i : Nat} {t : Tr}, ts[i]? = some t → t.ht ≤ Tr.hts ts
  | [], i, t, e => by simp at e
  | a :: r, 0, t, e => by
    cases e
    show a.ht ≤ max a.ht (Tr.hts r)
    omega
  | a :: r, i + 1, t, e => by
    have := ht_get (ts := r) (i := i) (t := t) (by simpa using e)
    show t.ht ≤ max a.ht (Tr.hts r)
    omega
/-! the text: its signs -/
mutual
def Tr.tl : Tr → List Nat
  | .node n ks => n.cps.toList ++ (if ks.isEmpty then [] else 40 :: ((Tr.cl ks).tail ++ [41]))
  | .bad => []
def Tr.cl : List Tr → List Nat
  | [] => []
  | t :: r => 32 :: (t.tl ++ Tr.cl r)
end
def Tr.jl (ks : List Tr) : List Nat := (Tr.cl ks).tail
theorem tl_nil (n : Str) : (Tr.node n []).tl = n.cps.toList := by
  show n.cps.toList ++ (if ([] : List Tr).isEmpty then [] else _) = _
  simp
theorem tl_cons (n : Str) (t : Tr) (r : List Tr) : (Tr.node n (t :: r)).tl = n.cps.toList ++ 40 :: (t.tl ++ (Tr.cl r ++ [41])) := by
  show n.cps.toList ++ (if (t :: r).isEmpty then [] else 40 :: ((32 :: (t.tl ++ Tr.cl r)).tail ++ [41])) = _
  simp
def Tr.txt (t : Tr) : Str := ⟨t.tl.toArray⟩
theorem txt_len (t : Tr) : t.txt.length = t.tl.length := by simp [Tr.txt, Str.length]
theorem str_ext {x y : Str} (h : x.cps.toList = y.cps.toList) : x = y := by
  cases x; cases y
  congr
  exact Array.toList_inj.mp h
/-! ### lists by a function -/
def fl {α : Type} (n : Nat) (f : Nat → α) : List α := (List.range n).map f
end L2
set_option maxHeartbeats 4000000
set_option linter.all false
set_option maxRecDepth 100000
namespace L2
open PySem PySem.Spec PyProof.Rows
def pfF (ps : List Int) (k : Nat) : Nat := (ps.getD k 0).toNat
end L2
set_option maxHeartbeats 4000000
set_option linter.all false
set_option maxRecDepth 100000
namespace L2
open PySem PySem.Spec PyProof.Rows
def jS (ks : List Tr) : Str := ⟨(Tr.jl ks).toArray⟩
theorem lp_is : ("(" : Str) = ⟨#[40]⟩ := by decide +kernel
theorem rp_is : (")" : Str) = ⟨#[41]⟩ := by decide +kernel
theorem bl_is : (" " : Str) = ⟨#[32]⟩ := by decide +kernel
theorem em_is : ("" : Str) = ⟨#[]⟩ := by decide +kernel
theorem jS_nil : jS [] = "" := by rw [em_is]; rfl
theorem jl_cons (t : Tr) (r : List Tr) : Tr.jl (t :: r) = t.tl ++ Tr.cl r := rfl
theorem cl_jl {ks : List Tr} (h : ks ≠ []) : Tr.cl ks = 32 :: Tr.jl ks := by
  cases ks with
  | nil => exact absurd rfl h
  | cons t r => rfl
theorem txt_nil (n : Str) : (Tr.node n []).txt = n := by
  refine str_ext ?_
  show (Tr.node n []).tl.toArray.toList = _
  rw [tl_nil]
theorem txt_cons {n : Str} {ks : List Tr} (h : ks ≠ []) : (Tr.node n ks).txt = n ++ "(" ++ jS ks ++ ")" := by
  refine str_ext ?_
  rw [cps_app, cps_app, cps_app, lp_is, rp_is]
  cases ks with
  | nil => exact absurd rfl h
  | cons t r =>
    show (Tr.node n (t :: r)).tl.toArray.toList = _
    rw [tl_cons]
    show n.cps.toList ++ 40 :: (t.tl ++ (Tr.cl r ++ [41])) = n.cps.toList ++ [40] ++ (Tr.jl (t :: r)).toArray.toList ++ [41]
    rw [jl_cons]
    simp
theorem jS_one (t : Tr) : jS [t] = t.txt := by
  refine str_ext ?_
  show (t.tl ++ []).toArray.toList = t.tl.toArray.toList
  simp
theorem jS_cons {t : Tr} {ks : List Tr} (h : ks ≠ []) : jS (t :: ks) = t.txt ++ " " ++ jS ks := by
  refine str_ext ?_
  rw [cps_app, cps_app, bl_is]
  show (Tr.jl (t :: ks)).toArray.toList = t.tl.toArray.toList ++ [32] ++ (Tr.jl ks).toArray.toList
  rw [jl_cons, cl_jl h]
  simp
end L2
set_option maxHeartbeats 4000000
set_option linter.all false
set_option maxRecDepth 100000
namespace L2
open PySem PySem.Spec PyProof.Rows
/-! ### pieces: texts and documents -/
inductive Pz where
  | s (z : Str)
  | d (t : Tr)
def PzAt (H : Hp) (v : V) : Pz → Prop
  | .s z => v = .str z
  | .d t => TrAt H v t
inductive PzsAt (H : Hp) : List V → List Pz → Prop
  | nil : PzsAt H [] []
  | cons {v : V} {t : Pz} {vs : List V} {ts : List Pz} : PzAt H v t → PzsAt H vs ts → PzsAt H (v :: vs) (t :: ts)
theorem PzAt.kp {H H' : Hp} {v : V} (k : Kp H H') : ∀ {t : Pz}, PzAt H v t → PzAt H' v t
  | .s _, h => h
  | .d _, h => TrAt.kp k h
theorem PzsAt.kp {H H' : Hp} {vs : List V} {ts : List Pz} (k : Kp H H') (h : PzsAt H vs ts) : PzsAt H' vs ts := by
  induction h with
  | nil => exact .nil
  | cons a _ ih => exact .cons (a.kp k) ih
theorem PzsAt.len {H : Hp} {vs : List V} {ts : List Pz} (h : PzsAt H vs ts) : vs.length = ts.length := by
  induction h with
  | nil => rfl
  | cons a _ ih => exact congrArg (· + 1) ih
theorem PzsAt.app {H : Hp} {vs us : List V} {ts ss : List Pz} (h : PzsAt H vs ts) (h2 : PzsAt H us ss) : PzsAt H (vs ++ us) (ts ++ ss) := by
  induction h with
  | nil => exact h2
  | cons a _ ih => exact .cons a ih
theorem PzsAt.rev {H : Hp} {vs : List V} {ts : List Pz} (h : PzsAt H vs ts) : PzsAt H vs.reverse ts.reverse := by
  induction h with
  | nil => exact .nil
  | cons a _ ih => rw [List.reverse_cons, List.reverse_cons]; exact ih.app (.cons a .nil)
theorem PzsAt.last {H : Hp} : ∀ {vs : List V} {ts : List Pz}, PzsAt H vs ts → vs ≠ [] → ∃ v t ts', vs[vs.length - 1]? = some v ∧ PzAt H v t ∧ PzsAt H vs.dropLast ts' ∧ ts = ts' ++ [t]
  | _, _, .nil, h => absurd rfl h
  | _, _, .cons (v := v) (t := t) h .nil, _ => ⟨v, t, [], rfl, h, .nil, rfl⟩
  | _, _, .cons (v := v) (t := t) h (.cons (v := v2) (t := t2) h2 h3), _ => by
    obtain ⟨w, s, ts', e1, e2, e3, e4⟩ := PzsAt.last (.cons h2 h3) (by simp)
    refine ⟨w, s, t :: ts', ?_, e2, .cons h e3, by rw [e4]; rfl⟩
    simpa using e1
def Pz.l : Pz → List Nat
  | .s z => z.cps.toList
  | .d t => t.tl
def itl : List Pz → List Nat
  | [] => []
  | t :: r => t.l ++ itl r
theorem itl_app : ∀ (a b : List Pz), itl (a ++ b) = itl a ++ itl b
  | [], b => rfl
  | t :: r, b => by
    show t.l ++ itl (r ++ b) = (t.l ++ itl r) ++ itl b
    rw [itl_app r b, List.append_assoc]
mutual
def Tr.w : Tr → Nat
  | .node _ ks => 3 + Tr.ws ks
  | .bad => 1
def Tr.ws : List Tr → Nat
  | [] => 0
  | t :: r => 1 + t.w + Tr.ws r
end
mutual
theorem w_size : ∀ t : Tr, t.w + 1 ≤ 4 * t.size
  | .node _ ks => by
    have := ws_size ks
    show 3 + Tr.ws ks + 1 ≤ 4 * (1 + Tr.sizes ks)
    omega
  | .bad => by show 1 + 1 ≤ 4 * 1; omega
theorem ws_size : ∀ ts : List Tr, Tr.ws ts ≤ 4 * Tr.sizes ts
  | [] => Nat.le_refl _
  | t :: r => by
    have := w_size t
    have := ws_size r
    show 1 + t.w + Tr.ws r ≤ 4 * (t.size + Tr.sizes r)
    omega
end
def Pz.w : Pz → Nat
  | .s _ => 1
  | .d t => t.w
def itw : List Pz → Nat
  | [] => 0
  | t :: r => t.w + itw r
theorem itw_app : ∀ (a b : List Pz), itw (a ++ b) = itw a + itw b
  | [], b => by show itw b = 0 + itw b; omega
  | t :: r, b => by
    show t.w + itw (r ++ b) = (t.w + itw r) + itw b
    rw [itw_app r b]
    omega
theorem itw_rev : ∀ a : List Pz, itw a.reverse = itw a
  | [] => rfl
  | t :: r => by
    rw [List.reverse_cons, itw_app, itw_rev r]
    show itw r + (t.w + 0) = t.w + itw r
    omega
theorem Pz.w_pos : ∀ t : Pz, 1 ≤ t.w
  | .s _ => Nat.le_refl _
  | .d (.node _ ks) => by show 1 ≤ 3 + Tr.ws ks; omega
  | .d .bad => Nat.le_refl _
theorem itw_len : ∀ a : List Pz, a.length ≤ itw a
  | [] => Nat.le_refl _
  | t :: r => by
    have := itw_len r
    have := Pz.w_pos t
    show r.length + 1 ≤ t.w + itw r
    omega
/-- children with what stands ahead of each -/
def pk : Bool → List Tr → List Pz
  | _, [] => []
  | b, t :: r => .s (if b then "(" else " ") :: .d t :: pk false r
theorem pk_snoc : ∀ (b : Bool) (l : List Tr) (t : Tr), pk b (l ++ [t]) = pk b l ++ [.s (if (b && l.isEmpty) = true then "(" else " "), .d t]
  | b, [], t => by simp [pk]
  | b, x :: r, t => by
    have ih := pk_snoc false r t
    show .s (if b then "(" else " ") :: .d x :: pk false (r ++ [t]) = (.s (if b then "(" else " ") :: .d x :: pk false r) ++ _
    rw [ih]
    simp
theorem pk_w : ∀ (b : Bool) (l : List Tr), itw (pk b l) = Tr.ws l
  | _, [] => rfl
  | b, t :: r => by
    show 1 + (t.w + itw (pk false r)) = 1 + t.w + Tr.ws r
    rw [pk_w false r]
    omega
theorem pk_l : ∀ l : List Tr, itl (pk false l) = Tr.cl l
  | [] => rfl
  | t :: r => by
    show (" " : Str).cps.toList ++ (t.tl ++ itl (pk false r)) = 32 :: (t.tl ++ Tr.cl r)
    rw [pk_l r, bl_is]
    rfl
def pcs (n : Str) (ks : List Tr) : List Pz := if ks.isEmpty then [.s n] else .s n :: (pk true ks ++ [.s ")"])
theorem pcs_l (n : Str) (ks : List Tr) : itl (pcs n ks) = (Tr.node n ks).tl := by
  cases ks with
  | nil =>
    rw [tl_nil]
    show n.cps.toList ++ [] = _
    rw [List.append_nil]
  | cons t r =>
    rw [tl_cons]
    show n.cps.toList ++ itl (pk true (t :: r) ++ [.s ")"]) = _
    rw [itl_app]
    show n.cps.toList ++ ((("(" : Str).cps.toList ++ (t.tl ++ itl (pk false r))) ++ ((")" : Str).cps.toList ++ [])) = _
    rw [pk_l, lp_is, rp_is]
    show n.cps.toList ++ ((40 :: (t.tl ++ Tr.cl r)) ++ [41]) = _
    simp
theorem pcs_w (n : Str) (ks : List Tr) : itw (pcs n ks) < (Tr.node n ks).w := by
  cases ks with
  | nil => show 1 + 0 < 3 + 0; omega
  | cons t r =>
    show 1 + itw (pk true (t :: r) ++ [.s ")"]) < 3 + Tr.ws (t :: r)
    rw [itw_app, pk_w]
    show 1 + (Tr.ws (t :: r) + (1 + 0)) < _
    omega
/-- texts one behind the other -/
def catL (ys : List Str) : List Nat := ys.flatMap fun y => y.cps.toList
theorem catL_snoc (ys : List Str) (z : Str) : catL (ys ++ [z]) = catL ys ++ z.cps.toList := by
  unfold catL
  rw [List.flatMap_append]
  simp
mutual
theorem size_w : ∀ t : Tr, t.size ≤ t.w
  | .node _ ks => by
    have := sizes_ws ks
    show 1 + Tr.sizes ks ≤ 3 + Tr.ws ks
    omega
  | .bad => Nat.le_refl _
theorem sizes_ws : ∀ ts : List Tr, 2 * Tr.sizes ts ≤ 2 * Tr.ws ts
  | [] => Nat.le_refl _
  | t :: r => by
    have := size_w t
    have := sizes_ws r
    show 2 * (t.size + Tr.sizes r) ≤ 2 * (1 + t.w + Tr.ws r)
    omega
end
theorem join_cat : ∀ ys : List Str, (Txt.join "" ys).cps.toList = catL ys := by
  intro ys
  have e0 : Txt.join "" ys = Str.join "" ys := PySem.StrLaws.glued_eq_join "" ys
  rw [e0]
  clear e0
  induction ys with
  | nil => rfl
  | cons x r ih =>
    cases r with
    | nil => show x.cps.toList = x.cps.toList ++ []; rw [List.append_nil]
    | cons y r =>
      show (x ++ "" ++ Str.join "" (y :: r)).cps.toList = x.cps.toList ++ catL (y :: r)
      rw [cps_app, cps_app, ih, em_is]
      simp
theorem cat_len : ∀ ys : List Str, (ys.map (·.length)).sum = (catL ys).length
  | [] => rfl
  | x :: r => by
    have ih := cat_len r
    show x.length + (r.map (·.length)).sum = (x.cps.toList ++ catL r).length
    rw [ih, List.length_append]
    have : x.cps.toList.length = x.length := by simp [Str.length]
    omega
end L2
set_option maxHeartbeats 4000000
set_option linter.all false
set_option maxRecDepth 100000
namespace L2
open PySem PySem.Spec PyProof.Rows
theorem le_chain (c : Nat) : (!decide ((⟨#[c]⟩ : Str).cps.toList < ("a" : Str).cps.toList)) = !decide (c < 97) ∧ (!decide (("z" : Str).cps.toList < (⟨#[c]⟩ : Str).cps.toList)) = !decide (122 < c) := by
  have e97 : (("a" : Str).cps.toList) = [97] := by decide +kernel
  have e122 : (("z" : Str).cps.toList) = [122] := by decide +kernel
  exact ⟨by rw [e97]; exact le_sign 97 c, by rw [e122]; exact le_sign c 122⟩
/-! ### signs of a text -/
def sgS (l : List Nat) : Str := ⟨(l.take 1).toArray⟩
theorem len_toList (z : Str) : z.cps.toList.length = z.length := by simp [Str.length]
theorem cut_nat {z : Str} {a b : Nat} (hab : a ≤ b) (hb : b ≤ z.length) : cutS z (some (a : Int)) (some (b : Int)) = ⟨((z.cps.toList.drop a).take (b - a)).toArray⟩ := by
  unfold cutS
  rw [HT.sIx_nat, HT.sIx_nat, Nat.min_eq_left (show a ≤ z.length by omega), Nat.min_eq_left hb]
theorem cut_sign {z : Str} {a : Nat} (ha : a ≤ z.length) : cutS z (some (a : Int)) (some ((a : Int) + 1)) = sgS (z.cps.toList.drop a) := by
  have e : ((a : Int) + 1) = ((a + 1 : Nat) : Int) := by omega
  rw [e]
  unfold cutS sgS
  rw [HT.sIx_nat, HT.sIx_nat, Nat.min_eq_left ha]
  by_cases h : a + 1 ≤ z.length
  · rw [Nat.min_eq_left h]
    have : a + 1 - a = 1 := by omega
    rw [this]
  · have e2 : a = z.length := by omega
    have e3 : z.cps.toList.drop a = [] := by rw [List.drop_eq_nil_iff, len_toList]; omega
    rw [e3]
    simp
theorem sgS_cons (c : Nat) (r : List Nat) : sgS (c :: r) = ⟨#[c]⟩ := rfl
theorem sgS_lp (r : List Nat) : sgS (40 :: r) = "(" := by rw [lp_is]; rfl
theorem sgS_rp (r : List Nat) : sgS (41 :: r) = ")" := by rw [rp_is]; rfl
theorem sgS_bl (r : List Nat) : sgS (32 :: r) = " " := by rw [bl_is]; rfl
/-! ### documents half read -/
structure Fr where
  n : Str
  d : List Tr
  td : List Tr
  c : Addr
def plug : List Fr → Tr → Tr
  | [], t => t
  | f :: fs, t => plug fs (.node f.n (f.d ++ t :: f.td))
theorem plug_size : ∀ (fs : List Fr) (t : Tr), t.size ≤ (plug fs t).size
  | [], t => Nat.le_refl _
  | f :: fs, t => by
    have h := plug_size fs (.node f.n (f.d ++ t :: f.td))
    have e : (Tr.node f.n (f.d ++ t :: f.td)).size = 1 + Tr.sizes (f.d ++ t :: f.td) := rfl
    have e2 : Tr.sizes (f.d ++ t :: f.td) = Tr.sizes f.d + (t.size + Tr.sizes f.td) := by rw [sizes_app]; rfl
    show t.size ≤ (plug fs (.node f.n (f.d ++ t :: f.td))).size
    omega
theorem plug_len (f : Fr) (fs : List Fr) (t : Tr) : f.d.length + 1 ≤ (plug (f :: fs) t).size := by
  have h := plug_size fs (.node f.n (f.d ++ t :: f.td))
  have e : (Tr.node f.n (f.d ++ t :: f.td)).size = 1 + Tr.sizes (f.d ++ t :: f.td) := rfl
  have e2 : Tr.sizes (f.d ++ t :: f.td) = Tr.sizes f.d + (t.size + Tr.sizes f.td) := by rw [sizes_app]; rfl
  have e3 := len_le_sizes f.d
  show f.d.length + 1 ≤ (plug fs (.node f.n (f.d ++ t :: f.td))).size
  omega
theorem plug_deep : ∀ (fs : List Fr) (t : Tr), fs.length + t.size ≤ (plug fs t).size
  | [], t => by show 0 + t.size ≤ t.size; omega
  | f :: fs, t => by
    have h := plug_deep fs (.node f.n (f.d ++ t :: f.td))
    have e : (Tr.node f.n (f.d ++ t :: f.td)).size = 1 + Tr.sizes (f.d ++ t :: f.td) := rfl
    have e2 : Tr.sizes (f.d ++ t :: f.td) = Tr.sizes f.d + (t.size + Tr.sizes f.td) := by rw [sizes_app]; rfl
    show fs.length + 1 + t.size ≤ (plug fs (.node f.n (f.d ++ t :: f.td))).size
    omega
inductive FrsAt (H : Hp) : List V → List Fr → Prop
  | nil : FrsAt H [] []
  | cons {a : Addr} {f : Fr} {vs us : List V} {fs : List Fr} : H a = some (.tup [.str f.n, .ref f.c]) → H f.c = some (.lst vs) → TrsAt H vs f.d → FrsAt H us fs → (∀ g ∈ fs, g.c ≠ f.c) → FrsAt H (.ref a :: us) (f :: fs)
theorem FrsAt.len {H : Hp} {us : List V} {fs : List Fr} (h : FrsAt H us fs) : us.length = fs.length := by
  induction h with
  | nil => rfl
  | cons _ _ _ _ _ ih => exact congrArg (· + 1) ih
theorem FrsAt.same {H H' : Hp} {us : List V} {fs : List Fr} (s : Same H H') (h : FrsAt H us fs) : FrsAt H' us fs := by
  induction h with
  | nil => exact .nil
  | cons a b c _ e ih => exact .cons (s _ _ a) (s _ _ b) (c.kp (Kp.same s)) ih e
theorem FrsAt.upd {H : Hp} {us : List V} {fs : List Fr} {B : Addr} {xs ys : List V} (h : FrsAt H us fs) (hB : H B = some (.lst xs)) (hn : ∀ f ∈ fs, f.c ≠ B) : FrsAt (upd H B (.lst ys)) us fs := by
  induction h with
  | nil => exact .nil
  | cons a b c _ e ih =>
    refine .cons ((Kp.lset hB).tup _ _ a) ?_ (c.kp (Kp.lset hB)) (ih fun g hg => hn g (List.mem_cons_of_mem _ hg)) e
    rw [upd_ne (hn _ (List.mem_cons_self ..))]
    exact b
theorem FrsAt.have_ {H : Hp} {us : List V} {fs : List Fr} (h : FrsAt H us fs) : ∀ f ∈ fs, ∃ vs, H f.c = some (.lst vs) := by
  induction h with
  | nil => exact fun f hf => (nomatch hf)
  | cons a b c _ e ih =>
    intro f hf
    rcases List.mem_cons.mp hf with z | z
    · rw [z]; exact ⟨_, b⟩
    · exact ih f z
theorem at_last {l : List V} {x : V} : atI (x :: l).reverse (-1) = some x := by
  unfold atI
  have e : ixN (x :: l).reverse.length (-1) = some l.length := by
    unfold ixN
    rw [if_neg (by decide), if_pos (by simp; omega)]
    simp
    omega
  rw [e]
  show (x :: l).reverse[l.length]? = some x
  rw [List.reverse_cons, List.getElem?_append_right (by simp)]
  simp
theorem last_rev {l : List V} {x : V} : (x :: l).reverse[(x :: l).reverse.length - 1]? = some x := by
  rw [List.reverse_cons, List.getElem?_append_right (by simp)]
  simp
theorem dropLast_rev {l : List V} {x : V} : (x :: l).reverse.dropLast = l.reverse := by
  rw [List.reverse_cons, List.dropLast_concat]
end L2
set_option maxHeartbeats 4000000
set_option linter.all false
set_option maxRecDepth 100000
set_option maxHeartbeats 4000000
set_option linter.all false
set_option maxRecDepth 100000
namespace L2
open PySem PySem.Spec PyProof.Rows
def bmV : List Value := [.type "ValueError", .type "Exception", .type "BaseException", .type "object"]
/-- own classes above ValueError -/
def overV : List Value → Bool
  | .ref _ :: r => overV r
  | l => l == bmV
end L2
set_option maxHeartbeats 4000000
set_option linter.all false
set_option maxRecDepth 100000
namespace L2
open PySem PySem.Spec PyProof.Rows
/-- an own class above ValueError -/
structure XCls (K : PySem.W.Frag) (C : Addr) : Prop where
  ex : ∃ (nm q : Str) (N : Addr) (bs bm : List Value) (sn : List Str) (sub : List Value) (ab : Bool) (col : Option Bool) (dd : Option Addr) (k0 k1 k2 k3 k5 : Option Value),
    K.lookup C = some (excClassObj nm q C N bs bm true sn sub ab col dd k0 k1 k2 k3 k5 "ValueError.__new__") ∧ PySem.W.tailIn K bmV bm = true ∧ overV bm = true
/-- the own class whose __init__ is ValueError's -/
structure XBase (K : PySem.W.Frag) (G : Addr) : Prop where
  ga : PySem.W.specialIn K (.ref G) "__getattribute__" = some (some (.builtin "type.__getattribute__"))
  reads : PySem.W.readsIn K G (.type "type") = true
  find : PySem.W.findCls K (.ref G) (.type "type") "__init__" = some (.val (.builtin "ValueError.__init__"))
end L2
set_option maxHeartbeats 4000000
set_option linter.all false
set_option maxRecDepth 100000
namespace L2
open PySem PySem.Spec PyProof.Rows
/-- an own class above ValueError with an __init__ of its own -/
structure XMk (K : PySem.W.Frag) (C fI : Addr) : Prop where
  ex : ∃ (nm q : Str) (N : Addr) (bs bm : List Value) (sn : List Str) (sub : List Value) (ab : Bool) (col : Option Bool) (dd : Option Addr) (k0 k1 k2 k3 k5 : Option Value),
    K.lookup C = some (excClassObj nm q C N bs bm true sn sub ab col dd k0 k1 k2 k3 k5 "ValueError.__new__") ∧ PySem.W.tailIn K bmV bm = true ∧ overV bm = true ∧ PySem.W.nsOkIn K N = true ∧ PySem.W.nsIn K N "__init__" = some (some (.ref fI))
  fn : PySem.W.isFn K (.ref fI) = true
  kp : PySem.W.keepIn K (.ref C) = true
theorem XMk.cls {K : PySem.W.Frag} {C fI : Addr} (M : XMk K C fI) : XCls K C := by
  obtain ⟨nm, q', N, bs, bm, sn, sub, ab, col, dd, k0, k1, k2, k3, k5, hC, hT, hO, _⟩ := M.ex
  exact ⟨nm, q', N, bs, bm, sn, sub, ab, col, dd, k0, k1, k2, k3, k5, hC, hT, hO⟩
end L2
set_option maxHeartbeats 4000000
set_option linter.all false
set_option maxRecDepth 100000
set_option maxHeartbeats 4000000
set_option linter.all false
set_option maxRecDepth 100000
set_option maxHeartbeats 4000000
set_option linter.all false
set_option maxRecDepth 100000
namespace L2
open PySem PySem.Spec PyProof.Rows
/-- an exception: its class, its dict -/
def xcP (a C : Addr) (d : Option Addr) (h : Heap) : Prop := ∃ (o : Obj) (vs : Array Value), h.get? a = some o ∧ o.cls = .ref C ∧ o.dict = d ∧ o.data = .fields vs ∧ vs.size = 6
def XcO (a C : Addr) (d : Option Addr) : HO := .ext (xcP a C d)
/-- the exception's last entry -/
def Ent (h0 : Heap) (H' : Hp) (a : Addr) (h : Heap) : Prop := ∃ (o : Obj) (vs : Array Value) (T : Addr) (oT : Obj) (ts : Array Value), h.get? a = some o ∧ o.data = .fields vs ∧ vs[1]? = some (.ref T) ∧ h0.get? T = none ∧ H' T = none ∧ T ≠ a ∧ h.get? T = some oT ∧ oT.data = .fields ts ∧ ts[3]? = some .none
/-- how an exception lies behind a call -/
def CX1 (P : Program) (w : World) : CXT := fun outer H s E e s' => ∃ a C d H', e = .ref a ∧ s'.os = s.os ∧ AllBare s'.gens ∧ Un (frs outer) [] H H' s.heap s'.heap ∧ HOk P w H' s'.heap ∧ H' a = some (XcO a C d) ∧ s.heap.get? a = none ∧ Ent s.heap H' a s'.heap ∧ E e d H'
end L2
set_option maxHeartbeats 4000000
set_option linter.all false
set_option maxRecDepth 100000
set_option maxHeartbeats 4000000
set_option linter.all false
set_option maxRecDepth 100000
set_option maxHeartbeats 4000000
set_option linter.all false
set_option maxRecDepth 100000
set_option maxHeartbeats 4000000
set_option linter.all false
set_option maxRecDepth 100000
set_option maxHeartbeats 4000000
set_option linter.all false
set_option maxRecDepth 100000
namespace L2
open PySem PySem.Spec PyProof.Rows
section
variable {X : Cx}
abbrev Cx.aside (X : Cx) (pn : List (Addr × Obj)) (xe : Value → Shared → Prop) : Cx := { X with pn := pn, xe := xe }
theorem Cx.Ok.aside {X : Cx} (ok : X.Ok) (pn : List (Addr × Obj)) (xe : Value → Shared → Prop) : (X.aside pn xe).Ok :=
  ⟨ok.mod, ok.kind, ok.glob, ok.blt, ok.above, ok.inj, ok.has, ok.cab, ok.hd, ok.frames, ok.stk, ok.exf, ok.bs, ok.bsz, ok.noex, ok.exfs, ok.funs, ok.frf⟩
theorem Inv.aside {pins : List (Addr × Obj)} {σ : St} {H : Hp} {s : Shared} (I : Inv X pins σ H s) (xe : Value → Shared → Prop) : Inv (X.aside (X.pn ++ pins) xe) [] σ H s :=
  ⟨I.ok.aside _ _, I.os, I.bare, I.base, I.loc, I.cell, I.free, I.freeC, fun p hp => I.pin p (by rwa [List.append_nil] at hp), I.hok, I.len⟩
theorem Inv.back {pins pins' : List (Addr × Obj)} {σ : St} {H : Hp} {s : Shared} {xe : Value → Shared → Prop} (ok : X.Ok) (I : Inv (X.aside (X.pn ++ pins) xe) pins' σ H s) : Inv X pins σ H s :=
  ⟨ok, I.os, I.bare, I.base, I.loc, I.cell, I.free, I.freeC, fun p hp => I.pin p (List.mem_append_left _ hp), I.hok, I.len⟩
theorem SP.back {pins pins' : List (Addr × Obj)} {s : Shared} {xe : Value → Shared → Prop} {D : Ends} {f : Flow} (ok : X.Ok) (h : SP (X.aside (X.pn ++ pins) xe) pins' D f s) : SP X pins D f s := by
  cases f with
  | next => obtain ⟨σ', H', I, q⟩ := h; exact ⟨σ', H', I.back ok, q⟩
  | brk => obtain ⟨σ', H', I, q⟩ := h; exact ⟨σ', H', I.back ok, q⟩
  | cont => obtain ⟨σ', H', I, q⟩ := h; exact ⟨σ', H', I.back ok, q⟩
  | ret u => obtain ⟨v, σ', H', I, r, q⟩ := h; exact ⟨v, σ', H', I.back ok, r, q⟩
end
end L2
set_option maxHeartbeats 4000000
set_option linter.all false
set_option maxRecDepth 100000
set_option maxHeartbeats 4000000
set_option linter.all false
set_option maxRecDepth 100000
namespace L2
open PySem PySem.Spec PyProof.Rows
/-- what an own exception's class must be, to have its field f read -/
structure XGet (K : PySem.W.Frag) (C : Addr) (f : Str) : Prop where
  ga : PySem.W.findIn K (.ref C) "__getattribute__" = some (some (.builtin "BaseException.__getattribute__"))
  hk : PySem.W.findIn K (.ref C) "__getattr__" = some none
  sub : PySem.W.subIn K (.ref C) (.type "BaseException") = some true
  dict : PySem.W.hasDictIn K C = true
  no : PySem.W.findIn K (.ref C) f = some none
end L2
set_option maxHeartbeats 4000000
set_option linter.all false
set_option maxRecDepth 100000
namespace L2
open PySem PySem.Spec PyProof.Rows
/-- what an own exception's class must be, to be asked about -/
structure XIs (K : PySem.W.Frag) (C : Addr) : Prop where
  ga : PySem.W.findIn K (.ref C) "__getattribute__" = some (some (.builtin "BaseException.__getattribute__"))
  hk : PySem.W.findIn K (.ref C) "__getattr__" = some none
  sub : PySem.W.subIn K (.ref C) (.type "BaseException") = some true
  dict : PySem.W.hasDictIn K C = true
  at_ : PySem.W.findIn K (.ref C) "__class__" = some (some (.builtin "object.__class__"))
  get : PySem.W.specialIn K (.builtin "object.__class__") "__get__" = some (some (.builtin "getset_descriptor.__get__"))
  takes : PySem.W.takesIn K (.builtin "object.__class__") = some true
  obj : PySem.W.mroIn K C (.type "object") = some true
end L2
set_option maxHeartbeats 4000000
set_option linter.all false
set_option maxRecDepth 100000
namespace L2
open PySem PySem.Spec PyProof.Rows
theorem tuple_addW0 (l b : Addr) (items items2 : Array Value) (n n2 : Nat) (dd dd2 : Option Addr) (sl sl2 : Array (Option Value)) (hc0 : items.isEmpty = true) :
    Meets (Builtin.«tuple.__add__» ⟨[.ref l, .ref b], []⟩) (fun _ R s => s.heap.get? l = some { cls := .type "tuple", dict := dd, data := .seq items n, slots := sl } ∧ s.heap.get? b = some { cls := .type "tuple", dict := dd2, data := .seq items2 n2, slots := sl2 } ∧ R (.ok (.ret (Value.ref b))) { s with heap := s.heap, toks := s.toks }) :=
  .of_wp fun prog w A R s h => by obtain ⟨hp, g, d, tk, os⟩ := s; obtain ⟨hl, hb, h⟩ := h; have f1 := AutoSeq1.idx_int; have f2 := AutoSeq1.sub_tuple_tuple; have f3 := AutoSeq1.sub_list_list; have f4 := AutoSeq1.sub_tuple_list; have f5 := AutoSeq1.sub_list_tuple; wp_walk using wpAny_loadPart' hl, wpAny_loadPart' hb; exact ⟨_, rfl, h⟩
section
open PySem.P
variable {X : Cx}
/-- t + u, any two tuples: what stands at the answer's place -/
def rCatA (K : PySem.W.Frag) : R2 := fun x y H Q => ∃ a b xs ys, x = .ref a ∧ y = .ref b ∧ H a = some (.tup xs) ∧ H b = some (.tup ys) ∧ xs.length + ys.length ≤ sizeLine ∧
  ∀ p H', Same H H' → H' p = some (.tup (xs ++ ys)) → Q (.ref p) H'
theorem op_catA : OpR X (binaryOp .Add) (rCatA X.K) := by
  intro pins s σ H x y v u Q I rx ry h
  obtain ⟨a, b, xs, ys, rfl, rfl, ha, hb, hz, q⟩ := h
  by_cases hx : xs = []
  · subst hx
    cases rx
    cases ry
    obtain ⟨its, r1, p1, _⟩ := I.tuple (SqT.of ha)
    obtain ⟨its2, r2, p2, _⟩ := I.tuple (SqT.of hb)
    cases r1
    obtain ⟨⟨cls, dd, data, sl⟩, ho, hc, n, hd⟩ := id p1
    obtain ⟨⟨cls2, dd2, data2, sl2⟩, ho2, hc2, n2, hd2⟩ := id p2
    simp only at hc hd hc2 hd2
    subst hc hd hc2 hd2
    exact concat_meets ⟨_, ho, rfl⟩ ⟨_, ho2, rfl⟩ noFill_tuple_add seq_tuple_add PySem.F.slot_tuple_add PySem.F.entry_tuple_add (PySem.F.args_tuple_add_2 _ _)
      (tuple_addW0 a b _ _ n n2 dd dd2 sl sl2 (by simp)) ⟨ho, ho2, ⟨.ref b, H, I, rfl, q b H (Same.refl H) hb⟩⟩
  · refine op_catT pins s σ H (.ref a) (.ref b) v u Q I rx ry ⟨a, b, xs, ys, rfl, rfl, SqT.of ha, SqT.of hb, hx, hz, fun e => ?_, fun _ p hp => q p _ (same_new hp) upd_same⟩
    refine q a H (Same.refl H) ?_
    rw [e, List.append_nil]
    exact ha
end
/-- a def that may raise, by its name -/
structure CalX (P : Program) (w : World) (K : PySem.W.Frag) (mg : Str → Option Value) (base : Heap) (k : Nat) (x : Str) (ps : List Str) (sp : Sp) : Prop where
  ex : ∃ (f : Addr) (fd : FuncData), FnOk P w K mg base (CX1 P w) k f fd ps sp ∧ mg x = some (.ref f) ∧ PySem.W.keepIn K (.ref f) = true ∧ Binds K fd ps []
end L2
set_option maxHeartbeats 4000000
set_option linter.all false
set_option maxRecDepth 100000
namespace L2
open PySem PySem.Spec PyProof.Rows
/-- what stands at a place -/
def Tr.sub : Tr → List Int → Option Tr
  | t, [] => some t
  | .node _ ks, k :: r => if 0 ≤ k then (ks[k.toNat]?).bind fun u => Tr.sub u r else none
  | .bad, _ :: _ => none
end L2
set_option maxHeartbeats 4000000
set_option linter.all false
set_option maxRecDepth 100000
namespace L2
open PySem PySem.Spec PyProof.Rows
theorem ints_dp {K : PySem.W.Frag} {H : Hp} : ∀ ns : List Int, DpAll K H (ns.map V.int) (ns.map PyData.int)
  | [] => .nil
  | n :: r => .cons (.int n) (ints_dp r)
theorem ints_lay : ∀ ns : List Int, PyData.canLayAll0 (ns.map PyData.int) = true ∧ PyData.depthAll (ns.map PyData.int) = 0
  | [] => ⟨rfl, rfl⟩
  | n :: r => by
    obtain ⟨h1, h2⟩ := ints_lay r
    refine ⟨?_, ?_⟩
    · show (true && PyData.canLayAll0 (r.map PyData.int)) = true
      rw [h1]; rfl
    · show max 0 (PyData.depthAll (r.map PyData.int)) = 0
      rw [h2]; rfl
end L2
set_option maxHeartbeats 4000000
set_option linter.all false
set_option maxRecDepth 100000
namespace L2
open PySem PySem.Spec PyProof.Rows
section
variable {X : Cx}
/-- try: .. except ..: .., where nothing is raised -/
theorem ps_tryN {body : List Stmt} {hh : ExceptHandler} {hs : List ExceptHandler} {t : TS} {pos : Pos} (hb : ∀ (pn : List (Addr × Obj)) (xe : Value → Shared → Prop), PSs (X.aside pn xe) body t) : PS X (.Try body (hh :: hs) [] [] pos) t := by
  intro pins s σ H D I h
  refine wpAny_Try_except ?_
  refine wpAny_mono (hb (X.pn ++ pins) (fun _ _ => False) [] s σ H D (I.aside _) h) (fun f s1 hf => ?_) fun e s1 he => he.elim
  have := hf.back I.ok
  cases f <;> first | exact this | exact wpAny_pure this
end
end L2
set_option maxHeartbeats 4000000
set_option linter.all false
set_option maxRecDepth 100000
namespace L2
open PySem PySem.Spec PyProof.Rows
theorem hts_app : ∀ ts ss : List Tr, Tr.hts (ts ++ ss) = max (Tr.hts ts) (Tr.hts ss)
  | [], ss => by show Tr.hts ss = max 0 (Tr.hts ss); omega
  | t :: r, ss => by
    show max t.ht (Tr.hts (r ++ ss)) = max (max t.ht (Tr.hts r)) (Tr.hts ss)
    rw [hts_app r ss]
    omega
/-- a new child -/
def Tr.ins (k : Nat) (u : Tr) : Tr → Tr
  | .node n ks => .node n (ks.take k ++ u :: ks.drop k)
  | .bad => .bad
/-- xs[:k], xs[k:] -/
theorem cutV_to (xs : List V) (k : Int) (h : 0 ≤ k) : cutV xs none (some k) = xs.take k.toNat := by
  unfold cutV
  show (xs.drop 0).take ((if k < 0 then _ else min k.toNat xs.length) - 0) = _
  rw [if_neg (by omega), List.drop_zero, Nat.sub_zero, ← List.take_eq_take_min]
end L2
set_option maxHeartbeats 4000000
set_option linter.all false
set_option maxRecDepth 100000
namespace L2
open PySem PySem.Spec PyProof.Rows
/-! ### makings -/
inductive MEnt where
  | nm (z : Str)
  | pr (i j : Nat)
def EOk1 (k : Nat) : MEnt → Prop
  | .nm z => nameF z = true
  | .pr i j => i < k ∧ j < k
def EOk (es : List MEnt) : Prop := ∀ k e, es[k]? = some e → EOk1 k e
theorem EOk.take {es : List MEnt} (h : EOk es) (n : Nat) : EOk (es.take n) := fun k e he => by
  rw [List.getElem?_take] at he
  split at he
  · exact h k e he
  · cases he
theorem EOk.snoc {es : List MEnt} {e : MEnt} (h : EOk es) (h1 : EOk1 es.length e) : EOk (es ++ [e]) := fun k e' he => by
  by_cases hk : k < es.length
  · rw [List.getElem?_append_left hk] at he
    exact h k e' he
  · rw [List.getElem?_append_right (by omega)] at he
    have e0 : k - es.length = 0 := by
      have := (List.getElem?_eq_some_iff.mp he).1
      simp at this
      omega
    rw [e0] at he
    cases he
    have : k = es.length := by omega
    rw [this]
    exact h1
/-- makings in the heap -/
def MEntAt (H : Hp) (v : V) : MEnt → Prop
  | .nm z => ∃ p, v = .ref p ∧ H p = some (.tup [.str z])
  | .pr i j => ∃ p, v = .ref p ∧ H p = some (.tup [.int (i : Int), .int (j : Int)])
def MEntsAt (H : Hp) (vs : List V) (es : List MEnt) : Prop := vs.length = es.length ∧ ∀ (k : Nat) (v : V) (e : MEnt), vs[k]? = some v → es[k]? = some e → MEntAt H v e
theorem MEntAt.kp {H H' : Hp} {v : V} {e : MEnt} (k : Kp H H') (h : MEntAt H v e) : MEntAt H' v e := by
  cases e with
  | nm z => obtain ⟨p, e1, e2⟩ := h; exact ⟨p, e1, k.tup _ _ e2⟩
  | pr i j => obtain ⟨p, e1, e2⟩ := h; exact ⟨p, e1, k.tup _ _ e2⟩
theorem MEntsAt.kp {H H' : Hp} {vs : List V} {es : List MEnt} (h : MEntsAt H vs es) (k : Kp H H') : MEntsAt H' vs es := ⟨h.1, fun i v e e1 e2 => (h.2 i v e e1 e2).kp k⟩
theorem MEntsAt.nil {H : Hp} : MEntsAt H [] [] := ⟨rfl, fun k v e h => by simp at h⟩
theorem MEntsAt.snoc {H : Hp} {vs : List V} {es : List MEnt} {v : V} {e : MEnt} (h : MEntsAt H vs es) (h1 : MEntAt H v e) : MEntsAt H (vs ++ [v]) (es ++ [e]) := by
  refine ⟨by rw [List.length_append, List.length_append, h.1]; rfl, fun k v' e' e1 e2 => ?_⟩
  have hl := h.1
  by_cases hk : k < vs.length
  · rw [List.getElem?_append_left hk] at e1
    rw [List.getElem?_append_left (by omega)] at e2
    exact h.2 k v' e' e1 e2
  · rw [List.getElem?_append_right (by omega)] at e1
    rw [List.getElem?_append_right (by omega), ← hl] at e2
    have e0 : k - vs.length = 0 := by
      have := (List.getElem?_eq_some_iff.mp e1).1
      simp at this
      omega
    rw [e0] at e1 e2
    cases e1
    cases e2
    exact h1
theorem MEntsAt.take {H : Hp} {vs : List V} {es : List MEnt} (h : MEntsAt H vs es) (n : Nat) : MEntsAt H (vs.take n) (es.take n) := by
  refine ⟨by rw [List.length_take, List.length_take, h.1], fun k v e e1 e2 => ?_⟩
  rw [List.getElem?_take] at e1 e2
  split at e1
  · rename_i hk
    rw [if_pos hk] at e2
    exact h.2 k v e e1 e2
  · cases e1
end L2
set_option maxHeartbeats 4000000
set_option linter.all false
set_option maxRecDepth 100000
namespace L2
open PySem PySem.Spec PyProof.Rows
/-- all but one object stay -/
def SameX (L : Addr) (H H' : Hp) : Prop := ∀ b o, b ≠ L → H b = some o → H' b = some o
theorem SameX.of {L : Addr} {H0 H H' : Hp} (h0 : H0 L = none) (s : Same H0 H) (x : SameX L H H') : Same H0 H' := fun b o e => x b o (ne_of_none e h0) (s b o e)
theorem strOk_name {z : Str} (h : nameF z = true) : PyData.canLay0 (.str z) = true := by
  obtain ⟨h1, h2, h3⟩ := nameF_len h
  show z.cps.all (· < 0x110000) = true
  rw [← Array.all_toList, List.all_eq_true]
  rw [List.all_eq_true] at h3
  intro c hc
  have h4 := h3 c hc
  unfold isLet at h4
  simp only [Bool.and_eq_true, Bool.not_eq_true', decide_eq_false_iff_not] at h4
  exact decide_eq_true (by omega)
theorem ints_shapedL (ns : List Int) : SeqAt.shaped (.list (ns.map PyData.int)) = true := by
  obtain ⟨h1, h2⟩ := ints_lay ns
  show (PyData.canLayAll0 (ns.map PyData.int) && decide (PyData.depthAll (ns.map PyData.int) + 1 ≤ 64)) = true
  rw [h1, h2]
  rfl
theorem ints_eqv_nil (ns : List Int) : PyData.eqv (.list (ns.map PyData.int)) (.list []) = ns.isEmpty := by
  cases ns with
  | nil => rfl
  | cons _ _ => rfl
/-! ### machines -/
structure Mch where
  forms : List Str
  names : List Str
  starts : List Int
  steps : List (List Int)
  marks : List Int
inductive RowsAt (H : Hp) : List V → List (List Int) → Prop
  | nil : RowsAt H [] []
  | cons {p : Addr} {xs : List Int} {vs : List V} {xss : List (List Int)} : H p = some (.tup (xs.map V.int)) → RowsAt H vs xss → RowsAt H (.ref p :: vs) (xs :: xss)
theorem RowsAt.kp {H H' : Hp} (k : Kp H H') : ∀ {vs : List V} {xss : List (List Int)}, RowsAt H vs xss → RowsAt H' vs xss
  | _, _, .nil => .nil
  | _, _, .cons a b => .cons (k.tup _ _ a) (b.kp k)
theorem RowsAt.len {H : Hp} : ∀ {vs : List V} {xss : List (List Int)}, RowsAt H vs xss → vs.length = xss.length
  | _, _, .nil => rfl
  | _, _, .cons _ h => congrArg (· + 1) h.len
theorem RowsAt.snoc {H : Hp} {p : Addr} {xs : List Int} (h : H p = some (.tup (xs.map V.int))) : ∀ {vs : List V} {xss : List (List Int)}, RowsAt H vs xss → RowsAt H (vs ++ [.ref p]) (xss ++ [xs])
  | _, _, .nil => .cons h .nil
  | _, _, .cons a b => .cons a (RowsAt.snoc h b)
theorem RowsAt.get {H : Hp} : ∀ {vs : List V} {xss : List (List Int)} {i : Nat} {xs : List Int}, RowsAt H vs xss → xss[i]? = some xs → ∃ p, vs[i]? = some (.ref p) ∧ H p = some (.tup (xs.map V.int))
  | _, _, i, xs, .nil, h => by simp at h
  | _, _, 0, xs, .cons (p := p) a b, h => by cases h; exact ⟨p, rfl, a⟩
  | _, _, i + 1, xs, .cons a b, h => RowsAt.get (i := i) b (by simpa using h)
structure MAt (H : Hp) (T : Addr) (m : Mch) : Prop where
  ex : ∃ (F N S P M : Addr) (rs : List V), H T = some (.tup [.ref F, .ref N, .ref S, .ref P, .ref M]) ∧ H F = some (.tup (m.forms.map V.str)) ∧ H N = some (.tup (m.names.map V.str)) ∧ H S = some (.tup (m.starts.map V.int)) ∧ H P = some (.tup rs) ∧ RowsAt H rs m.steps ∧ H M = some (.tup (m.marks.map V.int))
theorem MAt.kp {H H' : Hp} {T : Addr} {m : Mch} (h : MAt H T m) (k : Kp H H') : MAt H' T m := by
  obtain ⟨F, N, S, P, M, rs, h1, h2, h3, h4, h5, h6, h7⟩ := h.ex
  exact ⟨F, N, S, P, M, rs, k.tup _ _ h1, k.tup _ _ h2, k.tup _ _ h3, k.tup _ _ h4, k.tup _ _ h5, h6.kp k, k.tup _ _ h7⟩
structure MOk (m : Mch) : Prop where
  some1 : 1 ≤ m.marks.length
  few : m.marks.length ≤ 8
  ff : m.forms.length ≤ 20
  nn : m.names.length ≤ 20
  nS : ∀ z ∈ m.names, nameF z = true
  fS : ∀ z ∈ m.forms, nameF z = true
  sl : m.starts.length = m.names.length + 1
  sb : ∀ x ∈ m.starts, 0 ≤ x ∧ x < (m.marks.length : Int)
  pl : m.steps.length = m.marks.length
  pr : ∀ r ∈ m.steps, r.length = m.marks.length ∧ ∀ x ∈ r, 0 ≤ x ∧ x < (m.marks.length : Int)
  mb : ∀ x ∈ m.marks, 0 ≤ x
end L2
set_option maxHeartbeats 4000000
set_option linter.all false
set_option maxRecDepth 100000
namespace L2
open PySem PySem.Spec PyProof.Rows
theorem cutS_all (z : Str) (lo hi : Option Int) (h : z.cps.toList.all isLet = true) : (cutS z lo hi).cps.toList.all isLet = true := by
  unfold cutS
  show (((z.cps.toList.drop _).take _)).all isLet = true
  rw [List.all_eq_true] at h ⊢
  intro c hc
  exact h c (List.mem_of_mem_drop (List.mem_of_mem_take hc))
theorem cutS_to_len (z : Str) (k : Int) (h : 0 ≤ k) : (cutS z none (some k)).length = min k.toNat z.length := by
  unfold cutS
  show (((z.cps.toList.drop 0).take ((if k < 0 then _ else min k.toNat z.length) - 0)).toArray).size = _
  rw [if_neg (by omega), List.size_toArray, List.length_take, List.length_drop, Array.length_toList]
  have : z.cps.size = z.length := rfl
  omega
theorem cutS_from_len (z : Str) (k : Int) (h : 0 ≤ k) : (cutS z (some k) none).length = z.length - k.toNat := by
  unfold cutS
  show (((z.cps.toList.drop (if k < 0 then _ else min k.toNat z.length)).take (z.length - (if k < 0 then _ else min k.toNat z.length))).toArray).size = _
  rw [if_neg (by omega), List.size_toArray, List.length_take, List.length_drop, Array.length_toList]
  have : z.cps.size = z.length := rfl
  omega
theorem lens_sum : ∀ parts : List Str, (∀ p ∈ parts, p.length = 1) → (parts.map (·.length)).sum = parts.length
  | [], _ => rfl
  | p :: r, h => by
    rw [List.map_cons, List.sum_cons, lens_sum r fun x hx => h x (by simp [hx]), h p (by simp)]
    simp
    omega
/-- the forms whose bit the mark has -/
def dueL (mark : Int) : Nat → List Str → List Str
  | _, [] => []
  | k, f :: r => if mark / 2 ^ k % 2 = 1 then f :: dueL mark (k + 1) r else dueL mark (k + 1) r
theorem strs_get {ns : List Str} {j : Nat} (h : j < ns.length) : ∃ n, n ∈ ns ∧ ns[j]? = some n ∧ (ns.map V.str)[j]? = some (.str n) := by
  refine ⟨ns[j], List.getElem_mem h, List.getElem?_eq_getElem h, ?_⟩
  rw [List.getElem?_map, List.getElem?_eq_getElem h]
  rfl
end L2
set_option maxHeartbeats 4000000
set_option linter.all false
set_option maxRecDepth 100000
set_option maxHeartbeats 4000000
set_option linter.all false
set_option maxRecDepth 100000
namespace L2
open PySem PySem.Spec PyProof.Rows
section
variable {X : Cx}
/-- two values that are the same: data, or a dict without entries -/
def rEqDD (K : PySem.W.Frag) : R2 := fun x y H Q => (∃ d e, Dp K H x d ∧ Dp K H y e ∧ SeqAt.shaped d = true ∧ SeqAt.shaped e = true ∧ Q (.bl (PyData.eqv d e)) H) ∨ (∃ d, x = .ref d ∧ y = .ref d ∧ H d = some (.dK []) ∧ Q (.bl true) H)
end
end L2
set_option maxHeartbeats 4000000
set_option linter.all false
set_option maxRecDepth 100000
namespace L2
open PySem PySem.Spec PyProof.Rows
/-- what is no name, and can be held beside itself -/
def BadV (H : Hp) (v : V) : Prop := (∃ z, v = .str z ∧ z.length ≤ 1000 ∧ nameF z = false ∧ SeqAt.shaped (.str z) = true) ∨ v = .non ∨ (∃ i, v = .int i) ∨ (∃ a, v = .ref a ∧ H a = some (.lst [.str "n"])) ∨ (∃ a, v = .ref a ∧ H a = some (.dK []))
theorem BadV.same {H H' : Hp} {v : V} (h : BadV H v) (s : Same H H') : BadV H' v := by
  rcases h with h | h | h | ⟨a, e, h⟩ | ⟨a, e, h⟩
  · exact .inl h
  · exact .inr (.inl h)
  · exact .inr (.inr (.inl h))
  · exact .inr (.inr (.inr (.inl ⟨a, e, s _ _ h⟩)))
  · exact .inr (.inr (.inr (.inr ⟨a, e, s _ _ h⟩)))
theorem BadV.nm {H : Hp} {v : V} (h : BadV H v) : (∃ z, v = .str z ∧ z.length ≤ 1000 ∧ nameF z = false) ∨ NStr H v := by
  rcases h with ⟨z, h1, h2, h3, _⟩ | h | ⟨i, h⟩ | ⟨a, e, h⟩ | ⟨a, e, h⟩
  · exact .inl ⟨z, h1, h2, h3⟩
  · exact .inr (.inl h)
  · exact .inr (.inr (.inr (.inl ⟨i, h⟩)))
  · exact .inr (.inr (.inr (.inr (.inr (.inl ⟨a, _, e, h⟩)))))
  · exact .inr (.inr (.inr (.inr (.inr (.inr ⟨a, _, e, h⟩)))))
theorem BadV.eq {K : PySem.W.Frag} {H : Hp} {v : V} {Q : VK} (h : BadV H v) (q : Q (.bl true) H) : rEqDD K v v H Q := by
  rcases h with ⟨z, rfl, h2, h3, h4⟩ | rfl | ⟨i, rfl⟩ | ⟨a, rfl, h⟩ | ⟨a, rfl, h⟩
  · refine .inl ⟨_, _, .str z, .str z, h4, h4, ?_⟩
    have e : PyData.eqv (.str z) (.str z) = true := by show (z == z) = true; exact beq_self_eq_true z
    rw [e]; exact q
  · exact .inl ⟨_, _, .non, .non, rfl, rfl, q⟩
  · refine .inl ⟨_, _, .int i, .int i, rfl, rfl, ?_⟩
    have e : PyData.eqv (.int i) (.int i) = true := by show (i == i) = true; exact beq_self_eq_true i
    rw [e]; exact q
  · exact .inl ⟨_, _, .lst (SqL.of h) (.cons (.str "n") .nil), .lst (SqL.of h) (.cons (.str "n") .nil), by decide +kernel, by decide +kernel, (by rw [show PyData.eqv (.list [.str "n"]) (.list [.str "n"]) = true from by decide +kernel]; exact q)⟩
  · exact .inr ⟨a, rfl, rfl, h, q⟩
end L2
set_option maxHeartbeats 4000000
set_option linter.all false
set_option maxRecDepth 100000
set_option maxHeartbeats 4000000
set_option linter.all false
set_option maxRecDepth 100000
set_option maxHeartbeats 4000000
set_option linter.all false
set_option maxRecDepth 100000
namespace L2
open PySem PySem.Spec PyProof.Rows
/-! ### deeds -/
inductive Deed where
  | put (ns : List Int) (u : Tr)
  | cut (ns : List Int)
  | name (ns : List Int) (z : Str)
def Deed.ns : Deed → List Int
  | .put ns _ => ns
  | .cut ns => ns
  | .name ns _ => ns
/-- a deed in the heap -/
def DeedAt (H : Hp) (D P : Addr) : Deed → Prop
  | .put ns u => ∃ v, H D = some (.tup [.str "put", .ref P, v]) ∧ H P = some (.tup (ns.map V.int)) ∧ TrAt H v u
  | .cut ns => H D = some (.tup [.str "cut", .ref P, .non]) ∧ H P = some (.tup (ns.map V.int))
  | .name ns z => H D = some (.tup [.str "name", .ref P, .str z]) ∧ H P = some (.tup (ns.map V.int))
theorem DeedAt.kp {H H' : Hp} {D P : Addr} {d : Deed} (k : Kp H H') (h : DeedAt H D P d) : DeedAt H' D P d := by
  cases d with
  | put ns u => obtain ⟨v, h1, h2, h3⟩ := h; exact ⟨v, k.tup _ _ h1, k.tup _ _ h2, h3.kp k⟩
  | cut ns => exact ⟨k.tup _ _ h.1, k.tup _ _ h.2⟩
  | name ns z => exact ⟨k.tup _ _ h.1, k.tup _ _ h.2⟩
theorem DeedAt.pl {H : Hp} {D P : Addr} {d : Deed} (h : DeedAt H D P d) : H P = some (.tup (d.ns.map V.int)) := by
  cases d with
  | put ns u => obtain ⟨v, h1, h2, h3⟩ := h; exact h2
  | cut ns => exact h.2
  | name ns z => exact h.2
end L2
set_option maxHeartbeats 4000000
set_option linter.all false
set_option maxRecDepth 100000
namespace L2
open PySem PySem.Spec PyProof.Rows
def Deed.tail : Deed → Deed
  | .put ns u => .put ns.tail u
  | .cut ns => .cut ns.tail
  | .name ns z => .name ns.tail z
/-- word and new thing of a deed -/
def WordAt (H : Hp) (word : Str) (nv : V) : Deed → Prop
  | .put _ u => word = "put" ∧ TrAt H nv u
  | .cut _ => word = "cut" ∧ nv = .non
  | .name _ z => word = "name" ∧ nv = .str z
theorem WordAt.kp {H H' : Hp} {word : Str} {nv : V} {d : Deed} (k : Kp H H') (h : WordAt H word nv d) : WordAt H' word nv d := by
  cases d with
  | put ns u => exact ⟨h.1, h.2.kp k⟩
  | cut ns => exact h
  | name ns z => exact h
theorem WordAt.tl {H : Hp} {word : Str} {nv : V} {d : Deed} (h : WordAt H word nv d) : WordAt H word nv d.tail := by
  cases d with
  | put ns u => exact h
  | cut ns => exact h
  | name ns z => exact h
theorem DeedAt.parts {H : Hp} {D P : Addr} {d : Deed} (h : DeedAt H D P d) : ∃ word nv, H D = some (.tup [.str word, .ref P, nv]) ∧ H P = some (.tup (d.ns.map V.int)) ∧ WordAt H word nv d := by
  cases d with
  | put ns u => obtain ⟨v, h1, h2, h3⟩ := h; exact ⟨_, _, h1, h2, rfl, h3⟩
  | cut ns => exact ⟨_, _, h.1, h.2, rfl, rfl⟩
  | name ns z => exact ⟨_, _, h.1, h.2, rfl, rfl⟩
end L2
set_option maxHeartbeats 4000000
set_option linter.all false
set_option maxRecDepth 100000
set_option maxHeartbeats 4000000
set_option linter.all false
set_option maxRecDepth 100000
namespace L2
open PySem PySem.Spec PyProof.Rows
/-- a tuple of the plain kind, its object known -/
def TupZ (H : Hp) (p : Addr) (xs : List V) : Prop := ∃ o : Obj, o.cls = .type "tuple" ∧ o.dict = none ∧ H p = some (.frz o (.tup xs))
theorem TupZ.same {H H' : Hp} {p : Addr} {xs : List V} (h : TupZ H p xs) (s : Same H H') : TupZ H' p xs := by
  obtain ⟨o, h1, h2, h⟩ := h
  exact ⟨o, h1, h2, s _ _ h⟩
theorem TupZ.kp {H H' : Hp} {p : Addr} {xs : List V} (h : TupZ H p xs) (s : Kp H H') : TupZ H' p xs := by
  obtain ⟨o, h1, h2, h⟩ := h
  exact ⟨o, h1, h2, s.frz _ _ _ h⟩
end L2
set_option maxHeartbeats 4000000
set_option linter.all false
set_option maxRecDepth 100000
namespace L2
open PySem PySem.Spec PyProof.Rows
/-- a machine whose names' tuple is a plain one -/
structure MAtZ (H : Hp) (T : Addr) (m : Mch) : Prop where
  ex : ∃ (F N S P M : Addr) (rs : List V), H T = some (.tup [.ref F, .ref N, .ref S, .ref P, .ref M]) ∧ H F = some (.tup (m.forms.map V.str)) ∧ TupZ H N (m.names.map V.str) ∧ H S = some (.tup (m.starts.map V.int)) ∧ H P = some (.tup rs) ∧ RowsAt H rs m.steps ∧ H M = some (.tup (m.marks.map V.int))
theorem MAtZ.kp {H H' : Hp} {T : Addr} {m : Mch} (h : MAtZ H T m) (k : Kp H H') : MAtZ H' T m := by
  obtain ⟨F, N, S, P, M, rs, h1, h2, h3, h4, h5, h6, h7⟩ := h.ex
  exact ⟨F, N, S, P, M, rs, k.tup _ _ h1, k.tup _ _ h2, h3.kp k, k.tup _ _ h4, k.tup _ _ h5, h6.kp k, k.tup _ _ h7⟩
/-! ### where a name stands among names -/
def posOf (z : Str) : List Str → Option Nat
  | [] => none
  | n :: ns => if n = z then some 0 else (posOf z ns).map (· + 1)
theorem posOf_some {z : Str} : ∀ {ns : List Str} {j : Nat}, posOf z ns = some j → ns[j]? = some z ∧ ∀ (m : Nat) (n : Str), m < j → ns[m]? = some n → n ≠ z
  | [], j, h => by cases h
  | n :: ns, j, h => by
    unfold posOf at h
    by_cases e : n = z
    · rw [if_pos e] at h
      cases h
      exact ⟨by rw [e]; rfl, fun m n' hm => absurd hm (Nat.not_lt_zero _)⟩
    · rw [if_neg e] at h
      cases hp : posOf z ns with
      | none => rw [hp] at h; cases h
      | some i =>
        rw [hp] at h
        cases h
        obtain ⟨h1, h2⟩ := posOf_some hp
        refine ⟨by simpa using h1, fun m n' hm hn => ?_⟩
        cases m with
        | zero => cases hn; exact e
        | succ m => exact h2 m n' (Nat.lt_of_succ_lt_succ hm) (by simpa using hn)
theorem eqV_str (n z : Str) : eqV (.str n) (.str z) = decide (n = z) := by
  show (n == z) = _
  by_cases e : n = z
  · rw [e]; simp
  · rw [decide_eq_false e]; simpa using e
theorem posOf_in (z : Str) : ∀ ns : List Str, inV (.str z) (ns.map V.str) = (posOf z ns).isSome
  | [] => rfl
  | n :: ns => by
    show (eqV (.str n) (.str z) || inV (.str z) (ns.map V.str)) = _
    rw [posOf_in z ns, eqV_str]
    show _ = (if n = z then some 0 else (posOf z ns).map (· + 1)).isSome
    by_cases e : n = z
    · rw [if_pos e, decide_eq_true e]; rfl
    · rw [if_neg e, decide_eq_false e]
      cases posOf z ns <;> rfl
theorem strs_flat (ns : List Str) : (ns.map V.str).all flatV = true := by
  rw [List.all_eq_true]
  intro x hx
  obtain ⟨n, _, rfl⟩ := List.mem_map.mp hx
  rfl
/-! ### the states of documents by a machine -/
def startOf (m : Mch) (z : Str) : Int := match posOf z m.names with
  | some j => m.starts[j]?.getD 0
  | none => m.starts[m.names.length]?.getD 0
def stepOf (m : Mch) (p q : Int) : Int := ((m.steps[p.toNat]?.getD [])[q.toNat]?).getD 0
def stepAll (m : Mch) (p : Int) : List Int → Int
  | [] => p
  | q :: qs => stepAll m (stepOf m p q) qs
mutual
def stT (m : Mch) : Tr → Int
  | .node z ks => stepAll m (startOf m z) (stL m ks)
  | .bad => 0
def stL (m : Mch) : List Tr → List Int
  | [] => []
  | k :: ks => stT m k :: stL m ks
end
theorem ints_getD {ns : List Int} {j : Nat} (h : j < ns.length) : ns[j]?.getD 0 ∈ ns ∧ (ns.map V.int)[j]? = some (.int (ns[j]?.getD 0)) := by
  rw [List.getElem?_map, List.getElem?_eq_getElem h]
  exact ⟨List.getElem_mem h, rfl⟩
def In (m : Mch) (p : Int) : Prop := 0 ≤ p ∧ p < (m.marks.length : Int)
end L2
set_option maxHeartbeats 4000000
set_option linter.all false
set_option maxRecDepth 100000
namespace L2
open PySem PySem.Spec PyProof.Rows
/-- an entry of a laid out document: its place, its name, the numbers of what stands below; tr: the trees by number -/
structure EntAt (H : Hp) (tr : List Tr) (i : Nat) (v : V) (t : Tr) : Prop where
  ex : ∃ (p B : Addr) (pl : V) (z : Str) (ks : List Tr) (js : List Int), v = .ref p ∧ H p = some (.tup [pl, .str z, .ref B]) ∧ t = .node z ks ∧ H B = some (.lst (js.map V.int)) ∧ js.length = ks.length ∧
    ∀ (c : Nat) (j : Int), js[c]? = some j → ∃ n : Nat, j = (n : Int) ∧ i < n ∧ n < tr.length ∧ tr[n]? = ks[c]?
structure LaidAt (H : Hp) (L : Addr) (tr : List Tr) : Prop where
  ex : ∃ vs : List V, H L = some (.lst vs) ∧ vs.length = tr.length ∧ ∀ i t, tr[i]? = some t → ∃ v, vs[i]? = some v ∧ EntAt H tr i v t
theorem EntAt.same {H H' : Hp} {tr : List Tr} {i : Nat} {v : V} {t : Tr} (h : EntAt H tr i v t) (s : Same H H') : EntAt H' tr i v t := by
  obtain ⟨p, B, pl, z, ks, js, h1, h2, h3, h4, h5, h6⟩ := h.ex
  exact ⟨p, B, pl, z, ks, js, h1, s _ _ h2, h3, s _ _ h4, h5, h6⟩
theorem LaidAt.same {H H' : Hp} {L : Addr} {tr : List Tr} (h : LaidAt H L tr) (s : Same H H') : LaidAt H' L tr := by
  obtain ⟨vs, h1, h2, h3⟩ := h.ex
  exact ⟨vs, s _ _ h1, h2, fun i t e => let ⟨v, e1, e2⟩ := h3 i t e; ⟨v, e1, e2.same s⟩⟩
/-- a dict of the states of the trees from number lo on -/
def StOk (m : Mch) (tr : List Tr) (lo : Nat) (kvs : List (Key × V)) : Prop := ∀ (n : Nat) (t : Tr), lo ≤ n → tr[n]? = some t → valV kvs (Sum.inl (n : Int)) = some (.int (stT m t))
theorem StOk.put {m : Mch} {tr : List Tr} {lo : Nat} {kvs : List (Key × V)} {t : Tr} (h : StOk m tr (lo + 1) kvs) (ht : tr[lo]? = some t) : StOk m tr lo (putK kvs (Sum.inl (lo : Int)) (.int (stT m t))) := by
  intro n t' hn hn'
  rw [valV_put]
  by_cases e : n = lo
  · subst e
    rw [if_pos rfl]
    rw [ht] at hn'
    cases hn'
    rfl
  · rw [if_neg (fun z => e (by injection z with z; omega))]
    exact h n t' (by omega) hn'
end L2
set_option maxHeartbeats 4000000
set_option linter.all false
set_option maxRecDepth 100000
namespace L2
open PySem PySem.Spec PyProof.Rows
structure LEnt where
  p : Addr
  B : Addr
  pl : V
  z : Str
  ks : List Tr
  js : List Int
def LEnt.tr (e : LEnt) : Tr := .node e.z e.ks
abbrev Pd := List (Option Nat × Tr)
def kidsOf (i : Nat) : Pd → List Tr
  | [] => []
  | x :: r => if x.1 = some i then x.2 :: kidsOf i r else kidsOf i r
def pdSize : Pd → Nat
  | [] => 0
  | x :: r => x.2.size + pdSize r
structure Grown (t : Tr) (es : List LEnt) (pd : Pd) : Prop where
  size : es.length + pdSize pd = t.size
  top : es = [] → pd = [(none, t)]
  first : ∀ e, es[0]? = some e → e.tr = t
  low : ∀ x ∈ pd, ∀ a, x.1 = some a → a < es.length
  no : ∀ x ∈ pd, x.1 = none → es = []
  rest : ∀ (i : Nat) (e : LEnt), es[i]? = some e → kidsOf i pd = e.ks.drop e.js.length ∧ e.js.length ≤ e.ks.length
  kl : ∀ (i : Nat) (e : LEnt), es[i]? = some e → e.ks.length ≤ t.size
  num : ∀ (i : Nat) (e : LEnt), es[i]? = some e → ∀ (c : Nat) (j : Int), e.js[c]? = some j → ∃ n : Nat, j = (n : Int) ∧ i < n ∧ n < es.length ∧ (es[n]?).map LEnt.tr = e.ks[c]?
def addJ (e : LEnt) (n : Nat) : LEnt := { e with js := e.js ++ [(n : Int)] }
end L2
set_option maxHeartbeats 4000000
set_option linter.all false
set_option maxRecDepth 100000
namespace L2
open PySem PySem.Spec PyProof.Rows
def abV : Option Nat → V
  | none => .non
  | some a => .int (a : Int)
inductive PdAt (H : Hp) (b : Nat) : List V → Pd → Prop
  | nil : PdAt H b [] []
  | cons {q r : Addr} {u : V} {xs : List V} {ab : Option Nat} {t : Tr} {vs : List V} {ts : Pd} : H q = some (.tup [.ref r, u, abV ab]) → H r = some (.tup xs) → xs.length ≤ b → TrAt H u t → PdAt H b vs ts → PdAt H b (.ref q :: vs) ((ab, t) :: ts)
theorem PdAt.kp {H H' : Hp} {b b' : Nat} (k : Kp H H') (hb : b ≤ b') : ∀ {vs : List V} {ts : Pd}, PdAt H b vs ts → PdAt H' b' vs ts
  | _, _, .nil => .nil
  | _, _, .cons h1 h2 h3 h4 h5 => .cons (k.tup _ _ h1) (k.tup _ _ h2) (Nat.le_trans h3 hb) (h4.kp k) (h5.kp k hb)
theorem PdAt.len {H : Hp} {b : Nat} : ∀ {vs : List V} {ts : Pd}, PdAt H b vs ts → vs.length = ts.length
  | _, _, .nil => rfl
  | _, _, .cons _ _ _ _ h => congrArg (· + 1) h.len
theorem PdAt.app {H : Hp} {b : Nat} : ∀ {vs us : List V} {ts ss : Pd}, PdAt H b vs ts → PdAt H b us ss → PdAt H b (vs ++ us) (ts ++ ss)
  | _, _, _, _, .nil, h => h
  | _, _, _, _, .cons h1 h2 h3 h4 h5, h => .cons h1 h2 h3 h4 (h5.app h)
theorem size_pos1 : ∀ t : Tr, 1 ≤ t.size
  | .node _ _ => Nat.le_add_right _ _
  | .bad => Nat.le_refl _
structure EsAt (H0 H : Hp) (L W : Addr) (es : List LEnt) : Prop where
  laid : H L = some (.lst (es.map fun e => V.ref e.p))
  ent : ∀ (i : Nat) (e : LEnt), es[i]? = some e → H e.p = some (.tup [e.pl, .str e.z, .ref e.B]) ∧ H e.B = some (.lst (e.js.map V.int)) ∧ e.B ≠ L ∧ e.B ≠ W ∧ H0 e.B = none
  dist : ∀ (i j : Nat) (e e' : LEnt), es[i]? = some e → es[j]? = some e' → i ≠ j → e.B ≠ e'.B
theorem EsAt.same {H0 H H' : Hp} {L W : Addr} {es : List LEnt} (h : EsAt H0 H L W es) (s : Same H H') : EsAt H0 H' L W es :=
  ⟨s _ _ h.laid, fun i e he => let ⟨h1, h2, h3⟩ := h.ent i e he; ⟨s _ _ h1, s _ _ h2, h3⟩, h.dist⟩
/-- an entry is added -/
theorem EsAt.add {H0 H : Hp} {L W : Addr} {es : List LEnt} (h : EsAt H0 H L W es) {e0 : LEnt} (hB : H e0.B = some (.lst [])) (hp : H e0.p = some (.tup [e0.pl, .str e0.z, .ref e0.B])) (hj : e0.js = []) (hL : e0.B ≠ L) (hW : e0.B ≠ W) (h0 : H0 e0.B = none)
    (hn : ∀ (i : Nat) (e : LEnt), es[i]? = some e → e.B ≠ e0.B) : EsAt H0 (upd H L (.lst ((es.map fun e => V.ref e.p) ++ [.ref e0.p]))) L W (es ++ [e0]) := by
  have cs : ∀ (i : Nat) (e : LEnt), (es ++ [e0])[i]? = some e → (es[i]? = some e ∧ i < es.length) ∨ (i = es.length ∧ e = e0) := fun i e he => by
    by_cases hi : i < es.length
    · rw [List.getElem?_append_left hi] at he
      exact .inl ⟨he, hi⟩
    · have hil := (List.getElem?_eq_some_iff.mp he).1
      rw [List.length_append] at hil
      have ei : i = es.length := by simp at hil; omega
      subst ei
      rw [List.getElem?_append_right (Nat.le_refl _), Nat.sub_self] at he
      cases he
      exact .inr ⟨rfl, rfl⟩
  refine ⟨by rw [upd_same, List.map_append]; rfl, fun i e he => ?_, fun i j e e' he he' hij => ?_⟩
  · rcases cs i e he with ⟨he, _⟩ | ⟨_, rfl⟩
    · obtain ⟨h1, h2, h3, h4, h5⟩ := h.ent i e he
      exact ⟨by rw [upd_ne (ne_of h1 h.laid (fun z => nomatch z))]; exact h1, by rw [upd_ne h3]; exact h2, h3, h4, h5⟩
    · exact ⟨by rw [upd_ne (ne_of hp h.laid (fun z => nomatch z))]; exact hp, by rw [upd_ne hL, hj]; exact hB, hL, hW, h0⟩
  · rcases cs i e he with ⟨he1, hi⟩ | ⟨hi, hi2⟩
    · rcases cs j e' he' with ⟨he2, hj⟩ | ⟨hj, hj2⟩
      · exact h.dist i j e e' he1 he2 hij
      · rw [hj2]; exact hn i e he1
    · rcases cs j e' he' with ⟨he2, hj⟩ | ⟨hj, hj2⟩
      · rw [hi2]; exact fun z => hn j e' he2 z.symm
      · omega
/-- a number is added to an entry's list -/
theorem EsAt.set {H0 H : Hp} {L W : Addr} {es : List LEnt} (h : EsAt H0 H L W es) {a n : Nat} {e : LEnt} (ha : es[a]? = some e) : EsAt H0 (upd H e.B (.lst (e.js.map V.int ++ [.int (n : Int)]))) L W (es.set a (addJ e n)) := by
  have hal := (List.getElem?_eq_some_iff.mp ha).1
  obtain ⟨a1, a2, a3, a4, a5⟩ := h.ent a e ha
  have cs : ∀ (i : Nat) (x : LEnt), (es.set a (addJ e n))[i]? = some x → (i ≠ a ∧ es[i]? = some x) ∨ (i = a ∧ x = addJ e n) := fun i x hx => by
    by_cases hi : i = a
    · subst hi
      rw [List.getElem?_set_self hal] at hx
      cases hx
      exact .inr ⟨rfl, rfl⟩
    · rw [List.getElem?_set_ne (fun z => hi z.symm)] at hx
      exact .inl ⟨hi, hx⟩
  have em : (es.set a (addJ e n)).map (fun e => V.ref e.p) = es.map fun e => V.ref e.p := by
    rw [List.map_set]
    apply List.ext_getElem?
    intro i
    by_cases hi : i = a
    · subst hi
      rw [List.getElem?_set_self (by rw [List.length_map]; exact hal), List.getElem?_map, ha]
      rfl
    · rw [List.getElem?_set_ne (fun z => hi z.symm)]
  refine ⟨by rw [upd_ne (fun z => a3 z.symm), em]; exact h.laid, fun i x hx => ?_, fun i j x y hx hy hij => ?_⟩
  · rcases cs i x hx with ⟨hi, hx⟩ | ⟨rfl, rfl⟩
    · obtain ⟨h1, h2, h3, h4, h5⟩ := h.ent i x hx
      exact ⟨by rw [upd_ne (ne_of h1 a2 (fun z => nomatch z))]; exact h1, by rw [upd_ne (h.dist i a x e hx ha hi)]; exact h2, h3, h4, h5⟩
    · refine ⟨by show upd H e.B _ e.p = some (HO.tup [e.pl, .str e.z, .ref e.B]); rw [upd_ne (ne_of a1 a2 (fun z => nomatch z))]; exact a1, ?_, a3, a4, a5⟩
      show upd H e.B _ e.B = some (.lst ((e.js ++ [(n : Int)]).map V.int))
      rw [upd_same, List.map_append]
      rfl
  · rcases cs i x hx with ⟨hi, hx⟩ | ⟨hi, rfl⟩
    · rcases cs j y hy with ⟨hj, hy⟩ | ⟨hj, rfl⟩
      · exact h.dist i j x y hx hy hij
      · exact h.dist i a x e hx ha hi
    · rcases cs j y hy with ⟨hj, hy⟩ | ⟨hj, rfl⟩
      · exact h.dist a j e y ha hy (fun z => hj z.symm)
      · omega
/-- all is laid out -/
theorem Grown.laid {t : Tr} {es : List LEnt} {H0 H : Hp} {L W : Addr} (g : Grown t es []) (h : EsAt H0 H L W es) : LaidAt H L (es.map LEnt.tr) ∧ (es.map LEnt.tr)[0]? = some t ∧ (es.map LEnt.tr).length = t.size := by
  have hsz := g.size
  have e0 : pdSize [] = 0 := rfl
  have hp := size_pos1 t
  refine ⟨⟨es.map fun e => V.ref e.p, h.laid, by rw [List.length_map, List.length_map], fun i u hu => ?_⟩, ?_, by rw [List.length_map]; omega⟩
  · rw [List.getElem?_map] at hu
    cases he : es[i]? with
    | none => rw [he] at hu; cases hu
    | some e =>
      rw [he] at hu
      cases hu
      obtain ⟨h1, h2, h3, h4, h5⟩ := h.ent i e he
      obtain ⟨r1, r2⟩ := g.rest i e he
      have r3 : e.js.length = e.ks.length := by
        have := congrArg List.length r1
        rw [List.length_drop] at this
        have e9 : (kidsOf i []).length = 0 := rfl
        omega
      refine ⟨.ref e.p, by rw [List.getElem?_map, he]; rfl, e.p, e.B, e.pl, e.z, e.ks, e.js, rfl, h1, rfl, h2, r3, fun c j hj => ?_⟩
      obtain ⟨n, n1, n2, n3, n4⟩ := g.num i e he c j hj
      exact ⟨n, n1, n2, by rw [List.length_map]; exact n3, by rw [List.getElem?_map]; exact n4⟩
  · have hl : 0 < es.length := by omega
    rw [List.getElem?_map, List.getElem?_eq_getElem hl]
    show some _ = _
    rw [g.first _ (List.getElem?_eq_getElem hl)]
end L2
set_option maxHeartbeats 4000000
set_option linter.all false
set_option maxRecDepth 100000
namespace L2
open PySem PySem.Spec PyProof.Rows
/-- the numbers below b that stand below j -/
def numU (pf : Nat → Nat) (b j : Nat) : List Nat := (List.range b).filter fun c => decide (0 < c ∧ pf c = j)
theorem numU_succ (pf : Nat → Nat) (b j : Nat) : numU pf (b + 1) j = numU pf b j ++ (if 0 < b ∧ pf b = j then [b] else []) := by
  unfold numU
  rw [List.range_succ, List.filter_append, List.filter_cons]
  by_cases h : 0 < b ∧ pf b = j
  · rw [if_pos h, if_pos (decide_eq_true h)]; rfl
  · rw [if_neg h, if_neg (by rw [decide_eq_false h]; exact Bool.false_ne_true)]; rfl
def natV (c : Nat) : V := .int (c : Int)
/-- the lists of the numbers below -/
structure KAt (H0 H : Hp) (KL : Addr) (as : List Addr) (f : Nat → List Nat) : Prop where
  laid : H KL = some (.lst (as.map V.ref))
  at_ : ∀ (j : Nat) (a : Addr), as[j]? = some a → H a = some (.lst ((f j).map natV)) ∧ a ≠ KL ∧ H0 a = none
  dist : ∀ (i j : Nat) (a b : Addr), as[i]? = some a → as[j]? = some b → i ≠ j → a ≠ b
theorem KAt.same {H0 H H' : Hp} {KL : Addr} {as : List Addr} {f : Nat → List Nat} (h : KAt H0 H KL as f) (s : Same H H') : KAt H0 H' KL as f :=
  ⟨s _ _ h.laid, fun j a e => let ⟨h1, h2⟩ := h.at_ j a e; ⟨s _ _ h1, h2⟩, h.dist⟩
theorem KAt.snoc {H0 H : Hp} {KL b : Addr} {as : List Addr} (h : KAt H0 H KL as fun _ => []) (hb : H b = some (.lst [])) (hK : b ≠ KL) (h0 : H0 b = none) (hn : ∀ (j : Nat) (a : Addr), as[j]? = some a → a ≠ b) :
    KAt H0 (upd H KL (.lst (as.map V.ref ++ [.ref b]))) KL (as ++ [b]) fun _ => [] := by
  have cs : ∀ (i : Nat) (e : Addr), (as ++ [b])[i]? = some e → (as[i]? = some e ∧ i < as.length) ∨ (i = as.length ∧ e = b) := fun i e he => by
    by_cases hi : i < as.length
    · rw [List.getElem?_append_left hi] at he
      exact .inl ⟨he, hi⟩
    · have hil := (List.getElem?_eq_some_iff.mp he).1
      rw [List.length_append] at hil
      have ei : i = as.length := by simp at hil; omega
      subst ei
      rw [List.getElem?_append_right (Nat.le_refl _), Nat.sub_self] at he
      cases he
      exact .inr ⟨rfl, rfl⟩
  refine ⟨by rw [upd_same, List.map_append]; rfl, fun j a e => ?_, fun i j a a' e e' hij => ?_⟩
  · rcases cs j a e with ⟨e, _⟩ | ⟨_, e⟩
    · obtain ⟨h1, h2, h3⟩ := h.at_ j a e
      exact ⟨by rw [upd_ne h2]; exact h1, h2, h3⟩
    · subst e
      exact ⟨by rw [upd_ne hK]; exact hb, hK, h0⟩
  · rcases cs i a e with ⟨e1, _⟩ | ⟨hi, e1⟩
    · rcases cs j a' e' with ⟨e2, _⟩ | ⟨hj, e2⟩
      · exact h.dist i j a a' e1 e2 hij
      · rw [e2]; exact hn i a e1
    · rcases cs j a' e' with ⟨e2, _⟩ | ⟨hj, e2⟩
      · rw [e1]; exact fun z => hn j a' e2 z.symm
      · omega
theorem KAt.put {H0 H : Hp} {KL : Addr} {as : List Addr} {pf : Nat → Nat} {b : Nat} {a : Addr} (h : KAt H0 H KL as (numU pf b)) (ha : as[pf b]? = some a) (hb : 0 < b) :
    KAt H0 (upd H a (.lst ((numU pf b (pf b)).map natV ++ [natV b]))) KL as (numU pf (b + 1)) := by
  obtain ⟨a1, a2, a3⟩ := h.at_ _ a ha
  refine ⟨by rw [upd_ne (fun z => a2 z.symm)]; exact h.laid, fun j c e => ?_, h.dist⟩
  obtain ⟨h1, h2, h3⟩ := h.at_ j c e
  refine ⟨?_, h2, h3⟩
  rw [numU_succ]
  by_cases hj : pf b = j
  · subst hj
    rw [ha] at e
    cases e
    rw [upd_same, if_pos ⟨hb, rfl⟩, List.map_append]
    rfl
  · rw [upd_ne (fun z => h.dist j (pf b) c a e ha (fun y => hj y.symm) z), if_neg (fun z => hj z.2), List.append_nil]
    exact h1
end L2
set_option maxHeartbeats 4000000
set_option linter.all false
set_option maxRecDepth 100000
namespace L2
open PySem PySem.Spec PyProof.Rows
/-! ### places of a document, in their order -/
mutual
def preT (p : List Int) : Tr → List (List Int × Tr)
  | .node z ks => (p, .node z ks) :: preL p 0 ks
  | .bad => [(p, .bad)]
def preL (p : List Int) : Nat → List Tr → List (List Int × Tr)
  | _, [] => []
  | j, k :: ks => preT (p ++ [(j : Int)]) k ++ preL p (j + 1) ks
end
def flatP : List (List Int) → List Tr → List (List Int × Tr)
  | p :: ps, t :: ts => preT p t ++ flatP ps ts
  | _, _ => []
def kidsP (p : List Int) : Nat → List Tr → List (List Int)
  | _, [] => []
  | j, _ :: ks => (p ++ [(j : Int)]) :: kidsP p (j + 1) ks
theorem flatP_kids (p : List Int) (ps : List (List Int)) (ts : List Tr) : ∀ (ks : List Tr) (j : Nat), flatP (kidsP p j ks ++ ps) (ks ++ ts) = preL p j ks ++ flatP ps ts
  | [], j => rfl
  | k :: r, j => by
    show preT (p ++ [(j : Int)]) k ++ flatP (kidsP p (j + 1) r ++ ps) (r ++ ts) = (preT (p ++ [(j : Int)]) k ++ preL p (j + 1) r) ++ flatP ps ts
    rw [flatP_kids p ps ts r (j + 1), List.append_assoc]
/-- the places of what waits -/
inductive PpAt (H : Hp) : List V → List (List Int) → Prop
  | nil : PpAt H [] []
  | cons {q r : Addr} {u x : V} {p : List Int} {vs : List V} {ps : List (List Int)} : H q = some (.tup [.ref r, u, x]) → H r = some (.tup (p.map V.int)) → PpAt H vs ps → PpAt H (.ref q :: vs) (p :: ps)
theorem PpAt.kp {H H' : Hp} (k : Kp H H') : ∀ {vs : List V} {ps : List (List Int)}, PpAt H vs ps → PpAt H' vs ps
  | _, _, .nil => .nil
  | _, _, .cons h1 h2 h3 => .cons (k.tup _ _ h1) (k.tup _ _ h2) (h3.kp k)
theorem PpAt.app {H : Hp} : ∀ {vs us : List V} {ps qs : List (List Int)}, PpAt H vs ps → PpAt H us qs → PpAt H (vs ++ us) (ps ++ qs)
  | _, _, _, _, .nil, h => h
  | _, _, _, _, .cons h1 h2 h3, h => .cons h1 h2 (h3.app h)
/-- the places of what is laid out -/
structure QsAt (H : Hp) (es : List LEnt) (qs : List (List Int)) : Prop where
  len : qs.length = es.length
  at_ : ∀ (i : Nat) (e : LEnt), es[i]? = some e → ∃ (r : Addr) (p : List Int), e.pl = .ref r ∧ qs[i]? = some p ∧ H r = some (.tup (p.map V.int))
theorem QsAt.kp {H H' : Hp} {es : List LEnt} {qs : List (List Int)} (h : QsAt H es qs) (k : Kp H H') : QsAt H' es qs :=
  ⟨h.len, fun i e he => let ⟨r, p, h1, h2, h3⟩ := h.at_ i e he; ⟨r, p, h1, h2, k.tup _ _ h3⟩⟩
theorem QsAt.add {H : Hp} {es : List LEnt} {qs : List (List Int)} (h : QsAt H es qs) {e0 : LEnt} {r : Addr} {p : List Int} (e1 : e0.pl = .ref r) (e2 : H r = some (.tup (p.map V.int))) : QsAt H (es ++ [e0]) (qs ++ [p]) := by
  refine ⟨by rw [List.length_append, List.length_append, h.len]; rfl, fun i e he => ?_⟩
  by_cases hi : i < es.length
  · rw [List.getElem?_append_left hi] at he
    obtain ⟨r', p', h1, h2, h3⟩ := h.at_ i e he
    exact ⟨r', p', h1, by rw [List.getElem?_append_left (by rw [h.len]; exact hi)]; exact h2, h3⟩
  · have hil := (List.getElem?_eq_some_iff.mp he).1
    rw [List.length_append] at hil
    have ei : i = es.length := by simp at hil; omega
    subst ei
    rw [List.getElem?_append_right (Nat.le_refl _), Nat.sub_self] at he
    cases he
    refine ⟨r, p, e1, ?_, e2⟩
    rw [← h.len, List.getElem?_append_right (Nat.le_refl _), Nat.sub_self]
    rfl
theorem QsAt.set {H : Hp} {es : List LEnt} {qs : List (List Int)} (h : QsAt H es qs) {a n : Nat} {e : LEnt} (ha : es[a]? = some e) : QsAt H (es.set a (addJ e n)) qs := by
  have hal := (List.getElem?_eq_some_iff.mp ha).1
  refine ⟨by rw [List.length_set]; exact h.len, fun i x hx => ?_⟩
  by_cases hi : i = a
  · subst hi
    rw [List.getElem?_set_self hal] at hx
    cases hx
    exact h.at_ i e ha
  · rw [List.getElem?_set_ne (fun z => hi z.symm)] at hx
    exact h.at_ i x hx
/-- the row of places: what is laid out, then what waits -/
def RowOk (t : Tr) (qs : List (List Int)) (trs : List Tr) (ps : List (List Int)) (pd : Pd) : Prop := qs.zip trs ++ flatP ps (pd.map (·.2)) = preT [] t
theorem RowOk.step {t : Tr} {qs : List (List Int)} {trs : List Tr} {p : List Int} {ps : List (List Int)} {ab : Option Nat} {z : Str} {ks : List Tr} {ts : Pd} {n : Nat} (hl : qs.length = trs.length) (h : RowOk t qs trs (p :: ps) ((ab, .node z ks) :: ts)) :
    RowOk t (qs ++ [p]) (trs ++ [.node z ks]) (kidsP p 0 ks ++ ps) (ks.map (fun k => (some n, k)) ++ ts) := by
  unfold RowOk at *
  rw [List.map_append, List.map_map]
  have e1 : (ks.map ((fun x : Option Nat × Tr => x.2) ∘ fun k => (some n, k))) = ks := by
    rw [show ((fun x : Option Nat × Tr => x.2) ∘ fun k => (some n, k)) = id from rfl, List.map_id]
  rw [e1, flatP_kids, List.zip_append hl, ← h, List.append_assoc]
  rfl
/-- the places told by a laid out document -/
structure PlacesAt (H : Hp) (L : Addr) (qs : List (List Int)) : Prop where
  ex : ∃ vs : List V, H L = some (.lst vs) ∧ vs.length = qs.length ∧ ∀ (i : Nat) (q : List Int), qs[i]? = some q → ∃ (p r B : Addr) (z : Str), vs[i]? = some (.ref p) ∧ H p = some (.tup [.ref r, .str z, .ref B]) ∧ H r = some (.tup (q.map V.int))
end L2
set_option maxHeartbeats 4000000
set_option linter.all false
set_option maxRecDepth 100000
namespace L2
open PySem PySem.Spec PyProof.Rows
/-- [.. for i, x in enumerate(l) ..] -/
theorem lc_enumL {K : PySem.W.Frag} {a : Addr} {xs : List V} {g : TG} {tt : TT} {te : TE} {vs : List Nat} {σ : St} {H1 : Hp} {D : Addr} {Qd : Hp → Prop} (Pv : Nat → Hp → Prop) (h0 : Pv 0 (upd H1 D (.lst []))) (hl : ∀ i H, i ≤ xs.length → Pv i H → SqL K H a xs)
    (hs : ∀ i x H T, xs[i]? = some x → Pv i H → H T = none → g (.ref T) (wipe σ vs) (upd H T (.tup [.int (i : Nat), x])) fun σ2 H2 => wipe σ2 vs = wipe σ vs ∧ tt σ2 H2 fun b H3 =>
      if b = true then te σ2 H3 fun y H4 => ∃ acc, H4 D = some (.lst acc) ∧ acc.length < sizeLine ∧ Pv (i + 1) (upd H4 D (.lst (acc ++ [y]))) else Pv (i + 1) H3) (hd : ∀ H, Pv xs.length H → Qd H) :
    ∃ W : Nat → Nat → Hp → Prop, (∃ m, W 0 m (upd H1 D (.lst []))) ∧ ∀ i m H, W i m H →
      ((Ite K a).stop i H ∧ Qd H) ∨ ((Ite K a).go i H ∧ ∃ Nx : Hp → Prop, (∀ H', Nx H' → ∃ m', m' < m ∧ W (i + 1) m' H') ∧ ∀ x H', (Ite K a).yld i H x H' → g x (wipe σ vs) H' fun σ2 H2 => wipe σ2 vs = wipe σ vs ∧ tt σ2 H2 fun b H3 =>
        if b = true then te σ2 H3 fun y H4 => ∃ acc, H4 D = some (.lst acc) ∧ acc.length < sizeLine ∧ Nx (upd H4 D (.lst (acc ++ [y]))) else Nx H3) := by
  refine ⟨fun i m H => m = xs.length - i ∧ i ≤ xs.length ∧ Pv i H, ⟨xs.length, by simp, Nat.zero_le _, h0⟩, ?_⟩
  rintro i m H ⟨rfl, hi, p⟩
  have q := hl i H hi p
  by_cases hlt : i < xs.length
  · refine .inr ⟨⟨xs, xs[i], q, by simp [hlt]⟩, Pv (i + 1), fun H' p' => ⟨xs.length - (i + 1), by omega, rfl, hlt, p'⟩, fun y H' hy => ?_⟩
    obtain ⟨T, x, e1, e2, e3, e4⟩ := hy
    subst e1 e3
    exact hs i x H T (e4 xs q) p e2
  · have e : i = xs.length := by omega
    subst e
    exact .inl ⟨⟨xs, q, Nat.le_refl _⟩, hd H p⟩
/-- the marked places of a document: place and forms, in their order; the lists of forms are new ones -/
structure MarkAt (H0 H : Hp) (M : Addr) (m : Mch) (qs : List (List Int)) (tr : List Tr) : Prop where
  ex : ∃ vs : List V, H M = some (.lst vs) ∧ vs.length = qs.length ∧ ∀ (i : Nat) (q : List Int) (t : Tr), i < vs.length → qs[i]? = some q → tr[i]? = some t → ∃ (p r f : Addr) (mark : Int), vs[i]? = some (.ref p) ∧ H p = some (.tup [.ref r, .ref f]) ∧ H r = some (.tup (q.map V.int)) ∧ H f = some (.lst ((dueL mark 0 m.forms).map V.str)) ∧ m.marks[(stT m t).toNat]? = some mark ∧ H0 f = none ∧ f ≠ M
theorem MarkAt.same {H0 H H' : Hp} {M : Addr} {m : Mch} {qs : List (List Int)} {tr : List Tr} (h : MarkAt H0 H M m qs tr) (s : Same H H') : MarkAt H0 H' M m qs tr := by
  obtain ⟨vs, h1, h2, h3⟩ := h.ex
  exact ⟨vs, s _ _ h1, h2, fun i q t hi e1 e2 => let ⟨p, r, f, k, a1, a2, a3, a4, a5⟩ := h3 i q t hi e1 e2; ⟨p, r, f, k, a1, s _ _ a2, s _ _ a3, s _ _ a4, a5⟩⟩
end L2
set_option maxHeartbeats 4000000
set_option linter.all false
set_option maxRecDepth 100000
namespace L2
open PySem PySem.Spec PyProof.Rows
/-- spots: places and numbers -/
inductive SpAt (H : Hp) : List V → List (List Int × Nat) → Prop
  | nil : SpAt H [] []
  | cons {q r : Addr} {p : List Int} {k : Nat} {vs : List V} {rs : List (List Int × Nat)} : H q = some (.tup [.ref r, .int (k : Int)]) → H r = some (.tup (p.map V.int)) → SpAt H vs rs → SpAt H (.ref q :: vs) ((p, k) :: rs)
theorem SpAt.kp {H H' : Hp} (k : Kp H H') : ∀ {vs : List V} {ps : List (List Int × Nat)}, SpAt H vs ps → SpAt H' vs ps
  | _, _, .nil => .nil
  | _, _, .cons h1 h2 h3 => .cons (k.tup _ _ h1) (k.tup _ _ h2) (h3.kp k)
theorem SpAt.app {H : Hp} : ∀ {vs us : List V} {ps qs : List (List Int × Nat)}, SpAt H vs ps → SpAt H us qs → SpAt H (vs ++ us) (ps ++ qs)
  | _, _, _, _, .nil, h => h
  | _, _, _, _, .cons h1 h2 h3, h => .cons h1 h2 (h3.app h)
theorem SpAt.len {H : Hp} : ∀ {vs : List V} {ps : List (List Int × Nat)}, SpAt H vs ps → vs.length = ps.length
  | _, _, .nil => rfl
  | _, _, .cons _ _ h => congrArg (· + 1) h.len
theorem SpAt.get {H : Hp} : ∀ {vs : List V} {ps : List (List Int × Nat)} {i : Nat} {x : List Int × Nat}, SpAt H vs ps → ps[i]? = some x → ∃ q r, vs[i]? = some (.ref q) ∧ H q = some (.tup [.ref r, .int (x.2 : Int)]) ∧ H r = some (.tup (x.1.map V.int))
  | _, _, i, x, .nil, h => by simp at h
  | _, _, 0, x, .cons h1 h2 _, h => by cases h; exact ⟨_, _, rfl, h1, h2⟩
  | _, _, i + 1, x, .cons _ _ h3, h => SpAt.get (i := i) h3 (by simpa using h)
end L2
set_option maxHeartbeats 4000000
set_option linter.all false
set_option maxRecDepth 100000
set_option maxHeartbeats 4000000
set_option linter.all false
set_option maxRecDepth 100000
namespace L2
open PySem PySem.Spec PyProof.Rows
/-! ### machines whose forms can be sought -/
structure MAtF (H : Hp) (T : Addr) (m : Mch) : Prop where
  ex : ∃ (F N S P M : Addr) (rs : List V), H T = some (.tup [.ref F, .ref N, .ref S, .ref P, .ref M]) ∧ TupZ H F (m.forms.map V.str) ∧ TupZ H N (m.names.map V.str) ∧ H S = some (.tup (m.starts.map V.int)) ∧ H P = some (.tup rs) ∧ RowsAt H rs m.steps ∧ H M = some (.tup (m.marks.map V.int))
theorem MAtF.kp {H H' : Hp} {T : Addr} {m : Mch} (h : MAtF H T m) (k : Kp H H') : MAtF H' T m := by
  obtain ⟨F, N, S, P, M, rs, h1, h2, h3, h4, h5, h6, h7⟩ := h.ex
  exact ⟨F, N, S, P, M, rs, k.tup _ _ h1, h2.kp k, h3.kp k, k.tup _ _ h4, k.tup _ _ h5, h6.kp k, k.tup _ _ h7⟩
structure MOkF (m : Mch) : Prop where
  ok : MOk m
  f1 : 1 ≤ m.forms.length
  f12 : m.forms.length ≤ 12
  mt : ∀ x ∈ m.marks, x < 2 ^ m.forms.length
/-- whether a mark has a form -/
def hv (m : Mch) (f : Str) (x : Int) : Bool := match posOf f m.forms with
  | some k => decide (x / 2 ^ k % 2 = 1)
  | none => false
def opB (way : Int) (m : Mch) (f g : Str) (x : Int) : Bool := if way = 0 then hv m f x && hv m g x else if way = 1 then hv m f x || hv m g x else !hv m f x
theorem pow2_nat (n : Nat) : (0 : Int) < 2 ^ n := by
  have : (0 : Nat) < 2 ^ n := Nat.pos_of_ne_zero (by simp)
  have e : ((2 ^ n : Nat) : Int) = 2 ^ n := by simp
  omega
end L2
set_option maxHeartbeats 4000000
set_option linter.all false
set_option maxRecDepth 100000
namespace L2
open PySem PySem.Spec PyProof.Rows
/-- all that stands about a zip is apart -/
structure ZAp (z TI TO i1 i2 : Addr) (fp1 fp2 : List Addr) : Prop where
  a1 : TI ≠ z
  a2 : TO ≠ z
  a3 : i1 ≠ z
  a4 : i2 ≠ z
  a5 : TI ≠ TO
  a6 : TI ≠ i1
  a7 : TI ≠ i2
  a8 : TO ≠ i1
  a9 : TO ≠ i2
  a10 : i1 ≠ i2
  b1 : ∀ c ∈ fp1, c ≠ z ∧ c ≠ TO ∧ c ≠ i2
  b2 : ∀ c ∈ fp2, c ≠ z ∧ c ≠ TO ∧ c ≠ i1
section
variable {prog : Program} {w : World} {A : Around} {E : Value → Shared → Prop} {s : Shared} {z TI TO i1 i2 : Addr} {fp1 fp2 : List Addr} {n1 n2 : Nat} {P1 P2 : Nat → Value → Prop} {S1 S2 : Nat → Heap → Prop}
theorem zipD_item {k1 k2 : Nat} {a b : Value} {Q : Value → Shared → Prop} (D1 : Draws prog w A i1 fp1 n1 P1 S1) (D2 : Draws prog w A i2 fp2 n2 P2 S2) (D : ZAp z TI TO i1 i2 fp1 fp2)
    (gz : IsZip s.heap z TI TO .none) (gI : IsPair s.heap TI (.ref i1) (.ref i2)) (gO : IsPair s.heap TO a b) (t1 : S1 k1 s.heap) (t2 : S2 k2 s.heap) (l1 : k1 < n1) (l2 : k2 < n2)
    (hQ : ∀ x y h' tk, P1 k1 x → P2 k2 y → IsZip h' z TI TO (rawInt s.heap.objs.size) → IsPair h' TO x y → S1 (k1 + 1) h' → S2 (k2 + 1) h' → IsPair h' s.heap.objs.size x y →
      (∀ c o, c ≠ z → c ≠ TO → c ≠ i1 → c ≠ i2 → s.heap.get? c = some o → h'.get? c = some o) → Q (.ref s.heap.objs.size) { s with heap := h', toks := tk }) :
    wpAny (model prog w) A (Builtin.«zip.__next__» ⟨[.ref z], []⟩) (fun fin s' => ∃ v, fin = .done (.ret v) ∧ Q v s') E s := by
  show wpAny _ _ (field (.ref z) 2 >>= _) _ _ _
  refine wpAny_bind (wpAny_field gz rfl (x := .bool false) rfl ?_)
  show wpAny _ _ (field (.ref z) 3 >>= _) _ _ _
  refine wpAny_bind (wpAny_field gz rfl (x := .ref TI) rfl ?_)
  refine wpAny_bind (wpAny_seqItems gI rfl ?_)
  show wpAny _ _ (Builtin.SmallTypes.ownedTupleIsFree (.ref z) >>= _) _ _ _
  refine wpAny_bind ?_
  unfold Builtin.SmallTypes.ownedTupleIsFree
  refine wpAny_bind (wpAny_field gz rfl (x := .none) rfl (wpAny_pure ?_))
  simp only [if_true]
  refine wpAny_bind (wpAny_rule ?_)
  refine wpAny_bind (wpAny_field gz rfl (x := .ref TO) rfl ?_)
  refine wpAny_bind (wpAny_setField_rec gz (by simp) fun g1 gz1 gs1 => ?_)
  replace gz1 : IsZip g1 z TI TO .ellipsis := gz1
  refine wpAny_bind ?_
  simp only [List.zipIdx_cons, List.zipIdx_nil, List.forIn_cons, List.forIn_nil]
  refine wpAny_bind (wpAny_bind (wpAny_onRaise ?_))
  show wpAny _ _ (Builtin.SmallTypes.nextOf (.ref i1) >>= _) _ _ _
  have f1 : S1 k1 g1 := D1.frame _ _ _ t1 fun c hc o e => gs1.extBut _ _ (D.b1 c hc).1 e
  refine wpAny_bind (D1.item k1 _ _ _ l1 f1 fun x g2 tk2 p1 st2 gs2 => wpAny_pure ?_)
  have gO2 : IsPair g2 TO a b := gs2.extBut _ _ D.a8 (gs1.extBut _ _ D.a2 gO)
  refine wpAny_bind (wpAny_seqItems gO2 rfl ?_)
  refine wpAny_bind (wpAny_updateSeq_pair gO2 fun g3 gO3 gs3 => ?_)
  replace gO3 : IsPair g3 TO x b := gO3
  refine wpAny_bind (wpAny_letGo (wpAny_pure ?_))
  refine wpAny_bind (wpAny_bind (wpAny_onRaise ?_))
  show wpAny _ _ (Builtin.SmallTypes.nextOf (.ref i2) >>= _) _ _ _
  have f2 : S2 k2 g3 := D2.frame _ _ _ t2 fun c hc o e => gs3.extBut _ _ (D.b2 c hc).2.1 (gs2.extBut _ _ (D.b2 c hc).2.2 (gs1.extBut _ _ (D.b2 c hc).1 e))
  have f3 : S1 (k1 + 1) g3 := D1.frame _ _ _ st2 fun c hc o e => gs3.extBut _ _ (D.b1 c hc).2.1 e
  refine wpAny_bind (D2.item k2 _ _ _ l2 f2 fun y g4 tk4 p2 st4 gs4 => wpAny_pure ?_)
  have gO4 : IsPair g4 TO x b := gs4.extBut _ _ D.a9 gO3
  refine wpAny_bind (wpAny_seqItems gO4 rfl ?_)
  refine wpAny_bind (wpAny_updateSeq_pair gO4 fun g5 gO5 gs5 => ?_)
  replace gO5 : IsPair g5 TO x y := gO5
  refine wpAny_bind (wpAny_letGo (wpAny_pure (wpAny_pure ?_)))
  refine wpAny_bind (wpAny_seqItems gO5 rfl ?_)
  refine wpAny_bind (wpAny_newTuple ?_)
  have gsz : g5.objs.size = s.heap.objs.size := by rw [gs5.1, gs4.1, gs3.1, gs2.1, gs1.1]
  have gz5 : IsZip g5 z TI TO .ellipsis := gs5.extBut _ _ D.a2.symm (gs4.extBut _ _ D.a4.symm (gs3.extBut _ _ D.a2.symm (gs2.extBut _ _ D.a3.symm gz1)))
  have gk : ∀ c o, c ≠ z → c ≠ TO → c ≠ i1 → c ≠ i2 → s.heap.get? c = some o → g5.get? c = some o := fun c o c1 c2 c3 c4 e =>
    gs5.extBut _ _ c2 (gs4.extBut _ _ c4 (gs3.extBut _ _ c2 (gs2.extBut _ _ c3 (gs1.extBut _ _ c1 e))))
  have st5 : S1 (k1 + 1) g5 := D1.frame _ _ _ f3 fun c hc o e => gs5.extBut _ _ (D.b1 c hc).2.1 (gs4.extBut _ _ (D.b1 c hc).2.2 e)
  have su5 : S2 (k2 + 1) g5 := D2.frame _ _ _ st4 fun c hc o e => gs5.extBut _ _ (D.b2 c hc).2.1 e
  have ltz : z < g5.objs.size := Heap.lt_size gz5
  show wpAny _ _ (Builtin.SmallTypes.ownedTupleHandOut (.ref z) (.ref g5.objs.size) >>= _) _ _ _
  refine wpAny_bind ?_
  unfold Builtin.SmallTypes.ownedTupleHandOut
  have gz6 : IsZip (g5.push { cls := .type "tuple", data := .seq #[x, y] }) z TI TO .ellipsis := Heap.get?_push_of_some _ gz5
  refine wpAny_bind (wpAny_setField_rec gz6 (by simp) fun g7 gz7 gs7 => ?_)
  replace gz7 : IsZip g7 z TI TO (rawInt g5.objs.size) := gz7
  refine wpAny_setField_rec gz7 (by simp) fun g8 gz8 gs8 => ?_
  replace gz8 : IsZip g8 z TI TO (rawInt g5.objs.size) := gz8
  have up : ∀ c o, c ≠ z → g5.get? c = some o → g8.get? c = some o := fun c o c1 e => gs8.extBut _ _ c1 (gs7.extBut _ _ c1 (Heap.get?_push_of_some _ e))
  have gT : IsPair g8 g5.objs.size x y := gs8.extBut _ _ (Nat.ne_of_gt ltz) (gs7.extBut _ _ (Nat.ne_of_gt ltz) (Heap.get?_push_size _ rfl))
  rw [gsz] at gz8 gT
  refine wpAny_pure ⟨_, rfl, ?_⟩
  show Q (.ref g5.objs.size) _
  rw [gsz]
  exact hQ x y g8 tk4 p1 p2 gz8 (up _ _ D.a2 gO5) (D1.frame _ _ _ st5 fun c hc o e => up c o (D.b1 c hc).1 e) (D2.frame _ _ _ su5 fun c hc o e => up c o (D.b2 c hc).1 e) gT fun c o c1 c2 c3 c4 e => up c o c1 (gk c o c1 c2 c3 c4 e)
theorem zipD_end {k1 k2 : Nat} {a b : Value} {Q : Fin → Shared → Prop} (D1 : Draws prog w A i1 fp1 n1 P1 S1) (D2 : Draws prog w A i2 fp2 n2 P2 S2) (D : ZAp z TI TO i1 i2 fp1 fp2)
    (gz : IsZip s.heap z TI TO .none) (gI : IsPair s.heap TI (.ref i1) (.ref i2)) (gO : IsPair s.heap TO a b) (t1 : S1 k1 s.heap) (t2 : S2 k2 s.heap) (hend : k1 = n1 ∨ (k1 < n1 ∧ k2 = n2))
    (hE : ∀ h' e tk, (∀ c o, c ≠ z → c ≠ TO → c ≠ i1 → c ≠ i2 → s.heap.get? c = some o → h'.get? c = some o) → (∃ o, h'.get? e = some o ∧ o.cls = .type "StopIteration") → E (.ref e) { s with heap := h', toks := tk }) :
    wpAny (model prog w) A (Builtin.«zip.__next__» ⟨[.ref z], []⟩) Q E s := by
  show wpAny _ _ (field (.ref z) 2 >>= _) _ _ _
  refine wpAny_bind (wpAny_field gz rfl (x := .bool false) rfl ?_)
  show wpAny _ _ (field (.ref z) 3 >>= _) _ _ _
  refine wpAny_bind (wpAny_field gz rfl (x := .ref TI) rfl ?_)
  refine wpAny_bind (wpAny_seqItems gI rfl ?_)
  show wpAny _ _ (Builtin.SmallTypes.ownedTupleIsFree (.ref z) >>= _) _ _ _
  refine wpAny_bind ?_
  unfold Builtin.SmallTypes.ownedTupleIsFree
  refine wpAny_bind (wpAny_field gz rfl (x := .none) rfl (wpAny_pure ?_))
  simp only [if_true]
  refine wpAny_bind (wpAny_rule ?_)
  refine wpAny_bind (wpAny_field gz rfl (x := .ref TO) rfl ?_)
  refine wpAny_bind (wpAny_setField_rec gz (by simp) fun g1 gz1 gs1 => ?_)
  replace gz1 : IsZip g1 z TI TO .ellipsis := gz1
  refine wpAny_bind ?_
  simp only [List.zipIdx_cons, List.zipIdx_nil, List.forIn_cons, List.forIn_nil]
  refine wpAny_bind (wpAny_bind (wpAny_onRaise ?_))
  show wpAny _ _ (Builtin.SmallTypes.nextOf (.ref i1) >>= _) _ _ _
  have f1 : S1 k1 g1 := D1.frame _ _ _ t1 fun c hc o e => gs1.extBut _ _ (D.b1 c hc).1 e
  rcases hend with e1 | ⟨l1, e2⟩
  · subst e1
    refine wpAny_bind (D1.done _ _ _ f1 fun g2 e gs2 he => ?_)
    obtain ⟨oe, hoe, hce⟩ := he
    have gz2 : IsZip g2 z TI TO .ellipsis := gs2 _ _ D.a3.symm gz1
    have nez : e ≠ z := fun x => by subst x; rw [gz2] at hoe; cases hoe; simp at hce
    exact wpAny_setField_rec gz2 (by simp) fun g3 _ gs3 => hE g3 e s.toks (fun c o c1 _ c3 _ x => gs3.extBut _ _ c1 (gs2 _ _ c3 (gs1.extBut _ _ c1 x))) ⟨oe, gs3.extBut _ _ nez hoe, hce⟩
  · subst e2
    refine wpAny_bind (D1.item k1 _ _ _ l1 f1 fun x g2 tk2 p1 st2 gs2 => wpAny_pure ?_)
    have gO2 : IsPair g2 TO a b := gs2.extBut _ _ D.a8 (gs1.extBut _ _ D.a2 gO)
    refine wpAny_bind (wpAny_seqItems gO2 rfl ?_)
    refine wpAny_bind (wpAny_updateSeq_pair gO2 fun g3 gO3 gs3 => ?_)
    refine wpAny_bind (wpAny_letGo (wpAny_pure ?_))
    refine wpAny_bind (wpAny_bind (wpAny_onRaise ?_))
    show wpAny _ _ (Builtin.SmallTypes.nextOf (.ref i2) >>= _) _ _ _
    have f2 : S2 k2 g3 := D2.frame _ _ _ t2 fun c hc o e => gs3.extBut _ _ (D.b2 c hc).2.1 (gs2.extBut _ _ (D.b2 c hc).2.2 (gs1.extBut _ _ (D.b2 c hc).1 e))
    refine wpAny_bind (D2.done _ _ _ f2 fun g4 e gs4 he => ?_)
    obtain ⟨oe, hoe, hce⟩ := he
    have gz4 : IsZip g4 z TI TO .ellipsis := gs4 _ _ D.a4.symm (gs3.extBut _ _ D.a2.symm (gs2.extBut _ _ D.a3.symm gz1))
    have nez : e ≠ z := fun x => by subst x; rw [gz4] at hoe; cases hoe; simp at hce
    exact wpAny_setField_rec gz4 (by simp) fun g5 _ gs5 => hE g5 e tk2 (fun c o c1 c2 c3 c4 x => gs5.extBut _ _ c1 (gs4 _ _ c4 (gs3.extBut _ _ c2 (gs2.extBut _ _ c3 (gs1.extBut _ _ c1 x))))) ⟨oe, gs5.extBut _ _ nez hoe, hce⟩
theorem pyNext_zipD_item {k1 k2 : Nat} {a b : Value} {Q : Option Value → Shared → Prop} (D1 : Draws prog w A.in1 i1 fp1 n1 P1 S1) (D2 : Draws prog w A.in1 i2 fp2 n2 P2 S2) (D : ZAp z TI TO i1 i2 fp1 fp2)
    (gz : IsZip s.heap z TI TO .none) (gI : IsPair s.heap TI (.ref i1) (.ref i2)) (gO : IsPair s.heap TO a b) (t1 : S1 k1 s.heap) (t2 : S2 k2 s.heap) (l1 : k1 < n1) (l2 : k2 < n2)
    (hQ : ∀ x y h' tk, P1 k1 x → P2 k2 y → IsZip h' z TI TO (rawInt s.heap.objs.size) → IsPair h' TO x y → S1 (k1 + 1) h' → S2 (k2 + 1) h' → IsPair h' s.heap.objs.size x y →
      (∀ c o, c ≠ z → c ≠ TO → c ≠ i1 → c ≠ i2 → s.heap.get? c = some o → h'.get? c = some o) → Q (some (.ref s.heap.objs.size)) { s with heap := h', toks := tk }) :
    wpAny (model prog w) A (pyNext (.ref z)) Q E s := by
  have hT : s.TypeIs (.ref z) "zip" := ⟨_, gz, rfl⟩
  unfold pyNext
  exact wpAny_bind (wpAny_attempt (wpAny_callSpecial?_slot (name := Str.ofString "__next__") hT F.slot_zip_next
    (wpAny_call_entry F.slot_zip_next hT F.entry_zip_next
      (zipD_item (by first | exact D1 | exact D1.of_in1) (by first | exact D2 | exact D2.of_in1) D gz gI gO t1 t2 l1 l2 fun x y h' tk c1 c2 c3 c4 c5 c6 c7 c8 => wpAny_pure (hQ x y h' tk c1 c2 c3 c4 c5 c6 c7 c8)) (F.args_zip_next_1 _))))
theorem pyNext_zipD_end {k1 k2 : Nat} {a b : Value} {Q : Option Value → Shared → Prop} (D1 : Draws prog w A.in1 i1 fp1 n1 P1 S1) (D2 : Draws prog w A.in1 i2 fp2 n2 P2 S2) (D : ZAp z TI TO i1 i2 fp1 fp2)
    (gz : IsZip s.heap z TI TO .none) (gI : IsPair s.heap TI (.ref i1) (.ref i2)) (gO : IsPair s.heap TO a b) (t1 : S1 k1 s.heap) (t2 : S2 k2 s.heap) (hend : k1 = n1 ∨ (k1 < n1 ∧ k2 = n2))
    (hQ : ∀ h' tk, (∀ c o, c ≠ z → c ≠ TO → c ≠ i1 → c ≠ i2 → s.heap.get? c = some o → h'.get? c = some o) → Q none { s with heap := h', toks := tk }) : wpAny (model prog w) A (pyNext (.ref z)) Q E s := by
  have hT : s.TypeIs (.ref z) "zip" := ⟨_, gz, rfl⟩
  unfold pyNext
  refine wpAny_bind (wpAny_attempt (wpAny_callSpecial?_slot (name := Str.ofString "__next__") hT F.slot_zip_next
    (wpAny_call_entry F.slot_zip_next hT F.entry_zip_next (zipD_end (by first | exact D1 | exact D1.of_in1) (by first | exact D2 | exact D2.of_in1) D gz gI gO t1 t2 hend fun h' e tk hk he => ?_) (F.args_zip_next_1 _))))
  obtain ⟨o, ho, hc⟩ := he
  refine wpAny_bind (wpAny_isInstance (T := "StopIteration") (b := true) ⟨o, ho, hc⟩ isSubtype_stop ?_)
  exact wpAny_pure (hQ _ _ hk)
end
end L2
set_option maxHeartbeats 4000000
set_option linter.all false
set_option maxRecDepth 100000
namespace L2
open PySem PySem.Spec PyProof.Rows
/-! ### zip of lists and tuples, true for a tuple -/
def SqB (t : Bool) (K : PySem.W.Frag) (H : Hp) (a : Addr) (xs : List V) : Prop := match t with
  | true => SqT K H a xs
  | false => SqL K H a xs
def SeqB (t : Bool) (h : Heap) (l : Addr) (its : Array Value) : Prop := match t with
  | true => h.IsTuple l its
  | false => h.IsList l its
def IterB (t : Bool) (h : Heap) (it l : Addr) (i : Nat) : Prop := match t with
  | true => h.IsTupleIter it l i
  | false => h.IsListIter it l i
def itCls : Bool → String
  | true => "tuple_iterator"
  | false => "list_iterator"
def itO (t : Bool) (l : Addr) : Obj := { cls := .type (itCls t), data := .fields #[.ref l, .int 0 0] }
theorem SeqB.push {t : Bool} {h : Heap} {l : Addr} {its : Array Value} (q : SeqB t h l its) (o : Obj) : SeqB t (h.push o) l its := by
  cases t with
  | true => obtain ⟨o', e, r⟩ := q; exact ⟨o', Heap.get?_push_of_some _ e, r⟩
  | false => exact Heap.IsList.push q _
theorem IterB.at {t : Bool} {h h' : Heap} {it l : Addr} {i : Nat} (q : IterB t h it l i) (k : ∀ o, h.get? it = some o → h'.get? it = some o) : IterB t h' it l i := by
  cases t with
  | true => obtain ⟨o', e, r⟩ := q; exact ⟨o', k _ e, r⟩
  | false => obtain ⟨o', e, r⟩ := q; exact ⟨o', k _ e, r⟩
theorem IterB.ob {t : Bool} {h : Heap} {it l : Addr} {i : Nat} (q : IterB t h it l i) : ∃ o, h.get? it = some o ∧ o.data = .fields #[.ref l, .int i 0] := by
  cases t with
  | true => obtain ⟨o', e, _, d⟩ := q; exact ⟨o', e, d⟩
  | false => obtain ⟨o', e, _, d⟩ := q; exact ⟨o', e, d⟩
theorem SeqB.ob {t : Bool} {h : Heap} {l : Addr} {its : Array Value} (q : SeqB t h l its) : ∃ o, h.get? l = some o := by
  cases t with
  | true => obtain ⟨o', e, _⟩ := q; exact ⟨o', e⟩
  | false => obtain ⟨o', e, _⟩ := q; exact ⟨o', e⟩
theorem drawsB {prog : Program} {w : World} {A : Around} (t : Bool) (hh : A.handled = none) (it l : Addr) (hne : l ≠ it) (items : Array Value) :
    Draws prog w A it [it, l] items.size (fun i v => items[i]? = some v) (fun i h => IterB t h it l i ∧ SeqB t h l items) := by
  cases t with
  | true => exact draws_tup hh it l hne items
  | false => exact Draws.list hh it l hne items
section
variable {X : Cx} {pins : List (Addr × Obj)} {σ : St} {H : Hp} {s : Shared} {a : Addr} {xs ys : List V}
theorem Inv.sqB {t : Bool} (I : Inv X pins σ H s) (h : SqB t X.K H a xs) : ∃ its : List Value, Vals xs its ∧ SeqB t s.heap a its.toArray := by
  cases t with
  | true => obtain ⟨its, r, p, _⟩ := I.tuple h; exact ⟨its, r, p⟩
  | false => obtain ⟨its, r, p, _⟩ := I.list h; exact ⟨its, r, p.isList⟩
theorem Inv.sqB_inj {t : Bool} (I : Inv X pins σ H s) (h : SqB t X.K H a xs) (h' : SqB t X.K H a ys) : xs = ys := by
  cases t with
  | true => exact I.tuple_inj h h'
  | false => exact I.list_inj h h'
end
def zB1 (h : Heap) (t1 : Bool) (l1 : Addr) : Heap := h.push (itO t1 l1)
def zB2 (h : Heap) (t1 t2 : Bool) (l1 l2 : Addr) : Heap := (zB1 h t1 l1).push (itO t2 l2)
def zB3 (h : Heap) (t1 t2 : Bool) (l1 l2 : Addr) : Heap := (zB2 h t1 t2 l1 l2).push { cls := .type "tuple", data := .seq #[.ref h.objs.size, .ref (zB1 h t1 l1).objs.size] }
def zB4 (h : Heap) (t1 t2 : Bool) (l1 l2 : Addr) : Heap := (zB3 h t1 t2 l1 l2).push { cls := .type "tuple", data := .seq #[.none, .none] }
def zB5 (h : Heap) (t1 t2 : Bool) (l1 l2 : Addr) : Heap := (zB4 h t1 t2 l1 l2).push { cls := .type "zip", data := .fields #[.none, .bool false, .bool false, .ref (zB2 h t1 t2 l1 l2).objs.size, .ref (zB3 h t1 t2 l1 l2).objs.size] }
theorem meets_zipB (t1 t2 : Bool) (l1 l2 : Addr) (xs ys : Array Value) :
    Meets (Builtin.«zip.__new__» ⟨[.type "zip", .ref l1, .ref l2], []⟩) (fun _ R s => SeqB t1 s.heap l1 xs ∧ SeqB t2 s.heap l2 ys ∧
      R (.ok (.ret (.ref (zB4 s.heap t1 t2 l1 l2).objs.size))) { s with heap := zB5 s.heap t1 t2 l1 l2 }) :=
  .of_wp fun prog w A R s h => by
    obtain ⟨hp, g, d, tk, os⟩ := s
    obtain ⟨q1, q2, h⟩ := h
    have hsub := sub_zip
    have q2' := q2.push (itO t1 l1)
    cases t1 with
    | true =>
      have r1 : Heap.IsTuple (Shared.heap ⟨hp, g, d, tk, os⟩) l1 xs := q1
      cases t2 with
      | true =>
        have r2 : Heap.IsTuple (Shared.heap ⟨hp.push { cls := .type "tuple_iterator", data := .fields #[.ref l1, .int 0 0] }, g, d, tk, os⟩) l2 ys := q2'
        wp_walk using wpAny_pyIter_tuple r1, wpAny_pyIter_tuple r2
        exact ⟨_, rfl, h⟩
      | false =>
        have r2 : Heap.IsList (Shared.heap ⟨hp.push { cls := .type "tuple_iterator", data := .fields #[.ref l1, .int 0 0] }, g, d, tk, os⟩) l2 ys := q2'
        wp_walk using wpAny_pyIter_tuple r1, wpAny_pyIter_list r2
        exact ⟨_, rfl, h⟩
    | false =>
      have r1 : Heap.IsList (Shared.heap ⟨hp, g, d, tk, os⟩) l1 xs := q1
      cases t2 with
      | true =>
        have r2 : Heap.IsTuple (Shared.heap ⟨hp.push { cls := .type "list_iterator", data := .fields #[.ref l1, .int 0 0] }, g, d, tk, os⟩) l2 ys := q2'
        wp_walk using wpAny_pyIter_list r1, wpAny_pyIter_tuple r2
        exact ⟨_, rfl, h⟩
      | false =>
        have r2 : Heap.IsList (Shared.heap ⟨hp.push { cls := .type "list_iterator", data := .fields #[.ref l1, .int 0 0] }, g, d, tk, os⟩) l2 ys := q2'
        wp_walk using wpAny_pyIter_list r1, wpAny_pyIter_list r2
        exact ⟨_, rfl, h⟩
section
variable {prog : Program} {w : World} {A : Around} {E : Value → Shared → Prop} {s : Shared}
theorem call_zipB {t1 t2 : Bool} {l1 l2 : Addr} {xs ys : Array Value} {Q : Value → Shared → Prop} (q1 : SeqB t1 s.heap l1 xs) (q2 : SeqB t2 s.heap l2 ys)
    (h : ∀ h', IsZip h' (s.heap.objs.size + 4) (s.heap.objs.size + 2) (s.heap.objs.size + 3) .none → IsPair h' (s.heap.objs.size + 2) (.ref s.heap.objs.size) (.ref (s.heap.objs.size + 1)) →
      IsPair h' (s.heap.objs.size + 3) .none .none → IterB t1 h' s.heap.objs.size l1 0 → IterB t2 h' (s.heap.objs.size + 1) l2 0 →
      (∀ c o, s.heap.get? c = some o → h'.get? c = some o) → Q (.ref (s.heap.objs.size + 4)) { s with heap := h' }) :
    wpAny (model prog w) A (call (.type "zip") [.ref l1, .ref l2]) Q E s := by
  refine callType_new F.called_zip (by decide) (F.typeCall_zip_2 _ _) (F.newCall_zip_2 _ _) (fun obj => F.args_object_init_3 obj _ _) F.entry_zip_new
    (meets_zipB t1 t2 l1 l2 xs ys) ⟨q1, q2, ?_⟩
  have z1 : (zB1 s.heap t1 l1).objs.size = s.heap.objs.size + 1 := Heap.size_push ..
  have z2 : (zB2 s.heap t1 t2 l1 l2).objs.size = s.heap.objs.size + 2 := by unfold zB2; rw [Heap.size_push, z1]
  have z3 : (zB3 s.heap t1 t2 l1 l2).objs.size = s.heap.objs.size + 3 := by unfold zB3; rw [Heap.size_push, z2]
  have z4 : (zB4 s.heap t1 t2 l1 l2).objs.size = s.heap.objs.size + 4 := by unfold zB4; rw [Heap.size_push, z3]
  have up1 : ∀ c o, s.heap.get? c = some o → (zB1 s.heap t1 l1).get? c = some o := fun c o x => Heap.get?_push_of_some _ x
  have up2 : ∀ c o, (zB1 s.heap t1 l1).get? c = some o → (zB2 s.heap t1 t2 l1 l2).get? c = some o := fun c o x => Heap.get?_push_of_some _ x
  have up3 : ∀ c o, (zB2 s.heap t1 t2 l1 l2).get? c = some o → (zB3 s.heap t1 t2 l1 l2).get? c = some o := fun c o x => Heap.get?_push_of_some _ x
  have up4 : ∀ c o, (zB3 s.heap t1 t2 l1 l2).get? c = some o → (zB4 s.heap t1 t2 l1 l2).get? c = some o := fun c o x => Heap.get?_push_of_some _ x
  have up5 : ∀ c o, (zB4 s.heap t1 t2 l1 l2).get? c = some o → (zB5 s.heap t1 t2 l1 l2).get? c = some o := fun c o x => Heap.get?_push_of_some _ x
  have n5 : (zB5 s.heap t1 t2 l1 l2).get? (zB4 s.heap t1 t2 l1 l2).objs.size = some _ := Heap.get?_push_size _ rfl
  have n4 : (zB4 s.heap t1 t2 l1 l2).get? (zB3 s.heap t1 t2 l1 l2).objs.size = some _ := Heap.get?_push_size _ rfl
  have n3 : (zB3 s.heap t1 t2 l1 l2).get? (zB2 s.heap t1 t2 l1 l2).objs.size = some _ := Heap.get?_push_size _ rfl
  have n2 : (zB2 s.heap t1 t2 l1 l2).get? (zB1 s.heap t1 l1).objs.size = some (itO t2 l2) := Heap.get?_push_size _ rfl
  have n1 : (zB1 s.heap t1 l1).get? s.heap.objs.size = some (itO t1 l1) := Heap.get?_push_size _ rfl
  have m4 := up5 _ _ n4
  have m3 := up5 _ _ (up4 _ _ n3)
  have m2 := up5 _ _ (up4 _ _ (up3 _ _ n2))
  have m1 := up5 _ _ (up4 _ _ (up3 _ _ (up2 _ _ n1)))
  show _ ∧ _
  rw [z4] at n5
  rw [z2, z3] at n5
  rw [z3] at m4
  rw [z2, z1] at m3
  rw [z1] at m2
  rw [z4]
  refine ⟨⟨_, n5, rfl⟩, h _ n5 m3 m4 ?_ ?_ fun c o x => up5 _ _ (up4 _ _ (up3 _ _ (up2 _ _ (up1 _ _ x))))⟩
  · cases t1 with
    | true => exact ⟨_, m1, rfl, rfl⟩
    | false => exact ⟨_, m1, rfl, rfl⟩
  · cases t2 with
    | true => exact ⟨_, m2, rfl, rfl⟩
    | false => exact ⟨_, m2, rfl, rfl⟩
end
/-- the rows at a and b as they stand at each turn, the items in new pairs -/
def ItB (K : PySem.W.Frag) (t1 t2 : Bool) (a b : Addr) : It :=
  ⟨fun i H => ∃ (xs ys : List V) (x y : V), SqB t1 K H a xs ∧ SqB t2 K H b ys ∧ xs[i]? = some x ∧ ys[i]? = some y,
    fun i H v H' => ∃ T x y, v = .ref T ∧ H T = none ∧ H' = upd H T (.tup [x, y]) ∧ (∀ xs, SqB t1 K H a xs → xs[i]? = some x) ∧ ∀ ys, SqB t2 K H b ys → ys[i]? = some y,
    fun i H => ∃ xs ys : List V, SqB t1 K H a xs ∧ SqB t2 K H b ys ∧ (xs.length = i ∨ (i < xs.length ∧ ys.length = i))⟩
theorem zAp_of (I l1 l2 : Nat) (h1 : l1 < I) (h2 : l2 < I) : ZAp (I + 4) (I + 2) (I + 3) I (I + 1) [I, l1] [I + 1, l2] := by
  have n : ∀ {x y : Nat}, x ≠ y → @Ne Addr x y := fun h => h
  refine ⟨n (by omega), n (by omega), n (by omega), n (by omega), n (by omega), n (by omega), n (by omega), n (by omega), n (by omega), n (by omega), fun c hc => ?_, fun c hc => ?_⟩
  · have e : c = I ∨ c = l1 := by simpa using hc
    rcases e with e | e
    · rw [e]; exact ⟨n (by omega), n (by omega), n (by omega)⟩
    · rw [e]; exact ⟨n (by omega), n (by omega), n (by omega)⟩
  · have e : c = I + 1 ∨ c = l2 := by simpa using hc
    rcases e with e | e
    · rw [e]; exact ⟨n (by omega), n (by omega), n (by omega)⟩
    · rw [e]; exact ⟨n (by omega), n (by omega), n (by omega)⟩
theorem turn_zipB {P : Program} {w : World} {K : PySem.W.Frag} {elts : List Expr} {kk : Nat} {tpos : Pos} {t1 t2 : Bool} {a b z TI TO i1 i2 : Addr} (D : ZAp z TI TO i1 i2 [i1, a] [i2, b]) (ha1 : a ≠ i1) (hb2 : b ≠ i2) :
    Turn P w K (.Tuple elts kk tpos) (ItB K t1 t2 a b) [z, TI, TO, i1, i2] z (fun i h => IsZip h z TI TO .none ∧ IsPair h TI (.ref i1) (.ref i2) ∧ (∃ x y, IsPair h TO x y) ∧ IterB t1 h i1 a i ∧ IterB t2 h i2 b i) where
  mem := by simp
  obj := fun i h st c hc => by
    obtain ⟨hz, hTI, ⟨x, y, hTO⟩, q1, q2⟩ := st
    obtain ⟨o1, e1, d1⟩ := q1.ob
    obtain ⟨o2, e2, d2⟩ := q2.ob
    have e' : c = z ∨ c = TI ∨ c = TO ∨ c = i1 ∨ c = i2 := by simpa using hc
    rcases e' with q | q | q | q | q <;> rw [q]
    · exact ⟨_, hz, fun v q => nomatch q⟩
    · exact ⟨_, hTI, fun v q => nomatch q⟩
    · exact ⟨_, hTO, fun v q => nomatch q⟩
    · exact ⟨o1, e1, fun v q => by rw [d1] at q; cases q⟩
    · exact ⟨o2, e2, fun v q => by rw [d2] at q; cases q⟩
  keep := fun i h h' st k => by
    obtain ⟨hz, hTI, ⟨x, y, hTO⟩, q1, q2⟩ := st
    exact ⟨k z (by simp) _ hz, k TI (by simp) _ hTI, ⟨x, y, k TO (by simp) _ hTO⟩, q1.at fun o q => k i1 (by simp) o q, q2.at fun o q => k i2 (by simp) o q⟩
  item := by
    intro X hP hw hK hc i pins s σ H E I hf st hg
    subst hP hw hK
    obtain ⟨hz, hTI, ⟨x0, y0, hTO⟩, q1, q2⟩ := st
    obtain ⟨xs, ys, x, y, hqx, hqy, hx, hy⟩ := hg
    obtain ⟨its, rv, p1⟩ := I.sqB hqx
    obtain ⟨its2, rv2, p2⟩ := I.sqB hqy
    obtain ⟨u, hu, ru⟩ := rv.get hx
    obtain ⟨u2, hu2, ru2⟩ := rv2.get hy
    have hzl : z < s.heap.objs.size := Heap.lt_size hz
    have D1 := drawsB (prog := X.prog) (w := X.w) (A := X.A.in1) t1 (by exact I.ok.hd hc) i1 a ha1 its.toArray
    have D2 := drawsB (prog := X.prog) (w := X.w) (A := X.A.in1) t2 (by exact I.ok.hd hc) i2 b hb2 its2.toArray
    have lt1 : i < its.toArray.size := by simpa using (List.getElem?_eq_some_iff.mp hu).1
    have lt2 : i < its2.toArray.size := by simpa using (List.getElem?_eq_some_iff.mp hu2).1
    refine pyNext_zipD_item D1 D2 D hz hTI hTO ⟨q1, p1⟩ ⟨q2, p2⟩ lt1 lt2 fun u' u2' h' tk pu pu2 z' TO' s1' s2' hT hk => ?_
    have eu : u' = u := by
      have h1 : its.toArray[i]? = some u := by simpa using hu
      rw [h1] at pu
      exact (Option.some.inj pu).symm
    have eu2 : u2' = u2 := by
      have h1 : its2.toArray[i]? = some u2 := by simpa using hu2
      rw [h1] at pu2
      exact (Option.some.inj pu2).symm
    subst eu eu2
    refine ⟨_, rfl, wpAny_letOwnedTupleGo_zip (s := { s with heap := h', toks := tk }) z' fun h'' z'' sb => ?_⟩
    have hT2 : h''.get? s.heap.objs.size = some { cls := .type "tuple", data := .seq #[u', u2'] } := (sb.2 _ (Nat.ne_of_gt hzl)).trans hT
    have new : ObjOk X.prog X.w (upd H s.heap.objs.size (.tup [x, y])) h'' s.heap.objs.size (.tup [x, y]) :=
      ⟨by show 2 ≤ sizeLine; decide, [u', u2'], .cons ru (.cons ru2 .nil), ⟨_, hT2, rfl, _, rfl⟩⟩
    have I1 : Inv X pins σ (upd H s.heap.objs.size (.tup [x, y])) { s with heap := h'', toks := tk } :=
      I.turnedNew (t' := tk) (ch := [z, TI, TO, i1, i2]) (fun c o hb q => (sb.2 c (fun q' => hb (by simp [q']))).trans (hk c o (fun q' => hb (by simp [q'])) (fun q' => hb (by simp [q'])) (fun q' => hb (by simp [q'])) (fun q' => hb (by simp [q'])) q)) hf (Nat.le_refl _) new
    refine ⟨.ref s.heap.objs.size, _, I1, rfl, ⟨_, x, y, rfl, I.hok.fresh (Nat.le_refl _), rfl, fun l hl => by rw [I.sqB_inj hl hqx]; exact hx, fun l hl => by rw [I.sqB_inj hl hqy]; exact hy⟩, ⟨z'', ?_, ⟨u', u2', ?_⟩, ?_, ?_⟩, fun c hcm => ?_⟩
    · exact (sb.2 _ D.a1).trans (hk _ _ D.a1 D.a5 D.a6 D.a7 hTI)
    · exact (sb.2 _ D.a2).trans TO'
    · exact s1'.1.at fun o q => (sb.2 _ D.a3).trans q
    · exact s2'.1.at fun o q => (sb.2 _ D.a4).trans q
    · have hlt : c < s.heap.objs.size := by
        have e' : c = z ∨ c = TI ∨ c = TO ∨ c = i1 ∨ c = i2 := by simpa using hcm
        obtain ⟨o1, e1, _⟩ := q1.ob
        obtain ⟨o2, e2, _⟩ := q2.ob
        rcases e' with q | q | q | q | q <;> rw [q]
        · exact hzl
        · exact Heap.lt_size hTI
        · exact Heap.lt_size hTO
        · exact Heap.lt_size e1
        · exact Heap.lt_size e2
      rw [upd_ne (Nat.ne_of_lt hlt)]
      exact (hf c hcm).1
  done := by
    intro X hP hw hK hc i pins s σ H E I hf st hg
    subst hP hw hK
    obtain ⟨hz, hTI, ⟨x0, y0, hTO⟩, q1, q2⟩ := st
    obtain ⟨xs, ys, hqx, hqy, hend⟩ := hg
    obtain ⟨its, rv, p1⟩ := I.sqB hqx
    obtain ⟨its2, rv2, p2⟩ := I.sqB hqy
    have l1 := rv.length
    have l2 := rv2.length
    have D1 := drawsB (prog := X.prog) (w := X.w) (A := X.A.in1) t1 (by exact I.ok.hd hc) i1 a ha1 its.toArray
    have D2 := drawsB (prog := X.prog) (w := X.w) (A := X.A.in1) t2 (by exact I.ok.hd hc) i2 b hb2 its2.toArray
    refine pyNext_zipD_end D1 D2 D hz hTI hTO ⟨q1, p1⟩ ⟨q2, p2⟩ ?_ fun h' tk hk => ⟨rfl, I.turnedL (t' := tk) (ch := [z, TI, TO, i1, i2]) (fun c o hb q =>
      hk c o (fun q' => hb (by simp [q'])) (fun q' => hb (by simp [q'])) (fun q' => hb (by simp [q'])) (fun q' => hb (by simp [q'])) q) hf⟩
    rcases hend with q | ⟨q, q'⟩
    · exact .inl (by simp; omega)
    · exact .inr ⟨by simp; omega, by simp; omega⟩
  self := fun A i s Q E st h => wpAny_pyIter_zip st.1 h
def iZipB (K : PySem.W.Frag) (t1 t2 : Bool) (ta : TA) : TI := fun σ H R => ta σ H fun vs H1 => ∃ a b xs ys, vs = [.ref a, .ref b] ∧ SqB t1 K H1 a xs ∧ SqB t2 K H1 b ys ∧ R (ItB K t1 t2 a b) H1
theorem pi_zipB {X : Cx} (t1 t2 : Bool) {e e2 : Expr} {ta : TA} {p pos tpos : Pos} {elts : List Expr} {kk : Nat} (hg : Gl X "zip") (hm : X.mg "zip" = none) (ha : PA X [e, e2] ta)
    (hs : starEach [e, e2] X.env = (false, eval e X.env) :: starEach [e2] X.env := by rfl) (hpl : (backTo pos (starEach [e2] X.env)).any (·.1) = false := by rfl) :
    PI X (.Tuple elts kk tpos) (.Call (.Name "zip" p) [e, e2] [] pos) (iZipB X.K t1 t2 ta) := by
  intro pins s σ H R I h
  refine Call_ (ld_blt I hg hm boot_zip5 (PyProof.Rows.callWith_type1 (thn (ha pos pins s σ H _ I h) fun us s1 ⟨vs, H1, I1, r1, q1⟩ => ?_) hs hpl))
  obtain ⟨a, b, xs, ys, ex, hqx, hqy, q⟩ := q1
  subst ex
  obtain ⟨u1, u2, rfl, r, r'⟩ : ∃ u1 u2, us = [u1, u2] ∧ RelV (.ref a) u1 ∧ RelV (.ref b) u2 := by
    cases r1 with
    | cons r rr => cases rr with
      | cons r' rr => cases rr; exact ⟨_, _, rfl, r, r'⟩
  cases r
  cases r'
  obtain ⟨its, rv, p1⟩ := I1.sqB hqx
  obtain ⟨its2, rv2, p2⟩ := I1.sqB hqy
  have la : a < s1.heap.objs.size := by obtain ⟨o, e⟩ := p1.ob; exact Heap.lt_size e
  have lb : b < s1.heap.objs.size := by obtain ⟨o, e⟩ := p2.ob; exact Heap.lt_size e
  refine call_zipB p1 p2 fun h' hz hTI hTO h1 h2 hk => wpAny_pyIter_zip hz ?_
  have I2 : Inv X pins σ H1 { s1 with heap := h' } := I1.kept (t' := s1.toks) hk
  refine ⟨s1.heap.objs.size + 4, [s1.heap.objs.size + 4, s1.heap.objs.size + 2, s1.heap.objs.size + 3, s1.heap.objs.size, s1.heap.objs.size + 1], _, _, H1, rfl, I2, turn_zipB (zAp_of s1.heap.objs.size a b la lb) (Nat.ne_of_lt la) (Nat.ne_of_lt (Nat.lt_succ_of_lt lb)), ⟨hz, hTI, ⟨_, _, hTO⟩, h1, h2⟩, fun c hcm => ?_, q⟩
  have hle : s1.heap.objs.size ≤ c := by
    have e' : c = s1.heap.objs.size + 4 ∨ c = s1.heap.objs.size + 2 ∨ c = s1.heap.objs.size + 3 ∨ c = s1.heap.objs.size ∨ c = s1.heap.objs.size + 1 := by simpa using hcm
    rcases e' with z | z | z | z | z <;> rw [z] <;> first | exact Nat.le_add_right _ _ | exact Nat.le_refl _
  exact I1.fpOk hle (I1.hok.fresh hle)
/-- [.. for x, y in zip(..)], rows of one length -/
theorem lc_zipB {K : PySem.W.Frag} {t1 t2 : Bool} {a b : Addr} {xs ys : List V} {g : TG} {tt : TT} {te : TE} {vs : List Nat} {σ : St} {H1 : Hp} {D : Addr} {Qd : Hp → Prop} (hxy : xs.length = ys.length) (Pv : Nat → Hp → Prop) (h0 : Pv 0 (upd H1 D (.lst []))) (hl : ∀ i H, i ≤ xs.length → Pv i H → SqB t1 K H a xs ∧ SqB t2 K H b ys)
    (hs : ∀ i x y H T, xs[i]? = some x → ys[i]? = some y → Pv i H → H T = none → g (.ref T) (wipe σ vs) (upd H T (.tup [x, y])) fun σ2 H2 => wipe σ2 vs = wipe σ vs ∧ tt σ2 H2 fun b H3 =>
      if b = true then te σ2 H3 fun y H4 => ∃ acc, H4 D = some (.lst acc) ∧ acc.length < sizeLine ∧ Pv (i + 1) (upd H4 D (.lst (acc ++ [y]))) else Pv (i + 1) H3) (hd : ∀ H, Pv xs.length H → Qd H) :
    ∃ W : Nat → Nat → Hp → Prop, (∃ m, W 0 m (upd H1 D (.lst []))) ∧ ∀ i m H, W i m H →
      ((ItB K t1 t2 a b).stop i H ∧ Qd H) ∨ ((ItB K t1 t2 a b).go i H ∧ ∃ Nx : Hp → Prop, (∀ H', Nx H' → ∃ m', m' < m ∧ W (i + 1) m' H') ∧ ∀ x H', (ItB K t1 t2 a b).yld i H x H' → g x (wipe σ vs) H' fun σ2 H2 => wipe σ2 vs = wipe σ vs ∧ tt σ2 H2 fun b H3 =>
        if b = true then te σ2 H3 fun y H4 => ∃ acc, H4 D = some (.lst acc) ∧ acc.length < sizeLine ∧ Nx (upd H4 D (.lst (acc ++ [y]))) else Nx H3) := by
  refine ⟨fun i m H => m = xs.length - i ∧ i ≤ xs.length ∧ Pv i H, ⟨xs.length, by simp, Nat.zero_le _, h0⟩, ?_⟩
  rintro i m H ⟨rfl, hi, p⟩
  obtain ⟨q1, q2⟩ := hl i H hi p
  by_cases hlt : i < xs.length
  · have e1 : xs[i]? = some (xs[i]'hlt) := List.getElem?_eq_getElem hlt
    have e2 : ys[i]? = some (ys[i]'(by omega)) := List.getElem?_eq_getElem _
    refine .inr ⟨⟨xs, ys, _, _, q1, q2, e1, e2⟩, Pv (i + 1), fun H' p' => ⟨xs.length - (i + 1), by omega, rfl, hlt, p'⟩, fun z H' hz => ?_⟩
    obtain ⟨T, x, y, f1, f2, f3, f4, f5⟩ := hz
    subst f1 f3
    exact hs i x y H T (f4 xs q1) (f5 ys q2) p f2
  · have e : i = xs.length := by omega
    subst e
    exact .inl ⟨⟨xs, ys, q1, q2, .inl rfl⟩, hd H p⟩
end L2
set_option maxHeartbeats 4000000
set_option linter.all false
set_option maxRecDepth 100000
set_option maxHeartbeats 4000000
set_option linter.all false
set_option maxRecDepth 100000
set_option maxHeartbeats 4000000
set_option linter.all false
set_option maxRecDepth 100000
namespace L2
open PySem PySem.Spec PyProof.Rows
/-! ### a rule's items -/
inductive Itm where
  | hole
  | node (name : Str) (kids : List Itm)
mutual
def Itm.size : Itm → Nat
  | .hole => 1
  | .node _ ks => 1 + Itm.sizes ks
def Itm.sizes : List Itm → Nat
  | [] => 0
  | t :: r => t.size + Itm.sizes r
end
mutual
def Itm.ht : Itm → Nat
  | .hole => 0
  | .node _ ks => 1 + Itm.hts ks
def Itm.hts : List Itm → Nat
  | [] => 0
  | t :: r => max t.ht (Itm.hts r)
end
mutual
inductive ItAt (H : Hp) : V → Itm → Prop
  | hole : ItAt H (.str "*") .hole
  | node {a c : Addr} {n : Str} {vs : List V} {ks : List Itm} : H a = some (.tup [.str n, .ref c]) → H c = some (.tup vs) → nameF n = true → ItsAt H vs ks → ItAt H (.ref a) (.node n ks)
inductive ItsAt (H : Hp) : List V → List Itm → Prop
  | nil : ItsAt H [] []
  | cons {v : V} {t : Itm} {vs : List V} {ts : List Itm} : ItAt H v t → ItsAt H vs ts → ItsAt H (v :: vs) (t :: ts)
end
mutual
theorem ItAt.kp {H H' : Hp} {v : V} {t : Itm} (k : Kp H H') : ItAt H v t → ItAt H' v t
  | .hole => .hole
  | .node a b c d => .node (k.tup _ _ a) (k.tup _ _ b) c (d.kp k)
theorem ItsAt.kp {H H' : Hp} {vs : List V} {ts : List Itm} (k : Kp H H') : ItsAt H vs ts → ItsAt H' vs ts
  | .nil => .nil
  | .cons a b => .cons (a.kp k) (b.kp k)
end
theorem ItsAt.len {H : Hp} : ∀ {vs : List V} {ts : List Itm}, ItsAt H vs ts → vs.length = ts.length
  | _, _, .nil => rfl
  | _, _, .cons _ h => congrArg (· + 1) h.len
theorem ItsAt.snoc {H : Hp} {v : V} {t : Itm} (h : ItAt H v t) : ∀ {vs : List V} {ts : List Itm}, ItsAt H vs ts → ItsAt H (vs ++ [v]) (ts ++ [t])
  | _, _, .nil => .cons h .nil
  | _, _, .cons a b => .cons a (ItsAt.snoc h b)
theorem ItsAt.get {H : Hp} : ∀ {vs : List V} {ts : List Itm} {i : Nat} {v : V}, ItsAt H vs ts → vs[i]? = some v → ∃ t, ts[i]? = some t ∧ ItAt H v t
  | _, _, i, v, .nil, h => by simp at h
  | _, _, 0, v, .cons (t := t) a b, h => by
    cases h
    exact ⟨t, rfl, a⟩
  | _, _, i + 1, v, .cons a b, h => by
    obtain ⟨t, h1, h2⟩ := ItsAt.get (i := i) b (by simpa using h)
    exact ⟨t, by simpa using h1, h2⟩
theorem its_sizes_app : ∀ ks ls : List Itm, Itm.sizes (ks ++ ls) = Itm.sizes ks + Itm.sizes ls
  | [], ls => by show Itm.sizes ls = 0 + Itm.sizes ls; omega
  | k :: r, ls => by
    have := its_sizes_app r ls
    show k.size + Itm.sizes (r ++ ls) = k.size + Itm.sizes r + Itm.sizes ls
    omega
theorem its_hts_app : ∀ ks ls : List Itm, Itm.hts (ks ++ ls) = max (Itm.hts ks) (Itm.hts ls)
  | [], ls => by show Itm.hts ls = max 0 (Itm.hts ls); omega
  | k :: r, ls => by
    have := its_hts_app r ls
    show max k.ht (Itm.hts (r ++ ls)) = max (max k.ht (Itm.hts r)) (Itm.hts ls)
    omega
theorem kp_sameX {L : Addr} {H H' : Hp} {xs ys : List V} (s : SameX L H H') (h : H L = some (.lst xs)) (h' : H' L = some (.lst ys)) : Kp H H' :=
  ⟨fun b zs e => s b _ (fun z => by rw [z, h] at e; cases e) e, fun b zs e => by
    by_cases hb : b = L
    · rw [hb]; exact ⟨_, h'⟩
    · exact ⟨_, s b _ hb e⟩, fun b kv e => ⟨_, s b _ (fun z => by rw [z, h] at e; cases e) e⟩, fun b o u e => s b _ (fun z => by rw [z, h] at e; cases e) e, fun b o e => s b _ (fun z => by rw [z, h] at e; cases e) e⟩
end L2
set_option maxHeartbeats 4000000
set_option linter.all false
set_option maxRecDepth 100000
namespace L2
open PySem PySem.Spec PyProof.Rows
mutual
def Itm.data : Itm → PyData
  | .hole => .str "*"
  | .node z ks => .tuple [.str z, .tuple (Itm.datas ks)]
def Itm.datas : List Itm → List PyData
  | [] => []
  | t :: r => t.data :: Itm.datas r
end
mutual
theorem ItAt.dp {K : PySem.W.Frag} {H : Hp} {v : V} {t : Itm} : ItAt H v t → Dp K H v t.data
  | .hole => .str _
  | .node a b _ d => .tup (SqT.of a) (.cons (.str _) (.cons (.tup (SqT.of b) (ItsAt.dp d)) .nil))
theorem ItsAt.dp {K : PySem.W.Frag} {H : Hp} {vs : List V} {ts : List Itm} : ItsAt H vs ts → DpAll K H vs (Itm.datas ts)
  | .nil => .nil
  | .cons a b => .cons a.dp (ItsAt.dp b)
end
mutual
theorem ItAt.lay {H : Hp} {v : V} {t : Itm} : ItAt H v t → PyData.canLay0 t.data = true
  | .hole => by decide +kernel
  | .node (ks := ks) _ _ c d => by
    show (PyData.canLay0 (.str _) && (PyData.canLayAll0 (Itm.datas ks) && true)) = true
    rw [strOk_name c, ItsAt.lay d]
    rfl
theorem ItsAt.lay {H : Hp} {vs : List V} {ts : List Itm} : ItsAt H vs ts → PyData.canLayAll0 (Itm.datas ts) = true
  | .nil => rfl
  | .cons (t := t) (ts := ts) a b => by
    show (PyData.canLay0 t.data && PyData.canLayAll0 (Itm.datas ts)) = true
    rw [ItAt.lay a, ItsAt.lay b]
    rfl
end
mutual
theorem Itm.depth : ∀ t : Itm, t.data.depth ≤ 2 * t.ht
  | .hole => by show 0 ≤ 0; omega
  | .node z ks => by
    have := Itm.depths ks
    show max 0 (max (PyData.depthAll (Itm.datas ks) + 1) 0) + 1 ≤ 2 * (1 + Itm.hts ks)
    omega
theorem Itm.depths : ∀ ks : List Itm, PyData.depthAll (Itm.datas ks) ≤ 2 * Itm.hts ks
  | [] => by show 0 ≤ 0; omega
  | t :: r => by
    have h1 := Itm.depth t
    have h2 := Itm.depths r
    show max t.data.depth (PyData.depthAll (Itm.datas r)) ≤ 2 * max t.ht (Itm.hts r)
    omega
end
theorem it_shaped {H : Hp} {v : V} {t : Itm} (h : ItAt H v t) (hh : t.ht ≤ 30) : SeqAt.shaped t.data = true := by
  have h1 := h.lay
  have h2 := Itm.depth t
  show (PyData.canLay0 t.data && decide (t.data.depth ≤ 64)) = true
  rw [h1]
  exact decide_eq_true (by omega)
theorem hole_shaped : SeqAt.shaped (.str "*") = true := by decide +kernel
theorem it_eqv_hole : ∀ t : Itm, PyData.eqv t.data (.str "*") = (match t with | .hole => true | .node _ _ => false)
  | .hole => by decide +kernel
  | .node _ _ => rfl
end L2
set_option maxHeartbeats 4000000
set_option linter.all false
set_option maxRecDepth 100000
namespace L2
open PySem PySem.Spec PyProof.Rows
/-! ### text.strip(signs) -/
section
variable {X : Cx} {o e : Expr} {to te : TE}
theorem mt_strip1 : MtR X "str.strip" (fun x xs H Q => ∃ a b, x = .str a ∧ xs = [.str b] ∧ a.length ≤ sizeLine ∧ Q (.str (Txt.stripChars a b)) H) := by
  intro pins s σ H x xs v us Q I rx rs h
  obtain ⟨a, b, rfl, rfl, hl, h⟩ := h
  obtain ⟨t, rfl⟩ := rx
  cases rs with
  | cons r1 rs =>
    cases rs
    obtain ⟨u, rfl⟩ := r1
    exact PySem.SC.stripChars (fun t' k => ⟨.str (Txt.stripChars a b), H, I.tok k, ⟨t', rfl⟩, h⟩) hl
theorem pe_strip1 {apos pos : Pos} (ho : PE X o to) (he : PE X e te) (hs : starEach [e] X.env = [(false, eval e X.env)] := by rfl) (hbase : attributeBase o "strip" X.env (eval o X.env) = eval o X.env := by rfl) (hline : (apos.endLine == pos.line) = true := by rfl) :
    PE X (.Call (.Attribute o "strip" apos) [e] [] pos) (tM1 (fun x xs H Q => ∃ a b, x = .str a ∧ xs = [.str b] ∧ a.length ≤ sizeLine ∧ Q (.str (Txt.stripChars a b)) H) to te) :=
  pe_m1 F.slot_str_strip F.type_str_strip mt_strip1 ho he hs hbase hline
theorem pe_starts {apos pos : Pos} (ho : PE X o to) (he : PE X e te) (hs : starEach [e] X.env = [(false, eval e X.env)] := by rfl) (hbase : attributeBase o "startswith" X.env (eval o X.env) = eval o X.env := by rfl) (hline : (apos.endLine == pos.line) = true := by rfl) :
    PE X (.Call (.Attribute o "startswith" apos) [e] [] pos) (tM1 (fun x xs H Q => ∃ a b, x = .str a ∧ xs = [.str b] ∧ Q (.bl (Txt.startswith a b)) H) to te) :=
  pe_m1 F.slot_str_startswith F.type_str_startswith mt_startswith ho he hs hbase hline
end
/-- texts by their signs -/
def ofL (l : List Nat) : Str := ⟨l.toArray⟩
theorem str_of (z : Str) : z = ofL z.cps.toList := by cases z; rfl
def isB (c : Nat) : Bool := c == 32
theorem bl_has : (fun c => (" " : Str).cps.contains c) = isB := by
  funext c
  rw [bl_is]
  show (#[32] : Array Nat).contains c = (c == 32)
  rw [Bool.eq_iff_iff]
  simp
theorem tw_rep : ∀ (i : Nat) (c : Nat) (r : List Nat), isB c = false → (List.replicate i 32 ++ c :: r).takeWhile isB = List.replicate i 32
  | 0, c, r, h => by
    show (c :: r).takeWhile isB = []
    rw [List.takeWhile_cons, h]
    rfl
  | i + 1, c, r, h => by
    rw [List.replicate_succ, List.cons_append, List.takeWhile_cons]
    show (if isB 32 = true then _ else _) = _
    rw [if_pos (by decide), tw_rep i c r h]
theorem tw_all : ∀ (i : Nat), (List.replicate i 32).takeWhile isB = List.replicate i 32
  | 0 => rfl
  | i + 1 => by
    rw [List.replicate_succ, List.takeWhile_cons]
    show (if isB 32 = true then _ else _) = _
    rw [if_pos (by decide), tw_all i]
theorem strip_mid {i j : Nat} {c c' : Nat} {r r' m : List Nat} (h1 : m = c :: r) (h2 : isB c = false) (h3 : m.reverse = c' :: r') (h4 : isB c' = false) : Txt.stripChars (ofL (List.replicate i 32 ++ m ++ List.replicate j 32)) " " = ofL m := by
  have hx : (ofL (List.replicate i 32 ++ m ++ List.replicate j 32)).cps.toList = List.replicate i 32 ++ m ++ List.replicate j 32 := rfl
  have hl : (ofL (List.replicate i 32 ++ m ++ List.replicate j 32)).length = i + m.length + j := by
    show (List.replicate i 32 ++ m ++ List.replicate j 32).toArray.size = _
    rw [List.size_toArray, List.length_append, List.length_append, List.length_replicate, List.length_replicate]
  have lo : stripLo isB true (ofL (List.replicate i 32 ++ m ++ List.replicate j 32)) = i := by
    unfold stripLo
    rw [if_pos rfl, hx, h1, List.append_assoc, List.cons_append, tw_rep _ _ _ h2, List.length_replicate]
  have hi : stripHi isB true (ofL (List.replicate i 32 ++ m ++ List.replicate j 32)) i = i + m.length := by
    unfold stripHi
    rw [if_pos rfl, hx, hl, List.append_assoc, List.drop_left' (List.length_replicate ..), List.reverse_append, List.reverse_replicate, h3, tw_rep _ _ _ h4, List.length_replicate]
    omega
  show Txt.stripBy (fun c => (" " : Str).cps.contains c) true true _ = _
  rw [bl_has]
  unfold Txt.stripBy stripSame stripped
  rw [lo, hi, hl]
  split
  · rename_i h
    have h' := Bool.and_eq_true_iff.mp h
    have i0 : i = 0 := by have := h'.1; simpa using this
    have j0 : j = 0 := by have := h'.2; have : i + m.length = i + m.length + j := by simpa using this
                          omega
    rw [i0, j0]
    show ofL ([] ++ m ++ []) = _
    rw [List.append_nil]
    rfl
  · refine str_ext ?_
    have := TL.tl_strSub (ofL (List.replicate i 32 ++ m ++ List.replicate j 32)) i (i + m.length)
    show TL.tl _ = m
    rw [this]
    show ((List.replicate i 32 ++ m ++ List.replicate j 32).drop i).take (i + m.length - i) = m
    rw [List.append_assoc, List.drop_left' (List.length_replicate ..), Nat.add_sub_cancel_left, List.take_left' rfl]
theorem strip_all (n : Nat) : Txt.stripChars (ofL (List.replicate n 32)) " " = "" := by
  have hl : (ofL (List.replicate n 32)).length = n := by
    show (List.replicate n 32).toArray.size = _
    rw [List.size_toArray, List.length_replicate]
  have lo : stripLo isB true (ofL (List.replicate n 32)) = n := by
    unfold stripLo
    rw [if_pos rfl]
    show ((List.replicate n 32).takeWhile isB).length = n
    rw [tw_all, List.length_replicate]
  have hi : stripHi isB true (ofL (List.replicate n 32)) n = n := by
    unfold stripHi
    rw [if_pos rfl, hl]
    show n - (((List.replicate n 32).drop n).reverse.takeWhile isB).length = n
    rw [List.drop_eq_nil_iff.mpr (by rw [List.length_replicate]; exact Nat.le_refl _)]
    rfl
  show Txt.stripBy (fun c => (" " : Str).cps.contains c) true true _ = _
  rw [bl_has]
  unfold Txt.stripBy stripSame stripped
  rw [lo, hi, hl]
  have em : ("" : Str).cps.toList = [] := by rw [em_is]
  split
  · rename_i h
    have n0 : n = 0 := by have := (Bool.and_eq_true_iff.mp h).1; simpa using this
    rw [n0]
    refine str_ext ?_
    rw [em]
    rfl
  · refine str_ext ?_
    have := TL.tl_strSub (ofL (List.replicate n 32)) n n
    rw [em]
    show TL.tl _ = []
    rw [this, Nat.sub_self, List.take_zero]
/-! ### items as trees: a hole is a leaf with its sign for a name -/
mutual
def Itm.tr : Itm → Tr
  | .hole => .node "*" []
  | .node z ks => .node z (Itm.trs ks)
def Itm.trs : List Itm → List Tr
  | [] => []
  | t :: r => t.tr :: Itm.trs r
end
mutual
inductive StAt (H : Hp) : V → Tr → Prop
  | star : StAt H (.str "*") (.node "*" [])
  | node {a c : Addr} {n : Str} {us : List V} {ks : List Tr} : H a = some (.tup [.str n, .ref c]) → H c = some (.tup us) → nameF n = true → StsAt H us ks → StAt H (.ref a) (.node n ks)
inductive StsAt (H : Hp) : List V → List Tr → Prop
  | nil : StsAt H [] []
  | cons {v : V} {t : Tr} {vs : List V} {ts : List Tr} : StAt H v t → StsAt H vs ts → StsAt H (v :: vs) (t :: ts)
end
mutual
theorem StAt.kp {H H' : Hp} {v : V} {t : Tr} (k : Kp H H') : StAt H v t → StAt H' v t
  | .star => .star
  | .node a b c d => .node (k.tup _ _ a) (k.tup _ _ b) c (d.kp k)
theorem StsAt.kp {H H' : Hp} {vs : List V} {ts : List Tr} (k : Kp H H') : StsAt H vs ts → StsAt H' vs ts
  | .nil => .nil
  | .cons a b => .cons (a.kp k) (b.kp k)
end
mutual
theorem ItAt.st {H : Hp} {v : V} {t : Itm} : ItAt H v t → StAt H v t.tr
  | .hole => .star
  | .node a b c d => .node a b c d.st
theorem ItsAt.st {H : Hp} {vs : List V} {ts : List Itm} : ItsAt H vs ts → StsAt H vs (Itm.trs ts)
  | .nil => .nil
  | .cons a b => .cons a.st b.st
end
theorem StsAt.len {H : Hp} : ∀ {vs : List V} {ts : List Tr}, StsAt H vs ts → vs.length = ts.length
  | _, _, .nil => rfl
  | _, _, .cons _ h => congrArg (· + 1) h.len
theorem StsAt.app {H : Hp} : ∀ {vs us : List V} {ts ss : List Tr}, StsAt H vs ts → StsAt H us ss → StsAt H (vs ++ us) (ts ++ ss)
  | _, _, _, _, .nil, h => h
  | _, _, _, _, .cons a b, h => .cons a (b.app h)
theorem StsAt.get {H : Hp} : ∀ {vs : List V} {ts : List Tr} {i : Nat} {v : V}, StsAt H vs ts → vs[i]? = some v → ∃ t, ts[i]? = some t ∧ StAt H v t
  | _, _, i, v, .nil, h => by simp at h
  | _, _, 0, v, .cons (t := t) a b, h => by
    cases h
    exact ⟨t, rfl, a⟩
  | _, _, i + 1, v, .cons a b, h => by
    obtain ⟨t, h1, h2⟩ := StsAt.get (i := i) b (by simpa using h)
    exact ⟨t, by simpa using h1, h2⟩
theorem star_no : nameF "*" = false := by decide +kernel
/-- each name is a name, but for leaves that are holes -/
def nmI (n : Str) (ks : List Tr) : Bool := nameF n || (decide (n = "*") && ks.isEmpty)
mutual
def Tr.fI : Tr → Bool
  | .node n ks => nmI n ks && Tr.fsI ks
  | .bad => false
def Tr.fsI : List Tr → Bool
  | [] => true
  | t :: r => t.fI && Tr.fsI r
end
mutual
theorem StAt.fI {H : Hp} {v : V} {t : Tr} : StAt H v t → t.fI = true
  | .star => by decide +kernel
  | .node (n := n) (ks := ks) a b c d => by
    show (nmI n ks && Tr.fsI ks) = true
    unfold nmI
    rw [c, d.fI]
    rfl
theorem StsAt.fI {H : Hp} {vs : List V} {ts : List Tr} : StsAt H vs ts → Tr.fsI ts = true
  | .nil => rfl
  | .cons a b => by
    show (Tr.fI _ && Tr.fsI _) = true
    rw [a.fI, b.fI]
    rfl
end
theorem fI_node {n : Str} {ks : List Tr} (h : (Tr.node n ks).fI = true) : (nameF n = true ∨ (n = "*" ∧ ks = [])) ∧ Tr.fsI ks = true := by
  obtain ⟨h1, h2⟩ := Bool.and_eq_true_iff.mp (show (nmI n ks && Tr.fsI ks) = true from h)
  refine ⟨?_, h2⟩
  unfold nmI at h1
  rcases Bool.or_eq_true_iff.mp h1 with h | h
  · exact .inl h
  · obtain ⟨h3, h4⟩ := Bool.and_eq_true_iff.mp h
    exact .inr ⟨of_decide_eq_true h3, List.isEmpty_iff.mp h4⟩
theorem fsI_cons {t : Tr} {ks : List Tr} (h : Tr.fsI (t :: ks) = true) : t.fI = true ∧ Tr.fsI ks = true := Bool.and_eq_true_iff.mp h
theorem fsI_app : ∀ (ts ss : List Tr), Tr.fsI (ts ++ ss) = (Tr.fsI ts && Tr.fsI ss)
  | [], ss => rfl
  | t :: r, ss => by
    show (t.fI && Tr.fsI (r ++ ss)) = ((t.fI && Tr.fsI r) && Tr.fsI ss)
    rw [fsI_app r ss, Bool.and_assoc]
theorem nmI_len {n : Str} {ks : List Tr} (h : nameF n = true ∨ (n = "*" ∧ ks = [])) : 1 ≤ n.length ∧ n.length ≤ 8 := by
  rcases h with h | ⟨rfl, _⟩
  · exact ⟨(nameF_len h).1, (nameF_len h).2.1⟩
  · exact ⟨by decide +kernel, by decide +kernel⟩
mutual
theorem tlI_len : ∀ t : Tr, t.fI = true → t.tl.length + 1 ≤ 11 * t.size
  | .node n ks, h => by
    have hn := nmI_len (fI_node h).1
    have hl : n.cps.toList.length = n.length := by simp [Str.length]
    have hk := clI_len ks (fI_node h).2
    have ht : (Tr.cl ks).tail.length ≤ (Tr.cl ks).length := by simp
    show (n.cps.toList ++ (if ks.isEmpty then [] else 40 :: ((Tr.cl ks).tail ++ [41]))).length + 1 ≤ 11 * (1 + Tr.sizes ks)
    rw [List.length_append, hl]
    split
    · simp; omega
    · simp only [List.length_cons, List.length_append, List.length_nil]; omega
  | .bad, h => by cases h
theorem clI_len : ∀ ts : List Tr, Tr.fsI ts = true → (Tr.cl ts).length ≤ 11 * Tr.sizes ts
  | [], _ => Nat.zero_le _
  | t :: r, h => by
    have h1 := tlI_len t (fsI_cons h).1
    have h2 := clI_len r (fsI_cons h).2
    show (32 :: (t.tl ++ Tr.cl r)).length ≤ 11 * (t.size + Tr.sizes r)
    rw [List.length_cons, List.length_append]
    omega
end
def PzAtI (H : Hp) (v : V) : Pz → Prop
  | .s z => v = .str z
  | .d t => StAt H v t
inductive PzsAtI (H : Hp) : List V → List Pz → Prop
  | nil : PzsAtI H [] []
  | cons {v : V} {t : Pz} {vs : List V} {ts : List Pz} : PzAtI H v t → PzsAtI H vs ts → PzsAtI H (v :: vs) (t :: ts)
theorem PzAtI.kp {H H' : Hp} {v : V} (k : Kp H H') : ∀ {t : Pz}, PzAtI H v t → PzAtI H' v t
  | .s _, h => h
  | .d _, h => StAt.kp k h
theorem PzsAtI.kp {H H' : Hp} {vs : List V} {ts : List Pz} (k : Kp H H') (h : PzsAtI H vs ts) : PzsAtI H' vs ts := by
  induction h with
  | nil => exact .nil
  | cons a _ ih => exact .cons (a.kp k) ih
theorem PzsAtI.len {H : Hp} {vs : List V} {ts : List Pz} (h : PzsAtI H vs ts) : vs.length = ts.length := by
  induction h with
  | nil => rfl
  | cons a _ ih => exact congrArg (· + 1) ih
theorem PzsAtI.app {H : Hp} {vs us : List V} {ts ss : List Pz} (h : PzsAtI H vs ts) (h2 : PzsAtI H us ss) : PzsAtI H (vs ++ us) (ts ++ ss) := by
  induction h with
  | nil => exact h2
  | cons a _ ih => exact .cons a ih
theorem PzsAtI.rev {H : Hp} {vs : List V} {ts : List Pz} (h : PzsAtI H vs ts) : PzsAtI H vs.reverse ts.reverse := by
  induction h with
  | nil => exact .nil
  | cons a _ ih => rw [List.reverse_cons, List.reverse_cons]; exact ih.app (.cons a .nil)
theorem PzsAtI.last {H : Hp} : ∀ {vs : List V} {ts : List Pz}, PzsAtI H vs ts → vs ≠ [] → ∃ v t ts', vs[vs.length - 1]? = some v ∧ PzAtI H v t ∧ PzsAtI H vs.dropLast ts' ∧ ts = ts' ++ [t]
  | _, _, .nil, h => absurd rfl h
  | _, _, .cons (v := v) (t := t) h .nil, _ => ⟨v, t, [], rfl, h, .nil, rfl⟩
  | _, _, .cons (v := v) (t := t) h (.cons (v := v2) (t := t2) h2 h3), _ => by
    obtain ⟨w, s, ts', e1, e2, e3, e4⟩ := PzsAtI.last (.cons h2 h3) (by simp)
    refine ⟨w, s, t :: ts', ?_, e2, .cons h e3, by rw [e4]; rfl⟩
    simpa using e1
/-! ### items half read: behind the last frame stand the items that are still to be read -/
def restI (td0 : List Tr) : List Fr → List Nat
  | [] => Tr.cl td0
  | f :: fs => Tr.cl f.td ++ 41 :: restI td0 fs
theorem plug_fI : ∀ (fs : List Fr) (t : Tr), (plug fs t).fI = true → t.fI = true
  | [], t, h => h
  | f :: fs, t, h => by
    have h1 := (fI_node (plug_fI fs _ h)).2
    rw [fsI_app] at h1
    exact (fsI_cons (Bool.and_eq_true_iff.mp h1).2).1
theorem plug_nameI (f : Fr) (fs : List Fr) (t : Tr) (h : (plug (f :: fs) t).fI = true) : nameF f.n = true := by
  rcases (fI_node (plug_fI fs _ h)).1 with h | ⟨_, h⟩
  · exact h
  · exact absurd h (by simp)
theorem restI_head (td0 : List Tr) : ∀ fs : List Fr, restI td0 fs = [] ∨ ∃ c r, restI td0 fs = c :: r ∧ isLet c = false ∧ c ≠ 40
  | [] => by
    cases td0 with
    | nil => exact .inl rfl
    | cons t r => exact .inr ⟨32, _, rfl, by decide, by decide⟩
  | f :: fs => by
    refine .inr ?_
    cases e : f.td with
    | nil => exact ⟨41, _, by show Tr.cl f.td ++ 41 :: restI td0 fs = _; rw [e]; rfl, by decide, by decide⟩
    | cons t r => exact ⟨32, _, by show Tr.cl f.td ++ 41 :: restI td0 fs = _; rw [e]; rfl, by decide, by decide⟩
inductive FrsI (H : Hp) : List V → List Fr → Prop
  | nil : FrsI H [] []
  | cons {a : Addr} {f : Fr} {vs us : List V} {fs : List Fr} : H a = some (.tup [.str f.n, .ref f.c]) → H f.c = some (.lst vs) → StsAt H vs f.d → FrsI H us fs → (∀ g ∈ fs, g.c ≠ f.c) → FrsI H (.ref a :: us) (f :: fs)
theorem FrsI.len {H : Hp} {us : List V} {fs : List Fr} (h : FrsI H us fs) : us.length = fs.length := by
  induction h with
  | nil => rfl
  | cons _ _ _ _ _ ih => exact congrArg (· + 1) ih
theorem FrsI.same {H H' : Hp} {us : List V} {fs : List Fr} (s : Same H H') (h : FrsI H us fs) : FrsI H' us fs := by
  induction h with
  | nil => exact .nil
  | cons a b c _ e ih => exact .cons (s _ _ a) (s _ _ b) (c.kp (Kp.same s)) ih e
theorem FrsI.upd {H : Hp} {us : List V} {fs : List Fr} {B : Addr} {xs ys : List V} (h : FrsI H us fs) (hB : H B = some (.lst xs)) (hn : ∀ f ∈ fs, f.c ≠ B) : FrsI (upd H B (.lst ys)) us fs := by
  induction h with
  | nil => exact .nil
  | cons a b c _ e ih =>
    refine .cons ((Kp.lset hB).tup _ _ a) ?_ (c.kp (Kp.lset hB)) (ih fun g hg => hn g (List.mem_cons_of_mem _ hg)) e
    rw [upd_ne (hn _ (List.mem_cons_self ..))]
    exact b
theorem FrsI.have_ {H : Hp} {us : List V} {fs : List Fr} (h : FrsI H us fs) : ∀ f ∈ fs, ∃ vs, H f.c = some (.lst vs) := by
  induction h with
  | nil => exact fun f hf => (nomatch hf)
  | cons a b c _ e ih =>
    intro f hf
    rcases List.mem_cons.mp hf with z | z
    · rw [z]; exact ⟨_, b⟩
    · exact ih f z
end L2
set_option maxHeartbeats 4000000
set_option linter.all false
set_option maxRecDepth 100000
namespace G72
open PySem L2
def top (i : Nat) : Stmt := PySem.Challenge.pw_graftform_k72_turners_read_and_shown.main.body.getD i (.Pass ⟨0, 0, 0, 0⟩)
structure Txt (K : PySem.W.Frag) (mg : Str → Option Value) : Prop where
  isinstance : mg "isinstance" = none
  str : mg "str" = none
  int : mg "int" = none
  bool : mg "bool" = none
  list : mg "list" = none
  tuple : mg "tuple" = none
  len : mg "len" = none
  range : mg "range" = none
  enumerate : mg "enumerate" = none
  all : mg "all" = none
  zip : mg "zip" = none
  reversed : mg "reversed" = none
  HOLE : ∃ t, mg "HOLE" = some (.str "*" t)
  NAME_LETTERS : ∃ t, mg "NAME_LETTERS" = some (.int 8 t)
  ARROW : ∃ t, mg "ARROW" = some (.str " ->" t)
  TURNER_RULES : ∃ t, mg "TURNER_RULES" = some (.int 12 t)
section
variable {P : Program} {w : World} {K : PySem.W.Frag} {mg : Str → Option Value} {base : Heap}
def cellE (ns : List Int) (k : Int) : Int := (ns[k.toNat]?).getD 0
def spCell (K : PySem.W.Frag) : Sp := fun vs H Q _ => ∃ (a : Addr) (ns : List Int) (k : Int), vs = [.ref a, .int k] ∧ SqL K H a (ns.map V.int) ∧ 0 ≤ k ∧ Q (.int (cellE ns k)) H
theorem sc_cell : FnScope ["_law_script", "_law_k"] ["_law_script", "_law_k"] (defScope (top 27)) := ⟨rfl, rfl, rfl, by decide +kernel, rfl, by decide +kernel, by decide +kernel⟩
theorem ok_cell  (F : Dfn K mg "_law_cell_at" (top 27) ["_law_script", "_law_k"]) (T : Txt K mg)  : Cal P w K mg base 1 "_law_cell_at" ["_law_script", "_law_k"] (spCell K) := by
  refine F.cal sc_cell (fun vs H Q E h => ?_) (fun f cdv A outer s H vs Q E hr h => ?_)
  · obtain ⟨a, ns, k, rfl, _⟩ := h
    rfl
  · have nd := sc_cell.nd
    obtain ⟨a, ns, k, rfl, hS, hk, q⟩ := h
    refine ⟨_, (pss_cons (ps_if (pt_cmpR op_lt (pv 1) (pe_callB call_len_seq (by rfl) T.len PySem.boot_len (pa_cons (pv 0) pa_nil)) (nomark _)) (pss_one (ps_ret (pe_ix ix_list (pv 0) (pv 1) (fun _ _ => rfl)))) pss_nil)
      (pss_one (ps_ret pe_int))), ?_⟩
    refine ⟨_, rfl, _, rfl, a, _, rfl, .inl hS, _, _, rfl, rfl, _, rfl, ?_⟩
    refine ite2 (fun h1 => ?_) (fun h1 => ?_)
    · have h1' := of_decide_eq_true h1
      rw [List.length_map] at h1'
      obtain ⟨n, hnm, hng, hnV⟩ := ints_get (ns := ns) (j := k.toNat) (by omega)
      have ev : cellE ns k = n := by unfold cellE; rw [hng]; rfl
      rw [ev] at q
      exact ⟨_, rfl, _, rfl, a, _, _, _, rfl, rfl, hS, at_get (j := k.toNat) (by omega) hnV, q⟩
    · have hge : ns.length ≤ k.toNat := by
        have : ¬ k < (((ns.map V.int).length : Nat) : Int) := fun z => h1 (decide_eq_true z)
        rw [List.length_map] at this
        omega
      have ev : cellE ns k = 0 := by unfold cellE; rw [List.getElem?_eq_none hge]; rfl
      rw [ev] at q
      exact q
def spMix : Sp := fun vs H Q _ => ∃ (n k : Int), vs = [.int n, .int k] ∧ 0 ≤ k ∧ k ≤ 1000 ∧ ∀ x : Int, 0 ≤ x → Q (.int x) H
theorem sc_mix : FnScope ["_law_number", "_law_k", "_law_blend"] ["_law_number", "_law_k"] (defScope (top 28)) := ⟨rfl, rfl, rfl, by decide +kernel, rfl, by decide +kernel, by decide +kernel⟩
theorem ok_mix  (F : Dfn K mg "_law_mix" (top 28) ["_law_number", "_law_k"]) (T : Txt K mg)  : Cal P w K mg base 1 "_law_mix" ["_law_number", "_law_k"] spMix := by
  refine F.cal sc_mix (fun vs H Q E h => ?_) (fun f cdv A outer s H vs Q E hr h => ?_)
  · obtain ⟨n, k, rfl, _⟩ := h
    rfl
  · have nd := sc_mix.nd
    obtain ⟨n, k, rfl, hk0, hk1, q⟩ := h
    refine ⟨_, (pss_cons (ps_set (i := 2) nd rfl (Or.inl rfl) (pe_op op_mod (pe_op op_mul (pe_op op_add (pe_op op_add (pv 0) pe_int) (pe_op op_mul (pv 1) (pv 1))) pe_int) pe_int))
      (pss_one (ps_ret (pe_op op_mod (pe_op op_mul (pv 2) (pe_op op_add (pe_op op_add (pe_op op_fdiv (pv 2) pe_int) (pe_op op_mul pe_int (pv 1))) pe_int)) pe_int)))), ?_⟩
    have kk : 0 ≤ k * k := Int.mul_nonneg hk0 hk0
    refine ⟨_, rfl, _, _, rfl, rfl, _, rfl, _, rfl, _, _, rfl, rfl, .inl ⟨by omega, by omega⟩, _, _, rfl, rfl, _, _, rfl, rfl, .inr ⟨by decide, by decide⟩, _, _, rfl, rfl, (by show (0 : Int) < 2147483629; decide), ?_⟩
    have b0 : 0 ≤ (n + 1 + k * k) * 48271 % 2147483629 := Int.emod_nonneg _ (by decide)
    have b1 : (n + 1 + k * k) * 48271 % 2147483629 < 2147483629 := Int.emod_lt_of_pos _ (by decide)
    refine ⟨_, rfl, _, rfl, _, _, rfl, rfl, ⟨by decide, by decide⟩, _, rfl, _, _, rfl, rfl, .inl ⟨by decide, by decide⟩, _, _, rfl, rfl, _, _, rfl, rfl, _, _, rfl, rfl, .inl ⟨by omega, by omega⟩, _, _, rfl, rfl, (by show (0 : Int) < 2147483587; decide), ?_⟩
    exact q _ (Int.emod_nonneg _ (by decide))
def spTape : Sp := fun vs H Q _ => ∃ (c m : Int), vs = [.int c, .int m] ∧ 0 ≤ m ∧ m ≤ 1000 ∧ ∀ (D : Addr) (ns : List Int) (H' : Hp), H D = none → Same H H' → H' D = some (.lst (ns.map V.int)) → (∀ n ∈ ns, 0 ≤ n) → Q (.ref D) H'
theorem sc_tape : FnScope ["_law_cell", "_law_many", "_law_found", "_law_rest", "_law_k"] ["_law_cell", "_law_many"] (defScope (top 29)) := ⟨rfl, rfl, rfl, by decide +kernel, rfl, by decide +kernel, by decide +kernel⟩
theorem ok_tape  (F : Dfn K mg "_law_tape" (top 29) ["_law_cell", "_law_many"]) (T : Txt K mg) (C_law_mix : Cal P w K mg base 1 "_law_mix" ["_law_number", "_law_k"] spMix) : Cal P w K mg base 2 "_law_tape" ["_law_cell", "_law_many"] spTape := by
  refine F.cal sc_tape (fun vs H Q E h => ?_) (fun f cdv A outer s H vs Q E hr h => ?_)
  · obtain ⟨c, m, rfl, _⟩ := h
    rfl
  · have nd := sc_tape.nd
    obtain ⟨c, m, rfl, hm0, hm1, q⟩ := h
    refine ⟨_, (pss_cons (ps_set (i := 2) nd rfl (Or.inl rfl) (pe_lst pa_nil))
      (pss_cons (ps_set (i := 3) nd rfl (Or.inl rfl) (pv 0))
      (pss_cons (ps_for PassesOwn.never rfl (pi_range1 rfl T.range (pa_cons (pv 1) pa_nil)) (pg_name (i := 4) nd rfl (Or.inl rfl))
        (pss_one (ps_if (pt_cmpR op_ge (pv 3) (pe_op op_pow pe_int pe_int) (nomark _)) (pss_cons (ps_expr (pe_bm PySem.F.plainAttrs_list PySem.F.slot_list_append PySem.F.type_list_append mt_append (pv 2) (pa_cons (pe_op op_mod (pv 3) pe_int) pa_nil)))
      (pss_one (ps_set (i := 3) nd rfl (Or.inl rfl) (pe_op op_fdiv (pv 3) pe_int)))) (pss_one (ps_expr (pe_bm PySem.F.plainAttrs_list PySem.F.slot_list_append PySem.F.type_list_append mt_append (pv 2) (pa_cons (pe_cal C_law_mix (hr.mono (by decide)) rfl (pa_cons (pv 0) (pa_cons (pv 4) pa_nil))) pa_nil)))))))
      (pss_one (ps_ret (pe_rev (pv 2))))))), ?_⟩
    refine ⟨(by show 0 ≤ sizeLine; decide), fun D hD => ?_⟩
    refine ⟨_, rfl, ?_⟩
    refine ⟨_, rfl, m, rfl, by omega, by omega, ?_⟩
    refine for_range (lo := 0) (n := m.toNat) (fun i σ H2 => ∃ (rr : Int) (ns : List Int) (kk : Option V), H2 D = some (.lst (ns.map V.int)) ∧ ns.length = i ∧ (∀ n ∈ ns, 0 ≤ n) ∧ Same H H2 ∧ σ = [some (.int c), some (.int m), some (.ref D), some (.int rr), kk])
      ⟨_, [], none, upd_same, rfl, fun _ h => (nomatch h), same_new hD, rfl⟩ ?_ ?_
    · rintro i σ H2 hi ⟨rr, ns, kk, hd, hl, hc', s2, rfl⟩
      have add : ∀ x : Int, 0 ≤ x → ∀ n ∈ ns ++ [x], 0 ≤ n := fun x hx n hn => by
        rcases List.mem_append.mp hn with h | h
        · exact hc' n h
        · rw [List.mem_singleton.mp h]; exact hx
      have st : ∀ x : Int, Same H (upd H2 D (.lst (ns.map V.int ++ [.int x]))) := fun x b o e => by
        rw [upd_ne (ne_of_none e hD)]
        exact s2 b o e
      have lt : (ns.map V.int).length < sizeLine := by rw [List.length_map]; exact Nat.lt_of_le_of_lt (show ns.length ≤ 2000 by omega) (by decide)
      refine ⟨_, rfl, _, _, rfl, rfl, ⟨by decide, by decide, by decide⟩, _, _, rfl, rfl, _, rfl, ?_⟩
      refine ite2 (fun _ => ?_) (fun _ => ?_)
      · refine ⟨_, rfl, .inl ⟨rfl, _, SqL.of hd⟩, _, rfl, _, _, rfl, rfl, (by show (0 : Int) < 1000003; decide), D, _, _, rfl, rfl, hd, lt, ?_⟩
        refine ⟨_, rfl, _, _, rfl, rfl, ⟨by decide, by decide⟩, ?_⟩
        refine ⟨_, ns ++ [_], _, by rw [upd_same, List.map_append]; rfl, by rw [List.length_append, hl]; rfl, add _ (Int.emod_nonneg _ (by decide)), st _, rfl⟩
      · refine ⟨_, rfl, .inl ⟨rfl, _, SqL.of hd⟩, _, rfl, _, rfl, _, _, rfl, by omega, by omega, fun x hx => ?_⟩
        refine ⟨D, _, _, rfl, rfl, hd, lt, ?_⟩
        exact ⟨_, ns ++ [x], _, by rw [upd_same, List.map_append]; rfl, by rw [List.length_append, hl]; rfl, add _ hx, st _, rfl⟩
    · rintro σ H2 ⟨rr, ns, kk, hd, hl, hc', s2, rfl⟩
      refine ⟨_, rfl, D, _, rfl, SqL.of hd, fun p hp => ?_⟩
      have hpH : H p = none := by
        cases e : H p with
        | none => rfl
        | some o => rw [s2 _ _ e] at hp; cases hp
      refine q p ns.reverse _ hpH (Same.trans s2 (same_new hp)) (by rw [upd_same, List.map_reverse]) fun n hn => hc' n (List.mem_reverse.mp hn)
def spNext : Sp := fun vs H Q _ => ∃ (L : Addr) (ns : List Int) (m : Int), vs = [.ref L, .int m] ∧ H L = some (.lst (ns.map V.int)) ∧ (∀ n ∈ ns, 0 ≤ n) ∧ 1 ≤ m ∧
  ∀ (ns' : List Int) (x : Int) (H' : Hp), SameX L H H' → H' L = some (.lst (ns'.map V.int)) → (∀ n ∈ ns', 0 ≤ n) → 0 ≤ x → x < m → Q (.int x) H'
theorem sc_next : FnScope ["_law_tape_here", "_law_many"] ["_law_tape_here", "_law_many"] (defScope (top 30)) := ⟨rfl, rfl, rfl, by decide +kernel, rfl, by decide +kernel, by decide +kernel⟩
theorem ok_next  (F : Dfn K mg "_law_next" (top 30) ["_law_tape_here", "_law_many"]) (T : Txt K mg)  : Cal P w K mg base 1 "_law_next" ["_law_tape_here", "_law_many"] spNext := by
  refine F.cal sc_next (fun vs H Q E h => ?_) (fun f cdv A outer s H vs Q E hr h => ?_)
  · obtain ⟨L, ns, m, rfl, _⟩ := h
    rfl
  · have nd := sc_next.nd
    obtain ⟨L, ns, m, rfl, hL, hn, hm, q⟩ := h
    refine ⟨_, (pss_cons (ps_if (pt_cmpR (op_eqD hr.units) (pv 0) (pe_lst pa_nil) (nomark _)) (pss_one (ps_ret pe_int)) pss_nil)
      (pss_one (ps_ret (pe_op op_mod (pe_bm0 PySem.F.plainAttrs_list PySem.F.slot_list_pop PySem.F.type_list_pop mt_pop (pv 0)) (pv 1))))), ?_⟩
    refine ⟨_, rfl, (by show 0 ≤ sizeLine; decide), fun E hE => ?_⟩
    have sE := same_new (o := .lst []) hE
    refine ⟨_, _, .lst (SqL.of (sE _ _ hL)) (ints_dp ns), .lst (SqL.of upd_same) .nil, ints_shapedL ns, rfl, _, rfl, ?_⟩
    rw [ints_eqv_nil]
    by_cases he : ns = []
    · subst he
      refine iteT ?_
      exact q [] 0 _ (fun b o _ e => sE b o e) (sE _ _ hL) hn (Int.le_refl 0) (by omega)
    · have hne : ns.isEmpty = false := by cases ns with | nil => exact absurd rfl he | cons _ _ => rfl
      rw [hne]
      refine iteF ?_
      have hpos : 0 < ns.length := List.length_pos_iff.mpr he
      obtain ⟨x, hxm, _, hx⟩ := ints_get (ns := ns) (j := ns.length - 1) (by omega)
      refine ⟨_, rfl, .inl ⟨rfl, _, SqL.of (sE _ _ hL)⟩, L, ns.map V.int, _, rfl, rfl, sE _ _ hL, (by rw [List.length_map]; exact hx), _, rfl, _, _, rfl, rfl, (by show (0 : Int) < m; omega), ?_⟩
      refine q ns.dropLast _ _ (fun b o hb e => by rw [upd_ne hb]; exact sE b o e) (by rw [upd_same, List.map_dropLast]) (fun n h => hn n (List.dropLast_subset ns h)) (Int.emod_nonneg _ (by omega)) (Int.emod_lt_of_pos _ (by omega))
def abC (n : Int) : Nat := 97 + (n % 26).toNat
theorem ab_get : ∀ k, k < 26 → ab.cps.toList[k]? = some (97 + k) := by decide +kernel
theorem ab_is (n : Int) : atI ab.cps.toList (n % 26) = some (abC n) := by
  have h0 := Int.emod_nonneg n (show (26 : Int) ≠ 0 by decide)
  have h1 := Int.emod_lt_of_pos n (show (0 : Int) < 26 by decide)
  exact at_get (j := (n % 26).toNat) (by omega) (ab_get _ (by omega))
theorem abC_let (n : Int) : isLet (abC n) = true := by
  have h0 := Int.emod_nonneg n (show (26 : Int) ≠ 0 by decide)
  have h1 := Int.emod_lt_of_pos n (show (0 : Int) < 26 by decide)
  unfold isLet abC
  rw [decide_eq_false (by omega), decide_eq_false (by omega)]
  rfl
theorem abC_inj {a b : Int} (h : abC a = abC b) : a % 26 = b % 26 := by
  have h0 := Int.emod_nonneg a (show (26 : Int) ≠ 0 by decide)
  have h1 := Int.emod_nonneg b (show (26 : Int) ≠ 0 by decide)
  unfold abC at h
  omega
def oneS (c : Nat) : Str := ⟨#[c]⟩
theorem oneS_inj {a b : Nat} (h : oneS a = oneS b) : a = b := by
  have := congrArg (fun z : Str => z.cps.toList) h
  simpa [oneS] using this
theorem catL_ones : ∀ l : List Nat, catL (l.map oneS) = l
  | [] => rfl
  | c :: r => by
    show [c] ++ catL (r.map oneS) = c :: r
    rw [catL_ones r]
    rfl
def bsL (c : Int) : List Nat := (List.range 8).map fun k : Nat => abC (c % 26 + 3 * (0 + (k : Int)))
theorem bs_is (c : Int) : Txt.join "" ((List.range 8).map fun k : Nat => oneS (abC (c % 26 + 3 * (0 + (k : Int))))) = ofL (bsL c) := by
  refine str_ext ?_
  rw [join_cat]
  have e : ((List.range 8).map fun k : Nat => oneS (abC (c % 26 + 3 * (0 + (k : Int))))) = (bsL c).map oneS := by
    unfold bsL
    rw [List.map_map]
    rfl
  rw [e, catL_ones]
  rfl
theorem bs_len (c : Int) : (ofL (bsL c)).length = 8 := by
  show (bsL c).toArray.size = 8
  rw [List.size_toArray]
  unfold bsL
  rw [List.length_map, List.length_range]
theorem bs_all (c : Int) : (ofL (bsL c)).cps.toList.all isLet = true := by
  show (bsL c).all isLet = true
  rw [List.all_eq_true]
  intro x hx
  obtain ⟨k, _, rfl⟩ := List.mem_map.mp hx
  exact abC_let _
theorem nodup_mapR {n : Nat} {g : Nat → Str} (h : ∀ i j, i < n → j < n → g i = g j → i = j) : ((List.range n).map g).Nodup := by
  unfold List.Nodup
  rw [List.pairwise_map]
  refine List.Pairwise.imp_of_mem (fun {a b} ha hb hne => ?_) (show (List.range n).Pairwise (· ≠ ·) from List.nodup_range)
  exact fun e => hne (h a b (List.mem_range.mp ha) (List.mem_range.mp hb) e)
theorem mid_inj {P S : Str} {a b : Nat} (h : P ++ oneS a ++ S = P ++ oneS b ++ S) : a = b := by
  have h := congrArg (fun z : Str => z.cps.toList) h
  have h : (P ++ oneS a ++ S).cps.toList = (P ++ oneS b ++ S).cps.toList := h
  rw [cps_app, cps_app, cps_app, cps_app] at h
  have h2 := List.append_cancel_left (List.append_cancel_right h)
  simpa [oneS] using h2
theorem heads_differ (c : Int) : cutS (ofL (bsL c)) (some 1) none ≠ cutS (ofL (bsL c)) none (some (0 + ((6 : Nat) : Int) + 1)) := by
  intro h
  have h := congrArg (fun z : Str => z.cps.toList[0]?) h
  have g : ∀ k : Nat, k < 8 → (bsL c)[k]? = some (abC (c % 26 + 3 * (0 + (k : Int)))) := fun k hk => by
    unfold bsL
    rw [List.getElem?_map, List.getElem?_range hk]
    rfl
  have e1 : (cutS (ofL (bsL c)) (some 1) none).cps.toList[0]? = some (abC (c % 26 + 3 * (0 + ((1 : Nat) : Int)))) := by
    rw [← g 1 (by decide)]
    unfold cutS
    rw [bs_len]
    show (((bsL c).drop 1).take 7)[0]? = _
    rw [List.getElem?_take_of_lt (by decide), List.getElem?_drop]
  have e2 : (cutS (ofL (bsL c)) none (some (0 + ((6 : Nat) : Int) + 1))).cps.toList[0]? = some (abC (c % 26 + 3 * (0 + ((0 : Nat) : Int)))) := by
    rw [← g 0 (by decide)]
    unfold cutS
    rw [bs_len]
    show (((bsL c).drop 0).take 7)[0]? = _
    rw [List.getElem?_take_of_lt (by decide), List.getElem?_drop]
  have h : (cutS (ofL (bsL c)) (some 1) none).cps.toList[0]? = (cutS (ofL (bsL c)) none (some (0 + ((6 : Nat) : Int) + 1))).cps.toList[0]? := h
  rw [e1, e2] at h
  injection h with h
  have := abC_inj h
  omega
def spNames : Sp := fun vs H Q _ => ∃ (c : Int), vs = [.int c] ∧ ∀ (D : Addr) (zs : List Str) (H' : Hp), Same H H' → H' D = some (.lst (zs.map V.str)) → zs.length = 9 → (∀ z ∈ zs, nameF z = true) → zs.Nodup → Q (.ref D) H'
theorem sc_names : FnScope ["_law_cell", "_law_letters", "_law_start", "_law_base", "_law_k", "_law_at", "_law_first"] ["_law_cell"] (defScope (top 31)) := ⟨rfl, rfl, rfl, by decide +kernel, rfl, by decide +kernel, by decide +kernel⟩
theorem ok_names  (F : Dfn K mg "_law_names" (top 31) ["_law_cell"]) (T : Txt K mg)  : Cal P w K mg base 1 "_law_names" ["_law_cell"] spNames := by
  refine F.cal sc_names (fun vs H Q E h => ?_) (fun f cdv A outer s H vs Q E hr h => ?_)
  · obtain ⟨c, rfl, _⟩ := h
    rfl
  · have nd := sc_names.nd
    obtain ⟨c, rfl, q⟩ := h
    refine ⟨_, (pss_cons (ps_set (i := 1) nd rfl (Or.inr rfl) pe_str)
      (pss_cons (ps_set (i := 2) nd rfl (Or.inr rfl) (pe_op op_mod (pv 0) pe_int))
      (pss_cons (ps_set (i := 3) nd rfl (Or.inr rfl) (pe_join pe_str (pe_lc (own := [("_law_k", 4)]) (g := (gName 4)) (by rfl) nd (pi_range1 rfl T.range (pa_cons pe_int pa_nil)) (blkOk_by (own := [("_law_k", 4)]) (N := ["_law_cell", "_law_letters", "_law_start", "_law_base", "_law_k", "_law_at", "_law_first"]) (sc := defScope (top 31)) (by decide +kernel)) (fun _ _ _ _ _ => (pg_name (i := 4) nd rfl (Or.inl rfl))) (fun _ _ _ _ _ => pts_nil) (fun _ _ _ _ _ => (pe_ix ix_str (pv 1) (pe_op op_mod (pe_op op_add (pv 2) (pe_op op_mul pe_int (pv 4))) pe_int) (fun _ _ => rfl))))))
      (pss_cons (ps_if (pt_cmpR op_eq (pe_op op_mod (pe_op op_fdiv (pv 0) pe_int) pe_int) pe_int (nomark _)) (pss_cons (ps_set (i := 5) nd rfl (Or.inr rfl) (pe_op op_mod (pe_op op_fdiv (pv 0) pe_int) pe_int))
      (pss_cons (ps_set (i := 6) nd rfl (Or.inr rfl) (pe_op op_mod (pe_op op_fdiv (pv 0) pe_int) pe_int))
      (pss_one (ps_ret (pe_lc (own := [("_law_k", 4)]) (g := (gName 4)) (by rfl) nd (pi_range1 rfl T.range (pa_cons pe_int pa_nil)) (blkOk_by (own := [("_law_k", 4)]) (N := ["_law_cell", "_law_letters", "_law_start", "_law_base", "_law_k", "_law_at", "_law_first"]) (sc := defScope (top 31)) (by decide +kernel)) (fun _ _ _ _ _ => (pg_name (i := 4) nd rfl (Or.inl rfl))) (fun _ _ _ _ _ => pts_nil) (fun _ _ _ _ _ => (pe_op op_add_str (pe_op op_add_str (pe_slice sl_str (pv 3) po_none (po_some (pv 5))) (pe_ix ix_str (pv 1) (pe_op op_mod (pe_op op_add (pv 6) (pv 4)) pe_int) (fun _ _ => rfl))) (pe_slice sl_str (pv 3) (po_some (pe_op op_add (pv 5) pe_int)) po_none)))))))) pss_nil)
      (pss_cons (ps_if (pt_cmpR op_eq (pe_op op_mod (pe_op op_fdiv (pv 0) pe_int) pe_int) pe_int (nomark _)) (pss_one (ps_ret (pe_op op_cat (pe_lc (own := [("_law_k", 4)]) (g := (gName 4)) (by rfl) nd (pi_range1 rfl T.range (pa_cons pe_int pa_nil)) (blkOk_by (own := [("_law_k", 4)]) (N := ["_law_cell", "_law_letters", "_law_start", "_law_base", "_law_k", "_law_at", "_law_first"]) (sc := defScope (top 31)) (by decide +kernel)) (fun _ _ _ _ _ => (pg_name (i := 4) nd rfl (Or.inl rfl))) (fun _ _ _ _ _ => pts_nil) (fun _ _ _ _ _ => (pe_slice sl_str (pv 3) po_none (po_some (pe_op op_add (pv 4) pe_int))))) (pe_lst (pa_cons (pe_slice sl_str (pv 3) (po_some pe_int) po_none) pa_nil))))) pss_nil)
      (pss_one (ps_ret (pe_lc (own := [("_law_k", 4)]) (g := (gName 4)) (by rfl) nd (pi_range1 rfl T.range (pa_cons pe_int pa_nil)) (blkOk_by (own := [("_law_k", 4)]) (N := ["_law_cell", "_law_letters", "_law_start", "_law_base", "_law_k", "_law_at", "_law_first"]) (sc := defScope (top 31)) (by decide +kernel)) (fun _ _ _ _ _ => (pg_name (i := 4) nd rfl (Or.inl rfl))) (fun _ _ _ _ _ => pts_nil) (fun _ _ _ _ _ => (pe_ix ix_str (pv 1) (pe_op op_mod (pe_op op_add (pv 2) (pe_op op_mul pe_int (pv 4))) pe_int) (fun _ _ => rfl))))))))))), ?_⟩
    have small : ∀ m : Nat, m ≤ 100000 → m < sizeLine := fun m hm => Nat.lt_of_le_of_lt hm (by decide)
    have small' : ∀ m : Nat, m ≤ 100000 → m ≤ sizeLine := fun m hm => Nat.le_trans hm (by decide)
    refine ⟨_, rfl, _, _, rfl, rfl, (by show (0 : Int) < 26; decide), ?_⟩
    refine ⟨⟨_, rfl⟩, 8, rfl, by decide, by decide, fun D hD => ?_⟩
    refine lc_range (lo := 0) (n := 8) (fun i H9 => H9 D = some (.lst (((List.range i).map (fun k : Nat => oneS (abC (c % 26 + 3 * (0 + (k : Int)))))).map V.str)) ∧ Same H H9) ⟨upd_same, same_new hD⟩ ?_ ?_
    · rintro i H9 hi ⟨hd, s9⟩
      have add : ∀ z : Str, z = ((fun k : Nat => oneS (abC (c % 26 + 3 * (0 + (k : Int)))))) i → (((List.range i).map (fun k : Nat => oneS (abC (c % 26 + 3 * (0 + (k : Int)))))).map V.str).length < sizeLine ∧ (upd H9 D (.lst (((List.range i).map (fun k : Nat => oneS (abC (c % 26 + 3 * (0 + (k : Int)))))).map V.str ++ [.str z]))) D = some (.lst (((List.range (i + 1)).map (fun k : Nat => oneS (abC (c % 26 + 3 * (0 + (k : Int)))))).map V.str)) ∧ Same H (upd H9 D (.lst (((List.range i).map (fun k : Nat => oneS (abC (c % 26 + 3 * (0 + (k : Int)))))).map V.str ++ [.str z]))) := fun z hz => by
        refine ⟨by rw [List.length_map, List.length_map, List.length_range]; exact small _ (by omega), ?_, fun b o e => by rw [upd_ne (ne_of_none e hD)]; exact s9 b o e⟩
        rw [upd_same, List.range_succ, List.map_append, List.map_append, hz]
        rfl
      refine ⟨rfl, yes_go ?_⟩
      refine ⟨_, rfl, _, rfl, _, rfl, _, _, rfl, rfl, .inl ⟨by decide, by decide⟩, _, _, rfl, rfl, _, _, rfl, rfl, (by show (0 : Int) < 26; decide), _, _, _, rfl, rfl, (by decide), ab_is (c % 26 + 3 * (0 + (i : Int))), ?_⟩
      exact ⟨_, hd, add _ rfl⟩
    rintro H2 ⟨hd, s2⟩
    refine ⟨_, D, _, rfl, rfl, .inl (SqL.of hd), (by rw [lens_sum _ (fun p h => by obtain ⟨k, _, rfl⟩ := List.mem_map.mp h; rfl), List.length_map, List.length_range]; decide), ?_⟩
    rw [bs_is]
    have j1 := bs_len c
    have j2 := bs_all c
    have hdf := heads_differ c
    generalize ofL (bsL c) = bs at j1 j2 hdf
    have oneL : ∀ n, (oneS (abC n)).length = 1 := fun _ => rfl
    have oneA : ∀ n, (oneS (abC n)).cps.toList.all isLet = true := fun n => by show (isLet (abC n) && true) = true; rw [abC_let]; rfl
    refine ⟨_, rfl, _, _, rfl, rfl, ⟨by decide, by decide⟩, _, _, rfl, rfl, (by show (0 : Int) < 3; decide), rfl, _, rfl, ?_⟩
    refine ite2 (fun _ => ?_) (fun _ => ?_)
    · refine ⟨_, rfl, _, _, rfl, rfl, ⟨by decide, by decide⟩, _, _, rfl, rfl, (by show (0 : Int) < 8; decide), ?_⟩
      have a0 : 0 ≤ c / 78 % 8 := Int.emod_nonneg _ (by decide)
      have a1 : c / 78 % 8 < 8 := Int.emod_lt_of_pos _ (by decide)
      have l1 := cutS_to_len bs (c / 78 % 8) a0
      have l2 := cutS_from_len bs (c / 78 % 8 + 1) (by omega)
      refine ⟨_, rfl, _, _, rfl, rfl, ⟨by decide, by decide⟩, _, _, rfl, rfl, (by show (0 : Int) < 26; decide), ?_⟩
      refine ⟨9, rfl, by decide, by decide, fun D1 hD1 => ?_⟩
      refine lc_range (lo := 0) (n := 9) (fun i H9 => H9 D1 = some (.lst (((List.range i).map (fun k : Nat => cutS bs none (some (c / 78 % 8)) ++ oneS (abC (c / 624 % 26 + (0 + (k : Int)))) ++ cutS bs (some (c / 78 % 8 + 1)) none)).map V.str)) ∧ Same H2 H9) ⟨upd_same, same_new hD1⟩ ?_ ?_
      · rintro i H9 hi ⟨hd, s9⟩
        have add : ∀ z : Str, z = ((fun k : Nat => cutS bs none (some (c / 78 % 8)) ++ oneS (abC (c / 624 % 26 + (0 + (k : Int)))) ++ cutS bs (some (c / 78 % 8 + 1)) none)) i → (((List.range i).map (fun k : Nat => cutS bs none (some (c / 78 % 8)) ++ oneS (abC (c / 624 % 26 + (0 + (k : Int)))) ++ cutS bs (some (c / 78 % 8 + 1)) none)).map V.str).length < sizeLine ∧ (upd H9 D1 (.lst (((List.range i).map (fun k : Nat => cutS bs none (some (c / 78 % 8)) ++ oneS (abC (c / 624 % 26 + (0 + (k : Int)))) ++ cutS bs (some (c / 78 % 8 + 1)) none)).map V.str ++ [.str z]))) D1 = some (.lst (((List.range (i + 1)).map (fun k : Nat => cutS bs none (some (c / 78 % 8)) ++ oneS (abC (c / 624 % 26 + (0 + (k : Int)))) ++ cutS bs (some (c / 78 % 8 + 1)) none)).map V.str)) ∧ Same H2 (upd H9 D1 (.lst (((List.range i).map (fun k : Nat => cutS bs none (some (c / 78 % 8)) ++ oneS (abC (c / 624 % 26 + (0 + (k : Int)))) ++ cutS bs (some (c / 78 % 8 + 1)) none)).map V.str ++ [.str z]))) := fun z hz => by
          refine ⟨by rw [List.length_map, List.length_map, List.length_range]; exact small _ (by omega), ?_, fun b o e => by rw [upd_ne (ne_of_none e hD1)]; exact s9 b o e⟩
          rw [upd_same, List.range_succ, List.map_append, List.map_append, hz]
          rfl
        refine ⟨rfl, yes_go ?_⟩
        refine ⟨_, rfl, _, rfl, _, rfl, bs, rfl, small' _ (by omega), _, rfl, _, rfl, _, rfl, _, _, rfl, rfl, _, _, rfl, rfl, (by show (0 : Int) < 26; decide), _, _, _, rfl, rfl, (by decide), ab_is (c / 624 % 26 + (0 + (i : Int))), _, _, rfl, rfl, small' _ (by rw [l1]; show min (c / 78 % 8).toNat bs.length + 1 ≤ _; omega), ?_⟩
        refine ⟨_, rfl, _, rfl, _, _, rfl, rfl, _, rfl, bs, rfl, small' _ (by omega), _, _, rfl, rfl, small' _ (by rw [app_len, l1, l2]; show min (c / 78 % 8).toNat bs.length + 1 + _ ≤ _; omega), ?_⟩
        exact ⟨_, hd, add _ rfl⟩
      rintro H3 ⟨hd3, s3⟩
      refine q D1 _ H3 (Same.trans s2 s3) hd3 (by rw [List.length_map, List.length_range]) (fun z hz => ?_) (nodup_mapR fun i j hi hj e => ?_)
      · obtain ⟨k, _, rfl⟩ := List.mem_map.mp hz
        refine nameF_of ?_ ?_ ?_
        · rw [app_len, app_len, oneL]; omega
        · rw [app_len, app_len, oneL, l1, l2]; omega
        · exact all_app (all_app (cutS_all _ _ _ j2) (oneA _)) (cutS_all _ _ _ j2)
      · have := abC_inj (mid_inj e)
        omega
    refine ⟨_, rfl, _, _, rfl, rfl, ⟨by decide, by decide⟩, _, _, rfl, rfl, (by show (0 : Int) < 3; decide), rfl, _, rfl, ?_⟩
    refine ite2 (fun _ => ?_) (fun _ => ?_)
    · refine ⟨8, rfl, by decide, by decide, fun D1 hD1 => ?_⟩
      refine lc_range (lo := 0) (n := 8) (fun i H9 => H9 D1 = some (.lst (((List.range i).map (fun k : Nat => cutS bs none (some (0 + (k : Int) + 1)))).map V.str)) ∧ Same H2 H9) ⟨upd_same, same_new hD1⟩ ?_ ?_
      · rintro i H9 hi ⟨hd, s9⟩
        have add : ∀ z : Str, z = ((fun k : Nat => cutS bs none (some (0 + (k : Int) + 1)))) i → (((List.range i).map (fun k : Nat => cutS bs none (some (0 + (k : Int) + 1)))).map V.str).length < sizeLine ∧ (upd H9 D1 (.lst (((List.range i).map (fun k : Nat => cutS bs none (some (0 + (k : Int) + 1)))).map V.str ++ [.str z]))) D1 = some (.lst (((List.range (i + 1)).map (fun k : Nat => cutS bs none (some (0 + (k : Int) + 1)))).map V.str)) ∧ Same H2 (upd H9 D1 (.lst (((List.range i).map (fun k : Nat => cutS bs none (some (0 + (k : Int) + 1)))).map V.str ++ [.str z]))) := fun z hz => by
          refine ⟨by rw [List.length_map, List.length_map, List.length_range]; exact small _ (by omega), ?_, fun b o e => by rw [upd_ne (ne_of_none e hD1)]; exact s9 b o e⟩
          rw [upd_same, List.range_succ, List.map_append, List.map_append, hz]
          rfl
        refine ⟨rfl, yes_go ?_⟩
        refine ⟨_, rfl, _, rfl, _, _, rfl, rfl, _, rfl, bs, rfl, small' _ (by omega), ?_⟩
        exact ⟨_, hd, add _ rfl⟩
      rintro H3 ⟨hd3, s3⟩
      have l2 := cutS_from_len bs 1 (by omega)
      refine ⟨_, rfl, _, rfl, bs, rfl, small' _ (by omega), (by show 1 ≤ sizeLine; decide), fun D2 hD2 => ?_⟩
      have sD2 := same_new (o := .lst [.str (cutS bs (some 1) none)]) hD2
      refine ⟨D1, D2, _, _, rfl, rfl, sD2 _ _ hd3, upd_same, small' _ (by rw [List.length_map, List.length_map, List.length_range]; show 8 + 1 ≤ 100000; decide), fun D3 hD3 => ?_⟩
      have tl : ∀ k : Nat, (cutS bs none (some (0 + (k : Int) + 1))).length = min (k + 1) 8 := fun k => by rw [cutS_to_len bs _ (by omega), j1]; congr 1; omega
      refine q D3 ((List.range 8).map (fun k : Nat => cutS bs none (some (0 + (k : Int) + 1))) ++ [cutS bs (some 1) none]) _ (Same.trans (Same.trans s2 s3) (Same.trans sD2 (same_new hD3))) (by rw [upd_same, List.map_append]; rfl) (by rw [List.length_append, List.length_map, List.length_range]; rfl) (fun z hz => ?_) ?_
      · rcases List.mem_append.mp hz with h | h
        · obtain ⟨k, hk, rfl⟩ := List.mem_map.mp h
          have hk := List.mem_range.mp hk
          have := tl k
          exact nameF_of (by omega) (by omega) (cutS_all _ _ _ j2)
        · rw [List.mem_singleton.mp h]
          exact nameF_of (by omega) (by omega) (cutS_all _ _ _ j2)
      · refine List.nodup_append.mpr ⟨nodup_mapR fun i j hi hj e => ?_, by simp, fun x hx y hy e => ?_⟩
        · have := congrArg Str.length e
          rw [tl, tl] at this
          omega
        · obtain ⟨k, hk, rfl⟩ := List.mem_map.mp hx
          rw [List.mem_singleton.mp hy] at e
          have hk := List.mem_range.mp hk
          have hl := congrArg Str.length e
          rw [tl, l2] at hl
          have h1 : (1 : Int).toNat = 1 := rfl
          have k6 : k = 6 := by omega
          subst k6
          exact hdf e.symm
    · refine ⟨9, rfl, by decide, by decide, fun D1 hD1 => ?_⟩
      refine lc_range (lo := 0) (n := 9) (fun i H9 => H9 D1 = some (.lst (((List.range i).map (fun k : Nat => oneS (abC (c % 26 + 5 * (0 + (k : Int)))))).map V.str)) ∧ Same H2 H9) ⟨upd_same, same_new hD1⟩ ?_ ?_
      · rintro i H9 hi ⟨hd, s9⟩
        have add : ∀ z : Str, z = ((fun k : Nat => oneS (abC (c % 26 + 5 * (0 + (k : Int)))))) i → (((List.range i).map (fun k : Nat => oneS (abC (c % 26 + 5 * (0 + (k : Int)))))).map V.str).length < sizeLine ∧ (upd H9 D1 (.lst (((List.range i).map (fun k : Nat => oneS (abC (c % 26 + 5 * (0 + (k : Int)))))).map V.str ++ [.str z]))) D1 = some (.lst (((List.range (i + 1)).map (fun k : Nat => oneS (abC (c % 26 + 5 * (0 + (k : Int)))))).map V.str)) ∧ Same H2 (upd H9 D1 (.lst (((List.range i).map (fun k : Nat => oneS (abC (c % 26 + 5 * (0 + (k : Int)))))).map V.str ++ [.str z]))) := fun z hz => by
          refine ⟨by rw [List.length_map, List.length_map, List.length_range]; exact small _ (by omega), ?_, fun b o e => by rw [upd_ne (ne_of_none e hD1)]; exact s9 b o e⟩
          rw [upd_same, List.range_succ, List.map_append, List.map_append, hz]
          rfl
        refine ⟨rfl, yes_go ?_⟩
        refine ⟨_, rfl, _, rfl, _, rfl, _, _, rfl, rfl, .inl ⟨by decide, by decide⟩, _, _, rfl, rfl, _, _, rfl, rfl, (by show (0 : Int) < 26; decide), _, _, _, rfl, rfl, (by decide), ab_is (c % 26 + 5 * (0 + (i : Int))), ?_⟩
        exact ⟨_, hd, add _ rfl⟩
      rintro H3 ⟨hd3, s3⟩
      refine q D1 _ H3 (Same.trans s2 s3) hd3 (by rw [List.length_map, List.length_range]) (fun z hz => ?_) (nodup_mapR fun i j hi hj e => ?_)
      · obtain ⟨k, _, rfl⟩ := List.mem_map.mp hz
        exact nameF_of (by rw [oneL]; omega) (by rw [oneL]; omega) (oneA _)
      · have := abC_inj (oneS_inj e)
        omega
end
end G72
set_option maxHeartbeats 4000000
set_option linter.all false
set_option maxRecDepth 100000
namespace L2
open PySem PySem.Spec PyProof.Rows
/-! ### spots -/
/-- all but dicts stay -/
def KI (H H' : Hp) : Prop := ∀ b o, H b = some o → (∀ kvs, o ≠ .dK kvs) → H' b = some o
theorem KI.same {H H' : Hp} (s : Same H H') : KI H H' := fun b o e _ => s b o e
theorem KI.trans {H H1 H2 : Hp} (a : KI H H1) (b : KI H1 H2) : KI H H2 := fun c o e h => b c o (a c o e h) h
mutual
inductive SpotN (C : Addr) (m : Mch) (N : Addr → Prop) (H : Hp) : V → Tr → Prop
  | node {a dx b : Addr} {z : Str} {vs : List V} {ks : List Tr} : H a = some (.ins C dx [("name", .str z), ("state", .int (stT m (.node z ks))), ("below", .ref b)]) → H b = some (.lst vs) → SpotsN C m N H vs ks → N b → SpotN C m N H (.ref a) (.node z ks)
inductive SpotsN (C : Addr) (m : Mch) (N : Addr → Prop) (H : Hp) : List V → List Tr → Prop
  | nil : SpotsN C m N H [] []
  | cons {v : V} {t : Tr} {vs : List V} {ts : List Tr} : SpotN C m N H v t → SpotsN C m N H vs ts → SpotsN C m N H (v :: vs) (t :: ts)
end
mutual
theorem SpotN.ki {C : Addr} {m : Mch} {N : Addr → Prop} {H H' : Hp} {v : V} {t : Tr} (k : KI H H') : SpotN C m N H v t → SpotN C m N H' v t
  | .node a b d n => .node (k _ _ a (fun _ z => nomatch z)) (k _ _ b (fun _ z => nomatch z)) (d.ki k) n
theorem SpotsN.ki {C : Addr} {m : Mch} {N : Addr → Prop} {H H' : Hp} {vs : List V} {ts : List Tr} (k : KI H H') : SpotsN C m N H vs ts → SpotsN C m N H' vs ts
  | .nil => .nil
  | .cons a b => .cons (a.ki k) (b.ki k)
end
theorem SpotsN.len {C : Addr} {m : Mch} {N : Addr → Prop} {H : Hp} : ∀ {vs : List V} {ts : List Tr}, SpotsN C m N H vs ts → vs.length = ts.length
  | _, _, .nil => rfl
  | _, _, .cons _ h => congrArg (· + 1) h.len
theorem SpotsN.snoc {C : Addr} {m : Mch} {N : Addr → Prop} {H : Hp} {v : V} {t : Tr} (h : SpotN C m N H v t) : ∀ {vs : List V} {ts : List Tr}, SpotsN C m N H vs ts → SpotsN C m N H (vs ++ [v]) (ts ++ [t])
  | _, _, .nil => .cons h .nil
  | _, _, .cons a b => .cons a (SpotsN.snoc h b)
theorem SpotsN.get {C : Addr} {m : Mch} {N : Addr → Prop} {H : Hp} : ∀ {vs : List V} {ts : List Tr} {i : Nat} {v : V}, SpotsN C m N H vs ts → vs[i]? = some v → ∃ t, ts[i]? = some t ∧ SpotN C m N H v t
  | _, _, i, v, .nil, e => by simp at e
  | _, _, 0, v, .cons h _, e => ⟨_, rfl, by cases e; exact h⟩
  | _, _, i + 1, v, .cons _ h, e => by
    obtain ⟨t, e1, e2⟩ := h.get (i := i) (v := v) (by simpa using e)
    exact ⟨t, by simpa using e1, e2⟩
mutual
theorem SpotN.weak {C : Addr} {m : Mch} {N N' : Addr → Prop} {H : Hp} {v : V} {t : Tr} (k : ∀ b, N b → N' b) : SpotN C m N H v t → SpotN C m N' H v t
  | .node a b d n => .node a b (d.weak k) (k _ n)
theorem SpotsN.weak {C : Addr} {m : Mch} {N N' : Addr → Prop} {H : Hp} {vs : List V} {ts : List Tr} (k : ∀ b, N b → N' b) : SpotsN C m N H vs ts → SpotsN C m N' H vs ts
  | .nil => .nil
  | .cons a b => .cons (a.weak k) (b.weak k)
end
/-- all but a list stay -/
theorem notIns {H : Hp} {a L C dx : Addr} {fs : List (Str × V)} {xs : List V} (h : H a = some (.ins C dx fs)) (hL : H L = some (.lst xs)) : a ≠ L := fun z => by rw [z, hL] at h; cases h
mutual
theorem SpotN.ol {C L : Addr} {m : Mch} {N : Addr → Prop} {H H' : Hp} {xs : List V} (hL : H L = some (.lst xs)) (hN : ∀ b, N b → b ≠ L) (k : ∀ b o, b ≠ L → H b = some o → H' b = some o) : ∀ {v : V} {t : Tr}, SpotN C m N H v t → SpotN C m N H' v t
  | _, _, .node a b d n => .node (k _ _ (notIns a hL) a) (k _ _ (hN _ n) b) (SpotsN.ol hL hN k d) n
theorem SpotsN.ol {C L : Addr} {m : Mch} {N : Addr → Prop} {H H' : Hp} {xs : List V} (hL : H L = some (.lst xs)) (hN : ∀ b, N b → b ≠ L) (k : ∀ b o, b ≠ L → H b = some o → H' b = some o) : ∀ {vs : List V} {ts : List Tr}, SpotsN C m N H vs ts → SpotsN C m N H' vs ts
  | _, _, .nil => .nil
  | _, _, .cons a b => .cons (SpotN.ol hL hN k a) (SpotsN.ol hL hN k b)
end
/-- the spots from the k-th on stand in the dict -/
def SpOk (C : Addr) (m : Mch) (N : Addr → Prop) (H : Hp) (tr : List Tr) (k : Nat) (kvs : List (Key × V)) : Prop := ∀ (n : Nat) (t : Tr), k ≤ n → tr[n]? = some t → ∃ v, valV kvs (Sum.inl (n : Int)) = some v ∧ SpotN C m N H v t
theorem SpOk.ki {C : Addr} {m : Mch} {N : Addr → Prop} {H H' : Hp} {tr : List Tr} {k : Nat} {kvs : List (Key × V)} (h : SpOk C m N H tr k kvs) (i : KI H H') : SpOk C m N H' tr k kvs := fun n t h1 h2 => by
  obtain ⟨v, e1, e2⟩ := h n t h1 h2
  exact ⟨v, e1, e2.ki i⟩
theorem SpOk.put {C : Addr} {m : Mch} {N : Addr → Prop} {H : Hp} {tr : List Tr} {lo : Nat} {kvs : List (Key × V)} {t : Tr} {v : V} (h : SpOk C m N H tr (lo + 1) kvs) (ht : tr[lo]? = some t) (hv : SpotN C m N H v t) : SpOk C m N H tr lo (putK kvs (Sum.inl (lo : Int)) v) := by
  intro n t' hn hn'
  rw [valV_put]
  by_cases e : n = lo
  · subst e
    rw [if_pos rfl]
    rw [ht] at hn'
    cases hn'
    exact ⟨v, rfl, hv⟩
  · rw [if_neg (fun z => e (by injection z with z; omega))]
    exact h n t' (by omega) hn'
/-- a document that is kept -/
structure KeptN (CS CK : Addr) (N : Addr → Prop) (H : Hp) (v : V) (Tm : Addr) (dv : V) (m : Mch) (t : Tr) : Prop where
  ex : ∃ (a dx S : Addr) (tv : V), v = .ref a ∧ H a = some (.ins CK dx [("machine", .ref Tm), ("doc", dv), ("top", tv), ("seen", .ref S)]) ∧ H S = some (.lst []) ∧ SpotN CS m N H tv t ∧ N S
theorem KeptN.same {CS CK : Addr} {N : Addr → Prop} {H H' : Hp} {v : V} {Tm : Addr} {dv : V} {m : Mch} {t : Tr} (h : KeptN CS CK N H v Tm dv m t) (s : Same H H') : KeptN CS CK N H' v Tm dv m t := by
  obtain ⟨a, dx, S, tv, h1, h2, h3, h4, h5⟩ := h.ex
  exact ⟨a, dx, S, tv, h1, s _ _ h2, s _ _ h3, h4.ki (KI.same s), h5⟩
theorem KeptN.weak {CS CK : Addr} {N N' : Addr → Prop} {H : Hp} {v : V} {Tm : Addr} {dv : V} {m : Mch} {t : Tr} (h : KeptN CS CK N H v Tm dv m t) (k : ∀ b, N b → N' b) : KeptN CS CK N' H v Tm dv m t := by
  obtain ⟨a, dx, S, tv, h1, h2, h3, h4, h5⟩ := h.ex
  exact ⟨a, dx, S, tv, h1, h2, h3, h4.weak k, k _ h5⟩
theorem KeptN.ol {CS CK L : Addr} {N : Addr → Prop} {H H' : Hp} {v : V} {Tm : Addr} {dv : V} {m : Mch} {t : Tr} {xs : List V} (h : KeptN CS CK N H v Tm dv m t) (hL : H L = some (.lst xs)) (hN : ∀ b, N b → b ≠ L) (k : ∀ b o, b ≠ L → H b = some o → H' b = some o) : KeptN CS CK N H' v Tm dv m t := by
  obtain ⟨a, dx, S, tv, h1, h2, h3, h4, h5⟩ := h.ex
  exact ⟨a, dx, S, tv, h1, k _ _ (notIns h2 hL) h2, k _ _ (hN _ h5) h3, h4.ol hL hN k, h5⟩
end L2
set_option maxHeartbeats 4000000
set_option linter.all false
set_option maxRecDepth 100000
namespace L2
open PySem PySem.Spec PyProof.Rows
/-! ### closures -/
/-- the cells of a closure, as the base has them: fs the names, vs their values -/
structure CloAt (base : Heap) (cl : List (Str × Addr)) (fs : List Str) (vs : List V) : Prop where
  inj : ∀ x y c, cl.lookup x = some c → cl.lookup y = some c → x = y
  cell : ∀ x c, cl.lookup x = some c → ∃ v, base.IsCell c v
  at_ : ∀ (i : Nat) (x : Str) (v : V), fs[i]? = some x → vs[i]? = some v → ∃ c u, cl.lookup x = some c ∧ base.IsCell c (some u) ∧ RelV v u
  len : vs.length = fs.length
/-- names: the parameters, then the free names, then the own ones -/
structure CloScope (N ps fs : List Str) (sc : Scope) : Prop where
  kind : sc.kind = .function
  co : sc.isCoroutine = false
  gen : sc.isGenerator = false
  nd : N.Nodup
  pre : N.take (ps.length + fs.length) = ps ++ fs
  par : ∀ x ∈ ps, sc.names.lookup x = some .local
  fre : ∀ x ∈ fs, sc.names.lookup x = some .free
  nocell : ∀ y ∈ sc.names, y.2 ≠ .cell
  all : ∀ x, sc.names.lookup x = some .free → x ∈ fs
theorem IsCell.keeps {h h' : Heap} {c : Addr} {v : Option Value} (x : h.IsCell c v) (k : ∀ b o, h.get? b = some o → h'.get? b = some o) : h'.IsCell c v := by
  obtain ⟨o, e, r⟩ := x
  exact ⟨o, k _ _ e, r⟩
end L2
set_option maxHeartbeats 4000000
set_option linter.all false
set_option maxRecDepth 100000
namespace L2
open PySem PySem.Spec PyProof.Rows
/-! ### a nested def is made -/
def TbN (P : Addr) (pos : Pos) : HO := .ext fun h => ∃ ps : Array Value, h.get? P = some (PySem.W.tabObj ps) ∧ TriplesOk ps.toList ∧ codeAmong pos ps.toList = none
def TbY (P : Addr) (pos : Pos) (c : Addr) : HO := .ext fun h => ∃ ps : Array Value, h.get? P = some (PySem.W.tabObj ps) ∧ TriplesOk ps.toList ∧ codeAmong pos ps.toList = some (.ref c)
def CdO (oc : Obj) : HO := .frz oc (.own 0)
/-- the code object c is that of the nested def -/
def CdC (H : Hp) (c : Addr) (qual : Str) : Prop := ∃ oc vs t, H c = some (CdO oc) ∧ oc.data = .fields vs ∧ vs[1]? = some (.str qual t)
def CdAt (H : Hp) (P : Addr) (pos : Pos) (qual : Str) : Prop := H P = some (TbN P pos) ∨ ∃ c, H P = some (TbY P pos c) ∧ CdC H c qual
/-- all is as it was, but tables -/
def SameT (H H' : Hp) : Prop := ∀ b o, H b = some o → (∀ φ, o ≠ .ext φ) → H' b = some o
theorem SameT.refl (H : Hp) : SameT H H := fun _ _ e _ => e
theorem SameT.trans {H H1 H2 : Hp} (a : SameT H H1) (b : SameT H1 H2) : SameT H H2 := fun c o e n => b c o (a c o e n) n
theorem SameT.of {H H' : Hp} (s : Same H H') : SameT H H' := fun c o e _ => s c o e
theorem CdC.mv {H H' : Hp} {c : Addr} {qual : Str} (h : CdC H c qual) (s : SameT H H') : CdC H' c qual := by
  obtain ⟨oc, vs, t, h1, h2, h3⟩ := h
  exact ⟨oc, vs, t, s _ _ h1 (fun φ z => (by cases z)), h2, h3⟩
theorem CdAt.same {H H' : Hp} {P : Addr} {pos : Pos} {qual : Str} (h : CdAt H P pos qual) (s : Same H H') : CdAt H' P pos qual := by
  rcases h with h | ⟨c, h1, h2⟩
  · exact .inl (s _ _ h)
  · exact .inr ⟨c, s _ _ h1, h2.mv (SameT.of s)⟩
end L2
set_option maxHeartbeats 4000000
set_option linter.all false
set_option maxRecDepth 100000
namespace L2
open PySem PySem.Spec PyProof.Rows
/-! ### a call of a def that is given a nested def: the base is then all that is not tracked -/
def dele (H : Hp) (c : Addr) : Hp := fun b => if b = c then none else H b
theorem dele_at (H : Hp) (c : Addr) : dele H c c = none := if_pos rfl
theorem dele_ne (H : Hp) {c b : Addr} (h : b ≠ c) : dele H c b = H b := if_neg h
theorem FunFrames.base {h base base' : Heap} : ∀ {l : List Env}, h.FunFrames base l → (∀ b ∈ frs l, base'.get? b = none) → h.FunFrames base' l
  | [], _, _ => trivial
  | env :: rest, hl, hb => by
    obtain ⟨h1, ⟨L, o, e1, e2, e3, e4⟩, h3⟩ := hl
    refine ⟨h1, ⟨L, o, e1, hb L ?_, e3, e4⟩, FunFrames.base h3 fun b hm => hb b ?_⟩
    · exact List.mem_filterMap.mpr ⟨env, List.mem_cons_self, e1⟩
    · obtain ⟨x, hx, ex⟩ := List.mem_filterMap.mp hm
      exact List.mem_filterMap.mpr ⟨x, List.mem_cons_of_mem _ hx, ex⟩
theorem HOk.dele {P : Program} {w : World} {H : Hp} {h : Heap} {c : Addr} {oc : Obj} (x : HOk P w H h) (hc : H c = some (CdO oc)) : HOk P w (dele H c) h := fun b u e => by
  by_cases hb : b = c
  · rw [hb, dele_at] at e; cases e
  · rw [dele_ne _ hb] at e
    refine (x b u e).stay (fun _ _ _ q => q) (fun d q => ?_) fun d xs q => ?_
    · rw [dele_ne _ (fun z => by rw [z, hc] at q; cases q)]; exact q
    · rw [dele_ne _ (fun z => by rw [z, hc] at q; cases q)]; exact q
theorem Un.dele {fs : List Addr} {H H2 : Hp} {h h' : Heap} {c : Addr} {oc : Obj} (hc : H c = some (CdO oc)) (he : h.get? c = some oc) (un : Un fs [] (dele H c) H2 h h') : Un fs [] H (upd H2 c (CdO oc)) h h' ∧ H2 c = none := by
  have h2 : H2 c = none := un.free c oc he (dele_at _ _) (by simp)
  have ne : ∀ {b}, H b = none → b ≠ c := fun n z => by rw [z, hc] at n; cases n
  refine ⟨⟨fun b o e n hf hx => un.keep b o e (by rw [dele_ne _ (ne n)]; exact n) hf hx, fun b o e n hf hx => un.slot b o e (by rw [dele_ne _ (ne n)]; exact n) hf hx, fun b o e n hx => ?_, un.there, fun b xs e => ?_, fun b o u e => ?_, fun b ps e => ?_⟩, h2⟩
  · rw [upd_ne (ne n)]
    exact un.free b o e (by rw [dele_ne _ (ne n)]; exact n) hx
  · have nb : b ≠ c := fun z => by rw [z, hc] at e; cases e
    rw [upd_ne nb]
    exact un.tups b xs (by rw [dele_ne _ nb]; exact e)
  · by_cases nb : b = c
    · rw [nb, hc] at e
      rw [nb, upd_same]
      exact e
    · rw [upd_ne nb]
      exact un.frzs b o u (by rw [dele_ne _ nb]; exact e)
  · have nb : b ≠ c := fun z => by rw [z, hc] at e; cases e
    rw [upd_ne nb]
    exact un.tbls b ps (by rw [dele_ne _ nb]; exact e)
/-- all that is there and not tracked, but the frames -/
def baseN (h : Heap) (H : Hp) (l : List Env) : Heap := PySem.W.hideAll h (trk h H ++ frs l)
theorem baseN_get {h : Heap} {H : Hp} {l : List Env} {b : Addr} {o : Obj} (e : h.get? b = some o) (n : H b = none) (nf : b ∉ frs l) : (baseN h H l).get? b = some o :=
  PySem.W.hideAll_get _ e fun hm => by
    rcases List.mem_append.mp hm with hm | hm
    · have q : (H b).isSome = true := (List.mem_filter.mp hm).2
      rw [n] at q; simp at q
    · exact nf hm
theorem of_baseN {h : Heap} {H : Hp} {l : List Env} {b : Addr} {o : Obj} (e : (baseN h H l).get? b = some o) : h.get? b = some o ∧ H b = none ∧ b ∉ frs l := by
  have e' : h.get? b = some o := PySem.W.of_hideAll _ e
  have nm : b ∉ trk h H ++ frs l := fun hm => by
    have z : (baseN h H l).get? b = none := PySem.W.hideAll_none _ hm
    rw [z] at e; cases e
  refine ⟨e', ?_, fun hf => nm (List.mem_append_right _ hf)⟩
  cases q : H b with
  | none => rfl
  | some x => exact absurd (List.mem_append_left _ (List.mem_filter.mpr ⟨List.mem_range.mpr (Heap.lt_size e'), by simp [q]⟩)) nm
theorem Env0.baseN {P : Program} {w : World} {K : PySem.W.Frag} {mg : Str → Option Value} {base : Heap} {A : Around} {outer : List Env} {s : Shared} {H : Hp} {c : Addr} {oc : Obj} (e : Env0 P w K mg base A outer s H) (hc : H c = some (CdO oc)) :
    Env0 P w K mg (baseN s.heap (dele H c) outer) A outer s (dele H c) := by
  have up : ∀ b o, base.get? b = some o → (L2.baseN s.heap (dele H c) outer).get? b = some o := fun b o q => by
    obtain ⟨h1, h2⟩ := e.bs b o q
    refine baseN_get h1 ?_ fun hf => ?_
    · unfold dele; split
      · rfl
      · exact h2
    · have := (e.funs.mem hf).1
      rw [q] at this; cases this
  refine ⟨e.frames, ⟨e.mod.kin.keeps up, e.mod.glob.keeps up, ?_, e.mod.nolimit.keeps up⟩, fun b o q => ?_, Nat.le_of_eq (PySem.W.hideAll_size _ _), FunFrames.base e.funs fun b hb => ?_, fun b hb => ?_, e.hok.dele hc, e.bare⟩
  · obtain ⟨mb, h1, h2⟩ := e.mod.blt
    exact ⟨mb, h1.keeps up, h2⟩
  · obtain ⟨h1, h2, _⟩ := of_baseN q
    exact ⟨h1, h2⟩
  · exact PySem.W.hideAll_none _ (List.mem_append_right _ hb)
  · unfold dele; split
    · rfl
    · exact e.frf b hb
end L2
set_option maxHeartbeats 4000000
set_option linter.all false
set_option maxRecDepth 100000
namespace L2
open PySem PySem.Spec PyProof.Rows
theorem Passes.aside {CX : CXT} {X : Cx} {E : XK} (h : Passes CX X E) (hp : X.pn = []) (ok : X.Ok → True := fun _ => trivial) {pn : List (Addr × Obj)} : Passes CX (X.aside pn X.xe) E := fun pins σ H s e s' I hc => by
  have ok : X.Ok := ⟨I.ok.mod, I.ok.kind, I.ok.glob, I.ok.blt, I.ok.above, I.ok.inj, I.ok.has, I.ok.cab, I.ok.hd, I.ok.frames, I.ok.stk, I.ok.exf, I.ok.bs, I.ok.bsz, I.ok.noex, I.ok.exfs, I.ok.funs, I.ok.frf⟩
  exact h [] σ H s e s' ⟨ok, I.os, I.bare, I.base, I.loc, I.cell, I.free, I.freeC, fun p hm => by rw [hp] at hm; exact (nomatch hm), I.hok, I.len⟩ hc
/-- the free names' values -/
inductive FvsAt (N : List Str) (σ : St) : List Str → List V → Prop
  | nil : FvsAt N σ [] []
  | cons {x : Str} {v : V} {fs : List Str} {vs : List V} (j : Nat) : N[j]? = some x → σ[j]? = some (some v) → FvsAt N σ fs vs → FvsAt N σ (x :: fs) (v :: vs)
theorem FvsAt.len {N : List Str} {σ : St} : ∀ {fs : List Str} {vs : List V}, FvsAt N σ fs vs → vs.length = fs.length
  | _, _, .nil => rfl
  | _, _, .cons _ _ _ r => congrArg (· + 1) r.len
theorem FvsAt.at_ {N : List Str} {σ : St} : ∀ {fs : List Str} {vs : List V} {i : Nat} {x : Str} {v : V}, FvsAt N σ fs vs → fs[i]? = some x → vs[i]? = some v → ∃ j : Nat, N[j]? = some x ∧ σ[j]? = some (some v)
  | _, _, _, _, _, .nil, h, _ => by simp at h
  | _, _, 0, _, _, .cons j h1 h2 _, e1, e2 => by simp at e1 e2; subst e1 e2; exact ⟨j, h1, h2⟩
  | _, _, i + 1, _, _, .cons _ _ _ r, e1, e2 => r.at_ (i := i) (by simpa using e1) (by simpa using e2)
theorem cloFrom_lookup {cells : List (Str × Addr)} : ∀ (names : List (Str × NameKind)) (acc : List (Str × Addr)) (x : Str) (c : Addr), (cloFrom cells names acc).lookup x = some c → acc.lookup x = some c ∨ ((x, NameKind.free) ∈ names ∧ (cells.lookup x).getD 0 = c)
  | [], acc, x, c, h => .inl h
  | (n, k) :: r, acc, x, c, h => by
    unfold cloFrom at h
    split at h
    · rename_i hk
      have hk : k = .free := by simpa using hk
      rcases cloFrom_lookup r _ x c h with h1 | ⟨h1, h2⟩
      · rw [List.lookup_cons] at h1
        split at h1
        · rename_i e
          have e : x = n := by simpa using e
          cases h1
          exact .inr ⟨by rw [e, hk]; exact List.mem_cons_self, by rw [e]⟩
        · exact .inl h1
      · exact .inr ⟨List.mem_cons_of_mem _ h1, h2⟩
    · rcases cloFrom_lookup r _ x c h with h1 | ⟨h1, h2⟩
      · exact .inl h1
      · exact .inr ⟨List.mem_cons_of_mem _ h1, h2⟩
theorem cloFrom_got {cells : List (Str × Addr)} {x : Str} : ∀ (names : List (Str × NameKind)) (acc : List (Str × Addr)), ((x, NameKind.free) ∈ names ∨ ∃ c, acc.lookup x = some c) → ∃ c, (cloFrom cells names acc).lookup x = some c
  | [], acc, h => by
    rcases h with h | h
    · exact (nomatch h)
    · exact h
  | (n, k) :: r, acc, h => by
    unfold cloFrom
    split
    · rename_i hk
      refine cloFrom_got r _ ?_
      by_cases e : x = n
      · exact .inr ⟨(cells.lookup n).getD 0, by rw [e]; exact List.lookup_cons_self⟩
      · rcases h with h | ⟨c, h⟩
        · rcases List.mem_cons.mp h with h | h
          · cases h; exact absurd rfl e
          · exact .inl h
        · exact .inr ⟨c, by rw [List.lookup_cons, beq_eq_false_iff_ne.mpr e]; exact h⟩
    · rename_i hk
      refine cloFrom_got r _ ?_
      rcases h with h | h
      · rcases List.mem_cons.mp h with h | h
        · cases h; exact absurd rfl hk
        · exact .inl h
      · exact .inr h
section
variable {X : Cx}
/-- the closure's cells, over what is not tracked -/
theorem Inv.clo {pins : List (Addr × Obj)} {σ : St} {H : Hp} {s : Shared} {scope : Scope} {fs : List Str} {fvs : List V} {c' : Addr} (I : Inv X pins σ H s) (hall : ∀ y ∈ scope.names, y.2 = .free → X.env.kindOf y.1 = some .cell) (hfs : ∀ x ∈ fs, (x, NameKind.free) ∈ scope.names) (hv : FvsAt X.N σ fs fvs) (hfn : ∀ x, X.fn x = true) :
    CloAt (baseN s.heap (dele H c') X.stack) (cloFrom X.env.cells scope.names []) fs fvs := by
  have lk : ∀ x c, (cloFrom X.env.cells scope.names []).lookup x = some c → X.env.cells.lookup x = some c ∧ X.env.kindOf x = some .cell := fun x c h => by
    rcases cloFrom_lookup _ _ x c h with h | ⟨h1, h2⟩
    · exact (nomatch h)
    · have hk := hall _ h1 rfl
      obtain ⟨c0, e⟩ := I.ok.has x (.inl hk)
      rw [e] at h2
      have h2 : c0 = c := h2
      exact ⟨by rw [e, h2], hk⟩
  have cl : ∀ x c v, X.env.cells.lookup x = some c → s.heap.IsCell c v → (baseN s.heap (dele H c') X.stack).IsCell c v := fun x c v e hc => by
    obtain ⟨o, ho, hd⟩ := hc
    refine ⟨o, baseN_get ho ?_ fun hf => ?_, hd⟩
    · unfold dele; split
      · rfl
      · exact I.freeC x c e
    · rcases List.mem_cons.mp (I.stkSub c hf) with z | z
      · obtain ⟨m, ⟨o2, es, ep, h1, h2, _⟩, _⟩ := I.loc
        rw [z, h1] at ho
        cases ho
        rw [h2] at hd
        cases hd
      · obtain ⟨_, o2, h1, _⟩ := I.ok.funs.mem z
        exact absurd (Heap.lt_size h1) (Nat.not_lt.mpr (I.ok.cab x c (hfn x) e))
  refine ⟨fun x y c h1 h2 => I.ok.inj x y c (lk x c h1).1 (lk y c h2).1, fun x c h => ?_, fun i x v h1 h2 => ?_, hv.len⟩
  · obtain ⟨v, hv⟩ := I.cell x c (lk x c h).1
    exact ⟨v, cl x c v (lk x c h).1 hv⟩
  · obtain ⟨j, e1, e2⟩ := hv.at_ h1 h2
    have hfr := hfs x (List.mem_of_getElem? h1)
    obtain ⟨c, hc⟩ := cloFrom_got (cells := X.env.cells) scope.names [] (.inl hfr)
    obtain ⟨k1, k2⟩ := lk x c hc
    obtain ⟨m, hn, hl⟩ := I.loc
    obtain ⟨u, ru, hk⟩ := hl j x v e1 e2 (.inr (.inl k2))
    rcases hk with ⟨hk, _⟩ | ⟨_, c0, h3, h4⟩
    · rw [k2] at hk; cases hk
    · rw [k1] at h3
      cases h3
      exact ⟨c, u, hc, cl x c _ k1 h4, ru⟩
end
end L2
set_option maxHeartbeats 4000000
set_option linter.all false
set_option maxRecDepth 100000
set_option maxHeartbeats 4000000
set_option linter.all false
set_option maxRecDepth 100000
namespace L2
open PySem PySem.Spec PyProof.Rows
/-- what a table of a code object may have become -/
def TabX (H : Hp) (P : Addr) : Prop := H P = some (TbO P) ∨ (∃ pos, H P = some (TbN P pos)) ∨ ∃ pos c, H P = some (TbY P pos c)
theorem CdAt.tab {H : Hp} {P : Addr} {pos : Pos} {qual : Str} (h : CdAt H P pos qual) : TabX H P := by
  rcases h with h | ⟨c, h, _⟩
  · exact .inr (.inl ⟨pos, h⟩)
  · exact .inr (.inr ⟨pos, c, h⟩)
theorem TabX.get {P : Program} {w : World} {H : Hp} {h : Heap} {p : Addr} (x : HOk P w H h) (t : TabX H p) : ∃ ps : Array Value, h.get? p = some (PySem.W.tabObj ps) := by
  rcases t with t | ⟨pos, t⟩ | ⟨pos, c, t⟩
  · obtain ⟨ps, e, _⟩ := tb_get x t
    exact ⟨ps, e⟩
  · obtain ⟨⟨ps, e, _⟩, _⟩ := x _ _ t
    exact ⟨ps, e⟩
  · obtain ⟨⟨ps, e, _⟩, _⟩ := x _ _ t
    exact ⟨ps, e⟩
end L2
set_option maxHeartbeats 4000000
set_option linter.all false
set_option maxRecDepth 100000
namespace L2
open PySem PySem.Spec PyProof.Rows
/-- a def as the top has left it, with its code object and the table there -/
structure DfnT (K : PySem.W.Frag) (mg : Str → Option Value) (x : Str) (st : Stmt) (ps : List Str) (c : Addr) : Prop where
  ex : ∃ (f : Addr) (fd : FuncData), Fun K x x st f fd ∧ mg x = some (.ref f) ∧ Binds K fd ps [] ∧ fd.code = .ref c
theorem DfnT.of {K : PySem.W.Frag} {mg : Str → Option Value} {x : Str} {st : Stmt} {ps : List Str} {c P : Addr} {h : Heap} (D : Dfn K mg x st ps) (X : K.In h) (G : h.Ns mainGlobals mg) (ht : PySem.W.tabIn K x = some (c, P)) : DfnT K mg x st ps c := by
  obtain ⟨f, fd, F, hm, hb⟩ := D.ex
  obtain ⟨oc, od, kV, doc, pm, an, cdv, ct, osl, e1, e2, e3⟩ := F.ex
  exact ⟨f, fd, F, hm, hb, PySem.W.law_code X G ht hm (X _ _ e2) rfl⟩
theorem DfnT.glob {K : PySem.W.Frag} {mg : Str → Option Value} {x : Str} {st : Stmt} {ps : List Str} {c : Addr} (D : DfnT K mg x st ps c) : ∃ g, mg x = some (.ref g) ∧ PySem.W.keepIn K (.ref g) = true := by
  obtain ⟨f, fd, F, hm, hb, _⟩ := D.ex
  exact ⟨f, hm, F.kp⟩
theorem Dfn.glob {K : PySem.W.Frag} {mg : Str → Option Value} {x : Str} {st : Stmt} {ps : List Str} (D : Dfn K mg x st ps) : ∃ g, mg x = some (.ref g) ∧ PySem.W.keepIn K (.ref g) = true := by
  obtain ⟨f, fd, F, hm, hb⟩ := D.ex
  exact ⟨f, hm, F.kp⟩
section
variable {P : Program} {w : World} {K : PySem.W.Frag} {mg : Str → Option Value} {base : Heap}
theorem DfnT.cal {x : Str} {st : Stmt} {N ps : List Str} {k : Nat} {sp : Sp} {c : Addr} (F : DfnT K mg x st ps c) (S : FnScope N ps (defScope st)) (len : ∀ vs H Q E, sp vs H Q E → vs.length = ps.length)
    (hbody : ∀ (f : Addr) (A : Around) (outer : List Env) (s : Shared) (H : Hp) (vs : List V) (Q : VK) (E : XK), Room k (A.deeper (envOfC x (defScope st) s.heap.objs.size f (.ref c))) → sp vs H Q E →
      ∃ t, PSs (cxOf CX0 P w K mg base N x (defScope st) f (.ref c) A outer s H E).nox (defBody st) t ∧ t { nx := fun _ H' => Q .non H', rt := Q } (start N vs) H) : Cal P w K mg base (k + 1) x ps sp := by
  obtain ⟨f, fd, G, hm, hb, hcd⟩ := F.ex
  have hk := G.kp
  obtain ⟨oc, od, kV, doc, pm, an, cdv, ct, osl, rfl, lk, hc2⟩ := G.ex
  have hcd : cdv = .ref c := hcd
  subst hcd
  refine ⟨f, _, fn_of lk hc2 S len (fun A outer s H vs Q E hr hsp => ?_), hm, hk, hb⟩
  obtain ⟨t, h, q⟩ := hbody f A outer s H vs Q E hr hsp
  exact ⟨t, h.nox, q⟩
end
end L2
set_option maxHeartbeats 4000000
set_option linter.all false
set_option maxRecDepth 100000
namespace L2
open PySem PySem.Spec PyProof.Rows
/-- all is as it was, but the table at P -/
def SameP (P : Addr) (H H' : Hp) : Prop := ∀ b o, b ≠ P → H b = some o → H' b = some o
theorem SameP.refl {P : Addr} (H : Hp) : SameP P H H := fun _ _ _ e => e
theorem SameP.trans {P : Addr} {H H1 H2 : Hp} (a : SameP P H H1) (b : SameP P H1 H2) : SameP P H H2 := fun c o n e => b c o n (a c o n e)
theorem SameP.of {P : Addr} {H H' : Hp} (s : Same H H') : SameP P H H' := fun c o _ e => s c o e
end L2
set_option maxHeartbeats 4000000
set_option linter.all false
set_option maxRecDepth 100000
set_option maxHeartbeats 4000000
set_option linter.all false
set_option maxRecDepth 100000
set_option maxHeartbeats 4000000
set_option linter.all false
set_option maxRecDepth 100000
set_option maxHeartbeats 4000000
set_option linter.all false
set_option maxRecDepth 100000
namespace L2
open PySem PySem.Spec PyProof.Rows
theorem ObjOk.there {P : Program} {w : World} {H : Hp} {h : Heap} {a : Addr} {o : HO} (x : ObjOk P w H h a o) : ∃ ob, h.get? a = some ob := by
  cases o with
  | lst xs => obtain ⟨_, _, _, _, e⟩ := x; exact ⟨_, e⟩
  | tup xs => obtain ⟨_, _, _, ob, e, _⟩ := x; exact ⟨_, e⟩
  | dK kvs => obtain ⟨_, _, _, _, o, _, _, e, _⟩ := x; exact ⟨_, e⟩
  | dT kvs => obtain ⟨_, _, _, _, o, _, _, e, _⟩ := x; exact ⟨_, e⟩
  | set S n => obtain ⟨o, _, _, _, e, _⟩ := x; exact ⟨_, e⟩
  | ins C dx fs => obtain ⟨_, _, _, e, _⟩ := x; exact ⟨_, e⟩
  | own y => obtain ⟨o, e⟩ := x; exact ⟨_, e⟩
  | xd fs => obtain ⟨_, ⟨o, _, _, e, _⟩, _⟩ := x; exact ⟨_, e⟩
  | rng lo hi => obtain ⟨_, _, _, e⟩ := x; exact ⟨_, e⟩
  | frz ob u => obtain ⟨e, _⟩ := x; exact ⟨_, e⟩
  | tbl ps => exact ⟨_, (show h.get? a = some _ from x)⟩
  | met f y => exact ⟨_, (show h.get? a = some _ from x)⟩
  | ext φ => obtain ⟨_, e, _⟩ := x; exact e
/-- an own class above ValueError without an __init__ of its own -/
structure XMk0 (K : PySem.W.Frag) (C : Addr) : Prop where
  ex : ∃ (nm q : Str) (N : Addr) (bs bm : List Value) (sn : List Str) (sub : List Value) (ab : Bool) (col : Option Bool) (dd : Option Addr) (k0 k1 k2 k3 k5 : Option Value),
    K.lookup C = some (excClassObj nm q C N bs bm true sn sub ab col dd k0 k1 k2 k3 k5 "ValueError.__new__") ∧ PySem.W.tailIn K bmV bm = true ∧ overV bm = true ∧ PySem.W.nsOkIn K N = true ∧ PySem.W.nsIn K N "__init__" = some none
  kp : PySem.W.keepIn K (.ref C) = true
theorem XMk0.cls {K : PySem.W.Frag} {C : Addr} (M : XMk0 K C) : XCls K C := by
  obtain ⟨nm, q', N, bs, bm, sn, sub, ab, col, dd, k0, k1, k2, k3, k5, hC, hT, hO, _⟩ := M.ex
  exact ⟨nm, q', N, bs, bm, sn, sub, ab, col, dd, k0, k1, k2, k3, k5, hC, hT, hO⟩
end L2
set_option maxHeartbeats 4000000
set_option linter.all false
set_option maxRecDepth 100000
namespace L2
open PySem PySem.Spec PyProof.Rows
/-! ### states numbered as they come -/
section
variable {α : Type} [DecidableEq α]
/-- one came: at most 64 -/
def cameC (S : List α) (x : α) : Option (List α) := if x ∈ S then some S else if S.length < 64 then some (S ++ [x]) else none
def firstC : List α → List α → Option (List α)
  | S, [] => some S
  | S, x :: r => (cameC S x).bind fun S1 => firstC S1 r
def rowC (f : α → α → α) (d : α) (p : Nat) (S : List α) : Nat → Option (List α)
  | 0 => some S
  | q + 1 => (rowC f d p S q).bind fun S1 => (cameC S1 (f (S1.getD p d) (S1.getD q d))).bind fun S2 => cameC S2 (f (S2.getD q d) (S2.getD p d))
def runC (f : α → α → α) (d : α) : Nat → Nat → List α → Option (List α)
  | 0, _, S => some S
  | n + 1, p, S => if p < S.length then (rowC f d p S (p + 1)).bind (runC f d n (p + 1)) else some S
def numC (f : α → α → α) (d : α) (fs : List α) : Option (List α) := (firstC [] fs).bind (runC f d 64 0)
/-- S is a beginning of S', both without doubles, S' of 64 at most -/
structure Beg (S S' : List α) : Prop where
  pre : ∃ r, S' = S ++ r
  nd : S'.Nodup
  le : S'.length ≤ 64
theorem Beg.refl {S : List α} (nd : S.Nodup) (le : S.length ≤ 64) : Beg S S := ⟨⟨[], (List.append_nil _).symm⟩, nd, le⟩
theorem Beg.trans {S T U : List α} (a : Beg S T) (b : Beg T U) : Beg S U := by
  obtain ⟨r, e1⟩ := a.pre
  obtain ⟨r2, e2⟩ := b.pre
  exact ⟨⟨r ++ r2, by rw [e2, e1, List.append_assoc]⟩, b.nd, b.le⟩
theorem Beg.len {S T : List α} (a : Beg S T) : S.length ≤ T.length := by
  obtain ⟨r, e⟩ := a.pre
  rw [e, List.length_append]; omega
theorem Beg.mem {S T : List α} (a : Beg S T) {x : α} (h : x ∈ S) : x ∈ T := by
  obtain ⟨r, e⟩ := a.pre
  rw [e]; exact List.mem_append_left _ h
theorem Beg.get {S T : List α} (a : Beg S T) {i : Nat} {x : α} (h : S[i]? = some x) : T[i]? = some x := by
  obtain ⟨r, e⟩ := a.pre
  have hi := (List.getElem?_eq_some_iff.mp h).1
  rw [e, List.getElem?_append_left hi]; exact h
theorem Beg.getD {S T : List α} (a : Beg S T) {i : Nat} {d : α} (h : i < S.length) : T.getD i d = S.getD i d := by
  have e : S[i]? = some (S[i]'h) := List.getElem?_eq_getElem _
  rw [List.getD_eq_getElem?_getD, List.getD_eq_getElem?_getD, a.get e, e]
theorem get_idx {S : List α} {x : α} (h : x ∈ S) : S[S.idxOf x]? = some x := by
  have hl := List.idxOf_lt_length_of_mem h
  rw [List.getElem?_eq_getElem hl, List.getElem_idxOf hl]
theorem cameC_ok {S S' : List α} {x : α} (nd : S.Nodup) (le : S.length ≤ 64) (h : cameC S x = some S') : Beg S S' ∧ x ∈ S' := by
  unfold cameC at h
  split at h
  · rename_i hx; cases h; exact ⟨Beg.refl nd le, hx⟩
  · rename_i hx
    split at h
    · rename_i hl
      cases h
      refine ⟨⟨⟨[x], rfl⟩, ?_, ?_⟩, List.mem_append_right _ List.mem_cons_self⟩
      · refine List.nodup_append.mpr ⟨nd, List.nodup_cons.mpr ⟨fun z => (nomatch z), List.nodup_nil⟩, fun a ha b hb z => ?_⟩
        rw [List.mem_singleton.mp hb] at z
        rw [z] at ha
        exact hx ha
      · rw [List.length_append]; show S.length + 1 ≤ 64; omega
    · cases h
theorem firstC_ok : ∀ {fs S S' : List α}, S.Nodup → S.length ≤ 64 → firstC S fs = some S' → Beg S S' ∧ ∀ x ∈ fs, x ∈ S'
  | [], S, S', nd, le, h => by cases h; exact ⟨Beg.refl nd le, fun _ z => (nomatch z)⟩
  | x :: r, S, S', nd, le, h => by
    have h : (cameC S x).bind (fun S1 => firstC S1 r) = some S' := h
    obtain ⟨S1, h1, h2⟩ := Option.bind_eq_some_iff.mp h
    obtain ⟨b1, m1⟩ := cameC_ok nd le h1
    obtain ⟨b2, m2⟩ := firstC_ok b1.nd b1.le h2
    refine ⟨b1.trans b2, fun y hy => ?_⟩
    rcases List.mem_cons.mp hy with e | hy
    · rw [e]; exact b2.mem m1
    · exact m2 y hy
theorem rowC_ok {f : α → α → α} {d : α} {p : Nat} {S : List α} (nd : S.Nodup) (le : S.length ≤ 64) : ∀ {q : Nat} {S' : List α}, q ≤ S.length → p < S.length → rowC f d p S q = some S' → Beg S S' ∧ ∀ j, j < q → f (S.getD p d) (S.getD j d) ∈ S' ∧ f (S.getD j d) (S.getD p d) ∈ S'
  | 0, S', _, _, h => by cases h; exact ⟨Beg.refl nd le, fun j hj => absurd hj (Nat.not_lt_zero _)⟩
  | q + 1, S', hq, hp, h => by
    obtain ⟨S1, h1, h2⟩ := Option.bind_eq_some_iff.mp h
    obtain ⟨S2, h3, h4⟩ := Option.bind_eq_some_iff.mp h2
    obtain ⟨b1, m1⟩ := rowC_ok nd le (Nat.le_of_succ_le hq) hp h1
    obtain ⟨b2, m2⟩ := cameC_ok b1.nd b1.le h3
    obtain ⟨b3, m3⟩ := cameC_ok b2.nd b2.le h4
    have b12 := b1.trans b2
    rw [b1.getD hp, b1.getD hq] at m2
    rw [b12.getD hq, b12.getD hp] at m3
    refine ⟨b12.trans b3, fun j hj => ?_⟩
    rcases Nat.lt_succ_iff_lt_or_eq.mp hj with hj | hj
    · obtain ⟨a1, a2⟩ := m1 j hj
      exact ⟨b3.mem (b2.mem a1), b3.mem (b2.mem a2)⟩
    · rw [hj]; exact ⟨b3.mem m2, m3⟩
theorem runC_ok {f : α → α → α} {d : α} : ∀ {n p : Nat} {S S' : List α}, S.Nodup → S.length ≤ 64 → runC f d n p S = some S' → Beg S S'
  | 0, p, S, S', nd, le, h => by cases h; exact Beg.refl nd le
  | n + 1, p, S, S', nd, le, h => by
    unfold runC at h
    split at h
    · rename_i hp
      obtain ⟨S1, h1, h2⟩ := Option.bind_eq_some_iff.mp h
      obtain ⟨b1, _⟩ := rowC_ok nd le (by omega) hp h1
      exact b1.trans (runC_ok b1.nd b1.le h2)
    · cases h; exact Beg.refl nd le
/-- within a finite range all is well -/
theorem cameC_in {U S : List α} {x : α} (hU : U.length ≤ 64) (nd : S.Nodup) (hS : ∀ y ∈ S, y ∈ U) (hx : x ∈ U) : ∃ S', cameC S x = some S' ∧ S'.Nodup ∧ ∀ y ∈ S', y ∈ U := by
  by_cases h : x ∈ S
  · exact ⟨S, if_pos h, nd, hS⟩
  · have nd2 : (x :: S).Nodup := List.nodup_cons.mpr ⟨h, nd⟩
    have hl : (x :: S).length ≤ U.length := by
      refine List.Nodup.length_le_of_subset nd2 fun y hy => ?_
      rcases List.mem_cons.mp hy with e | hy
      · rw [e]; exact hx
      · exact hS y hy
    have hl : S.length + 1 ≤ U.length := hl
    have e : cameC S x = some (S ++ [x]) := by unfold cameC; rw [if_neg h, if_pos (by omega)]
    refine ⟨_, e, (cameC_ok nd (by omega) e).1.nd, fun y hy => ?_⟩
    rcases List.mem_append.mp hy with hy | hy
    · exact hS y hy
    · rw [List.mem_singleton.mp hy]; exact hx
theorem firstC_in {U : List α} (hU : U.length ≤ 64) : ∀ {fs S : List α}, S.Nodup → (∀ y ∈ S, y ∈ U) → (∀ y ∈ fs, y ∈ U) → ∃ S', firstC S fs = some S' ∧ S'.Nodup ∧ ∀ y ∈ S', y ∈ U
  | [], S, nd, hS, _ => ⟨S, rfl, nd, hS⟩
  | x :: r, S, nd, hS, hf => by
    obtain ⟨S1, h1, h2, h3⟩ := cameC_in hU nd hS (hf x List.mem_cons_self)
    obtain ⟨S2, h4, h5⟩ := firstC_in hU h2 h3 fun y hy => hf y (List.mem_cons_of_mem _ hy)
    exact ⟨S2, by show (cameC S x).bind _ = _; rw [h1]; exact h4, h5⟩
theorem len_in {U S : List α} (nd : S.Nodup) (hS : ∀ y ∈ S, y ∈ U) : S.length ≤ U.length := List.Nodup.length_le_of_subset nd hS
theorem getD_in {U S : List α} {d : α} {i : Nat} (hS : ∀ y ∈ S, y ∈ U) (h : i < S.length) : S.getD i d ∈ U := by
  rw [List.getD_eq_getElem?_getD, List.getElem?_eq_getElem h]
  exact hS _ (List.getElem_mem h)
theorem rowC_in {U : List α} {f : α → α → α} {d : α} (hU : U.length ≤ 64) (hf : ∀ x ∈ U, ∀ y ∈ U, f x y ∈ U) {p : Nat} {S : List α} (nd : S.Nodup) (hS : ∀ y ∈ S, y ∈ U) (hp : p < S.length) : ∀ {q : Nat}, q ≤ S.length → ∃ S', rowC f d p S q = some S' ∧ S'.Nodup ∧ ∀ y ∈ S', y ∈ U
  | 0, _ => ⟨S, rfl, nd, hS⟩
  | q + 1, hq => by
    obtain ⟨S1, h1, h2, h3⟩ := rowC_in hU hf nd hS hp (q := q) (by omega)
    have le := Nat.le_trans (len_in nd hS) hU
    have b1 := (rowC_ok nd le (by omega) hp h1).1
    have l1 := b1.len
    obtain ⟨S2, h4, h5, h6⟩ := cameC_in hU h2 h3 (hf _ (getD_in (d := d) h3 (show p < S1.length by omega)) _ (getD_in (d := d) h3 (show q < S1.length by omega)))
    have b2 := (cameC_ok h2 (Nat.le_trans (len_in h2 h3) hU) h4).1
    have l2 := b2.len
    obtain ⟨S3, h7, h8⟩ := cameC_in hU h5 h6 (hf _ (getD_in (d := d) h6 (show q < S2.length by omega)) _ (getD_in (d := d) h6 (show p < S2.length by omega)))
    refine ⟨S3, ?_, h8⟩
    show (rowC f d p S q).bind _ = _
    rw [h1]
    show (cameC S1 _).bind _ = _
    rw [h4]
    exact h7
theorem runC_in {U : List α} {f : α → α → α} {d : α} (hU : U.length ≤ 64) (hf : ∀ x ∈ U, ∀ y ∈ U, f x y ∈ U) : ∀ {n p : Nat} {S : List α}, S.Nodup → (∀ y ∈ S, y ∈ U) → ∃ S', runC f d n p S = some S' ∧ S'.Nodup ∧ ∀ y ∈ S', y ∈ U
  | 0, p, S, nd, hS => ⟨S, rfl, nd, hS⟩
  | n + 1, p, S, nd, hS => by
    unfold runC
    split
    · rename_i hp
      obtain ⟨S1, h1, h2, h3⟩ := rowC_in (d := d) hU hf nd hS hp (q := p + 1) (by omega)
      rw [h1]
      exact runC_in hU hf h2 h3
    · exact ⟨S, rfl, nd, hS⟩
theorem numC_in {U : List α} {f : α → α → α} {d : α} {fs : List α} (hU : U.length ≤ 64) (hf : ∀ x ∈ U, ∀ y ∈ U, f x y ∈ U) (hs : ∀ y ∈ fs, y ∈ U) : ∃ S', numC f d fs = some S' ∧ S'.Nodup ∧ ∀ y ∈ S', y ∈ U := by
  obtain ⟨S1, h1, h2, h3⟩ := firstC_in hU (S := []) List.nodup_nil (fun _ z => (nomatch z)) hs
  unfold numC
  rw [h1]
  exact runC_in hU hf h2 h3
end
end L2
set_option maxHeartbeats 4000000
set_option linter.all false
set_option maxRecDepth 100000
set_option maxHeartbeats 4000000
set_option linter.all false
set_option maxRecDepth 100000
namespace L2
open PySem PySem.Spec PyProof.Rows
def b2i (b : Bool) : Int := if b then 1 else 0
def ibK (a : Int × Bool) : List Int := [a.1, b2i a.2]
def ibH (ks : List Int) : Int := reduceHash (Builtin.Tuple.tupleHashOf (ks.map hashInt))
structure DbRel (us : List V) (S : List (Int × Bool)) (xs : List (List Int × Addr × Value)) : Prop where
  ul : us.length = S.length
  xl : xs.length = S.length
  at_ : ∀ (i : Nat) (a : Int × Bool), S[i]? = some a → ∃ (q : Addr) (t : Tok), us[i]? = some (.ref q) ∧ xs[i]? = some (ibK a, q, .int (i : Int) t)
def DboP (D : Addr) (us : List V) (S : List (Int × Bool)) (h : Heap) : Prop := (D == sysModules) = false ∧ ∃ xs, DbRel us S xs ∧ ∃ o es ep, h.get? D = some o ∧ o.ExactDict ∧ o.data = .dict es ep ∧ es.toList = xs.map (fun x => (⟨ibH x.1, .ref x.2.1, x.2.2⟩ : DictEntry)) ∧ (xs.map (·.1)).Nodup
def DboO (D : Addr) (us : List V) (S : List (Int × Bool)) : HO := .ext (DboP D us S)
def dbO (D : Addr) (us : List V) : List (Int × Bool) → HO
  | [] => .dT []
  | a :: S => DboO D us (a :: S)
def RepB (H : Hp) (us : List V) (S : List (Int × Bool)) : Prop := us.length = S.length ∧ ∀ (i : Nat) (a : Int × Bool), S[i]? = some a → ∃ q, us[i]? = some (.ref q) ∧ H q = some (.tup [.int a.1, .bl a.2])
def idxG {α : Type} [DecidableEq α] (S : List α) (a : α) : Option V := if a ∈ S then some (V.int (S.idxOf a : Nat)) else none
/-- what the dict at a holds at y; the heap behind a[y] = v -/
def DGetG (H : Hp) (a : Addr) (y : V) (r : Option V) : Prop := DGet H a y r ∨ ∃ us S q b, H a = some (dbO a us S) ∧ RepB H us S ∧ y = .ref q ∧ H q = some (.tup [.int b.1, .bl b.2]) ∧ r = idxG S b
def DPutG (H : Hp) (a : Addr) (y v : V) (H' : Hp) : Prop := DPut H a y v H' ∨ ∃ us S q b, H a = some (dbO a us S) ∧ RepB H us S ∧ y = .ref q ∧ H q = some (.tup [.int b.1, .bl b.2]) ∧ b ∉ S ∧ S.length < 1000 ∧ v = .int (S.length : Nat) ∧ H' = upd H a (dbO a (us ++ [.ref q]) (S ++ [b]))
end L2
set_option maxHeartbeats 4000000
set_option linter.all false
set_option maxRecDepth 100000
namespace L2
open PySem PySem.Spec PyProof.Rows
/-- tuples and what is known stay -/
structure KpT (H H' : Hp) : Prop where
  tup : ∀ b xs, H b = some (.tup xs) → H' b = some (.tup xs)
  frz : ∀ b o u, H b = some (.frz o u) → H' b = some (.frz o u)
theorem KpT.of {H H' : Hp} (k : Kp H H') : KpT H H' := ⟨k.tup, k.frz⟩
theorem KpT.same {H H' : Hp} (s : Same H H') : KpT H H' := ⟨fun b xs e => s _ _ e, fun b o u e => s _ _ e⟩
theorem KpT.refl (H : Hp) : KpT H H := ⟨fun _ _ e => e, fun _ _ _ e => e⟩
theorem KpT.trans {H H1 H2 : Hp} (a : KpT H H1) (b : KpT H1 H2) : KpT H H2 := ⟨fun c xs e => b.tup _ _ (a.tup _ _ e), fun c o u e => b.frz _ _ _ (a.frz _ _ _ e)⟩
theorem TupZ.kt {H H' : Hp} {p : Addr} {xs : List V} (h : TupZ H p xs) (k : KpT H H') : TupZ H' p xs := by
  obtain ⟨o, h1, h2, h⟩ := h
  exact ⟨o, h1, h2, k.frz _ _ _ h⟩
theorem RowsAt.kt {H H' : Hp} (k : KpT H H') : ∀ {vs : List V} {xss : List (List Int)}, RowsAt H vs xss → RowsAt H' vs xss
  | _, _, .nil => .nil
  | _, _, .cons a b => .cons (k.tup _ _ a) (b.kt k)
theorem MAtZ.kt {H H' : Hp} {T : Addr} {m : Mch} (h : MAtZ H T m) (k : KpT H H') : MAtZ H' T m := by
  obtain ⟨F, N, S, P, M, rs, h1, h2, h3, h4, h5, h6, h7⟩ := h.ex
  exact ⟨F, N, S, P, M, rs, k.tup _ _ h1, k.tup _ _ h2, h3.kt k, k.tup _ _ h4, k.tup _ _ h5, h6.kt k, k.tup _ _ h7⟩
theorem MAtF.kt {H H' : Hp} {T : Addr} {m : Mch} (h : MAtF H T m) (k : KpT H H') : MAtF H' T m := by
  obtain ⟨F, N, S, P, M, rs, h1, h2, h3, h4, h5, h6, h7⟩ := h.ex
  exact ⟨F, N, S, P, M, rs, k.tup _ _ h1, h2.kt k, h3.kt k, k.tup _ _ h4, k.tup _ _ h5, h6.kt k, k.tup _ _ h7⟩
/-- what stands for a state, and the dict of the numbers -/
def RepsK {α : Type} (rep : Hp → V → α → Prop) (H : Hp) (us : List V) (S : List α) : Prop := us.length = S.length ∧ ∀ (i : Nat) (a : α), S[i]? = some a → ∃ v, us[i]? = some v ∧ rep H v a
structure KD (α : Type) [DecidableEq α] where
  rep : Hp → V → α → Prop
  dct : Addr → List V → List α → HO
  kt : ∀ {H H' : Hp} {v : V} {a : α}, KpT H H' → rep H v a → rep H' v a
  get : ∀ {H : Hp} {D : Addr} {us : List V} {S : List α} {v : V} {a : α}, H D = some (dct D us S) → RepsK rep H us S → rep H v a → DGetG H D v (if a ∈ S then some (V.int (S.idxOf a : Nat)) else none)
  put : ∀ {H : Hp} {D : Addr} {us : List V} {S : List α} {v : V} {a : α}, H D = some (dct D us S) → RepsK rep H us S → rep H v a → a ∉ S → S.length < 1000 → DPutG H D v (.int (S.length : Nat)) (upd H D (dct D (us ++ [v]) (S ++ [a])))
  nlst : ∀ D us S xs, dct D us S ≠ .lst xs
  ntup : ∀ D us S xs, dct D us S ≠ .tup xs
  nfrz : ∀ D us S o u, dct D us S ≠ .frz o u
  nins : ∀ D us S C dx fs, dct D us S ≠ .ins C dx fs
section
variable {α κ : Type} [DecidableEq α] [DecidableEq κ]
theorem val_num {ky : α → κ} (inj : ∀ a b, ky a = ky b → a = b) (a : α) : ∀ (S : List α) (n : Nat), valV ((S.zipIdx n).map fun x => (ky x.1, V.int (x.2 : Nat))) (ky a) = if a ∈ S then some (V.int (((S.idxOf a + n : Nat)) : Int)) else none
  | [], n => rfl
  | x :: r, n => by
    rw [List.zipIdx_cons, List.map_cons]
    by_cases e : x = a
    · rw [valV_pos (by show ky x = ky a; rw [e]), if_pos (by rw [e]; exact List.mem_cons_self), e, List.idxOf_cons_self]
      show some (V.int (n : Nat)) = some (V.int ((0 + n : Nat) : Int))
      rw [Nat.zero_add]
    · rw [valV_neg (fun z => e (inj _ _ z)), val_num inj a r (n + 1), List.idxOf_cons, beq_eq_false_iff_ne.mpr e, cond_false]
      by_cases h : a ∈ r
      · rw [if_pos h, if_pos (List.mem_cons_of_mem _ h), Nat.succ_add, Nat.add_succ]
      · rw [if_neg h, if_neg (fun z => by
          rcases List.mem_cons.mp z with z | z
          · exact e z.symm
          · exact h z)]
theorem num_snoc {ky : α → κ} (inj : ∀ a b, ky a = ky b → a = b) {a : α} {S : List α} (h : a ∉ S) : putK (S.zipIdx.map fun x => (ky x.1, V.int (x.2 : Nat))) (ky a) (V.int (S.length : Nat)) = ((S ++ [a]).zipIdx.map fun x => (ky x.1, V.int (x.2 : Nat))) := by
  rw [putK_new _ (by rw [val_num inj, if_neg h]), List.zipIdx_append, List.map_append, Nat.zero_add]
  rfl
end
theorem num_len {α κ : Type} (f : α × Nat → κ) (S : List α) : (S.zipIdx.map f).length = S.length := by rw [List.length_map, List.length_zipIdx]
/-- pairs of whole numbers -/
def kdP : KD (Int × Int) where
  rep := fun H v a => ∃ r, v = .ref r ∧ H r = some (.tup [.int a.1, .int a.2])
  dct := fun _ _ S => .dT (S.zipIdx.map fun x => ([Sum.inl x.1.1, Sum.inl x.1.2], V.int (x.2 : Nat)))
  kt := fun k ⟨r, h1, h2⟩ => ⟨r, h1, k.tup _ _ h2⟩
  get := fun {H D us S v a} h _ ⟨r, h1, h2⟩ => .inl <| by
    have e := DGet.t (k := [Sum.inl a.1, Sum.inl a.2]) h h2
    rw [val_num (ky := fun a : Int × Int => [Sum.inl a.1, Sum.inl a.2]) (fun a b z => by
      injection z with z1 z2
      injection z2 with z2 _
      injection z1 with z1
      injection z2 with z2
      exact Prod.ext z1 z2) a S 0] at e
    rw [h1]
    exact e
  put := fun {H D us S v a} h _ ⟨r, h1, h2⟩ hn hl => .inl <| by
    have e := DPut.t (k := [Sum.inl a.1, Sum.inl a.2]) (v := V.int (S.length : Nat)) h h2 (by rw [num_len]; exact Nat.lt_of_lt_of_le hl (by decide))
    rw [num_snoc (ky := fun a : Int × Int => [Sum.inl a.1, Sum.inl a.2]) (fun a b z => by
      injection z with z1 z2
      injection z2 with z2 _
      injection z1 with z1
      injection z2 with z2
      exact Prod.ext z1 z2) hn] at e
    rw [h1]
    exact e
  nlst := fun _ _ _ _ z => (by cases z)
  ntup := fun _ _ _ _ z => (by cases z)
  nfrz := fun _ _ _ _ _ z => (by cases z)
  nins := fun _ _ _ _ _ _ z => (by cases z)
/-- an int and a truth -/
theorem repB_of {H : Hp} {us : List V} {S : List (Int × Bool)} (h : RepsK (fun H v (a : Int × Bool) => ∃ r, v = .ref r ∧ H r = some (.tup [.int a.1, .bl a.2])) H us S) : RepB H us S := by
  refine ⟨h.1, fun i a e => ?_⟩
  obtain ⟨v, h1, q, rfl, h2⟩ := h.2 i a e
  exact ⟨q, h1, h2⟩
theorem dbO_form (D : Addr) (us : List V) (S : List (Int × Bool)) : dbO D us S = .dT [] ∨ ∃ φ, dbO D us S = .ext φ := by
  cases S with
  | nil => exact .inl rfl
  | cons a S => exact .inr ⟨_, rfl⟩
def kdB : KD (Int × Bool) where
  rep := fun H v a => ∃ r, v = .ref r ∧ H r = some (.tup [.int a.1, .bl a.2])
  dct := dbO
  kt := fun k ⟨r, h1, h2⟩ => ⟨r, h1, k.tup _ _ h2⟩
  get := fun {H D us S v a} h hr ⟨r, h1, h2⟩ => .inr ⟨us, S, r, a, h, repB_of hr, h1, h2, rfl⟩
  put := fun {H D us S v a} h hr ⟨r, h1, h2⟩ hn hl => .inr ⟨us, S, r, a, h, repB_of hr, h1, h2, hn, hl, rfl, by rw [h1]⟩
  nlst := fun D us S _ z => by
    rcases dbO_form D us S with e | ⟨φ, e⟩ <;> rw [e] at z <;> cases z
  ntup := fun D us S _ z => by
    rcases dbO_form D us S with e | ⟨φ, e⟩ <;> rw [e] at z <;> cases z
  nfrz := fun D us S _ _ z => by
    rcases dbO_form D us S with e | ⟨φ, e⟩ <;> rw [e] at z <;> cases z
  nins := fun D us S _ _ _ z => by
    rcases dbO_form D us S with e | ⟨φ, e⟩ <;> rw [e] at z <;> cases z
section
variable {α : Type} [DecidableEq α]
/-- the things stand for the states -/
inductive Reps (k : KD α) (H : Hp) : List V → List α → Prop
  | nil : Reps k H [] []
  | cons {v : V} {a : α} {vs : List V} {as : List α} : k.rep H v a → Reps k H vs as → Reps k H (v :: vs) (a :: as)
theorem Reps.kt {k : KD α} {H H' : Hp} (kp : KpT H H') : ∀ {vs : List V} {as : List α}, Reps k H vs as → Reps k H' vs as
  | _, _, .nil => .nil
  | _, _, .cons a b => .cons (k.kt kp a) (b.kt kp)
theorem Reps.len {k : KD α} {H : Hp} : ∀ {vs : List V} {as : List α}, Reps k H vs as → vs.length = as.length
  | _, _, .nil => rfl
  | _, _, .cons _ b => congrArg (· + 1) b.len
theorem Reps.snoc {k : KD α} {H : Hp} {v : V} {a : α} (h : k.rep H v a) : ∀ {vs : List V} {as : List α}, Reps k H vs as → Reps k H (vs ++ [v]) (as ++ [a])
  | _, _, .nil => .cons h .nil
  | _, _, .cons a b => .cons a (b.snoc h)
theorem Reps.get {k : KD α} {H : Hp} : ∀ {vs : List V} {as : List α} {i : Nat} {a : α}, Reps k H vs as → as[i]? = some a → ∃ v, vs[i]? = some v ∧ k.rep H v a
  | _, _, _, _, .nil, h => by simp at h
  | _, _, 0, _, .cons h _, e => by simp at e; subst e; exact ⟨_, rfl, h⟩
  | _, _, i + 1, _, .cons _ b, e => by
    obtain ⟨v, h1, h2⟩ := b.get (i := i) (by simpa using e)
    exact ⟨v, by simpa using h1, h2⟩
theorem Reps.K {k : KD α} {H : Hp} {vs : List V} {as : List α} (h : Reps k H vs as) : RepsK k.rep H vs as := ⟨h.len, fun _ _ e => h.get e⟩
/-- states that have come -/
structure ComAt (k : KD α) (C : Addr) (H : Hp) (x L D : Addr) (us : List V) (S : List α) : Prop where
  ins : ∃ dx, H x = some (.ins C dx [("states", .ref L), ("numbers", .ref D)])
  lst : H L = some (.lst us)
  dct : H D = some (k.dct D us S)
  rep : Reps k H us S
  nd : S.Nodup
  le : S.length ≤ 64
theorem ComAt.ne {k : KD α} {C : Addr} {H : Hp} {x L D : Addr} {us : List V} {S : List α} (h : ComAt k C H x L D us S) : x ≠ L ∧ x ≠ D ∧ L ≠ D := by
  obtain ⟨dx, hx⟩ := h.ins
  refine ⟨ne_of hx h.lst (fun z => by cases z), ne_of hx h.dct (fun z => k.nins _ _ _ _ _ _ z.symm), ne_of h.lst h.dct (fun z => k.nlst _ _ _ _ z.symm)⟩
theorem ComAt.same {k : KD α} {C : Addr} {H H' : Hp} {x L D : Addr} {us : List V} {S : List α} (h : ComAt k C H x L D us S) (s : Same H H') : ComAt k C H' x L D us S :=
  ⟨let ⟨dx, e⟩ := h.ins; ⟨dx, s _ _ e⟩, s _ _ h.lst, s _ _ h.dct, h.rep.kt (KpT.same s), h.nd, h.le⟩
/-- all but the two stays -/
def ChC (L D : Addr) (H H' : Hp) : Prop := ∀ b o, b ≠ L → b ≠ D → H b = some o → H' b = some o
theorem ChC.refl {L D : Addr} (H : Hp) : ChC L D H H := fun _ _ _ _ e => e
theorem ChC.same {L D : Addr} {H H' : Hp} (s : Same H H') : ChC L D H H' := fun b o _ _ e => s b o e
theorem ChC.trans {L D : Addr} {H H1 H2 : Hp} (a : ChC L D H H1) (b : ChC L D H1 H2) : ChC L D H H2 := fun c o n1 n2 e => b c o n1 n2 (a c o n1 n2 e)
theorem ChC.kt {k : KD α} {L D : Addr} {H H' : Hp} {us : List V} {S : List α} (c : ChC L D H H') (h1 : H L = some (.lst us)) (h2 : H D = some (k.dct D us S)) : KpT H H' :=
  ⟨fun b xs e => c b _ (ne_of e h1 (fun z => by cases z)) (ne_of e h2 (fun z => k.ntup _ _ _ _ z.symm)) e, fun b o u e => c b _ (ne_of e h1 (fun z => by cases z)) (ne_of e h2 (fun z => k.nfrz _ _ _ _ _ z.symm)) e⟩
theorem ComAt.put {k : KD α} {C : Addr} {H : Hp} {x L D : Addr} {us : List V} {S : List α} {v : V} {a : α} (h : ComAt k C H x L D us S) (hv : k.rep H v a) (hn : a ∉ S) (hl : S.length < 64) :
    ComAt k C (upd (upd H D (k.dct D (us ++ [v]) (S ++ [a]))) L (.lst (us ++ [v]))) x L D (us ++ [v]) (S ++ [a]) ∧ ChC L D H (upd (upd H D (k.dct D (us ++ [v]) (S ++ [a]))) L (.lst (us ++ [v]))) := by
  obtain ⟨n1, n2, n3⟩ := h.ne
  have c : ChC L D H (upd (upd H D (k.dct D (us ++ [v]) (S ++ [a]))) L (.lst (us ++ [v]))) := fun b o h1 h2 e => by rw [upd_ne h1, upd_ne h2]; exact e
  have kp := c.kt (k := k) h.lst h.dct
  obtain ⟨dx, hx⟩ := h.ins
  have e : cameC S a = some (S ++ [a]) := by unfold cameC; rw [if_neg hn, if_pos hl]
  have b := (cameC_ok h.nd h.le e).1
  exact ⟨⟨⟨dx, c _ _ n1 n2 hx⟩, upd_same, by rw [upd_ne (fun z => n3 z.symm), upd_same], (h.rep.kt kp).snoc (k.kt kp hv), b.nd, b.le⟩, c⟩
end
end L2
set_option maxHeartbeats 4000000
set_option linter.all false
set_option maxRecDepth 100000
namespace L2
open PySem PySem.Spec PyProof.Rows
section
variable {α : Type} [DecidableEq α]
def stepK (i j : Nat) : List Key := [Sum.inl (i : Int), Sum.inl (j : Int)]
theorem stepK_inj {i j i' j' : Nat} (h : stepK i j = stepK i' j') : i = i' ∧ j = j' := by
  unfold stepK at h
  injection h with h1 h2
  injection h2 with h2 _
  injection h1 with h1
  injection h2 with h2
  omega
/-- what the table tells, of these places -/
def TabOk (f : α → α → α) (d : α) (S : List α) (tb : List (List Key × V)) (ok : Nat → Nat → Prop) : Prop := ∀ i j, ok i j → f (S.getD i d) (S.getD j d) ∈ S ∧ i < S.length ∧ j < S.length ∧ valV tb (stepK i j) = some (.int ((S.idxOf (f (S.getD i d) (S.getD j d)) : Nat) : Int))
theorem TabOk.put {f : α → α → α} {d : α} {S : List α} {tb : List (List Key × V)} {ok : Nat → Nat → Prop} (h : TabOk f d S tb ok) {a b : Nat} (h1 : f (S.getD a d) (S.getD b d) ∈ S) (h2 : a < S.length) (h3 : b < S.length) :
    TabOk f d S (putK tb (stepK a b) (.int ((S.idxOf (f (S.getD a d) (S.getD b d)) : Nat) : Int))) (fun i j => ok i j ∨ (i = a ∧ j = b)) := fun i j hk => by
  rw [valV_put]
  by_cases e : stepK i j = stepK a b
  · obtain ⟨rfl, rfl⟩ := stepK_inj e
    rw [if_pos rfl]
    exact ⟨h1, h2, h3, rfl⟩
  · rw [if_neg e]
    rcases hk with hk | ⟨rfl, rfl⟩
    · exact h i j hk
    · exact absurd rfl e
theorem TabOk.mono {f : α → α → α} {d : α} {S : List α} {tb : List (List Key × V)} {ok ok' : Nat → Nat → Prop} (h : TabOk f d S tb ok) (hk : ∀ i j, ok' i j → ok i j) : TabOk f d S tb ok' := fun i j e => h i j (hk i j e)
def numRow (f : α → α → α) (d : α) (S : List α) (i : Nat) : List Int := (List.range S.length).map fun j => ((S.idxOf (f (S.getD i d) (S.getD j d)) : Nat) : Int)
def numRows (f : α → α → α) (d : α) (S : List α) : List (List Int) := (List.range S.length).map (numRow f d S)
theorem runC_end {f : α → α → α} {d : α} {n p : Nat} {S : List α} (hp : ¬ p < S.length) : runC f d n p S = some S := by
  cases n with
  | zero => rfl
  | succ n => show (if p < S.length then _ else _) = _; rw [if_neg hp]
theorem ComAt.other {k : KD α} {C : Addr} {H : Hp} {x L D b : Addr} {us : List V} {S : List α} {tb tb' : List (List Key × V)} (h : ComAt k C H x L D us S) (hb : H b = some (.dT tb)) (hL : b ≠ L) (hD : b ≠ D) : ComAt k C (upd H b (.dT tb')) x L D us S := by
  obtain ⟨dx, hx⟩ := h.ins
  have kt : KpT H (upd H b (.dT tb')) := ⟨fun c xs e => by rw [upd_ne (ne_of e hb (fun z => by cases z))]; exact e, fun c o u e => by rw [upd_ne (ne_of e hb (fun z => by cases z))]; exact e⟩
  exact ⟨⟨dx, by rw [upd_ne (ne_of hx hb (fun z => by cases z))]; exact hx⟩, by rw [upd_ne (fun z => hL z.symm)]; exact h.lst, by rw [upd_ne (fun z => hD z.symm)]; exact h.dct, h.rep.kt kt, h.nd, h.le⟩
end
end L2
set_option maxHeartbeats 4000000
set_option linter.all false
set_option maxRecDepth 100000
namespace L2
open PySem PySem.Spec PyProof.Rows
/-! ### states by their sizes -/
inductive PEn where
  | nm (z : Option Str)
  | pr (p q : Int)
abbrev PV := Int × PEn
def entV : PEn → List V
  | .nm (some z) => [.str z]
  | .nm none => [.non]
  | .pr p q => [.int p, .int q]
def PrAt (H : Hp) (v : V) (pv : PV) : Prop := ∃ q r : Addr, v = .ref q ∧ H q = some (.tup [.int pv.1, .ref r]) ∧ H r = some (.tup (entV pv.2))
theorem PrAt.kt {H H' : Hp} {v : V} {pv : PV} (h : PrAt H v pv) (k : KpT H H') : PrAt H' v pv := by
  obtain ⟨q, r, e, h1, h2⟩ := h
  exact ⟨q, r, e, k.tup _ _ h1, k.tup _ _ h2⟩
abbrev PF := Int → Option PV
def putP (f : PF) (i : Int) (pv : PV) : PF := fun x => if x = i then some pv else f x
def dropP (f : PF) (i : Int) : PF := fun x => if x = i then none else f x
theorem putP_same {f : PF} {i : Int} {pv : PV} : putP f i pv i = some pv := if_pos rfl
theorem putP_ne {f : PF} {i j : Int} {pv : PV} (h : j ≠ i) : putP f i pv j = f j := if_neg h
theorem dropP_ne {f : PF} {i j : Int} (h : j ≠ i) : dropP f i j = f j := if_neg h
theorem dropP_some {f : PF} {i j : Int} {pv : PV} (h : dropP f i j = some pv) : j ≠ i ∧ f j = some pv := by
  unfold dropP at h
  split at h
  · cases h
  · exact ⟨by assumption, h⟩
theorem putP_some {f : PF} {i j : Int} {pv x : PV} (h : putP f i pv j = some x) : (j = i ∧ x = pv) ∨ (j ≠ i ∧ f j = some x) := by
  unfold putP at h
  split at h
  · cases h; exact .inl ⟨by assumption, rfl⟩
  · exact .inr ⟨by assumption, h⟩
/-- a dict of states -/
structure DA (H : Hp) (kvs : List (Key × V)) (f : PF) : Prop where
  nd : (kvs.map (·.1)).Nodup
  mem : ∀ k v, (k, v) ∈ kvs → ∃ (i : Int) (pv : PV), k = Sum.inl i ∧ f i = some pv ∧ PrAt H v pv
  all : ∀ i pv, f i = some pv → ∃ v, (Sum.inl i, v) ∈ kvs
theorem valV_mem {κ : Type} [DecidableEq κ] {k : κ} {v : V} : ∀ {kvs : List (κ × V)}, (kvs.map (·.1)).Nodup → (k, v) ∈ kvs → valV kvs k = some v
  | [], _, h => (nomatch h)
  | p :: r, nd, h => by
    have nd' := List.nodup_cons.mp (show (p.1 :: r.map (·.1)).Nodup from nd)
    rcases List.mem_cons.mp h with e | h
    · rw [← e]; exact valV_pos rfl
    · have hne : ¬ p.1 = k := fun z => nd'.1 (by rw [z]; exact List.mem_map_of_mem (f := (·.1)) h)
      rw [valV_neg hne]
      exact valV_mem nd'.2 h
theorem mem_valV {κ : Type} [DecidableEq κ] {k : κ} {v : V} : ∀ {kvs : List (κ × V)}, valV kvs k = some v → (k, v) ∈ kvs
  | [], h => by rw [valV_nil] at h; cases h
  | p :: r, h => by
    by_cases e : p.1 = k
    · rw [valV_pos e] at h
      cases h
      rw [← e]
      exact List.mem_cons_self
    · rw [valV_neg e] at h
      exact List.mem_cons_of_mem _ (mem_valV h)
theorem DA.noV {H : Hp} {kvs : List (Key × V)} {f : PF} (h : DA H kvs f) {i : Int} (hn : f i = none) : valV kvs (Sum.inl i) = none := by
  cases e : valV kvs (Sum.inl i) with
  | none => rfl
  | some v =>
    obtain ⟨j, pv, ej, hj, _⟩ := h.mem _ _ (mem_valV e)
    cases ej
    rw [hn] at hj
    cases hj
theorem DA.soV {H : Hp} {kvs : List (Key × V)} {f : PF} (h : DA H kvs f) {i : Int} {pv : PV} (hs : f i = some pv) : ∃ v, valV kvs (Sum.inl i) = some v ∧ PrAt H v pv := by
  obtain ⟨v, hv⟩ := h.all i pv hs
  obtain ⟨j, pw, ej, hj, hp⟩ := h.mem _ _ hv
  cases ej
  rw [hs] at hj
  cases hj
  exact ⟨v, valV_mem h.nd hv, hp⟩
theorem DA.kt {H H' : Hp} {kvs : List (Key × V)} {f : PF} (h : DA H kvs f) (k : KpT H H') : DA H' kvs f :=
  ⟨h.nd, fun a v hm => let ⟨i, pv, e, h1, h2⟩ := h.mem a v hm; ⟨i, pv, e, h1, h2.kt k⟩, h.all⟩
theorem DA.nil (H : Hp) : DA H [] (fun _ => none) := ⟨List.nodup_nil, fun _ _ h => (nomatch h), fun _ _ h => (nomatch h)⟩
theorem nd_put {κ : Type} [DecidableEq κ] {kvs : List (κ × V)} {k : κ} (v : V) (hn : (kvs.map (·.1)).Nodup) : ((putK kvs k v).map (·.1)).Nodup := by
  cases e : valV kvs k with
  | none => exact nd_putK v hn e
  | some u =>
    unfold putK
    rw [valV_any, e]
    rw [if_pos (show (Option.some u).isSome = true from rfl)]
    have : (kvs.map fun kv => if kv.1 = k then (kv.1, v) else kv).map (·.1) = kvs.map (·.1) := by
      rw [List.map_map]
      refine List.map_congr_left fun p _ => ?_
      show (if p.1 = k then (p.1, v) else p).1 = p.1
      split <;> rfl
    rw [this]
    exact hn
theorem mem_put {κ : Type} [DecidableEq κ] {kvs : List (κ × V)} {k j : κ} {v u : V} (hn : (kvs.map (·.1)).Nodup) (h : (j, u) ∈ putK kvs k v) : (j = k ∧ u = v) ∨ (j ≠ k ∧ (j, u) ∈ kvs) := by
  have e := valV_mem (nd_put v hn) h
  rw [valV_put] at e
  split at e
  · cases e; exact .inl ⟨by assumption, rfl⟩
  · exact .inr ⟨by assumption, mem_valV e⟩
theorem DA.put {H : Hp} {kvs : List (Key × V)} {f : PF} (h : DA H kvs f) {i : Int} {v : V} {pv : PV} (hp : PrAt H v pv) : DA H (putK kvs (Sum.inl i) v) (putP f i pv) := by
  refine ⟨nd_put v h.nd, fun k u hm => ?_, fun j pw hj => ?_⟩
  · rcases mem_put h.nd hm with ⟨rfl, rfl⟩ | ⟨hne, hm⟩
    · exact ⟨i, pv, rfl, putP_same, hp⟩
    · obtain ⟨j, pw, rfl, h1, h2⟩ := h.mem _ _ hm
      exact ⟨j, pw, rfl, by rw [putP_ne (fun z => hne (by rw [z]))]; exact h1, h2⟩
  · by_cases e : j = i
    · subst e
      exact ⟨v, mem_valV (by rw [valV_put, if_pos rfl])⟩
    · rw [putP_ne e] at hj
      obtain ⟨u, hu, _⟩ := h.soV hj
      exact ⟨u, mem_valV (by rw [valV_put, if_neg (fun z => e (Sum.inl.inj z))]; exact hu)⟩
theorem DA.drop {H : Hp} {kvs : List (Key × V)} {f : PF} (h : DA H kvs f) {i : Int} : DA H (dropK kvs (Sum.inl i)) (dropP f i) := by
  refine ⟨nd_dropK h.nd, fun k u hm => ?_, fun j pw hj => ?_⟩
  · obtain ⟨hm, hne⟩ := List.mem_filter.mp hm
    have hne : k ≠ Sum.inl i := by simpa using hne
    obtain ⟨j, pw, rfl, h1, h2⟩ := h.mem _ _ hm
    exact ⟨j, pw, rfl, by rw [dropP_ne (fun z => hne (by rw [z]))]; exact h1, h2⟩
  · obtain ⟨hne, hj⟩ := dropP_some hj
    obtain ⟨u, hu⟩ := h.all j pw hj
    exact ⟨u, List.mem_filter.mpr ⟨hu, by simpa using fun z => hne z⟩⟩
theorem DA.len {H : Hp} {kvs : List (Key × V)} {f : PF} (h : DA H kvs f) {M : Nat} (hd : ∀ i pv, f i = some pv → 0 ≤ i ∧ i < (M : Int)) : kvs.length ≤ M := by
  have hs : ∀ k ∈ kvs.map (·.1), k ∈ (List.range M).map (fun n : Nat => (Sum.inl ((n : Nat) : Int) : Key)) := fun k hk => by
    obtain ⟨⟨a, v⟩, hm, rfl⟩ := List.mem_map.mp hk
    obtain ⟨i, pv, e, h1, _⟩ := h.mem a v hm
    obtain ⟨d0, d1⟩ := hd i pv h1
    exact List.mem_map.mpr ⟨i.toNat, List.mem_range.mpr (by omega), by rw [e]; show Sum.inl ((i.toNat : Nat) : Int) = Sum.inl i; rw [Int.toNat_of_nonneg d0]⟩
  have := List.Nodup.length_le_of_subset h.nd hs
  rw [List.length_map, List.length_map, List.length_range] at this
  exact this
/-- what an entry says -/
def Jst (names : List Str) (starts : List Int) (stp : Int → Int → Int) (dn : PF) (i n : Int) (e : PEn) : Prop :=
  (∃ j : Nat, starts[j]? = some i ∧ n = 1 ∧ e = .nm names[j]?) ∨ ∃ (p q : Int) (x y : PV), e = .pr p q ∧ dn p = some x ∧ dn q = some y ∧ stp p q = i ∧ n = x.1 + y.1
structure Pri (names : List Str) (starts : List Int) (stp : Int → Int → Int) (M : Int) (dn wt : PF) : Prop where
  dis : ∀ i pv, wt i = some pv → dn i = none
  dom : ∀ i pv, dn i = some pv ∨ wt i = some pv → 0 ≤ i ∧ i < M
  one : ∀ i n e, dn i = some (n, e) ∨ wt i = some (n, e) → 1 ≤ n ∧ Jst names starts stp dn i n e
  ord : ∀ i j x y, dn i = some x → wt j = some y → x.1 ≤ y.1
  st : ∀ s ∈ starts, ∃ e, dn s = some (1, e) ∨ wt s = some (1, e)
  clo : ∀ p q x y, dn p = some x → dn q = some y → ∃ z : PV, (dn (stp p q) = some z ∨ wt (stp p q) = some z) ∧ z.1 ≤ x.1 + y.1
structure PriI (names : List Str) (starts : List Int) (stp : Int → Int → Int) (M n0 : Int) (ok : Int → Int → Prop) (dn wt : PF) : Prop where
  dis : ∀ i pv, wt i = some pv → dn i = none
  dom : ∀ i pv, dn i = some pv ∨ wt i = some pv → 0 ≤ i ∧ i < M
  one : ∀ i n e, dn i = some (n, e) ∨ wt i = some (n, e) → 1 ≤ n ∧ Jst names starts stp dn i n e
  lo : ∀ i x, dn i = some x → x.1 ≤ n0
  hi : ∀ j y, wt j = some y → n0 ≤ y.1
  st : ∀ s ∈ starts, ∃ e, dn s = some (1, e) ∨ wt s = some (1, e)
  clo : ∀ p q x y, ok p q → dn p = some x → dn q = some y → ∃ z : PV, (dn (stp p q) = some z ∨ wt (stp p q) = some z) ∧ z.1 ≤ x.1 + y.1
section
variable {names : List Str} {starts : List Int} {stp : Int → Int → Int} {M n0 : Int} {ok : Int → Int → Prop} {dn wt : PF}
theorem Jst.put {i n k : Int} {e : PEn} {v : PV} (h : Jst names starts stp dn i n e) (hk : dn k = none) : Jst names starts stp (putP dn k v) i n e := by
  rcases h with h | ⟨p, q, x, y, e1, hx, hy, h1, h2⟩
  · exact .inl h
  · exact .inr ⟨p, q, x, y, e1, by rw [putP_ne (fun z => by rw [z, hk] at hx; cases hx)]; exact hx, by rw [putP_ne (fun z => by rw [z, hk] at hy; cases hy)]; exact hy, h1, h2⟩
theorem Pri.pop (h : Pri names starts stp M dn wt) {k0 : Int} {e0 : PEn} (hk : wt k0 = some (n0, e0)) (hm : ∀ j y, wt j = some y → n0 ≤ y.1) :
    PriI names starts stp M n0 (fun p q => p ≠ k0 ∧ q ≠ k0) (putP dn k0 (n0, e0)) (dropP wt k0) := by
  have hdk := h.dis _ _ hk
  have cas : ∀ i pv, putP dn k0 (n0, e0) i = some pv ∨ dropP wt k0 i = some pv → dn i = some pv ∨ wt i = some pv := fun i pv hh => by
    rcases hh with hh | hh
    · rcases putP_some hh with ⟨rfl, rfl⟩ | ⟨_, hh⟩
      · exact .inr hk
      · exact .inl hh
    · exact .inr (dropP_some hh).2
  have bak : ∀ i pv, dn i = some pv ∨ wt i = some pv → putP dn k0 (n0, e0) i = some pv ∨ dropP wt k0 i = some pv := fun i pv hh => by
    by_cases e : i = k0
    · subst e
      rcases hh with hh | hh
      · rw [hdk] at hh; cases hh
      · rw [hk] at hh; cases hh; exact .inl putP_same
    · rw [putP_ne e, dropP_ne e]; exact hh
  refine ⟨fun i pv hi => ?_, fun i pv hh => h.dom i pv (cas i pv hh), fun i n e hh => ?_, fun i x hx => ?_, fun j y hy => hm j y (dropP_some hy).2, fun s hs => ?_, fun p q x y hok hx hy => ?_⟩
  · obtain ⟨hne, hi⟩ := dropP_some hi
    rw [putP_ne hne]
    exact h.dis _ _ hi
  · obtain ⟨h1, h2⟩ := h.one i n e (cas i _ hh)
    exact ⟨h1, h2.put hdk⟩
  · rcases putP_some hx with ⟨_, rfl⟩ | ⟨_, hx⟩
    · exact Int.le_refl _
    · exact h.ord _ _ _ _ hx hk
  · obtain ⟨e, he⟩ := h.st s hs
    exact ⟨e, bak _ _ he⟩
  · rw [putP_ne hok.1] at hx
    rw [putP_ne hok.2] at hy
    obtain ⟨z, hz, hle⟩ := h.clo p q x y hx hy
    exact ⟨z, bak _ _ hz, hle⟩
theorem PriI.mono {ok' : Int → Int → Prop} (h : PriI names starts stp M n0 ok dn wt) (hk : ∀ p q, ok' p q → ok p q) : PriI names starts stp M n0 ok' dn wt :=
  ⟨h.dis, h.dom, h.one, h.lo, h.hi, h.st, fun p q x y ho => h.clo p q x y (hk p q ho)⟩
/-- nothing is to be put -/
theorem PriI.stay (h : PriI names starts stp M n0 ok dn wt) {p q : Int} {x y z : PV} (hx : dn p = some x) (hy : dn q = some y) (hz : dn (stp p q) = some z ∨ wt (stp p q) = some z) (hle : z.1 ≤ x.1 + y.1) :
    PriI names starts stp M n0 (fun a b => ok a b ∨ (a = p ∧ b = q)) dn wt :=
  ⟨h.dis, h.dom, h.one, h.lo, h.hi, h.st, fun a b u v ho hu hv => by
    rcases ho with ho | ⟨rfl, rfl⟩
    · exact h.clo a b u v ho hu hv
    · rw [hx] at hu; rw [hy] at hv; cases hu; cases hv; exact ⟨z, hz, hle⟩⟩
theorem PriI.put (h : PriI names starts stp M n0 ok dn wt) {p q : Int} {x y : PV} (hx : dn p = some x) (hy : dn q = some y) (hn : n0 ≤ x.1 + y.1) (hd : dn (stp p q) = none) (hM : 0 ≤ stp p q ∧ stp p q < M)
    (hw : ∀ z, wt (stp p q) = some z → x.1 + y.1 < z.1) : PriI names starts stp M n0 (fun a b => ok a b ∨ (a = p ∧ b = q)) dn (putP wt (stp p q) (x.1 + y.1, .pr p q)) := by
  have x1 := (h.one p x.1 x.2 (.inl hx)).1
  have y1 := (h.one q y.1 y.2 (.inl hy)).1
  refine ⟨fun i pv hi => ?_, fun i pv hh => ?_, fun i n e hh => ?_, h.lo, fun j z hz => ?_, fun s hs => ?_, fun a b u v ho hu hv => ?_⟩
  · rcases putP_some hi with ⟨rfl, _⟩ | ⟨_, hi⟩
    · exact hd
    · exact h.dis _ _ hi
  · rcases hh with hh | hh
    · exact h.dom _ _ (.inl hh)
    · rcases putP_some hh with ⟨rfl, _⟩ | ⟨_, hh⟩
      · exact hM
      · exact h.dom _ _ (.inr hh)
  · rcases hh with hh | hh
    · exact h.one _ _ _ (.inl hh)
    · rcases putP_some hh with ⟨rfl, e1⟩ | ⟨_, hh⟩
      · cases e1
        exact ⟨by omega, .inr ⟨p, q, x, y, rfl, hx, hy, rfl, rfl⟩⟩
      · exact h.one _ _ _ (.inr hh)
  · rcases putP_some hz with ⟨_, rfl⟩ | ⟨_, hz⟩
    · exact hn
    · exact h.hi _ _ hz
  · obtain ⟨e, he⟩ := h.st s hs
    rcases he with he | he
    · exact ⟨e, .inl he⟩
    · refine ⟨e, .inr ?_⟩
      rw [putP_ne (fun z => by rw [z] at he; have := hw _ he; have : x.1 + y.1 < 1 := this; omega)]
      exact he
  · have old : ok a b → ∃ z : PV, (dn (stp a b) = some z ∨ putP wt (stp p q) (x.1 + y.1, .pr p q) (stp a b) = some z) ∧ z.1 ≤ u.1 + v.1 := fun ho => by
      obtain ⟨z, hz, hle⟩ := h.clo a b u v ho hu hv
      rcases hz with hz | hz
      · exact ⟨z, .inl hz, hle⟩
      · by_cases e : stp a b = stp p q
        · rw [e] at hz
          have := hw _ hz
          exact ⟨(x.1 + y.1, .pr p q), .inr (by rw [e]; exact putP_same), by show x.1 + y.1 ≤ _; omega⟩
        · exact ⟨z, .inr (by rw [putP_ne e]; exact hz), hle⟩
    rcases ho with ho | ⟨rfl, rfl⟩
    · exact old ho
    · rw [hx] at hu; rw [hy] at hv; cases hu; cases hv
      exact ⟨_, .inr putP_same, Int.le_refl _⟩
/-- the first ones -/
theorem Pri.init {wt : PF} (hdom : ∀ i pv, wt i = some pv → 0 ≤ i ∧ i < M) (hj : ∀ i pv, wt i = some pv → pv.1 = 1 ∧ ∃ j : Nat, starts[j]? = some i ∧ pv.2 = .nm names[j]?) (hst : ∀ s ∈ starts, ∃ pv, wt s = some pv) :
    Pri names starts stp M (fun _ => none) wt := by
  refine ⟨fun _ _ _ => rfl, fun i pv h => ?_, fun i n e h => ?_, fun _ _ _ _ h => (nomatch h), fun s hs => ?_, fun _ _ _ _ h => (nomatch h)⟩
  · rcases h with h | h
    · cases h
    · exact hdom i pv h
  · rcases h with h | h
    · cases h
    · obtain ⟨h1, j, h2, h3⟩ := hj i _ h
      have h1 : n = 1 := h1
      exact ⟨by omega, .inl ⟨j, h2, h1, h3⟩⟩
  · obtain ⟨pv, h⟩ := hst s hs
    obtain ⟨h1, _⟩ := hj s pv h
    exact ⟨pv.2, .inr (by rw [h, ← h1])⟩
end
end L2
set_option maxHeartbeats 4000000
set_option linter.all false
set_option maxRecDepth 100000
namespace L2
open PySem PySem.Spec PyProof.Rows
/-- machines of up to 64 states, names as they come -/
structure MAtU (H : Hp) (T : Addr) (m : Mch) : Prop where
  ex : ∃ (F N S P M : Addr) (rs : List V), H T = some (.tup [.ref F, .ref N, .ref S, .ref P, .ref M]) ∧ (H N = some (.tup (m.names.map V.str)) ∨ TupZ H N (m.names.map V.str)) ∧ H S = some (.tup (m.starts.map V.int)) ∧ H P = some (.tup rs) ∧ RowsAt H rs m.steps ∧ H M = some (.tup (m.marks.map V.int))
theorem MAtU.kt {H H' : Hp} {T : Addr} {m : Mch} (h : MAtU H T m) (k : KpT H H') : MAtU H' T m := by
  obtain ⟨F, N, S, P, M, rs, h1, h2, h3, h4, h5, h6⟩ := h.ex
  exact ⟨F, N, S, P, M, rs, k.tup _ _ h1, h2.elim (fun z => .inl (k.tup _ _ z)) (fun z => .inr (z.kt k)), k.tup _ _ h3, k.tup _ _ h4, h5.kt k, k.tup _ _ h6⟩
structure MOkU (m : Mch) : Prop where
  some1 : 1 ≤ m.marks.length
  few : m.marks.length ≤ 64
  nn : m.names.length ≤ 20
  sl : m.starts.length = m.names.length + 1
  sb : ∀ x ∈ m.starts, 0 ≤ x ∧ x < (m.marks.length : Int)
  pl : m.steps.length = m.marks.length
  pr : ∀ r ∈ m.steps, r.length = m.marks.length ∧ ∀ x ∈ r, 0 ≤ x ∧ x < (m.marks.length : Int)
theorem stepU {m : Mch} (ok : MOkU m) {p q : Int} (hp : 0 ≤ p ∧ p < (m.marks.length : Int)) (hq : 0 ≤ q ∧ q < (m.marks.length : Int)) :
    ∃ r : List Int, m.steps[p.toNat]? = some r ∧ (r.map V.int)[q.toNat]? = some (.int (stepOf m p q)) ∧ 0 ≤ stepOf m p q ∧ stepOf m p q < (m.marks.length : Int) := by
  have hpl : p.toNat < m.steps.length := by rw [ok.pl]; omega
  have hr := List.getElem?_eq_getElem hpl
  obtain ⟨hrl, hrb⟩ := ok.pr _ (List.getElem_mem hpl)
  have hql : q.toNat < (m.steps[p.toNat]).length := by rw [hrl]; omega
  have hx := List.getElem?_eq_getElem hql
  have e : stepOf m p q = (m.steps[p.toNat])[q.toNat] := by
    unfold stepOf
    rw [hr]
    show ((m.steps[p.toNat])[q.toNat]?).getD 0 = _
    rw [hx]
    rfl
  refine ⟨_, hr, by rw [List.getElem?_map, hx, e]; rfl, ?_⟩
  rw [e]
  exact hrb _ (List.getElem_mem hql)
end L2
namespace L2
open PySem PySem.Spec PyProof.Rows
theorem CdAt.ext {H : Hp} {P : Addr} {pos : Pos} {qual : Str} (h : CdAt H P pos qual) : ∃ φ, H P = some (.ext φ) := by
  rcases h with h | ⟨c, h, _⟩
  · exact ⟨_, h⟩
  · exact ⟨_, h⟩
theorem SameP.kt {P : Addr} {pos : Pos} {qual : Str} {H H' : Hp} (h : SameP P H H') (c : CdAt H P pos qual) : KpT H H' := by
  obtain ⟨φ, hφ⟩ := c.ext
  exact ⟨fun b xs e => h b _ (fun z => by rw [z, hφ] at e; cases e) e, fun b o u e => h b _ (fun z => by rw [z, hφ] at e; cases e) e⟩
/-- what the loops of priced know -/
structure Cor (P : Addr) (pos : Pos) (qual : Str) (H0 H : Hp) (W : Addr) (kd kw : List (Key × V)) (dn wt : PF) : Prop where
  sp : SameP P H0 H
  cd : CdAt H P pos qual
  ww : H W = some (.dK kw)
  dd : DA H kd dn
  dw : DA H kw wt
theorem Cor.same {P : Addr} {pos : Pos} {qual : Str} {H0 H H' : Hp} {W : Addr} {kd kw : List (Key × V)} {dn wt : PF} (h : Cor P pos qual H0 H W kd kw dn wt) (s : Same H H') : Cor P pos qual H0 H' W kd kw dn wt :=
  ⟨h.sp.trans (SameP.of s), h.cd.same s, s _ _ h.ww, h.dd.kt (KpT.same s), h.dw.kt (KpT.same s)⟩
theorem upd_kt {H : Hp} {a : Addr} {kvs : List (Key × V)} {o : HO} (h : H a = some (.dK kvs)) : KpT H (upd H a o) :=
  ⟨fun b xs e => by rw [upd_ne (fun z => by rw [z, h] at e; cases e)]; exact e, fun b o' u e => by rw [upd_ne (fun z => by rw [z, h] at e; cases e)]; exact e⟩
theorem CdAt.upd {H : Hp} {P a : Addr} {pos : Pos} {qual : Str} {kvs : List (Key × V)} {o : HO} (c : CdAt H P pos qual) (h : H a = some (.dK kvs)) : CdAt (L2.upd H a o) P pos qual := by
  have hP : P ≠ a := fun z => by
    obtain ⟨φ, hφ⟩ := c.ext
    rw [z, h] at hφ
    cases hφ
  rcases c with c | ⟨c', c1, oc, ws, tk, c2, c3⟩
  · exact .inl (by rw [upd_ne hP]; exact c)
  · exact .inr ⟨c', by rw [upd_ne hP]; exact c1, oc, ws, tk, by rw [upd_ne (fun z => by rw [z, h] at c2; cases c2)]; exact c2, c3⟩
/-- the waiting ones written -/
theorem Cor.put {P : Addr} {pos : Pos} {qual : Str} {H0 H : Hp} {W : Addr} {kd kw kw' : List (Key × V)} {dn wt wt' : PF} (h : Cor P pos qual H0 H W kd kw dn wt) (hW : H0 W = none) (d : DA (L2.upd H W (.dK kw')) kw' wt') : Cor P pos qual H0 (L2.upd H W (.dK kw')) W kd kw' dn wt' :=
  ⟨fun b o n e => by rw [upd_ne (ne_of_none e hW)]; exact h.sp b o n e, h.cd.upd h.ww, upd_same, h.dd.kt (upd_kt h.ww), d⟩
/-- DA only speaks of tuples -/
theorem DA.tt {H H' : Hp} {kvs : List (Key × V)} {f : PF} (h : DA H kvs f) (k : ∀ b xs, H b = some (.tup xs) → H' b = some (.tup xs)) : DA H' kvs f :=
  ⟨h.nd, fun a v hm => let ⟨i, pv, e, h1, q, r, e2, h2, h3⟩ := h.mem a v hm; ⟨i, pv, e, h1, q, r, e2, k _ _ h2, k _ _ h3⟩, h.all⟩
end L2
namespace L2
open PySem PySem.Spec PyProof.Rows
/-- which pairs are seen -/
def Seen (kd : List (Key × V)) (i : Nat) (q : Int) : Prop := ∃ (j : Nat) (v : V), j < i ∧ kd[j]? = some (Sum.inl q, v)
end L2
set_option maxHeartbeats 4000000
set_option linter.all false
set_option maxRecDepth 100000
set_option maxHeartbeats 4000000
set_option linter.all false
set_option maxRecDepth 100000
namespace L2
open PySem PySem.Spec PyProof.Rows
/-! ### states with documents; what stands in what -/
inductive Rch (starts : List Int) (stp : Int → Int → Int) : Int → Prop
  | st {s : Int} : s ∈ starts → Rch starts stp s
  | stp {p q : Int} : Rch starts stp p → Rch starts stp q → Rch starts stp (stp p q)
def aftr (stp : Int → Int → Int) (s : Int) (b : Bool) (o : Int) : Int := if b = true then stp o s else stp s o
inductive Wys (R : Int → Prop) (stp : Int → Int → Int) (s0 : Int) : Int × Bool → Prop
  | go : Wys R stp s0 (s0, true)
  | nx {x o : Int} {w b : Bool} : Wys R stp s0 (x, w) → R o → Wys R stp s0 (aftr stp x w o, b)
inductive Lv (R tr : Int → Prop) (stp : Int → Int → Int) : Int × Bool → Prop
  | here {s : Int} : tr s → Lv R tr stp (s, true)
  | nx {s o : Int} {w b : Bool} : R o → Lv R tr stp (aftr stp s w o, b) → Lv R tr stp (s, w)
/-- what the loops of stands know: S standing, B begun -/
structure Std (R tr : Int → Prop) (stp : Int → Int → Int) (S B : List Int) : Prop where
  sn : S.Nodup
  bn : B.Nodup
  sr : ∀ i ∈ S, R i
  br : ∀ i ∈ B, R i
  sl : ∀ i ∈ S, Lv R tr stp (i, true)
  bl : ∀ i ∈ B, ∃ b, Lv R tr stp (i, b)
  ha : ∀ i, R i → tr i → i ∈ S
  sb : ∀ i ∈ S, i ∈ B
def addI (xs : List Int) (i : Int) : List Int := if i ∈ xs then xs else xs ++ [i]
theorem mem_addI {xs : List Int} {i j : Int} : j ∈ addI xs i ↔ j ∈ xs ∨ j = i := by
  unfold addI
  split
  · rename_i h
    exact ⟨.inl, fun z => z.elim id fun e => e ▸ h⟩
  · simp
theorem nd_addI {xs : List Int} {i : Int} (h : xs.Nodup) : (addI xs i).Nodup := by
  unfold addI
  split
  · exact h
  · rename_i hi
    rw [List.nodup_append]
    refine ⟨h, by simp, fun a ha b hb => ?_⟩
    rw [List.mem_singleton] at hb
    subst hb
    exact fun e => hi (e ▸ ha)
theorem Std.done {R tr : Int → Prop} {stp : Int → Int → Int} {S B : List Int} (h : Std R tr stp S B) (hR : ∀ p q, R p → R q → R (stp p q)) (clo : ∀ p c, R p → R c → stp p c ∈ B → p ∈ B ∧ c ∈ S) (i : Int) :
    i ∈ S ↔ R i ∧ Lv R tr stp (i, true) := by
  constructor
  · exact fun hi => ⟨h.sr i hi, h.sl i hi⟩
  · rintro ⟨hr, l⟩
    have key : ∀ x : Int × Bool, Lv R tr stp x → R x.1 → (x.2 = true → x.1 ∈ S) ∧ x.1 ∈ B := by
      intro x l
      induction l with
      | here ht => exact fun hr => ⟨fun _ => h.ha _ hr ht, h.sb _ (h.ha _ hr ht)⟩
      | @nx s o w b ho l ih =>
        intro hr
        cases w with
        | true =>
          have hx : R (stp o s) := hR _ _ ho hr
          obtain ⟨_, hB⟩ := ih hx
          have := clo o s ho hr hB
          exact ⟨fun _ => this.2, h.sb _ this.2⟩
        | false =>
          have hx : R (stp s o) := hR _ _ hr ho
          obtain ⟨_, hB⟩ := ih hx
          exact ⟨fun z => (by cases z), (clo s o hr ho hB).1⟩
    exact (key _ l hr).1 rfl
/-! ### dicts that are used as sets of numbers -/
def ones (xs : List Int) : List (Key × V) := xs.map fun i => (Sum.inl i, V.bl true)
end L2
set_option maxHeartbeats 4000000
set_option linter.all false
set_option maxRecDepth 100000
namespace L2
open PySem PySem.Spec PyProof.Rows
/-! ### sets of texts -/
def strV : Value → Str
  | .str z _ => z
  | _ => Str.empty
section
variable {prog : Program} {w : World}
/-- the set at a has these texts -/
def SetA (prog : Program) (w : World) (h : Heap) (a : Addr) (xs : List Str) : Prop :=
  ∃ o es ep t, h.get? a = some o ∧ o.ExactSet ∧ o.data = .set es ep t ∧ ElemsOf (strKind prog w) es.toList ∧ (es.toList.map fun e => strV e.2).Perm xs ∧ xs.Nodup ∧ es.size < scanBound ∧ t.fits es.size = true ∧ t.led = !(w.params.followText "set-order") ∧ (t.plain = true → xs = [])
theorem SetA.keep {h h' : Heap} {a : Addr} {xs : List Str} (x : SetA prog w h a xs) (k : ∀ o, h.get? a = some o → h'.get? a = some o) : SetA prog w h' a xs := by
  obtain ⟨o, es, ep, t, ho, r⟩ := x
  exact ⟨o, es, ep, t, k _ ho, r⟩
variable {A : Around} {E : Value → Shared → Prop} {s : Shared}
end
end L2
set_option maxHeartbeats 4000000
set_option linter.all false
set_option maxRecDepth 100000
set_option maxHeartbeats 4000000
set_option linter.all false
set_option maxRecDepth 100000
set_option maxHeartbeats 4000000
set_option linter.all false
set_option maxRecDepth 100000
namespace L2
open PySem PySem.Spec PyProof.Rows
section
variable {prog : Program} {w : World} {A : Around} {E : Value → Shared → Prop} {s : Shared} {M : Model}
/-- how a set's iterator goes -/
inductive SMode where
  | text
  | drawn (T : Addr) (ps : List Nat)
  | few
end
end L2
set_option maxHeartbeats 4000000
set_option linter.all false
set_option maxRecDepth 100000
namespace L2
open PySem PySem.Spec PyProof.Rows
section
variable {prog : Program} {w : World} {A : Around} {E : Value → Shared → Prop} {s : Shared}
/-- what is known of a set, and how it is walked -/
structure SetK (prog : Program) (w : World) (o : Obj) (es : Array (Int × Value)) (ep : Nat) (t : SetTable) (xs : List Str) : Prop where
  ex : o.ExactSet
  dt : o.data = .set es ep t
  el : ElemsOf (strKind prog w) es.toList
  pm : (es.toList.map fun e => strV e.2).Perm xs
  ft : t.fits es.size = true
end
end L2
set_option maxHeartbeats 4000000
set_option linter.all false
set_option maxRecDepth 100000
set_option maxHeartbeats 4000000
set_option linter.all false
set_option maxRecDepth 100000
namespace L2
open PySem PySem.Spec PyProof.Rows
/-- machines whose names can be sought -/
structure MAtW (H : Hp) (T : Addr) (m : Mch) : Prop where
  ex : ∃ (F N S P M : Addr) (rs : List V), H T = some (.tup [.ref F, .ref N, .ref S, .ref P, .ref M]) ∧ ((m.names = [] ∧ H N = some (.tup [])) ∨ TupZ H N (m.names.map V.str)) ∧ H S = some (.tup (m.starts.map V.int)) ∧ H P = some (.tup rs) ∧ RowsAt H rs m.steps ∧ H M = some (.tup (m.marks.map V.int)) ∧ ((m.forms = [] ∧ H F = some (.tup [])) ∨ H F = some (.tup (m.forms.map V.str)) ∨ TupZ H F (m.forms.map V.str))
theorem MAtW.kt {H H' : Hp} {T : Addr} {m : Mch} (h : MAtW H T m) (k : KpT H H') : MAtW H' T m := by
  obtain ⟨F, N, S, P, M, rs, h1, h2, h3, h4, h5, h6, h7⟩ := h.ex
  exact ⟨F, N, S, P, M, rs, k.tup _ _ h1, h2.elim (fun z => .inl ⟨z.1, k.tup _ _ z.2⟩) (fun z => .inr (z.kt k)), k.tup _ _ h3, k.tup _ _ h4, h5.kt k, k.tup _ _ h6, h7.elim (fun z => .inl ⟨z.1, k.tup _ _ z.2⟩) (fun z => .inr (z.elim (fun z => .inl (k.tup _ _ z)) (fun z => .inr (z.kt k))))⟩
theorem MAtW.u {H : Hp} {T : Addr} {m : Mch} (h : MAtW H T m) : MAtU H T m := by
  obtain ⟨F, N, S, P, M, rs, h1, h2, h3, h4, h5, h6, h7⟩ := h.ex
  exact ⟨F, N, S, P, M, rs, h1, h2.elim (fun z => .inl (by rw [z.1]; exact z.2)) .inr, h3, h4, h5, h6⟩
/-- where a name begins; no name: as one that is not the machine's -/
def startV (m : Mch) : V → Int
  | .str z => startOf m z
  | _ => m.starts[m.names.length]?.getD 0
theorem startV_in {m : Mch} (ok : MOkU m) (v : V) : 0 ≤ startV m v ∧ startV m v < (m.marks.length : Int) := by
  have sl := ok.sl
  have l : 0 ≤ m.starts[m.names.length]?.getD 0 ∧ m.starts[m.names.length]?.getD 0 < (m.marks.length : Int) := ok.sb _ (ints_getD (by omega)).1
  unfold startV
  split
  · unfold startOf
    split
    · rename_i j h
      have hj := (List.getElem?_eq_some_iff.mp (posOf_some h).1).1
      exact ok.sb _ (ints_getD (by omega)).1
    · exact l
  · exact l
/-- the step of pairs -/
def pairF (m1 m2 : Mch) (x y : Int × Int) : Int × Int := (stepOf m1 x.1 y.1, stepOf m2 x.2 y.2)
def PairIn (m1 m2 : Mch) (x : Int × Int) : Prop := (0 ≤ x.1 ∧ x.1 < (m1.marks.length : Int)) ∧ 0 ≤ x.2 ∧ x.2 < (m2.marks.length : Int)
theorem pairF_in {m1 m2 : Mch} (o1 : MOkU m1) (o2 : MOkU m2) {x y : Int × Int} (hx : PairIn m1 m2 x) (hy : PairIn m1 m2 y) : PairIn m1 m2 (pairF m1 m2 x y) := by
  obtain ⟨_, _, _, a, b⟩ := stepU o1 hx.1 hy.1
  obtain ⟨_, _, _, c, d⟩ := stepU o2 hx.2 hy.2
  exact ⟨⟨a, b⟩, c, d⟩
end L2
set_option maxHeartbeats 4000000
set_option linter.all false
set_option maxRecDepth 100000
namespace L2
open PySem PySem.Spec PyProof.Rows
/-- the firsts of pairs -/
def firstsV (m1 m2 : Mch) (ys : List Str) : List (Int × Int) := (ys.map V.str ++ [V.non]).map fun v => (startV m1 v, startV m2 v)
end L2
namespace L2
open PySem PySem.Spec PyProof.Rows
theorem RowsAt.tt {H H' : Hp} (k : ∀ b xs, H b = some (.tup xs) → H' b = some (.tup xs)) : ∀ {vs : List V} {xss : List (List Int)}, RowsAt H vs xss → RowsAt H' vs xss
  | _, _, .nil => .nil
  | _, _, .cons a b => .cons (k _ _ a) (b.tt k)
theorem MAtU.tt {H H' : Hp} {T : Addr} {m : Mch} (h : MAtU H T m) (k : ∀ b xs, H b = some (.tup xs) → H' b = some (.tup xs)) (z : ∀ b o xs, H b = some (.frz o (.tup xs)) → H' b = some (.frz o (.tup xs))) : MAtU H' T m := by
  obtain ⟨F, N, S, P, M, rs, h1, h2, h3, h4, h5, h6⟩ := h.ex
  refine ⟨F, N, S, P, M, rs, k _ _ h1, h2.elim (fun z => .inl (k _ _ z)) (fun y => .inr ?_), k _ _ h3, k _ _ h4, h5.tt k, k _ _ h6⟩
  obtain ⟨o, y1, y2, y3⟩ := y
  exact ⟨o, y1, y2, z _ _ _ y3⟩
theorem MAtU.st {H H' : Hp} {T : Addr} {m : Mch} (h : MAtU H T m) (s : SameT H H') : MAtU H' T m := h.tt (fun b xs e => s _ _ e (fun φ z => nomatch z)) (fun b o xs e => s _ _ e (fun φ z => nomatch z))
theorem Reps.st {H H' : Hp} {vs : List V} {as : List (Int × Int)} (k : ∀ b xs, H b = some (.tup xs) → H' b = some (.tup xs)) (h : Reps kdP H vs as) : Reps kdP H' vs as := by
  induction h with
  | nil => exact .nil
  | cons h1 _ ih =>
    obtain ⟨r, e1, e2⟩ := h1
    exact .cons ⟨r, e1, k _ _ e2⟩ ih
end L2
set_option maxHeartbeats 4000000
set_option linter.all false
set_option maxRecDepth 100000
namespace L2
open PySem PySem.Spec PyProof.Rows
/-- a tuple of ours, tracked with or without its object -/
def TZ (H : Hp) (a : Addr) (xs : List V) : Prop := H a = some (.tup xs) ∨ TupZ H a xs
theorem TZ.same {H H' : Hp} {a : Addr} {xs : List V} (h : TZ H a xs) (s : Same H H') : TZ H' a xs := h.elim (fun z => .inl (s _ _ z)) (fun z => .inr (z.same s))
theorem posOf_mem {z : Str} : ∀ {ns : List Str}, (posOf z ns).isSome = decide (z ∈ ns)
  | [] => rfl
  | n :: r => by
    unfold posOf
    by_cases h : n = z
    · rw [if_pos h, h]; simp
    · rw [if_neg h, Option.isSome_map, posOf_mem]
      have h2 : ¬ z = n := fun e => h e.symm
      simp [h2]
end L2
set_option maxHeartbeats 4000000
set_option linter.all false
set_option maxRecDepth 100000
set_option maxHeartbeats 4000000
set_option linter.all false
set_option maxRecDepth 100000
namespace L2
open PySem PySem.Spec PyProof.Rows
/-! ### two counters -/
/-- many is the least number that both divide -/
structure Lc (n1 n2 M : Nat) : Prop where
  one : 1 ≤ M
  d1 : n1 ∣ M
  d2 : n2 ∣ M
  no : ∀ k, 0 < k → k < M → n1 ∣ k → ¬ n2 ∣ k
theorem Lc.symm {n1 n2 M : Nat} (h : Lc n1 n2 M) : Lc n2 n1 M := ⟨h.one, h.d2, h.d1, fun k a b c d => h.no k a b d c⟩
/-- a counting machine -/
structure Cnt (m : Mch) (n : Nat) : Prop where
  pos : 1 ≤ n
  few : n ≤ 16
  len : m.marks.length = n
  names : m.names = []
  starts : m.starts = [0]
  steps : m.steps = (List.range n).map fun p => (List.range n).map fun _ => (((p + 1) % n : Nat) : Int)
theorem Cnt.step {m : Mch} {n : Nat} (h : Cnt m n) {p q : Nat} (hp : p < n) (hq : q < n) : stepOf m (p : Int) (q : Int) = (((p + 1) % n : Nat) : Int) := by
  unfold stepOf
  rw [h.steps, Int.toNat_natCast, Int.toNat_natCast, List.getElem?_map, List.getElem?_range hp]
  show (((List.range n).map fun _ => (((p + 1) % n : Nat) : Int))[q]?).getD 0 = _
  rw [List.getElem?_map, List.getElem?_range hq]
  rfl
/-! ### all pairs of small machines -/
def pairsU : List (Int × Int) := (List.range 64).map fun i => (((i / 8 : Nat) : Int), ((i % 8 : Nat) : Int))
theorem pairsU_len : pairsU.length ≤ 64 := by unfold pairsU; rw [List.length_map, List.length_range]; exact Nat.le_refl _
theorem pairsU_mem {x : Int × Int} (a : 0 ≤ x.1) (b : x.1 < 8) (c : 0 ≤ x.2) (d : x.2 < 8) : x ∈ pairsU := by
  unfold pairsU
  refine List.mem_map.mpr ⟨x.1.toNat * 8 + x.2.toNat, List.mem_range.mpr (by omega), Prod.ext ?_ ?_⟩
  · show ((((x.1.toNat * 8 + x.2.toNat) / 8 : Nat)) : Int) = x.1
    omega
  · show ((((x.1.toNat * 8 + x.2.toNat) % 8 : Nat)) : Int) = x.2
    omega
def pairsV (a b : Int) : List (Int × Int) := pairsU.filter fun x => decide ((0 ≤ x.1 ∧ x.1 < a) ∧ 0 ≤ x.2 ∧ x.2 < b)
theorem pairsV_len (a b : Int) : (pairsV a b).length ≤ 64 := Nat.le_trans (List.length_filter_le _ _) pairsU_len
theorem pairsV_mem {a b : Int} (ha : a ≤ 8) (hb : b ≤ 8) (x : Int × Int) : x ∈ pairsV a b ↔ ((0 ≤ x.1 ∧ x.1 < a) ∧ 0 ≤ x.2 ∧ x.2 < b) := by
  unfold pairsV
  rw [List.mem_filter, decide_eq_true_iff]
  exact ⟨fun h => h.2, fun h => ⟨pairsU_mem h.1.1 (by omega) h.2.1 (by omega), h⟩⟩
theorem small_num {m1 m2 : Mch} (o1 : MOkU m1) (o2 : MOkU m2) (h1 : m1.marks.length ≤ 8) (h2 : m2.marks.length ≤ 8) (ys : List Str) : ∃ S, numC (pairF m1 m2) (0, 0) (firstsV m1 m2 ys) = some S := by
  have mV : ∀ x : Int × Int, x ∈ pairsV (m1.marks.length : Int) (m2.marks.length : Int) ↔ PairIn m1 m2 x := pairsV_mem (by omega) (by omega)
  obtain ⟨S, hS, _⟩ := numC_in (f := pairF m1 m2) (d := (0, 0)) (fs := firstsV m1 m2 ys) (pairsV_len (m1.marks.length : Int) (m2.marks.length : Int)) (fun x hx y hy => (mV _).mpr (pairF_in o1 o2 ((mV x).mp hx) ((mV y).mp hy))) (fun y hy => (mV y).mpr (by
    obtain ⟨v, _, rfl⟩ := List.mem_map.mp hy
    exact ⟨startV_in o1 v, startV_in o2 v⟩))
  exact ⟨S, hS⟩
end L2
set_option maxHeartbeats 4000000
set_option linter.all false
set_option maxRecDepth 100000
namespace L2
open PySem PySem.Spec PyProof.Rows
/-- machines of the law -/
structure MOkW (m : Mch) : Prop where
  u : MOkU m
  f12 : m.forms.length ≤ 6
  n6 : m.names.length ≤ 6
  mb : ∀ x ∈ m.marks, 0 ≤ x ∧ x < 2 ^ m.forms.length
  fS : ∀ z ∈ m.forms, nameF z = true
  nS : ∀ z ∈ m.names, nameF z = true
  nd : m.names.Nodup
end L2
set_option maxHeartbeats 4000000
set_option linter.all false
set_option maxRecDepth 100000
namespace L2
open PySem PySem.Spec PyProof.Rows
theorem Cnt.start {m : Mch} {n : Nat} (h : Cnt m n) (v : V) : startV m v = 0 := by
  have l : m.starts[m.names.length]?.getD 0 = 0 := by rw [h.names, h.starts]; rfl
  unfold startV
  split
  · unfold startOf
    split
    · rename_i j hj
      rw [h.names] at hj
      cases hj
    · exact l
  · exact l
/-- what a pair of machines, and its number, have to tell -/
structure ManyOk (m1 m2 : Mch) (mn : Int) : Prop where
  sm : mn ≤ 64 → ∀ ys : List Str, ∃ S, numC (pairF m1 m2) (0, 0) (firstsV m1 m2 ys) = some S
  lg : 64 < mn → ∀ ys : List Str, numC (pairF m1 m2) (0, 0) (firstsV m1 m2 ys) = none
theorem ManyOk.small {m1 m2 : Mch} (o1 : MOkW m1) (o2 : MOkW m2) (h1 : m1.marks.length ≤ 8) (h2 : m2.marks.length ≤ 8) : ManyOk m1 m2 0 :=
  ⟨fun _ ys => small_num o1.u o2.u h1 h2 ys, fun h => absurd h (by decide)⟩
end L2
set_option maxHeartbeats 4000000
set_option linter.all false
set_option maxRecDepth 100000
namespace L2
open PySem PySem.Spec PyProof.Rows
/-! ### machines whose forms can be sought; a form held from below -/
structure MAtV (H : Hp) (T : Addr) (m : Mch) : Prop where
  ex : ∃ (F N S P M : Addr) (rs : List V), H T = some (.tup [.ref F, .ref N, .ref S, .ref P, .ref M]) ∧ TupZ H F (m.forms.map V.str) ∧ ((m.names = [] ∧ H N = some (.tup [])) ∨ TupZ H N (m.names.map V.str)) ∧ H S = some (.tup (m.starts.map V.int)) ∧ H P = some (.tup rs) ∧ RowsAt H rs m.steps ∧ H M = some (.tup (m.marks.map V.int))
theorem MAtV.kt {H H' : Hp} {T : Addr} {m : Mch} (h : MAtV H T m) (k : KpT H H') : MAtV H' T m := by
  obtain ⟨F, N, S, P, M, rs, h1, h2, h3, h4, h5, h6, h7⟩ := h.ex
  exact ⟨F, N, S, P, M, rs, k.tup _ _ h1, h2.kt k, h3.elim (fun z => .inl ⟨z.1, k.tup _ _ z.2⟩) (fun z => .inr (z.kt k)), k.tup _ _ h4, k.tup _ _ h5, h6.kt k, k.tup _ _ h7⟩
theorem MAtV.w {H : Hp} {T : Addr} {m : Mch} (h : MAtV H T m) : MAtW H T m := by
  obtain ⟨F, N, S, P, M, rs, h1, h2, h3, h4, h5, h6, h7⟩ := h.ex
  exact ⟨F, N, S, P, M, rs, h1, h3, h4, h5, h6, h7, .inr (.inr h2)⟩
theorem MAtF.v {H : Hp} {T : Addr} {m : Mch} (h : MAtF H T m) : MAtV H T m := by
  obtain ⟨F, N, S, P, M, rs, h1, h2, h3, h4, h5, h6, h7⟩ := h.ex
  exact ⟨F, N, S, P, M, rs, h1, h2, .inr h3, h4, h5, h6, h7⟩
structure MOkV (m : Mch) : Prop where
  u : MOkU m
  f1 : 1 ≤ m.forms.length
  f12 : m.forms.length ≤ 11
  mb : ∀ x ∈ m.marks, 0 ≤ x ∧ x < 2 ^ m.forms.length
  fS : ∀ z ∈ m.forms, nameF z = true
  nS : ∀ z ∈ m.names, nameF z = true
theorem MOkF.v {m : Mch} (h : MOkF m) (hf : m.forms.length ≤ 11) : MOkV m :=
  ⟨⟨h.ok.some1, by have := h.ok.few; omega, h.ok.nn, h.ok.sl, h.ok.sb, h.ok.pl, h.ok.pr⟩, h.f1, hf, fun x hx => ⟨h.ok.mb x hx, h.mt x hx⟩, h.ok.fS, h.ok.nS⟩
def trV (m : Mch) (z : Str) (p : Int) : Bool := hv m z ((m.marks[p.toNat]?).getD 0)
def holdF (m : Mch) (z : Str) (x y : Int × Bool) : Int × Bool := (stepOf m x.1 y.1, x.2 || (y.2 || trV m z y.1))
def holdS (m : Mch) : List (Int × Bool) := m.starts.map fun s => (s, false)
def HoldIn (m : Mch) (x : Int × Bool) : Prop := 0 ≤ x.1 ∧ x.1 < (m.marks.length : Int)
def markV (m : Mch) (p : Int) : Int := (m.marks[p.toNat]?).getD 0
def idxB (S : List (Int × Bool)) (a : Int × Bool) : Nat := @List.idxOf (Int × Bool) instBEqOfDecidableEq a S
/-- with a form more, by truths in their order -/
def moreM (m : Mch) (new : Str) (bs : List Bool) : Mch := ⟨m.forms ++ [new], m.names, m.starts, m.steps, (m.marks.zip bs).map fun x => if x.2 then x.1 + 2 ^ m.forms.length else x.1⟩
def midM (m : Mch) (z : Str) (S : List (Int × Bool)) : Mch := ⟨m.forms, m.names, (holdS m).map fun a => ((idxB S a : Nat) : Int), numRows (holdF m z) (0, false) S, S.map fun a => markV m a.1⟩
def holdM (m : Mch) (new z : Str) (S : List (Int × Bool)) : Mch := moreM (midM m z S) new (S.map fun a => a.2 || trV m z a.1)
theorem mark_get {m : Mch} (o : MOkU m) {a : Int × Bool} (h : HoldIn m a) : markV m a.1 ∈ m.marks ∧ (m.marks.map V.int)[a.1.toNat]? = some (.int (markV m a.1)) := by
  have h1 := h.1
  have h2 := h.2
  have hl : a.1.toNat < m.marks.length := by omega
  have e := List.getElem?_eq_getElem hl
  unfold markV
  rw [List.getElem?_map, e]
  exact ⟨List.getElem_mem hl, rfl⟩
end L2
set_option maxHeartbeats 4000000
set_option linter.all false
set_option maxRecDepth 100000
namespace L2
open PySem PySem.Spec PyProof.Rows
/-- what the step of holding wants -/
def GH (m : Mch) (z : Str) (i : Addr × Addr × List V) (H : Hp) : Prop := H i.1 = some (.tup i.2.2) ∧ RowsAt H i.2.2 m.steps ∧ H i.2.1 = some (.lst (m.marks.map fun x => V.bl (hv m z x)))
theorem GH.same {m : Mch} {z : Str} {i : Addr × Addr × List V} {H H' : Hp} (s : Same H H') (h : GH m z i H) : GH m z i H' := ⟨s _ _ h.1, h.2.1.kp (Kp.same s), s _ _ h.2.2⟩
theorem RepsB.st {H H' : Hp} {vs : List V} {as : List (Int × Bool)} (k : ∀ b xs, H b = some (.tup xs) → H' b = some (.tup xs)) (h : Reps kdB H vs as) : Reps kdB H' vs as := by
  induction h with
  | nil => exact .nil
  | cons a _ ih =>
    obtain ⟨r, h1, h2⟩ := a
    exact .cons ⟨r, h1, k _ _ h2⟩ ih
end L2
set_option maxHeartbeats 4000000
set_option linter.all false
set_option maxRecDepth 100000
set_option maxHeartbeats 4000000
set_option linter.all false
set_option maxRecDepth 100000
namespace L2
open PySem PySem.Spec PyProof.Rows
/-! ### closed under the step -/
section
variable {α : Type} [DecidableEq α]
theorem runC_closed {f : α → α → α} {d : α} : ∀ {n p : Nat} {S S' : List α}, n + p = 64 → S.Nodup → S.length ≤ 64 → p ≤ S.length → (∀ i j, i < p → j < p → f (S.getD i d) (S.getD j d) ∈ S) → runC f d n p S = some S' → ∀ i j, i < S'.length → j < S'.length → f (S'.getD i d) (S'.getD j d) ∈ S'
  | 0, p, S, S', hn, nd, le, hp, hc, h, i, j, hi, hj => by
    cases h
    exact hc i j (by omega) (by omega)
  | n + 1, p, S, S', hn, nd, le, hp, hc, h, i, j, hi, hj => by
    by_cases hlt : p < S.length
    · have h : (if p < S.length then (rowC f d p S (p + 1)).bind (runC f d n (p + 1)) else some S) = some S' := h
      rw [if_pos hlt] at h
      obtain ⟨S1, h1, h2⟩ := Option.bind_eq_some_iff.mp h
      obtain ⟨b1, m1⟩ := rowC_ok nd le (by omega) hlt h1
      have l1 := b1.len
      refine runC_closed (by omega) b1.nd b1.le (by omega) (fun a b ha hb => ?_) h2 i j hi hj
      rw [b1.getD (show a < S.length by omega), b1.getD (show b < S.length by omega)]
      by_cases e1 : a = p
      · rw [e1]; exact (m1 b (by omega)).1
      · by_cases e2 : b = p
        · rw [e2]; exact (m1 a (by omega)).2
        · exact b1.mem (hc a b (by omega) (by omega))
    · rw [runC_end hlt] at h
      cases h
      exact hc i j (by omega) (by omega)
/-- what was numbered -/
theorem numC_ok {f : α → α → α} {d : α} {fs S : List α} (h : numC f d fs = some S) : ∃ S0, firstC [] fs = some S0 ∧ runC f d 64 0 S0 = some S ∧ Beg S0 S ∧ S0.Nodup ∧ S0.length ≤ 64 ∧ S.Nodup ∧ S.length ≤ 64 ∧ (∀ a ∈ fs, a ∈ S) ∧ ∀ i j, i < S.length → j < S.length → f (S.getD i d) (S.getD j d) ∈ S := by
  unfold numC at h
  obtain ⟨S0, h1, h2⟩ := Option.bind_eq_some_iff.mp h
  obtain ⟨b0, m0⟩ := firstC_ok (S := []) List.nodup_nil (Nat.zero_le _) h1
  have b := runC_ok b0.nd b0.le h2
  exact ⟨S0, h1, h2, b, b0.nd, b0.le, b.nd, b.le, fun a ha => b.mem (m0 a ha), runC_closed rfl b0.nd b0.le (Nat.zero_le _) (fun i j hi => absurd hi (Nat.not_lt_zero _)) h2⟩
theorem idx_in {S : List α} {a : α} (h : a ∈ S) : S.idxOf a < S.length := List.idxOf_lt_length_of_mem h
end
end L2
set_option maxHeartbeats 4000000
set_option linter.all false
set_option maxRecDepth 100000
set_option maxHeartbeats 4000000
set_option linter.all false
set_option maxRecDepth 100000
namespace L2
open PySem PySem.Spec PyProof.Rows
theorem holdM_get {m : Mch} {new z : Str} {S : List (Int × Bool)} {k : Nat} {x : Int × Bool} (h : S[k]? = some x) : (holdM m new z S).marks[k]? = some (L2.markV m x.1 + (if (x.2 || trV m z x.1) = true then 1 else 0) * 2 ^ m.forms.length) := by
  have h1 : ((S.map fun a => L2.markV m a.1).zip (S.map fun a => a.2 || trV m z a.1))[k]? = some (L2.markV m x.1, x.2 || trV m z x.1) := by
    rw [List.getElem?_zip_eq_some]
    exact ⟨by rw [List.getElem?_map, h]; rfl, by rw [List.getElem?_map, h]; rfl⟩
  show (((S.map fun a => L2.markV m a.1).zip (S.map fun a => a.2 || trV m z a.1)).map fun y => if y.2 = true then y.1 + 2 ^ m.forms.length else y.1)[k]? = _
  rw [List.getElem?_map, h1]
  show some (if (x.2 || trV m z x.1) = true then L2.markV m x.1 + 2 ^ m.forms.length else L2.markV m x.1) = _
  split
  · rw [Int.one_mul]
  · rw [Int.zero_mul, Int.add_zero]
theorem holdM_len {m : Mch} {new z : Str} {S : List (Int × Bool)} : (holdM m new z S).marks.length = S.length := by
  show (((S.map fun a => L2.markV m a.1).zip (S.map fun a => a.2 || trV m z a.1)).map _).length = _
  rw [List.length_map, List.length_zip, List.length_map, List.length_map, Nat.min_self]
theorem holdM_ok {m : Mch} {new z : Str} {S : List (Int × Bool)} (o : MOkU m) (h : numC (holdF m z) (0, false) (holdS m) = some S) : MOkU (holdM m new z S) := by
  obtain ⟨S0, h1, h2, bg, nd0, le0, nd, le, hm, hc⟩ := numC_ok h
  have hl : (holdM m new z S).marks.length = S.length := holdM_len
  have hsl : (holdS m).length = m.starts.length := by unfold holdS; rw [List.length_map]
  have sl := o.sl
  have h0 := List.getElem?_eq_getElem (show 0 < (holdS m).length by omega)
  have hS1 : 1 ≤ S.length := List.length_pos_of_mem (hm _ (List.mem_of_getElem? h0))
  refine ⟨by rw [hl]; exact hS1, by rw [hl]; exact le, o.nn, ?_, ?_, ?_, ?_⟩
  · show ((holdS m).map _).length = m.names.length + 1
    rw [List.length_map, hsl, sl]
  · intro x hx
    obtain ⟨a, ha, rfl⟩ := List.mem_map.mp (show x ∈ (holdS m).map (fun a => ((idxB S a : Nat) : Int)) from hx)
    have := idx_in (hm a ha)
    have e : idxB S a < S.length := this
    rw [hl]
    omega
  · show (numRows (holdF m z) (0, false) S).length = _
    rw [hl]
    unfold numRows
    rw [List.length_map, List.length_range]
  · intro r hr
    obtain ⟨i, hi, rfl⟩ := List.mem_map.mp (show r ∈ (List.range S.length).map (numRow (holdF m z) (0, false) S) from hr)
    have hi := List.mem_range.mp hi
    rw [hl]
    refine ⟨by unfold numRow; rw [List.length_map, List.length_range], fun x hx => ?_⟩
    obtain ⟨j, hj, rfl⟩ := List.mem_map.mp (show x ∈ (List.range S.length).map _ from hx)
    have hj := List.mem_range.mp hj
    have := idx_in (hc i j hi hj)
    omega
theorem holdM_mb {m : Mch} {new z : Str} {S : List (Int × Bool)} (o : MOkV m) (hS : ∀ a ∈ S, HoldIn m a) : ∀ x ∈ (holdM m new z S).marks, 0 ≤ x ∧ x < 2 ^ (holdM m new z S).forms.length := by
  intro x hx
  obtain ⟨k, hk, rfl⟩ := List.getElem_of_mem hx
  have hkS : k < S.length := by rw [← holdM_len (m := m) (new := new) (z := z)]; exact hk
  have hxk := List.getElem?_eq_getElem hkS
  have e := holdM_get (m := m) (new := new) (z := z) hxk
  rw [List.getElem?_eq_getElem hk] at e
  rw [Option.some.inj e]
  have hin := hS _ (List.getElem_mem hkS)
  have hb := o.mb _ (mark_get o.u hin).1
  have hp : (0 : Int) < 2 ^ m.forms.length := pow2_nat _
  show _ ∧ _ < (2 : Int) ^ (m.forms ++ [new]).length
  rw [List.length_append]
  show _ ∧ _ < (2 : Int) ^ (m.forms.length + 1)
  rw [Int.pow_succ]
  split
  · omega
  · omega
end L2
set_option maxHeartbeats 4000000
set_option linter.all false
set_option maxRecDepth 100000
namespace L2
open PySem PySem.Spec PyProof.Rows
/-! ### how many states a form held from below has -/
def sidesB (n : Nat) : List (Int × Bool) := (List.range n).map (fun i => (((i : Nat) : Int), false)) ++ (List.range n).map (fun i => (((i : Nat) : Int), true))
theorem sidesB_len (n : Nat) : (sidesB n).length = 2 * n := by
  unfold sidesB
  rw [List.length_append, List.length_map, List.length_map, List.length_range]
  omega
theorem sidesB_mem {n : Nat} {x : Int × Bool} (h0 : 0 ≤ x.1) (h1 : x.1 < (n : Int)) : x ∈ sidesB n := by
  unfold sidesB
  have e : ((x.1.toNat : Nat) : Int) = x.1 := Int.toNat_of_nonneg h0
  have hm : x.1.toNat ∈ List.range n := List.mem_range.mpr (by omega)
  obtain ⟨x1, x2⟩ := x
  cases x2
  · exact List.mem_append_left _ (List.mem_map.mpr ⟨_, hm, by rw [e]⟩)
  · exact List.mem_append_right _ (List.mem_map.mpr ⟨_, hm, by rw [e]⟩)
/-- a counting machine with two forms, the first at one state -/
structure Cnh (m : Mch) (n : Nat) (at_ : Int) : Prop where
  pos : 1 ≤ n
  len : m.marks.length = n
  starts : m.starts = [0]
  steps : m.steps = (List.range n).map fun p => (List.range n).map fun _ => (((p + 1) % n : Nat) : Int)
  forms : m.forms = (["one", "other"] : List Str)
  mark : ∀ p : Nat, p < n → m.marks[p]? = some ((if (p : Int) = at_ then 1 else 0) + 2 * ((p : Int) % 2))
theorem Cnh.step {m : Mch} {n : Nat} {at_ : Int} (h : Cnh m n at_) {p q : Nat} (hp : p < n) (hq : q < n) : stepOf m (p : Int) (q : Int) = (((p + 1) % n : Nat) : Int) := by
  unfold stepOf
  rw [h.steps, Int.toNat_natCast, Int.toNat_natCast, List.getElem?_map, List.getElem?_range hp]
  show (((List.range n).map fun _ => (((p + 1) % n : Nat) : Int))[q]?).getD 0 = _
  rw [List.getElem?_map, List.getElem?_range hq]
  rfl
theorem posOf_one : posOf "one" (["one", "other"] : List Str) = some 0 := by decide +kernel
theorem Cnh.tr {m : Mch} {n : Nat} {at_ : Int} (h : Cnh m n at_) {p : Nat} (hp : p < n) : trV m "one" (p : Int) = decide ((p : Int) = at_) := by
  unfold trV hv
  rw [h.forms, posOf_one, Int.toNat_natCast, h.mark p hp]
  show decide (((if (p : Int) = at_ then (1 : Int) else 0) + 2 * ((p : Int) % 2)) / 2 ^ 0 % 2 = 1) = _
  rw [show (2 : Int) ^ 0 = 1 from rfl]
  by_cases e : (p : Int) = at_
  · rw [if_pos e, decide_eq_true e]
    exact decide_eq_true (by omega)
  · rw [if_neg e, decide_eq_false e]
    exact decide_eq_false (by omega)
theorem Cnh.f {m : Mch} {n : Nat} {at_ : Int} (h : Cnh m n at_) {p q : Nat} (hp : p < n) (hq : q < n) (x y : Bool) : holdF m "one" ((p : Int), x) ((q : Int), y) = ((((p + 1) % n : Nat) : Int), x || (y || decide ((q : Int) = at_))) := by
  unfold holdF
  rw [h.step hp hq, h.tr hq]
theorem Cnh.holdS {m : Mch} {n : Nat} {at_ : Int} (h : Cnh m n at_) : L2.holdS m = [((0 : Int), false)] := by
  unfold L2.holdS
  rw [h.starts]
  rfl
end L2
set_option maxHeartbeats 4000000
set_option linter.all false
set_option maxRecDepth 100000
namespace L2
open PySem PySem.Spec PyProof.Rows
/-- all is as it was, but tables, and of these only the one at P is another -/
def SameQ (P : Addr) (H H' : Hp) : Prop := ∀ b o, H b = some o → ((∀ φ, o ≠ .ext φ) ∨ b ≠ P) → H' b = some o
theorem SameQ.refl (P : Addr) (H : Hp) : SameQ P H H := fun _ _ e _ => e
theorem SameQ.trans {P : Addr} {H H1 H2 : Hp} (a : SameQ P H H1) (b : SameQ P H1 H2) : SameQ P H H2 := fun c o e n => b c o (a c o e n) n
theorem SameQ.of {P : Addr} {H H' : Hp} (s : Same H H') : SameQ P H H' := fun c o e _ => s c o e
theorem SameQ.t {P : Addr} {H H' : Hp} (s : SameQ P H H') : SameT H H' := fun c o e n => s c o e (.inl n)
theorem MAtV.kp {H H' : Hp} {T : Addr} {m : Mch} (h : MAtV H T m) (k : Kp H H') : MAtV H' T m := h.kt (KpT.of k)
end L2
set_option maxHeartbeats 4000000
set_option linter.all false
set_option maxRecDepth 100000
namespace L2
open PySem PySem.Spec PyProof.Rows
/-! ### values of the places of a row of parents, from below -/
section
variable {σ τ : Type} (n : Nat) (pf : Nat → Nat)
def kidsR (k : Nat) : List Nat := (List.range' (k + 1) (n - 1 - k)).filter fun c => decide (pf c = k)
theorem kidsR_mem {k c : Nat} : c ∈ kidsR n pf k ↔ k < c ∧ c < n ∧ pf c = k := by
  unfold kidsR
  rw [List.mem_filter, List.mem_range'_1, decide_eq_true_iff]
  omega
def valF (st : Nat → σ) (stp : σ → σ → σ) : Nat → Nat → σ
  | 0, k => st k
  | f + 1, k => (kidsR n pf k).foldl (fun s c => stp s (valF st stp f c)) (st k)
theorem foldl_same {α β : Type} {f g : α → β → α} : ∀ {l : List β} {a : α}, (∀ x ∈ l, ∀ a, f a x = g a x) → l.foldl f a = l.foldl g a
  | [], _, _ => rfl
  | x :: r, a, h => by
    rw [List.foldl_cons, List.foldl_cons, h x List.mem_cons_self a]
    exact foldl_same fun y hy => h y (List.mem_cons_of_mem _ hy)
theorem valF_fuel {st : Nat → σ} {stp : σ → σ → σ} : ∀ (f g k : Nat), n - k ≤ f → n - k ≤ g → valF n pf st stp f k = valF n pf st stp g k
  | 0, 0, k, _, _ => rfl
  | 0, g + 1, k, hf, _ => by
    have e : kidsR n pf k = [] := by
      apply List.eq_nil_iff_forall_not_mem.mpr
      intro c hc
      have := (kidsR_mem n pf).mp hc
      omega
    show st k = (kidsR n pf k).foldl _ _
    rw [e]
    rfl
  | f + 1, 0, k, _, hg => by
    have e : kidsR n pf k = [] := by
      apply List.eq_nil_iff_forall_not_mem.mpr
      intro c hc
      have := (kidsR_mem n pf).mp hc
      omega
    show (kidsR n pf k).foldl _ _ = st k
    rw [e]
    rfl
  | f + 1, g + 1, k, hf, hg => foldl_same fun c hc a => by
    have := (kidsR_mem n pf).mp hc
    rw [valF_fuel f g c (by omega) (by omega)]
def val (st : Nat → σ) (stp : σ → σ → σ) (k : Nat) : σ := valF n pf st stp n k
theorem val_eq (st : Nat → σ) (stp : σ → σ → σ) (k : Nat) : val n pf st stp k = (kidsR n pf k).foldl (fun s c => stp s (val n pf st stp c)) (st k) := by
  unfold val
  rw [valF_fuel n pf n (n + 1) k (by omega) (by omega)]
  rfl
/-- a property of values, from below -/
theorem val_ind {P : Nat → Prop} (h : ∀ k, k < n → (∀ c ∈ kidsR n pf k, P c) → P k) : ∀ k, k < n → P k := by
  have : ∀ d k, n - k ≤ d → k < n → P k := fun d => by
    induction d with
    | zero => intro k h1 h2; omega
    | succ d ih =>
      intro k h1 h2
      refine h k h2 fun c hc => ?_
      have := (kidsR_mem n pf).mp hc
      exact ih c (by omega) (by omega)
  exact fun k hk => this n k (by omega) hk
theorem foldl_rel {α β γ : Type} {R : α → β → Prop} {f : α → γ → α} {g : β → γ → β} : ∀ {l : List γ} {a : α} {b : β}, R a b → (∀ x ∈ l, ∀ a b, R a b → R (f a x) (g b x)) → R (l.foldl f a) (l.foldl g b)
  | [], _, _, h, _ => h
  | x :: r, a, b, h, hs => foldl_rel (f := f) (g := g) (l := r) (hs x List.mem_cons_self a b h) fun y hy => hs y (List.mem_cons_of_mem _ hy)
theorem val_rel {R : σ → τ → Prop} {st : Nat → σ} {stp : σ → σ → σ} {st' : Nat → τ} {stp' : τ → τ → τ} (h0 : ∀ k, k < n → R (st k) (st' k)) (hs : ∀ a b a' b', R a a' → R b b' → R (stp a b) (stp' a' b')) : ∀ k, k < n → R (val n pf st stp k) (val n pf st' stp' k) :=
  val_ind n pf fun k hk ih => by
    rw [val_eq, val_eq]
    exact foldl_rel (h0 k hk) fun c hc a b hab => hs _ _ _ _ hab (ih c hc)
theorem foldl_or {α : Type} (g : α → Bool) : ∀ (l : List α) (b : Bool), l.foldl (fun s c => s || g c) b = (b || l.any g)
  | [], b => (Bool.or_false b).symm
  | x :: r, b => by
    rw [List.foldl_cons, foldl_or g r, List.any_cons, Bool.or_assoc]
theorem val_or (tr : Nat → Bool) (k : Nat) : val n pf tr (fun a b => a || b) k = (tr k || (kidsR n pf k).any fun c => val n pf tr (fun a b => a || b) c) := by
  rw [val_eq, foldl_or]
/-- a form held from below, stepwise and at once -/
theorem val_hold {st : Nat → σ} {stp : σ → σ → σ} {tr : σ → Bool} : ∀ k, k < n → (val n pf (fun k => (st k, false)) (fun (a b : σ × Bool) => (stp a.1 b.1, a.2 || (b.2 || tr b.1))) k).1 = val n pf st stp k ∧
    ((val n pf (fun k => (st k, false)) (fun (a b : σ × Bool) => (stp a.1 b.1, a.2 || (b.2 || tr b.1))) k).2 || tr (val n pf st stp k)) = val n pf (fun j => tr (val n pf st stp j)) (fun a b => a || b) k := by
  refine val_ind n pf fun k hk ih => ?_
  have h1 : ∀ (l : List Nat), (∀ c ∈ l, c ∈ kidsR n pf k) → ∀ (s : σ) (b : Bool), l.foldl (fun s c => (fun (a b : σ × Bool) => (stp a.1 b.1, a.2 || (b.2 || tr b.1))) s (val n pf (fun k => (st k, false)) (fun (a b : σ × Bool) => (stp a.1 b.1, a.2 || (b.2 || tr b.1))) c)) (s, b) = (l.foldl (fun s c => stp s (val n pf st stp c)) s, b || l.any fun c => val n pf (fun j => tr (val n pf st stp j)) (fun a b => a || b) c) := fun l => by
    induction l with
    | nil => intro _ s b; rw [List.any_nil, Bool.or_false]; rfl
    | cons c r ihl =>
      intro hc s b
      obtain ⟨e1, e2⟩ := ih c (hc c List.mem_cons_self)
      rw [List.foldl_cons, List.foldl_cons, List.any_cons]
      show r.foldl _ (stp s (val n pf (fun k => (st k, false)) (fun (a b : σ × Bool) => (stp a.1 b.1, a.2 || (b.2 || tr b.1))) c).1, b || ((val n pf (fun k => (st k, false)) (fun (a b : σ × Bool) => (stp a.1 b.1, a.2 || (b.2 || tr b.1))) c).2 || tr (val n pf (fun k => (st k, false)) (fun (a b : σ × Bool) => (stp a.1 b.1, a.2 || (b.2 || tr b.1))) c).1)) = _
      rw [e1, e2, ihl (fun d hd => hc d (List.mem_cons_of_mem _ hd)), Bool.or_assoc]
  have h2 := h1 (kidsR n pf k) (fun c hc => hc) (st k) false
  rw [val_eq n pf (fun k => (st k, false))]
  refine ⟨by rw [h2]; exact (val_eq n pf st stp k).symm, ?_⟩
  rw [h2, Bool.false_or, val_or, Bool.or_comm]
end
end L2
set_option maxHeartbeats 4000000
set_option linter.all false
set_option maxRecDepth 100000
namespace L2
open PySem PySem.Spec PyProof.Rows
/-! ### bits of marks, documents run by machines -/
def bitsN (x : Int) (F : Nat) : List Bool := (List.range F).map fun k => decide (x / 2 ^ k % 2 = 1)
theorem pow_add_nat (a b : Nat) : (2 : Int) ^ (a + b) = 2 ^ b * 2 ^ a := by rw [Int.pow_add, Int.mul_comm]
theorem bits_low {a b : Int} {F k : Nat} (hk : k < F) : (a + b * 2 ^ F) / 2 ^ k % 2 = a / 2 ^ k % 2 := by
  obtain ⟨d, rfl⟩ : ∃ d, F = k + (d + 1) := ⟨F - k - 1, by omega⟩
  have hp : (2 : Int) ^ k ≠ 0 := by have := pow2_nat k; omega
  rw [pow_add_nat, ← Int.mul_assoc, Int.add_mul_ediv_right _ _ hp, Int.pow_succ, ← Int.mul_assoc]
  omega
theorem bits_high {a b : Int} {F k : Nat} (h0 : 0 ≤ a) (h1 : a < 2 ^ F) : (a + b * 2 ^ F) / 2 ^ (F + k) = b / 2 ^ k := by
  have hp : (2 : Int) ^ F ≠ 0 := by have := pow2_nat F; omega
  have e : (2 : Int) ^ (F + k) = 2 ^ F * 2 ^ k := by rw [Int.pow_add]
  rw [e, ← Int.ediv_ediv_of_nonneg (Int.le_of_lt (pow2_nat F)), Int.add_mul_ediv_right _ _ hp, Int.ediv_eq_zero_of_lt h0 h1, Int.zero_add]
theorem bitsN_app {a b : Int} {F G : Nat} (h0 : 0 ≤ a) (h1 : a < 2 ^ F) : bitsN (a + b * 2 ^ F) (F + G) = bitsN a F ++ bitsN b G := by
  unfold bitsN
  rw [List.range_add, List.map_append, List.map_map]
  congr 1
  · refine List.map_congr_left fun k hk => ?_
    rw [bits_low (List.mem_range.mp hk)]
  · refine List.map_congr_left fun k hk => ?_
    show decide ((a + b * 2 ^ F) / 2 ^ (F + k) % 2 = 1) = _
    rw [bits_high h0 h1]
theorem bitsN_one (c : Bool) : bitsN (if c = true then 1 else 0) 1 = [c] := by cases c <;> decide
def bitsOf (m : Mch) (s : Int) : List Bool := bitsN (L2.markV m s) m.forms.length
theorem posOf_nd {z : Str} : ∀ {ns : List Str} {i : Nat}, ns.Nodup → ns[i]? = some z → posOf z ns = some i
  | [], i, _, h => by simp at h
  | n :: r, 0, _, h => by
    have : n = z := by simpa using h
    unfold posOf
    rw [if_pos this]
  | n :: r, i + 1, nd, h => by
    have h' : r[i]? = some z := by simpa using h
    have hn : n ≠ z := fun e => (List.nodup_cons.mp nd).1 (e ▸ List.mem_of_getElem? h')
    have := posOf_nd (List.nodup_cons.mp nd).2 h'
    unfold posOf
    rw [if_neg hn, this]
    rfl
theorem hv_bit {m : Mch} {f : Str} {i : Nat} (nd : m.forms.Nodup) (h : m.forms[i]? = some f) (s : Int) : hv m f (L2.markV m s) = (bitsOf m s).getD i false := by
  have hi := (List.getElem?_eq_some_iff.mp h).1
  unfold hv bitsOf bitsN
  rw [posOf_nd nd h, List.getD_eq_getElem?_getD, List.getElem?_map, List.getElem?_range hi]
  rfl
/-- the state of a place, by a machine -/
def valM (n : Nat) (nm : Nat → Str) (pf : Nat → Nat) (m : Mch) (k : Nat) : Int := val n pf (fun k => startOf m (nm k)) (stepOf m) k
theorem startOf_inU {m : Mch} (o : MOkU m) (z : Str) : 0 ≤ startOf m z ∧ startOf m z < (m.marks.length : Int) := startV_in o (.str z)
theorem valM_in {n : Nat} {nm : Nat → Str} {pf : Nat → Nat} {m : Mch} (o : MOkU m) : ∀ k, k < n → 0 ≤ valM n nm pf m k ∧ valM n nm pf m k < (m.marks.length : Int) :=
  val_rel n pf (R := fun a (_ : Unit) => 0 ≤ a ∧ a < (m.marks.length : Int)) (st' := fun _ => ()) (stp' := fun _ _ => ()) (fun k _ => startOf_inU o _) fun a b _ _ ha hb => by
    obtain ⟨_, _, _, x, y⟩ := stepU o ha hb
    exact ⟨x, y⟩
/-- what the truths of a row become -/
def truW (n : Nat) (pf : Nat → Nat) (a : Int × Int × Int) (B : Nat → List Bool) (k : Nat) : Bool :=
  if a.1 = 0 then (B k).getD a.2.1.toNat false && (B k).getD a.2.2.toNat false else if a.1 = 1 then (B k).getD a.2.1.toNat false || (B k).getD a.2.2.toNat false
  else if a.1 = 2 then !(B k).getD a.2.1.toNat false else val n pf (fun j => (B j).getD a.2.1.toNat false) (fun a b => a || b) k
def meantS (n : Nat) (pf : Nat → Nat) (B : Nat → List Bool) (a : Int × Int × Int) : Nat → List Bool := fun k => B k ++ [truW n pf a B k]
def meantP (n : Nat) (pf : Nat → Nat) (asked : List (Int × Int × Int)) (B : Nat → List Bool) : Nat → List Bool := asked.foldl (meantS n pf) B
theorem moreM_bits {m : Mch} {new : Str} {bs : List Bool} {s : Int} {c : Bool} (ok : MOkV m) (hl : bs.length = m.marks.length) (hs : 0 ≤ s ∧ s < (m.marks.length : Int)) (hc : bs[s.toNat]? = some c) : bitsOf (moreM m new bs) s = bitsOf m s ++ [c] := by
  have h0 := hs.1
  have h1 := hs.2
  have hm := List.getElem?_eq_getElem (show s.toNat < m.marks.length by omega)
  have hb := ok.mb _ (List.getElem_mem (show s.toNat < m.marks.length by omega))
  have e : L2.markV (moreM m new bs) s = m.marks[s.toNat] + (if c = true then 1 else 0) * 2 ^ m.forms.length := by
    have hz : (m.marks.zip bs)[s.toNat]? = some (m.marks[s.toNat], c) := by
      rw [List.getElem?_zip_eq_some]
      exact ⟨hm, hc⟩
    show (((m.marks.zip bs).map fun x => if x.2 = true then x.1 + 2 ^ m.forms.length else x.1)[s.toNat]?).getD 0 = _
    rw [List.getElem?_map, hz]
    show (if c = true then _ else _) = _
    split
    · rw [Int.one_mul]
    · rw [Int.zero_mul, Int.add_zero]
  have em : L2.markV m s = m.marks[s.toNat] := by
    show (m.marks[s.toNat]?).getD 0 = _
    rw [hm]; rfl
  unfold bitsOf
  rw [e, em, show (moreM m new bs).forms.length = m.forms.length + 1 from List.length_append, bitsN_app hb.1 hb.2, bitsN_one]
/-- both, either, without -/
theorem op_bits {m : Mch} {new f g : Str} {way : Int} {i j : Nat} (ok : MOkV m) (nd : m.forms.Nodup) (hf : m.forms[i]? = some f) (hg : m.forms[j]? = some g) (hw : way = 0 ∨ way = 1 ∨ way = 2) {n : Nat} {nm : Nat → Str} {pf : Nat → Nat} {B : Nat → List Bool}
    (hB : ∀ k, k < n → bitsOf m (valM n nm pf m k) = B k) : ∀ k, k < n → bitsOf (moreM m new (m.marks.map (opB way m f g))) (valM n nm pf (moreM m new (m.marks.map (opB way m f g))) k) = meantS n pf B (way, (i : Int), (j : Int)) k := fun k hk => by
  have hs := valM_in (nm := nm) (pf := pf) ok.u k hk
  have h0 := hs.1
  have hm := List.getElem?_eq_getElem (show (valM n nm pf m k).toNat < m.marks.length by omega)
  have em : L2.markV m (valM n nm pf m k) = m.marks[(valM n nm pf m k).toNat]'(by omega) := by
    show (m.marks[(valM n nm pf m k).toNat]?).getD 0 = _
    rw [hm]; rfl
  show bitsOf (moreM m new (m.marks.map (opB way m f g))) (valM n nm pf m k) = _
  rw [moreM_bits (c := opB way m f g (L2.markV m (valM n nm pf m k))) ok (by rw [List.length_map]) hs (by rw [List.getElem?_map, hm, em]; rfl), hB k hk]
  unfold meantS truW opB
  rw [hv_bit nd hf, hv_bit nd hg, hB k hk]
  show _ = B k ++ [if way = 0 then (B k).getD ((i : Int).toNat) false && (B k).getD ((j : Int).toNat) false else if way = 1 then (B k).getD ((i : Int).toNat) false || (B k).getD ((j : Int).toNat) false else if way = 2 then !(B k).getD ((i : Int).toNat) false else _]
  rw [Int.toNat_natCast, Int.toNat_natCast]
  rcases hw with rfl | rfl | rfl
  · rfl
  · rfl
  · rfl
theorem step_rows {α : Type} [DecidableEq α] {f : α → α → α} {d : α} {S : List α} (hc : ∀ i j, i < S.length → j < S.length → f (S.getD i d) (S.getD j d) ∈ S) {a b : α} (ha : a ∈ S) (hb : b ∈ S) : (((numRows f d S)[((S.idxOf a : Nat) : Int).toNat]?).getD [])[((S.idxOf b : Nat) : Int).toNat]?.getD 0 = ((S.idxOf (f a b) : Nat) : Int) ∧ f a b ∈ S := by
  have hi := idx_in ha
  have hj := idx_in hb
  have ga := get_idx ha
  have gb := get_idx hb
  have ea : S.getD (S.idxOf a) d = a := by rw [List.getD_eq_getElem?_getD, ga]; rfl
  have eb : S.getD (S.idxOf b) d = b := by rw [List.getD_eq_getElem?_getD, gb]; rfl
  have hin := hc _ _ hi hj
  rw [ea, eb] at hin
  refine ⟨?_, hin⟩
  rw [Int.toNat_natCast, Int.toNat_natCast]
  unfold numRows
  rw [List.getElem?_map, List.getElem?_range hi]
  show (numRow f d S (S.idxOf a))[S.idxOf b]?.getD 0 = _
  unfold numRow
  rw [List.getElem?_map, List.getElem?_range hj]
  show ((S.idxOf (f (S.getD (S.idxOf a) d) (S.getD (S.idxOf b) d)) : Nat) : Int) = _
  rw [ea, eb]
/-- a form held from below -/
theorem hold_bits {m : Mch} {new f : Str} {i : Nat} {S : List (Int × Bool)} (ok : MOkV m) (nd : m.forms.Nodup) (hf : m.forms[i]? = some f) (hS : numC (holdF m f) (0, false) (holdS m) = some S) (hin : ∀ a ∈ S, HoldIn m a) {n : Nat} {nm : Nat → Str} {pf : Nat → Nat} {B : Nat → List Bool} (j : Int)
    (hB : ∀ k, k < n → bitsOf m (valM n nm pf m k) = B k) : ∀ k, k < n → bitsOf (holdM m new f S) (valM n nm pf (holdM m new f S) k) = meantS n pf B (3, (i : Int), j) k := fun k hk => by
  obtain ⟨_, _, _, _, _, _, nd', le, hm, hc⟩ := numC_ok hS
  have sl := ok.u.sl
  have hst : ∀ z : Str, startOf (holdM m new f S) z = ((idxB S (startOf m z, false) : Nat) : Int) ∧ (startOf m z, false) ∈ S := fun z => by
    have hg : ∀ q : Nat, q < m.starts.length → (holdM m new f S).starts[q]?.getD 0 = ((idxB S (m.starts[q]?.getD 0, false) : Nat) : Int) ∧ (m.starts[q]?.getD 0, false) ∈ S := fun q hq => by
      have e := List.getElem?_eq_getElem hq
      have e2 : (holdS m)[q]? = some (m.starts[q], false) := by unfold holdS; rw [List.getElem?_map, e]; rfl
      refine ⟨?_, ?_⟩
      · show (((holdS m).map fun a => ((idxB S a : Nat) : Int))[q]?).getD 0 = _
        rw [List.getElem?_map, e2, e]
        rfl
      · rw [e]
        exact hm _ (List.mem_of_getElem? e2)
    unfold startOf
    show (match posOf z m.names with | some q => (holdM m new f S).starts[q]?.getD 0 | none => (holdM m new f S).starts[m.names.length]?.getD 0) = ((idxB S ((match posOf z m.names with | some q => m.starts[q]?.getD 0 | none => m.starts[m.names.length]?.getD 0), false) : Nat) : Int) ∧ ((match posOf z m.names with | some q => m.starts[q]?.getD 0 | none => m.starts[m.names.length]?.getD 0), false) ∈ S
    cases hp : posOf z m.names with
    | some q =>
      have hq := (List.getElem?_eq_some_iff.mp (posOf_some hp).1).1
      exact hg q (by omega)
    | none => exact hg _ (by omega)
  have hrel := val_rel n pf (R := fun (p : Int) (a : Int × Bool) => p = ((idxB S a : Nat) : Int) ∧ a ∈ S) (st := fun k => startOf (holdM m new f S) (nm k)) (stp := stepOf (holdM m new f S)) (st' := fun k => (startOf m (nm k), false)) (stp' := fun (a b : Int × Bool) => (stepOf m a.1 b.1, a.2 || (b.2 || trV m f b.1)))
    (fun k _ => hst (nm k)) (fun p q a b ⟨e1, h1⟩ ⟨e2, h2⟩ => by
      subst e1 e2
      exact step_rows (f := holdF m f) (d := (0, false)) hc h1 h2) k hk
  obtain ⟨v1, v2⟩ := val_hold n pf (st := fun k => startOf m (nm k)) (stp := stepOf m) (tr := trV m f) k hk
  generalize hA : val n pf (fun k => (startOf m (nm k), false)) (fun (a b : Int × Bool) => (stepOf m a.1 b.1, a.2 || (b.2 || trV m f b.1))) k = A at hrel v1 v2
  obtain ⟨e, hAS⟩ := hrel
  have hAi := hin A hAS
  have hmk : (holdM m new f S).marks[idxB S A]? = some (L2.markV m A.1 + (if (A.2 || trV m f A.1) = true then 1 else 0) * 2 ^ m.forms.length) := holdM_get (m := m) (new := new) (z := f) (get_idx hAS)
  have em : L2.markV (holdM m new f S) (valM n nm pf (holdM m new f S) k) = L2.markV m A.1 + (if (A.2 || trV m f A.1) = true then 1 else 0) * 2 ^ m.forms.length := by
    show ((holdM m new f S).marks[(val n pf (fun k => startOf (holdM m new f S) (nm k)) (stepOf (holdM m new f S)) k).toNat]?).getD 0 = _
    rw [e, Int.toNat_natCast, hmk]
    rfl
  have hb := ok.mb _ (mark_get ok.u hAi).1
  unfold bitsOf
  rw [em, show (holdM m new f S).forms.length = m.forms.length + 1 from List.length_append, bitsN_app hb.1 hb.2, bitsN_one]
  have e1 : A.1 = valM n nm pf m k := v1
  have e3 : bitsN (L2.markV m A.1) m.forms.length = B k := by rw [e1]; exact hB k hk
  rw [e3]
  unfold meantS truW
  congr 2
  show (A.2 || trV m f A.1) = val n pf (fun j => (B j).getD ((i : Int).toNat) false) (fun a b => a || b) k
  rw [Int.toNat_natCast, e1]
  have v2' : (A.2 || trV m f (valM n nm pf m k)) = val n pf (fun j => trV m f (valM n nm pf m j)) (fun a b => a || b) k := v2
  rw [v2']
  refine val_rel n pf (R := fun (a b : Bool) => a = b) (fun j hj => ?_) (fun a b a' b' h1 h2 => by rw [h1, h2]) k hk
  show hv m f (L2.markV m (valM n nm pf m j)) = _
  rw [hv_bit nd hf, hB j hj]
/-- how many states a form held from below has -/
theorem hold_len {m : Mch} {z : Str} {S : List (Int × Bool)} (h : numC (holdF m z) (0, false) (holdS m) = some S) (hin : ∀ a ∈ S, HoldIn m a) : S.length ≤ 2 * m.marks.length := by
  obtain ⟨_, _, _, _, _, _, nd, _⟩ := numC_ok h
  have := List.Nodup.length_le_of_subset nd (l₂ := sidesB m.marks.length) fun x hx => sidesB_mem (hin x hx).1 (hin x hx).2
  rw [sidesB_len] at this
  exact this
end L2
set_option maxHeartbeats 4000000
set_option linter.all false
set_option maxRecDepth 100000
namespace L2
open PySem PySem.Spec PyProof.Rows
/-- a machine with a form more, as asked -/
def AskM (m m' : Mch) (way : Int) (new f g : Str) : Prop := ((way = 0 ∨ way = 1 ∨ way = 2) ∧ m' = moreM m new (m.marks.map (opB way m f g))) ∨ (way = 3 ∧ ∃ S, numC (holdF m f) (0, false) (holdS m) = some S ∧ (∀ a ∈ S, HoldIn m a) ∧ m' = holdM m new f S)
/-- rows of three numbers -/
def TriAt (H : Hp) (vs : List V) (as : List (Int × Int × Int)) : Prop := vs.length = as.length ∧ ∀ (i : Nat) (a : Int × Int × Int), as[i]? = some a → ∃ r, vs[i]? = some (.ref r) ∧ H r = some (.tup [.int a.1, .int a.2.1, .int a.2.2])
theorem TriAt.kt {H H' : Hp} {vs : List V} {as : List (Int × Int × Int)} (h : TriAt H vs as) (k : KpT H H') : TriAt H' vs as := ⟨h.1, fun i a e => by obtain ⟨r, h1, h2⟩ := h.2 i a e; exact ⟨r, h1, k.tup _ _ h2⟩⟩
theorem TriAt.snoc {H : Hp} {vs : List V} {as : List (Int × Int × Int)} (h : TriAt H vs as) {r : Addr} {a : Int × Int × Int} (hr : H r = some (.tup [.int a.1, .int a.2.1, .int a.2.2])) : TriAt H (vs ++ [.ref r]) (as ++ [a]) := by
  refine ⟨by rw [List.length_append, List.length_append, h.1]; rfl, fun i b e => ?_⟩
  rcases Nat.lt_or_ge i as.length with hi | hi
  · rw [List.getElem?_append_left hi] at e
    obtain ⟨q, h1, h2⟩ := h.2 i b e
    exact ⟨q, by rw [List.getElem?_append_left (by rw [h.1]; exact hi)]; exact h1, h2⟩
  · have hil := (List.getElem?_eq_some_iff.mp e).1
    rw [List.length_append] at hil
    have hil : i < as.length + 1 := hil
    obtain rfl : i = as.length := by omega
    rw [List.getElem?_append_right (Nat.le_refl _), Nat.sub_self] at e
    cases e
    exact ⟨r, by rw [← h.1, List.getElem?_append_right (Nat.le_refl _), Nat.sub_self]; rfl, hr⟩
/-- what is asked, in bounds -/
def AskedOk (many : Int) (as : List (Int × Int × Int)) : Prop := ∀ (j : Nat) (a : Int × Int × Int), as[j]? = some a → (0 ≤ a.1 ∧ a.1 ≤ 3) ∧ (0 ≤ a.2.1 ∧ a.2.1 < many + (j : Int)) ∧ 0 ≤ a.2.2 ∧ a.2.2 < many + (j : Int)
theorem AskedOk.snoc {many : Int} {as : List (Int × Int × Int)} (h : AskedOk many as) {a : Int × Int × Int} (h1 : 0 ≤ a.1 ∧ a.1 ≤ 3) (h2 : 0 ≤ a.2.1 ∧ a.2.1 < many + (as.length : Int)) (h3 : 0 ≤ a.2.2 ∧ a.2.2 < many + (as.length : Int)) : AskedOk many (as ++ [a]) := fun j b e => by
  rcases Nat.lt_or_ge j as.length with hi | hi
  · rw [List.getElem?_append_left hi] at e
    exact h j b e
  · have hil := (List.getElem?_eq_some_iff.mp e).1
    rw [List.length_append] at hil
    have hil : j < as.length + 1 := hil
    obtain rfl : j = as.length := by omega
    rw [List.getElem?_append_right (Nat.le_refl _), Nat.sub_self] at e
    cases e
    exact ⟨h1, h2, h3⟩
def cnt3 (as : List (Int × Int × Int)) : Nat := (as.filter fun a => decide (a.1 = 3)).length
theorem cnt3_snoc (as : List (Int × Int × Int)) (a : Int × Int × Int) : cnt3 (as ++ [a]) = cnt3 as + if a.1 = 3 then 1 else 0 := by
  unfold cnt3
  rw [List.filter_append, List.length_append]
  congr 1
  by_cases h : a.1 = 3
  · rw [if_pos h]; simp [h]
  · rw [if_neg h]; simp [h]
/-- rows of truths -/
def LbAt (H : Hp) (vs : List V) (bs : List (List Bool)) : Prop := vs.length = bs.length ∧ ∀ (i : Nat) (b : List Bool), bs[i]? = some b → ∃ r, vs[i]? = some (.ref r) ∧ H r = some (.lst (b.map V.bl))
theorem LbAt.same {H H' : Hp} {vs : List V} {bs : List (List Bool)} (h : LbAt H vs bs) (s : Same H H') : LbAt H' vs bs := ⟨h.1, fun i a e => by obtain ⟨r, h1, h2⟩ := h.2 i a e; exact ⟨r, h1, s _ _ h2⟩⟩
theorem LbAt.snoc {H : Hp} {vs : List V} {bs : List (List Bool)} (h : LbAt H vs bs) {r : Addr} {b : List Bool} (hr : H r = some (.lst (b.map V.bl))) : LbAt H (vs ++ [.ref r]) (bs ++ [b]) := by
  refine ⟨by rw [List.length_append, List.length_append, h.1]; rfl, fun i c e => ?_⟩
  rcases Nat.lt_or_ge i bs.length with hi | hi
  · rw [List.getElem?_append_left hi] at e
    obtain ⟨q, h1, h2⟩ := h.2 i c e
    exact ⟨q, by rw [List.getElem?_append_left (by rw [h.1]; exact hi)]; exact h1, h2⟩
  · have hil := (List.getElem?_eq_some_iff.mp e).1
    rw [List.length_append] at hil
    have hil : i < bs.length + 1 := hil
    obtain rfl : i = bs.length := by omega
    rw [List.getElem?_append_right (Nat.le_refl _), Nat.sub_self] at e
    cases e
    exact ⟨r, by rw [← h.1, List.getElem?_append_right (Nat.le_refl _), Nat.sub_self]; rfl, hr⟩
/-- all but the list at D stays, and what may be new -/
theorem LbAt.lset {H : Hp} {vs : List V} {bs : List (List Bool)} {D : Addr} {xs ys : List V} (h : LbAt H vs bs) (hD : H D = some (.lst xs)) (hn : ∀ (i : Nat) (r : Addr), vs[i]? = some (V.ref r) → r ≠ D) : LbAt (upd H D (.lst ys)) vs bs := ⟨h.1, fun i b e => by obtain ⟨r, h1, h2⟩ := h.2 i b e; exact ⟨r, h1, by rw [upd_ne (hn i r h1)]; exact h2⟩⟩
end L2
set_option maxHeartbeats 4000000
set_option linter.all false
set_option maxRecDepth 100000
namespace L2
open PySem PySem.Spec PyProof.Rows
/-- a row of parents -/
def ParO (ps : List Int) : Prop := ∀ k : Nat, 1 ≤ k → k < ps.length → 0 ≤ ps.getD k 0 ∧ ps.getD k 0 < (k : Int)
theorem ParO.snoc {ps : List Int} {v : Int} (h : ParO ps) (h0 : 0 ≤ v) (h1 : v < (ps.length : Int)) : ParO (ps ++ [v]) := fun k k1 k2 => by
  rw [List.length_append] at k2
  have k2 : k < ps.length + 1 := k2
  rw [List.getD_eq_getElem?_getD]
  rcases Nat.lt_or_ge k ps.length with hk | hk
  · rw [List.getElem?_append_left hk, ← List.getD_eq_getElem?_getD]
    exact h k k1 hk
  · obtain rfl : k = ps.length := by omega
    rw [List.getElem?_append_right (Nat.le_refl _), Nat.sub_self]
    exact ⟨h0, h1⟩
theorem ParO.pf {ps : List Int} (h : ParO ps) {k : Nat} (k1 : 1 ≤ k) (k2 : k < ps.length) : pfF ps k < k ∧ ps[k]? = some ((pfF ps k : Nat) : Int) := by
  obtain ⟨a, b⟩ := h k k1 k2
  unfold pfF
  have e : ps.getD k 0 = ps[k] := by rw [List.getD_eq_getElem?_getD, List.getElem?_eq_getElem k2]; rfl
  rw [e] at a b ⊢
  refine ⟨by omega, ?_⟩
  rw [List.getElem?_eq_getElem k2, Int.toNat_of_nonneg a]
end L2
set_option maxHeartbeats 4000000
set_option linter.all false
set_option maxRecDepth 100000
namespace L2
open PySem PySem.Spec PyProof.Rows
/-! ### rows of children, from the last place down -/
section
variable (n : Nat) (pf : Nat → Nat)
def kf (t j : Nat) : List Nat := (List.range' t (n - t)).filter fun c => decide (j < c ∧ pf c = j)
end
/-- a list of lists of places, each its own -/
structure RowsL (H1 H : Hp) (RL : Addr) (n : Nat) (vs : List V) (rw_ : Nat → List Nat) : Prop where
  rl : H RL = some (.lst vs)
  len : vs.length = n
  nd : vs.Nodup
  at_ : ∀ j : Nat, j < n → ∃ r, vs[j]? = some (.ref r) ∧ H r = some (.lst ((rw_ j).map fun c => V.int ((c : Nat) : Int)))
  new : ∀ r : Addr, V.ref r ∈ vs → H1 r = none ∧ r ≠ RL
theorem RowsL.other {H1 H : Hp} {RL L : Addr} {n : Nat} {vs : List V} {rw_ : Nat → List Nat} {o : HO} (h : RowsL H1 H RL n vs rw_) (hL : H1 L ≠ none) (hR : L ≠ RL) : RowsL H1 (upd H L o) RL n vs rw_ := by
  refine ⟨by rw [upd_ne (fun z => hR z.symm)]; exact h.rl, h.len, h.nd, fun j hj => ?_, h.new⟩
  obtain ⟨r, h1, h2⟩ := h.at_ j hj
  refine ⟨r, h1, ?_⟩
  rw [upd_ne (fun z => hL (by rw [← z]; exact (h.new r (List.mem_of_getElem? h1)).1))]
  exact h2
theorem RowsL.push {H1 H : Hp} {RL r : Addr} {n j c : Nat} {vs : List V} {rw_ : Nat → List Nat} (h : RowsL H1 H RL n vs rw_) (hj : vs[j]? = some (.ref r)) : RowsL H1 (upd H r (.lst ((rw_ j).map (fun c => V.int ((c : Nat) : Int)) ++ [.int ((c : Nat) : Int)]))) RL n vs (fun i => if i = j then rw_ j ++ [c] else rw_ i) := by
  have hr := (h.new r (List.mem_of_getElem? hj)).2
  refine ⟨by rw [upd_ne (fun z => hr z.symm)]; exact h.rl, h.len, h.nd, fun i hi => ?_, h.new⟩
  obtain ⟨q, h1, h2⟩ := h.at_ i hi
  refine ⟨q, h1, ?_⟩
  by_cases e : i = j
  · subst e
    rw [hj] at h1
    cases h1
    rw [if_pos rfl, upd_same, List.map_append]
    rfl
  · rw [if_neg e, upd_ne (fun z => e ?_)]
    · exact h2
    · have il := (List.getElem?_eq_some_iff.mp h1).1
      rw [z, ← hj] at h1
      exact (List.getElem?_inj il h.nd).mp h1
/-- the values when the places from t on are done -/
def vals (n : Nat) (nm : Nat → Str) (pf : Nat → Nat) (m : Mch) (t j : Nat) : Int := if t ≤ j then valM n nm pf m j else startOf m (nm j)
theorem meantP_snoc (n : Nat) (pf : Nat → Nat) (as : List (Int × Int × Int)) (a : Int × Int × Int) (B : Nat → List Bool) : meantP n pf (as ++ [a]) B = meantS n pf (meantP n pf as B) a := by
  unfold meantP
  rw [List.foldl_append]
  rfl
end L2
set_option maxHeartbeats 4000000
set_option linter.all false
set_option maxRecDepth 100000
namespace L2
open PySem PySem.Spec PyProof.Rows
/-- a machine as asked is one again -/
theorem moreM_okV {m : Mch} {new : Str} {bs : List Bool} (ok : MOkV m) (hn : nameF new = true) (hl : bs.length = m.marks.length) (hf : m.forms.length ≤ 10) : MOkV (moreM m new bs) := by
  have hml : (moreM m new bs).marks.length = m.marks.length := by
    show ((m.marks.zip bs).map _).length = _
    rw [List.length_map, List.length_zip]; omega
  refine ⟨⟨by rw [hml]; exact ok.u.some1, by rw [hml]; exact ok.u.few, ok.u.nn, ok.u.sl, fun x hx => by rw [hml]; exact ok.u.sb x hx, by rw [hml]; exact ok.u.pl, fun r hr => by rw [hml]; exact ok.u.pr r hr⟩, ?_, ?_, fun x hx => ?_, fun z hz => ?_, ok.nS⟩
  · show 1 ≤ (m.forms ++ [new]).length
    rw [List.length_append]; show 1 ≤ m.forms.length + 1; omega
  · show (m.forms ++ [new]).length ≤ 11
    rw [List.length_append]; show m.forms.length + 1 ≤ 11; omega
  · obtain ⟨y, hy, rfl⟩ := List.mem_map.mp (show x ∈ (m.marks.zip bs).map (fun x => if x.2 = true then x.1 + 2 ^ m.forms.length else x.1) from hx)
    have hym := (List.of_mem_zip (show (y.1, y.2) ∈ m.marks.zip bs from hy)).1
    have hb := ok.mb _ hym
    have hp : (0 : Int) < 2 ^ m.forms.length := pow2_nat _
    show _ ∧ _ < (2 : Int) ^ (m.forms ++ [new]).length
    rw [List.length_append]
    show _ ∧ _ < (2 : Int) ^ (m.forms.length + 1)
    rw [Int.pow_succ]
    split <;> omega
  · rcases List.mem_append.mp hz with h | h
    · exact ok.fS z h
    · rw [List.mem_singleton.mp h]; exact hn
theorem holdM_okV {m : Mch} {new z : Str} {S : List (Int × Bool)} (ok : MOkV m) (hn : nameF new = true) (hS : numC (holdF m z) (0, false) (holdS m) = some S) (hin : ∀ a ∈ S, HoldIn m a) (hf : m.forms.length ≤ 10) : MOkV (holdM m new z S) := by
  refine ⟨holdM_ok ok.u hS, ?_, ?_, holdM_mb ok hin, fun y hy => ?_, ok.nS⟩
  · show 1 ≤ (m.forms ++ [new]).length
    rw [List.length_append]; show 1 ≤ m.forms.length + 1; omega
  · show (m.forms ++ [new]).length ≤ 11
    rw [List.length_append]; show m.forms.length + 1 ≤ 11; omega
  · rcases List.mem_append.mp (show y ∈ m.forms ++ [new] from hy) with h | h
    · exact ok.fS y h
    · rw [List.mem_singleton.mp h]; exact hn
/-- what the machine has come to, when some is asked -/
structure Come (f0 : List Str) (nms : List Str) (fz : List Str) (as : List (Int × Int × Int)) (B0 : ∀ (n : Nat) (nm : Nat → Str) (pf : Nat → Nat), Nat → List Bool) (i : Nat) (m : Mch) : Prop where
  ok : MOkV m
  forms : m.forms = f0 ++ (fz.drop 4).take i
  names : m.names = nms
  few : m.marks.length ≤ 16 * 2 ^ cnt3 (as.take i)
  sem : ∀ (n : Nat) (nm : Nat → Str) (pf : Nat → Nat), ∀ k, k < n → bitsOf m (valM n nm pf m k) = meantP n pf (as.take i) (B0 n nm pf) k
theorem Come.step {f0 nms fz : List Str} {as : List (Int × Int × Int)} {B0 : ∀ (n : Nat) (nm : Nat → Str) (pf : Nat → Nat), Nat → List Bool} {i : Nat} {m m' : Mch} {a : Int × Int × Int} {f g new : Str} (h : Come f0 nms fz as B0 i m) (ha : as[i]? = some a) (hw : 0 ≤ a.1 ∧ a.1 ≤ 3) (h2 : 0 ≤ a.2.1) (h3 : 0 ≤ a.2.2)
    (hf : m.forms[a.2.1.toNat]? = some f) (hg : m.forms[a.2.2.toNat]? = some g) (nd : m.forms.Nodup) (hnew : fz[4 + i]? = some new) (hnf : nameF new = true) (hfl : m.forms.length ≤ 10) (hM : AskM m m' a.1 new f g) : Come f0 nms fz as B0 (i + 1) m' := by
  have ht : as.take (i + 1) = as.take i ++ [a] := by rw [List.take_add_one, ha]; rfl
  have hnt : (fz.drop 4).take (i + 1) = (fz.drop 4).take i ++ [new] := by
    rw [List.take_add_one, List.getElem?_drop, hnew]; rfl
  rcases hM with ⟨hway, rfl⟩ | ⟨hway, S, hS, hin, rfl⟩
  · refine ⟨moreM_okV h.ok hnf (by rw [List.length_map]) hfl, ?_, h.names, ?_, fun n nm pf => ?_⟩
    · show m.forms ++ [new] = _
      rw [hnt, h.forms, List.append_assoc]
    · show ((m.marks.zip (m.marks.map _)).map _).length ≤ _
      rw [List.length_map, List.length_zip, List.length_map, Nat.min_self, ht, cnt3_snoc, if_neg (by omega)]
      exact h.few
    · have e := op_bits (new := new) h.ok nd hf hg hway (h.sem n nm pf)
      rw [ht, meantP_snoc]
      intro k hk
      rw [e k hk]
      have e1 : ((a.2.1.toNat : Nat) : Int) = a.2.1 := Int.toNat_of_nonneg h2
      have e2 : ((a.2.2.toNat : Nat) : Int) = a.2.2 := Int.toNat_of_nonneg h3
      rw [e1, e2]
  · refine ⟨holdM_okV h.ok hnf hS hin hfl, ?_, h.names, ?_, fun n nm pf => ?_⟩
    · show m.forms ++ [new] = _
      rw [hnt, h.forms, List.append_assoc]
    · rw [holdM_len, ht, cnt3_snoc, if_pos hway, Nat.pow_succ]
      have := hold_len hS hin
      have := h.few
      omega
    · have e := hold_bits (new := new) h.ok nd hf hS hin a.2.2 (h.sem n nm pf)
      rw [ht, meantP_snoc]
      intro k hk
      rw [e k hk]
      have e1 : ((a.2.1.toNat : Nat) : Int) = a.2.1 := Int.toNat_of_nonneg h2
      obtain ⟨a1, a2, a3⟩ := a
      have hway : a1 = 3 := hway
      subst hway
      rw [e1]
end L2
set_option maxHeartbeats 4000000
set_option linter.all false
set_option maxRecDepth 100000
namespace L2
open PySem PySem.Spec PyProof.Rows
theorem MAtV.u {H : Hp} {T : Addr} {m : Mch} (h : MAtV H T m) : MAtU H T m := by
  obtain ⟨F, N, S, P, M, rs, h1, h2, h3, h4, h5, h6, h7⟩ := h.ex
  refine ⟨F, N, S, P, M, rs, h1, ?_, h4, h5, h6, h7⟩
  rcases h3 with ⟨e, h3⟩ | h3
  · rw [e]; exact .inl h3
  · exact .inr h3
/-- what the loops of stands keep -/
structure Sth (P : Addr) (pos : Pos) (qual : Str) (H0 Hm H : Hp) (KD SD BD : Addr) (ks : HO) (S B : List Int) : Prop where
  sp : SameP P H0 H
  cd : CdAt H P pos qual
  kd : H KD = some ks
  sd : H SD = some (.dK (ones S))
  bd : H BD = some (.dK (ones B))
  tt : ∀ b xs, Hm b = some (.tup xs) → H b = some (.tup xs)
section
variable {P : Addr} {pos : Pos} {qual : Str} {H0 Hm H H' : Hp} {KD SD BD : Addr} {ks : HO} {S B : List Int}
theorem Sth.same (h : Sth P pos qual H0 Hm H KD SD BD ks S B) (s : Same H H') : Sth P pos qual H0 Hm H' KD SD BD ks S B :=
  ⟨h.sp.trans (SameP.of s), h.cd.same s, s _ _ h.kd, s _ _ h.sd, s _ _ h.bd, fun b xs e => s _ _ (h.tt b xs e)⟩
theorem Sth.setB (h : Sth P pos qual H0 Hm H KD SD BD ks S B) (h0 : H0 BD = none) (n1 : KD ≠ BD) (n2 : SD ≠ BD) (B' : List Int) : Sth P pos qual H0 Hm (upd H BD (.dK (ones B'))) KD SD BD ks S B' :=
  ⟨fun b u n e => by rw [upd_ne (ne_of_none e h0)]; exact h.sp b u n e, h.cd.upd h.bd, by rw [upd_ne n1]; exact h.kd, by rw [upd_ne n2]; exact h.sd, upd_same, fun b xs e => (upd_kt h.bd).tup _ _ (h.tt b xs e)⟩
end
end L2
set_option maxHeartbeats 4000000
set_option linter.all false
set_option maxRecDepth 100000
set_option maxHeartbeats 4000000
set_option linter.all false
set_option maxRecDepth 100000
namespace L2
open PySem PySem.Spec PyProof.Rows
/-! ### states that are come to, turn by turn -/
def cntB (bs : List Bool) : Nat := (bs.filter id).length
theorem cntB_le (bs : List Bool) : cntB bs ≤ bs.length := List.length_filter_le _ _
theorem cntB_set : ∀ (bs : List Bool) (i : Nat), bs[i]? = some false → cntB (bs.set i true) = cntB bs + 1
  | [], i, h => by simp at h
  | b :: r, 0, h => by
    have : b = false := by simpa using h
    subst this
    rfl
  | b :: r, i + 1, h => by
    have ih := cntB_set r i (by simpa using h)
    unfold cntB at ih ⊢
    rw [List.set_cons_succ, List.filter_cons, List.filter_cons]
    cases b
    · exact ih
    · show (_ :: _).length = (_ :: _).length + 1
      rw [List.length_cons, List.length_cons, ih]
theorem set_true (bs : List Bool) (i : Nat) (h : bs[i]? = some true) : bs.set i true = bs := by
  apply List.ext_getElem?
  intro j
  by_cases e : i = j
  · subst e
    rw [List.getElem?_set_self (List.getElem?_eq_some_iff.mp h).1, h]
  · rw [List.getElem?_set_ne e]
theorem cntB_pos {bs : List Bool} {i : Nat} (h : bs[i]? = some true) : 1 ≤ cntB bs := by
  unfold cntB
  have : true ∈ bs.filter id := List.mem_filter.mpr ⟨List.mem_of_getElem? h, rfl⟩
  exact List.length_pos_of_mem this
/-- what is known of the list of found ones -/
structure FdOk (m : Mch) (bs : List Bool) : Prop where
  len : bs.length = m.marks.length
  snd : ∀ i : Nat, bs[i]? = some true → Rch m.starts (stepOf m) (i : Int)
  st : ∀ s ∈ m.starts, bs[s.toNat]? = some true
def CloB (m : Mch) (bs : List Bool) (ok : Nat → Nat → Prop) : Prop := ∀ p q : Nat, ok p q → bs[p]? = some true → bs[q]? = some true → bs[(stepOf m p q).toNat]? = some true
theorem FdOk.set {m : Mch} {bs : List Bool} (h : FdOk m bs) (o : MOkU m) {p q : Nat} (hp : bs[p]? = some true) (hq : bs[q]? = some true) : FdOk m (bs.set (stepOf m p q).toNat true) ∧ (bs.set (stepOf m p q).toNat true = bs ∨ cntB bs < cntB (bs.set (stepOf m p q).toNat true)) := by
  have lp := (List.getElem?_eq_some_iff.mp hp).1
  have lq := (List.getElem?_eq_some_iff.mp hq).1
  have hl := h.len
  obtain ⟨row, _, _, k0, k1⟩ := stepU o (p := (p : Int)) (q := (q : Int)) ⟨by omega, by omega⟩ ⟨by omega, by omega⟩
  have hlt : (stepOf m p q).toNat < bs.length := by omega
  refine ⟨⟨by rw [List.length_set]; exact hl, fun i hi => ?_, fun s hs => ?_⟩, ?_⟩
  · by_cases e : (stepOf m p q).toNat = i
    · subst e
      rw [Int.toNat_of_nonneg k0]
      exact .stp (h.snd p hp) (h.snd q hq)
    · rw [List.getElem?_set_ne e] at hi
      exact h.snd i hi
  · by_cases e : (stepOf m p q).toNat = s.toNat
    · rw [← e, List.getElem?_set_self hlt]
    · rw [List.getElem?_set_ne e]
      exact h.st s hs
  · cases hb : bs[(stepOf m p q).toNat]? with
    | none => rw [List.getElem?_eq_none_iff] at hb; omega
    | some b =>
      cases b with
      | true => exact .inl (set_true _ _ hb)
      | false => exact .inr (by rw [cntB_set _ _ hb]; omega)
theorem FdOk.fin {m : Mch} {bs : List Bool} (h : FdOk m bs) (o : MOkU m) (c : CloB m bs fun p q => p < m.marks.length ∧ q < m.marks.length) (i : Nat) : bs[i]? = some true ↔ Rch m.starts (stepOf m) (i : Int) := by
  refine ⟨h.snd i, fun hr => ?_⟩
  have key : ∀ x : Int, Rch m.starts (stepOf m) x → 0 ≤ x ∧ bs[x.toNat]? = some true := by
    intro x hx
    induction hx with
    | st hs => exact ⟨(o.sb _ hs).1, h.st _ hs⟩
    | @stp p q _ _ ih1 ih2 =>
      have lp := (List.getElem?_eq_some_iff.mp ih1.2).1
      have lq := (List.getElem?_eq_some_iff.mp ih2.2).1
      have hl := h.len
      obtain ⟨row, _, _, k0, k1⟩ := stepU o (p := p) (q := q) ⟨ih1.1, by have := ih1.1; omega⟩ ⟨ih2.1, by have := ih2.1; omega⟩
      refine ⟨k0, ?_⟩
      have := c p.toNat q.toNat ⟨by omega, by omega⟩ ih1.2 ih2.2
      rw [Int.toNat_of_nonneg ih1.1, Int.toNat_of_nonneg ih2.1] at this
      exact this
  have := (key _ hr).2
  rw [Int.toNat_natCast] at this
  exact this
theorem cntB_sub : ∀ {xs ys : List Bool}, xs.length = ys.length → (∀ i : Nat, xs[i]? = some true → ys[i]? = some true) → cntB xs ≤ cntB ys
  | [], [], _, _ => Nat.le_refl _
  | [], _ :: _, h, _ => by cases h
  | _ :: _, [], h, _ => by cases h
  | x :: xs, y :: ys, h, hs => by
    have ih := cntB_sub (xs := xs) (ys := ys) (by simpa using h) fun i hi => by simpa using hs (i + 1) (by simpa using hi)
    have h0 := hs 0
    unfold cntB at ih ⊢
    cases x with
    | false =>
      rw [List.filter_cons, List.filter_cons]
      cases y
      · exact ih
      · show _ ≤ (_ :: _).length
        rw [List.length_cons]
        exact Nat.le_succ_of_le ih
    | true =>
      have hy : y = true := by simpa using h0 rfl
      subst hy
      show (_ :: _).length ≤ (_ :: _).length
      rw [List.length_cons, List.length_cons]
      exact Nat.succ_le_succ ih
/-! ### ways on from a state -/
structure WyOk (m : Mch) (R : Int → Prop) (s0 : Int) (ps : List (Int × Bool)) (ok : Nat → Int → Prop) : Prop where
  nd : ps.Nodup
  wy : ∀ x ∈ ps, Wys R (stepOf m) s0 x
  go : (s0, true) ∈ ps
  dm : ∀ x ∈ ps, 0 ≤ x.1 ∧ x.1 < (m.marks.length : Int)
  clo : ∀ (i : Nat) (x : Int × Bool) (o : Int) (b : Bool), ps[i]? = some x → ok i o → R o → (aftr (stepOf m) x.1 x.2 o, b) ∈ ps
theorem WyOk.len {m : Mch} {R : Int → Prop} {s0 : Int} {ps : List (Int × Bool)} {ok : Nat → Int → Prop} (h : WyOk m R s0 ps ok) : ps.length ≤ 2 * m.marks.length := by
  have hs : ∀ x ∈ ps, x ∈ (List.range m.marks.length).flatMap fun n : Nat => [(((n : Nat) : Int), true), (((n : Nat) : Int), false)] := fun x hx => by
    obtain ⟨d0, d1⟩ := h.dm x hx
    refine List.mem_flatMap.mpr ⟨x.1.toNat, List.mem_range.mpr (by omega), ?_⟩
    rw [Int.toNat_of_nonneg d0]
    obtain ⟨a, b⟩ := x
    cases b <;> simp
  have := List.Nodup.length_le_of_subset h.nd hs
  have e : ∀ n : Nat, ((List.range n).flatMap fun n : Nat => [(((n : Nat) : Int), true), (((n : Nat) : Int), false)]).length = 2 * n := by
    intro n
    induction n with
    | zero => rfl
    | succ n ih => rw [List.range_succ, List.flatMap_append, List.length_append, ih]; show 2 * n + 2 = _; omega
  rw [e] at this
  exact this
theorem WyOk.fin {m : Mch} {R : Int → Prop} {s0 : Int} {ps : List (Int × Bool)} {ok : Nat → Int → Prop} (h : WyOk m R s0 ps ok) (hok : ∀ i o, i < ps.length → R o → ok i o) (x : Int × Bool) : x ∈ ps ↔ Wys R (stepOf m) s0 x := by
  refine ⟨h.wy x, fun w => ?_⟩
  induction w with
  | go => exact h.go
  | @nx x o w b _ ho ih =>
    obtain ⟨i, hi, e⟩ := List.getElem_of_mem ih
    have hg : ps[i]? = some (x, w) := by rw [List.getElem?_eq_getElem hi, e]
    exact h.clo i (x, w) o b hg (hok i o hi ho) ho
def addP (ps : List (Int × Bool)) (x : Int × Bool) : List (Int × Bool) := if x ∈ ps then ps else ps ++ [x]
theorem mem_addP {ps : List (Int × Bool)} {x y : Int × Bool} : y ∈ addP ps x ↔ y ∈ ps ∨ y = x := by
  unfold addP
  split
  · rename_i h
    exact ⟨.inl, fun z => z.elim id fun e => e ▸ h⟩
  · simp
theorem addP_get {ps : List (Int × Bool)} {x y : Int × Bool} {i : Nat} (h : (addP ps x)[i]? = some y) (hi : i < ps.length) : ps[i]? = some y := by
  unfold addP at h
  split at h
  · exact h
  · rw [List.getElem?_append_left hi] at h; exact h
theorem WyOk.add {m : Mch} {R : Int → Prop} {s0 : Int} {ps : List (Int × Bool)} {ok : Nat → Int → Prop} (h : WyOk m R s0 ps ok) (o : MOkU m) (hok : ∀ i a, ok i a → i < ps.length) {x : Int × Bool} (hx : x ∈ ps) {a : Int} (ha : R a) (had : 0 ≤ a ∧ a < (m.marks.length : Int)) (b : Bool) :
    WyOk m R s0 (addP ps (aftr (stepOf m) x.1 x.2 a, b)) ok := by
  have hd := h.dm x hx
  have hb : 0 ≤ aftr (stepOf m) x.1 x.2 a ∧ aftr (stepOf m) x.1 x.2 a < (m.marks.length : Int) := by
    unfold aftr
    split
    · obtain ⟨_, _, _, k⟩ := stepU o had hd; exact k
    · obtain ⟨_, _, _, k⟩ := stepU o hd had; exact k
  refine ⟨?_, fun y hy => ?_, mem_addP.mpr (.inl h.go), fun y hy => ?_, fun i y a' b' hy hk hR => ?_⟩
  · unfold addP
    split
    · exact h.nd
    · rename_i hn
      rw [List.nodup_append]
      refine ⟨h.nd, by simp, fun u hu v hv => ?_⟩
      rw [List.mem_singleton] at hv
      subst hv
      exact fun e => hn (e ▸ hu)
  · rcases mem_addP.mp hy with hy | rfl
    · exact h.wy y hy
    · exact .nx (h.wy x hx) ha
  · rcases mem_addP.mp hy with hy | rfl
    · exact h.dm y hy
    · exact hb
  · exact mem_addP.mpr (.inl (h.clo i y a' b' (addP_get hy (hok i a' hk)) hk hR))
end L2
set_option maxHeartbeats 4000000
set_option linter.all false
set_option maxRecDepth 100000
set_option maxHeartbeats 4000000
set_option linter.all false
set_option maxRecDepth 100000
namespace L2
open PySem PySem.Spec PyProof.Rows
/-! ### the order of what is priced -/
structure OrdK (kd : List (Key × V)) (dn : PF) : Prop where
  pr : ∀ (j : Nat) (i : Int) (v : V) (n p q : Int), kd[j]? = some (Sum.inl i, v) → dn i = some (n, .pr p q) → Seen kd j p ∧ Seen kd j q
  le : ∀ (j j' : Nat) (i i' : Int) (v v' : V) (x y : PV), j ≤ j' → kd[j]? = some (Sum.inl i, v) → kd[j']? = some (Sum.inl i', v') → dn i = some x → dn i' = some y → x.1 ≤ y.1
theorem OrdK.nil (dn : PF) : OrdK [] dn := ⟨fun j i v n p q h => by simp at h, fun j j' i i' v v' x y _ h => by simp at h⟩
theorem OrdK.snoc {names : List Str} {starts : List Int} {stp : Int → Int → Int} {M : Int} {H : Hp} {kd : List (Key × V)} {dn wt : PF} (h : OrdK kd dn) (da : DA H kd dn) (pri : Pri names starts stp M dn wt) {i0 n0 : Int} {e0 : PEn} (hk : wt i0 = some (n0, e0)) (v0 : V) :
    OrdK (putK kd (Sum.inl i0) v0) (putP dn i0 (n0, e0)) := by
  have hd0 := pri.dis _ _ hk
  rw [putK_new v0 (da.noV hd0)]
  have old : ∀ {j : Nat} {i : Int} {v : V}, (kd ++ [(Sum.inl i0, v0)])[j]? = some (Sum.inl i, v) → (j < kd.length ∧ kd[j]? = some (Sum.inl i, v) ∧ i ≠ i0 ∧ putP dn i0 (n0, e0) i = dn i) ∨ (j = kd.length ∧ i = i0) := fun {j i v} e => by
    by_cases hj : j < kd.length
    · rw [List.getElem?_append_left hj] at e
      obtain ⟨i', pv, ei, hi, _⟩ := da.mem _ _ (List.mem_of_getElem? e)
      cases ei
      have hne : i ≠ i0 := fun z => by rw [z, hd0] at hi; cases hi
      exact .inl ⟨hj, e, hne, putP_ne hne⟩
    · have hl := (List.getElem?_eq_some_iff.mp e).1
      rw [List.length_append] at hl
      have hl' : j < kd.length + 1 := hl
      have : j = kd.length := by omega
      subst this
      rw [List.getElem?_append_right (Nat.le_refl _), Nat.sub_self] at e
      cases e
      exact .inr ⟨rfl, rfl⟩
  have up : ∀ {j : Nat} {q : Int}, Seen kd j q → Seen (kd ++ [(Sum.inl i0, v0)]) j q := fun {j q} ⟨k, v, hk, e⟩ => ⟨k, v, hk, by rw [List.getElem?_append_left (List.getElem?_eq_some_iff.mp e).1]; exact e⟩
  have all : ∀ {q : Int} {x : PV}, dn q = some x → Seen kd kd.length q := fun {q x} e => by
    obtain ⟨v, hv⟩ := da.all q x e
    obtain ⟨k, hk, ek⟩ := List.getElem_of_mem hv
    exact ⟨k, v, hk, by rw [List.getElem?_eq_getElem hk, ek]⟩
  refine ⟨fun j i v n p q e hd => ?_, fun j j' i i' v v' x y hjj e e' hx hy => ?_⟩
  · rcases old e with ⟨hj, e1, _, e2⟩ | ⟨hj, e1⟩
    · rw [e2] at hd
      obtain ⟨a, b⟩ := h.pr j i v n p q e1 hd
      exact ⟨up a, up b⟩
    · subst e1
      rw [putP_same] at hd
      cases hd
      rcases (pri.one i n0 (.pr p q) (.inr hk)).2 with ⟨_, _, _, z⟩ | ⟨p', q', x, y, z, hx, hy, _⟩
      · cases z
      · cases z
        rw [hj]
        exact ⟨up (all hx), up (all hy)⟩
  · rcases old e with ⟨hj, e1, _, e2⟩ | ⟨hj, e1⟩
    · rw [e2] at hx
      rcases old e' with ⟨hj', e1', _, e2'⟩ | ⟨hj', e1'⟩
      · rw [e2'] at hy
        exact h.le j j' i i' v v' x y hjj e1 e1' hx hy
      · subst e1'
        rw [putP_same] at hy
        cases hy
        exact pri.ord i i' x _ hx hk
    · rcases old e' with ⟨hj', _, _, _⟩ | ⟨hj', e1'⟩
      · omega
      · subst e1 e1'
        rw [putP_same] at hx hy
        cases hx
        cases hy
        exact Int.le_refl _
/-! ### what a state is made of -/
theorem filt_at {f : Int → Bool} : ∀ {ks : List Int} {j : Nat} {i : Int}, ks[j]? = some i → f i = true → (ks.filter f)[((ks.take j).filter f).length]? = some i
  | [], j, i, h, _ => by simp at h
  | k :: r, 0, i, h, hf => by
    have : k = i := by simpa using h
    subst this
    rw [List.filter_cons, if_pos hf]
    rfl
  | k :: r, j + 1, i, h, hf => by
    have ih := filt_at (ks := r) (j := j) (by simpa using h) hf
    rw [List.take_succ_cons, List.filter_cons, List.filter_cons]
    split
    · rw [List.length_cons, List.getElem?_cons_succ]; exact ih
    · exact ih
theorem filt_of {f : Int → Bool} : ∀ {ks : List Int} {k : Nat} {i : Int}, (ks.filter f)[k]? = some i → ∃ j, ks[j]? = some i ∧ f i = true ∧ k = ((ks.take j).filter f).length
  | [], k, i, h => by simp at h
  | a :: r, k, i, h => by
    rw [List.filter_cons] at h
    by_cases ha : f a = true
    · rw [if_pos ha] at h
      cases k with
      | zero =>
        have : a = i := by simpa using h
        subst this
        exact ⟨0, rfl, ha, rfl⟩
      | succ k =>
        obtain ⟨j, e1, e2, e3⟩ := filt_of (ks := r) (k := k) (by simpa using h)
        refine ⟨j + 1, by simpa using e1, e2, ?_⟩
        rw [List.take_succ_cons, List.filter_cons, if_pos ha, List.length_cons, e3]
    · rw [if_neg ha] at h
      obtain ⟨j, e1, e2, e3⟩ := filt_of (ks := r) (k := k) h
      refine ⟨j + 1, by simpa using e1, e2, ?_⟩
      rw [List.take_succ_cons, List.filter_cons, if_neg ha, e3]
theorem filt_lt {f : Int → Bool} {ks : List Int} {j j' : Nat} {i : Int} (h : ks[j]? = some i) (hf : f i = true) (hj : j < j') : ((ks.take j).filter f).length < ((ks.take j').filter f).length := by
  have hl := (List.getElem?_eq_some_iff.mp h).1
  have e : ks.take j' = ks.take (j + 1) ++ (ks.drop (j + 1)).take (j' - (j + 1)) := by
    rw [← List.take_add]
    congr 1
    omega
  rw [e, List.filter_append, List.length_append, List.take_add_one, h, List.filter_append, List.length_append]
  show _ < ((ks.take j).filter f).length + ([i].filter f).length + _
  rw [List.filter_cons, if_pos hf]
  show _ < ((ks.take j).filter f).length + ([i]).length + _
  rw [List.length_singleton]
  omega
/-- the states that a state is made of, in an order -/
structure NeedOk (dn : PF) (s0 : Int) (xs : List Int) : Prop where
  nd : xs.Nodup
  last : xs.getLast? = some s0
  ent : ∀ (k : Nat) (i : Int), xs[k]? = some i → ∃ n e, dn i = some (n, e) ∧ ∀ p q, e = .pr p q → ∃ a b : Nat, a < k ∧ b < k ∧ xs[a]? = some p ∧ xs[b]? = some q
def ksOf (kvs : List (Key × V)) : List Int := kvs.map fun kv => match kv.1 with
  | Sum.inl i => i
  | _ => 0
theorem ksOf_get {H : Hp} {kvs : List (Key × V)} {f : PF} (h : DA H kvs f) {j : Nat} {i : Int} : (ksOf kvs)[j]? = some i ↔ ∃ v, kvs[j]? = some (Sum.inl i, v) := by
  unfold ksOf
  rw [List.getElem?_map]
  constructor
  · intro e
    cases hk : kvs[j]? with
    | none => rw [hk] at e; cases e
    | some kv =>
      obtain ⟨k, v⟩ := kv
      obtain ⟨i', pv, rfl, _⟩ := h.mem _ _ (List.mem_of_getElem? hk)
      rw [hk] at e
      cases e
      exact ⟨v, rfl⟩
  · rintro ⟨v, e⟩
    rw [e]
    rfl
theorem nd_getI {α : Type} : ∀ {xs : List α} {a b : Nat} {x : α}, xs.Nodup → xs[a]? = some x → xs[b]? = some x → a = b
  | [], a, b, x, _, h, _ => by simp at h
  | y :: r, 0, 0, x, _, _, _ => rfl
  | y :: r, 0, b + 1, x, nd, h1, h2 => by
    have e : y = x := by simpa using h1
    subst e
    exact absurd (List.mem_of_getElem? (show r[b]? = some y by simpa using h2)) (List.nodup_cons.mp nd).1
  | y :: r, a + 1, 0, x, nd, h1, h2 => by
    have e : y = x := by simpa using h2
    subst e
    exact absurd (List.mem_of_getElem? (show r[a]? = some y by simpa using h1)) (List.nodup_cons.mp nd).1
  | y :: r, a + 1, b + 1, x, nd, h1, h2 => by
    exact congrArg (· + 1) (nd_getI (xs := r) (a := a) (b := b) (x := x) (List.nodup_cons.mp nd).2 (by simpa using h1) (by simpa using h2))
theorem nd_ofMap {α β : Type} {f : α → β} : ∀ {xs : List α}, (xs.map f).Nodup → xs.Nodup
  | [], _ => List.nodup_nil
  | x :: r, h => by
    obtain ⟨h1, h2⟩ := List.nodup_cons.mp (show (f x :: r.map f).Nodup from h)
    exact List.nodup_cons.mpr ⟨fun hm => h1 (List.mem_map_of_mem hm), nd_ofMap h2⟩
theorem ksOf_nd {H : Hp} {kvs : List (Key × V)} {f : PF} (h : DA H kvs f) : (ksOf kvs).Nodup := by
  have e : (ksOf kvs).map (fun i => (Sum.inl i : Key)) = kvs.map (·.1) := by
    unfold ksOf
    rw [List.map_map]
    refine List.map_congr_left fun kv hkv => ?_
    obtain ⟨k, v⟩ := kv
    obtain ⟨i, pv, rfl, _⟩ := h.mem _ _ hkv
    rfl
  exact nd_ofMap (f := fun i => (Sum.inl i : Key)) (by rw [e]; exact h.nd)
/-- what the loop of needed_for knows: N the needed ones, the first from j on looked at -/
structure NdI (kvs : List (Key × V)) (dn : PF) (s0 : Int) (j : Nat) (N : List Int) : Prop where
  nd : N.Nodup
  me : s0 ∈ N
  ps : ∃ (j0 : Nat) (v0 : V), kvs[j0]? = some (Sum.inl s0, v0) ∧ ∀ i ∈ N, ∃ (k : Nat) (v : V), k ≤ j0 ∧ kvs[k]? = some (Sum.inl i, v)
  clo : ∀ (k : Nat) (i : Int) (v : V), j ≤ k → kvs[k]? = some (Sum.inl i, v) → i ∈ N → ∀ n p q, dn i = some (n, .pr p q) → p ∈ N ∧ q ∈ N
theorem NdI.start {kvs : List (Key × V)} {dn : PF} {s0 : Int} (h : ∃ (j0 : Nat) (v0 : V), kvs[j0]? = some (Sum.inl s0, v0)) : NdI kvs dn s0 kvs.length [s0] := by
  obtain ⟨j0, v0, e⟩ := h
  refine ⟨by simp, by simp, ⟨j0, v0, e, fun i hi => by rw [List.mem_singleton.mp hi]; exact ⟨j0, v0, Nat.le_refl _, e⟩⟩, fun k i v hk e _ => ?_⟩
  have := (List.getElem?_eq_some_iff.mp e).1
  omega
theorem NdI.pos {H : Hp} {kvs : List (Key × V)} {dn : PF} (da : DA H kvs dn) {j k : Nat} {i : Int} {v v' : V} (e : kvs[j]? = some (Sum.inl i, v)) (e' : kvs[k]? = some (Sum.inl i, v')) : j = k := by
  have g1 : (kvs.map (·.1))[j]? = some (Sum.inl i) := by rw [List.getElem?_map, e]; rfl
  have g2 : (kvs.map (·.1))[k]? = some (Sum.inl i) := by rw [List.getElem?_map, e']; rfl
  exact nd_getI da.nd g1 g2
theorem NdI.add {H : Hp} {kvs : List (Key × V)} {dn : PF} {s0 : Int} {j : Nat} {N : List Int} (h : NdI kvs dn s0 (j + 1) N) (da : DA H kvs dn) (od : OrdK kvs dn) {i n p q : Int} {v : V} (e : kvs[j]? = some (Sum.inl i, v)) (hi : i ∈ N) (hd : dn i = some (n, .pr p q)) :
    NdI kvs dn s0 j (addI (addI N p) q) := by
  obtain ⟨j0, v0, e0, hps⟩ := h.ps
  obtain ⟨k1, v1, hk1, e1⟩ := hps i hi
  have hjk := NdI.pos da e e1
  obtain ⟨⟨a, va, ha, ea⟩, ⟨b, vb, hb, eb⟩⟩ := od.pr j i v n p q e hd
  have mem : ∀ {x : Int}, x ∈ addI (addI N p) q ↔ x ∈ N ∨ x = p ∨ x = q := fun {x} => by rw [mem_addI, mem_addI, or_assoc]
  refine ⟨nd_addI (nd_addI h.nd), mem.mpr (.inl h.me), ⟨j0, v0, e0, fun x hx => ?_⟩, fun k x vx hk ex hx m p' q' hdx => ?_⟩
  · rcases mem.mp hx with hx | rfl | rfl
    · exact hps x hx
    · exact ⟨a, va, by omega, ea⟩
    · exact ⟨b, vb, by omega, eb⟩
  · by_cases hkj : k = j
    · subst hkj
      rw [e] at ex
      cases ex
      rw [hd] at hdx
      cases hdx
      exact ⟨mem.mpr (.inr (.inl rfl)), mem.mpr (.inr (.inr rfl))⟩
    · have hxN : x ∈ N := by
        rcases mem.mp hx with hx | rfl | rfl
        · exact hx
        · have := NdI.pos da ex ea
          omega
        · have := NdI.pos da ex eb
          omega
      obtain ⟨g1, g2⟩ := h.clo k x vx (by omega) ex hxN m p' q' hdx
      exact ⟨mem.mpr (.inl g1), mem.mpr (.inl g2)⟩
theorem NdI.done {H : Hp} {kvs : List (Key × V)} {dn : PF} {s0 : Int} {N : List Int} (h : NdI kvs dn s0 0 N) (da : DA H kvs dn) (od : OrdK kvs dn) : NeedOk dn s0 ((ksOf kvs).filter fun i => decide (i ∈ N)) := by
  obtain ⟨j0, v0, e0, hps⟩ := h.ps
  have g0 : (ksOf kvs)[j0]? = some s0 := (ksOf_get da).mpr ⟨v0, e0⟩
  have hall : ∀ i ∈ N, i ∈ ksOf kvs := fun i hi => by
    obtain ⟨k, v, _, e⟩ := hps i hi
    exact List.mem_of_getElem? ((ksOf_get da).mpr ⟨v, e⟩)
  refine ⟨(ksOf_nd da).filter _, ?_, fun k i e => ?_⟩
  · have e : ksOf kvs = (ksOf kvs).take (j0 + 1) ++ (ksOf kvs).drop (j0 + 1) := (List.take_append_drop _ _).symm
    have hd : ((ksOf kvs).drop (j0 + 1)).filter (fun i => decide (i ∈ N)) = [] := by
      rw [List.filter_eq_nil_iff]
      intro x hx hxN
      have hxN := of_decide_eq_true hxN
      obtain ⟨k, v, hk, ek⟩ := hps x hxN
      obtain ⟨k2, hk2, e2⟩ := List.getElem_of_mem hx
      rw [List.length_drop] at hk2
      have g2 : (ksOf kvs)[j0 + 1 + k2]? = some x := by
        rw [← e2, List.getElem_drop, List.getElem?_eq_getElem (by omega)]
      obtain ⟨v2, e3⟩ := (ksOf_get da).mp g2
      have := NdI.pos da ek e3
      omega
    rw [e, List.filter_append, hd, List.append_nil, List.take_add_one, g0, List.filter_append]
    show (_ ++ [s0].filter _).getLast? = _
    rw [List.filter_cons, if_pos (decide_eq_true h.me)]
    simp
  · obtain ⟨j, ej, hf, ek⟩ := filt_of e
    obtain ⟨v, ev⟩ := (ksOf_get da).mp ej
    obtain ⟨i', pv, ei, hpv, _⟩ := da.mem _ _ (List.mem_of_getElem? ev)
    cases ei
    refine ⟨pv.1, pv.2, hpv, fun p q hpq => ?_⟩
    have hpv' : dn i = some (pv.1, .pr p q) := by rw [hpv, ← hpq]
    obtain ⟨⟨a, va, ha, ea⟩, ⟨b, vb, hb, eb⟩⟩ := od.pr j i v pv.1 p q ev hpv'
    obtain ⟨hp, hq⟩ := h.clo j i v (Nat.zero_le _) ev (of_decide_eq_true hf) pv.1 p q hpv'
    have ga := (ksOf_get da).mpr ⟨va, ea⟩
    have gb := (ksOf_get da).mpr ⟨vb, eb⟩
    exact ⟨_, _, by rw [ek]; exact filt_lt ga (decide_eq_true hp) ha, by rw [ek]; exact filt_lt gb (decide_eq_true hq) hb, filt_at ga (decide_eq_true hp), filt_at gb (decide_eq_true hq)⟩
end L2
set_option maxHeartbeats 4000000
set_option linter.all false
set_option maxRecDepth 100000
namespace L2
open PySem PySem.Spec PyProof.Rows
def LkAt (H : Hp) (d : Addr) (kvs : List (Key × V)) : Prop := H d = some (.dK kvs) ∨ ∃ od, H d = some (.frz od (.dK kvs))
theorem LkAt.to {H H' : Hp} {d : Addr} {kvs : List (Key × V)} (h : LkAt H d kvs) (k : ∀ o, H d = some o → H' d = some o) : LkAt H' d kvs :=
  h.imp (k _) fun ⟨od, e⟩ => ⟨od, k _ e⟩
theorem LkAt.ne {H : Hp} {d a : Addr} {kvs : List (Key × V)} (h : LkAt H d kvs) (n : H a = none) : d ≠ a := fun z => by
  rcases h with h | ⟨_, h⟩ <;> (rw [z, n] at h; cases h)
/-! ### makings, by the states that are needed -/
def MkEnt (H : Hp) (ns : List Str) (xs : List Int) (k : Nat) (e : PEn) (E : Addr) : Prop :=
  (∃ z : Str, (e = .nm (some z) ∨ (e = .nm none ∧ nameF z = true ∧ z ∉ ns)) ∧ H E = some (.tup [.str z])) ∨
  ∃ (p q : Int) (a b : Nat), e = .pr p q ∧ a < k ∧ b < k ∧ xs[a]? = some p ∧ xs[b]? = some q ∧ H E = some (.tup [.int (a : Int), .int (b : Int)])
theorem MkEnt.tt {H H' : Hp} {ns : List Str} {xs : List Int} {k : Nat} {e : PEn} {E : Addr} (t : ∀ b ys, H b = some (.tup ys) → H' b = some (.tup ys)) (h : MkEnt H ns xs k e E) : MkEnt H' ns xs k e E := by
  rcases h with ⟨z, h1, h2⟩ | ⟨p, q, a, b, h1, h2, h3, h4, h5, h6⟩
  · exact .inl ⟨z, h1, t _ _ h2⟩
  · exact .inr ⟨p, q, a, b, h1, h2, h3, h4, h5, t _ _ h6⟩
def MkAt (H : Hp) (dn : PF) (ns : List Str) (xs : List Int) (es : List V) : Prop :=
  es.length ≤ xs.length ∧ ∀ (k : Nat) (v : V), es[k]? = some v → ∃ (E : Addr) (i n : Int) (e : PEn), v = .ref E ∧ xs[k]? = some i ∧ dn i = some (n, e) ∧ MkEnt H ns xs k e E
theorem MkAt.tt {H H' : Hp} {dn : PF} {ns : List Str} {xs : List Int} {es : List V} (t : ∀ b ys, H b = some (.tup ys) → H' b = some (.tup ys)) (h : MkAt H dn ns xs es) : MkAt H' dn ns xs es :=
  ⟨h.1, fun k v e => let ⟨E, i, n, e', h1, h2, h3, h4⟩ := h.2 k v e; ⟨E, i, n, e', h1, h2, h3, h4.tt t⟩⟩
theorem MkAt.snoc {H : Hp} {dn : PF} {ns : List Str} {xs : List Int} {es : List V} (h : MkAt H dn ns xs es) {E : Addr} {i n : Int} {e : PEn} (hx : xs[es.length]? = some i) (hd : dn i = some (n, e)) (hm : MkEnt H ns xs es.length e E) : MkAt H dn ns xs (es ++ [.ref E]) := by
  have hl := (List.getElem?_eq_some_iff.mp hx).1
  refine ⟨by rw [List.length_append]; exact hl, fun k v ev => ?_⟩
  by_cases hk : k < es.length
  · rw [List.getElem?_append_left hk] at ev
    exact h.2 k v ev
  · have hk2 := (List.getElem?_eq_some_iff.mp ev).1
    rw [List.length_append] at hk2
    have hk3 : k < es.length + 1 := hk2
    have : k = es.length := by omega
    subst this
    rw [List.getElem?_append_right (Nat.le_refl _), Nat.sub_self] at ev
    cases ev
    exact ⟨E, i, n, e, rfl, hx, hd, hm⟩
end L2
set_option maxHeartbeats 4000000
set_option linter.all false
set_option maxRecDepth 100000
namespace L2
open PySem PySem.Spec PyProof.Rows
/-! ### least sizes, turn by turn -/
abbrev PriM (m : Mch) (dn : PF) : Prop := Pri m.names m.starts (stepOf m) (m.marks.length : Int) dn (fun _ => none)
structure LoOk (m : Mch) (dn : PF) (ls : List Int) : Prop where
  len : ls.length = m.marks.length
  nn : ∀ (i : Nat) (v : Int), ls[i]? = some v → 0 ≤ v
  snd : ∀ (i : Nat) (v : Int), ls[i]? = some v → 0 < v → ∃ x, dn (i : Int) = some x ∧ x.1 ≤ v
  st : ∀ s ∈ m.starts, ls[s.toNat]? = some 1
def FinL (dn : PF) (ls : List Int) (i : Nat) : Prop := ∃ x, dn (i : Int) = some x ∧ ls[i]? = some x.1
def finB (dn : PF) (ls : List Int) (M : Nat) : List Bool := (List.range M).map fun i : Nat => match dn (i : Int), ls[i]? with
  | some x, some v => decide (x.1 = v)
  | _, _ => false
theorem finB_get (dn : PF) (ls : List Int) {M i : Nat} (h : i < M) : (finB dn ls M)[i]? = some true ↔ FinL dn ls i := by
  unfold finB FinL
  rw [List.getElem?_map, List.getElem?_eq_getElem (by rw [List.length_range]; exact h), List.getElem_range]
  constructor
  · intro e
    have e := Option.some.inj e
    revert e
    show (match dn (i : Int), ls[i]? with
      | some x, some v => decide (x.1 = v)
      | _, _ => false) = true → _
    cases hd : dn (i : Int) with
    | none => intro e; exact nomatch e
    | some x => cases hl : ls[i]? with
      | none => intro e; exact nomatch e
      | some v => intro e; exact ⟨x, rfl, by rw [of_decide_eq_true e]⟩
  · rintro ⟨x, h1, h2⟩
    show some (match dn (i : Int), ls[i]? with
      | some x, some v => decide (x.1 = v)
      | _, _ => false) = some true
    rw [h1, h2]
    exact congrArg some (decide_eq_true rfl)
theorem finB_len (dn : PF) (ls : List Int) (M : Nat) : (finB dn ls M).length = M := by unfold finB; rw [List.length_map, List.length_range]
theorem cntB_lt : ∀ {xs ys : List Bool} {k : Nat}, xs.length = ys.length → (∀ i : Nat, xs[i]? = some true → ys[i]? = some true) → xs[k]? = some false → ys[k]? = some true → cntB xs < cntB ys
  | [], _, k, _, _, h, _ => by simp at h
  | x :: xs, [], _, h, _, _, _ => by cases h
  | x :: xs, y :: ys, 0, h, hs, h1, h2 => by
    have e1 : x = false := by simpa using h1
    have e2 : y = true := by simpa using h2
    subst e1 e2
    have := cntB_sub (xs := xs) (ys := ys) (by simpa using h) fun i hi => by simpa using hs (i + 1) (by simpa using hi)
    unfold cntB at this ⊢
    show (List.filter id xs).length < (_ :: _).length
    rw [List.length_cons]
    omega
  | x :: xs, y :: ys, k + 1, h, hs, h1, h2 => by
    have ih := cntB_lt (xs := xs) (ys := ys) (k := k) (by simpa using h) (fun i hi => by simpa using hs (i + 1) (by simpa using hi)) (by simpa using h1) (by simpa using h2)
    have h0 := hs 0
    unfold cntB at ih ⊢
    rw [List.filter_cons, List.filter_cons]
    cases x with
    | false =>
      cases y
      · exact ih
      · show _ < (_ :: _).length
        rw [List.length_cons]
        exact Nat.lt_succ_of_lt ih
    | true =>
      have hy : y = true := by simpa using h0 rfl
      subst hy
      show (_ :: _).length < (_ :: _).length
      rw [List.length_cons, List.length_cons]
      exact Nat.succ_lt_succ ih
section
variable {m : Mch} {dn : PF} {ls : List Int}
theorem priM_one (h : PriM m dn) {i : Int} {x : PV} (e : dn i = some x) : 1 ≤ x.1 ∧ 0 ≤ i ∧ i < (m.marks.length : Int) := ⟨(h.one i x.1 x.2 (.inl e)).1, h.dom i x (.inl e)⟩
theorem priM_clo (h : PriM m dn) {p q : Int} {x y : PV} (hx : dn p = some x) (hy : dn q = some y) : ∃ z : PV, dn (stepOf m p q) = some z ∧ z.1 ≤ x.1 + y.1 := by
  obtain ⟨z, hz | hz, hle⟩ := h.clo p q x y hx hy
  · exact ⟨z, hz, hle⟩
  · cases hz
theorem LoOk.put (h : LoOk m dn ls) (pr : PriM m dn) (o : MOkU m) {p q : Nat} {vp vq vk : Int} (hp : ls[p]? = some vp) (hq : ls[q]? = some vq) (p0 : 0 < vp) (q0 : 0 < vq) (hk : ls[(stepOf m p q).toNat]? = some vk) (hc : vk = 0 ∨ vp + vq < vk) :
    LoOk m dn (ls.set (stepOf m p q).toNat (vp + vq)) ∧ ∀ i, FinL dn ls i → FinL dn (ls.set (stepOf m p q).toNat (vp + vq)) i := by
  obtain ⟨x, hx, hxv⟩ := h.snd p vp hp p0
  obtain ⟨y, hy, hyv⟩ := h.snd q vq hq q0
  obtain ⟨z, hz, hzle⟩ := priM_clo pr hx hy
  obtain ⟨z1, k0, k1⟩ := priM_one pr hz
  have hkl := (List.getElem?_eq_some_iff.mp hk).1
  have ek : (((stepOf m p q).toNat : Nat) : Int) = stepOf m p q := Int.toNat_of_nonneg k0
  have get : ∀ {i : Nat} {v : Int}, (ls.set (stepOf m p q).toNat (vp + vq))[i]? = some v → (i = (stepOf m p q).toNat ∧ v = vp + vq) ∨ (i ≠ (stepOf m p q).toNat ∧ ls[i]? = some v) := fun {i v} e => by
    by_cases ei : i = (stepOf m p q).toNat
    · subst ei
      rw [List.getElem?_set_self hkl] at e
      cases e
      exact .inl ⟨rfl, rfl⟩
    · rw [List.getElem?_set_ne (fun z => ei z.symm)] at e
      exact .inr ⟨ei, e⟩
  refine ⟨⟨by rw [List.length_set]; exact h.len, fun i v e => ?_, fun i v e hv => ?_, fun s hs => ?_⟩, fun i ⟨u, hu, hi⟩ => ?_⟩
  · rcases get e with ⟨_, rfl⟩ | ⟨_, e⟩
    · omega
    · exact h.nn i v e
  · rcases get e with ⟨rfl, rfl⟩ | ⟨_, e⟩
    · rw [ek]
      exact ⟨z, hz, by omega⟩
    · exact h.snd i v e hv
  · have hs1 := h.st s hs
    by_cases es : s.toNat = (stepOf m p q).toNat
    · rw [es, hk] at hs1
      cases hs1
      omega
    · rw [List.getElem?_set_ne (fun z => es z.symm)]
      exact hs1
  · refine ⟨u, hu, ?_⟩
    by_cases ei : i = (stepOf m p q).toNat
    · subst ei
      rw [hk] at hi
      cases hi
      rw [ek, hz] at hu
      cases hu
      omega
    · rw [List.getElem?_set_ne (fun z => ei z.symm)]
      exact hi
structure TurnL (m : Mch) (dn : PF) (l0 ls : List Int) (ok : Nat → Nat → Prop) : Prop where
  lo : LoOk m dn ls
  mo : ∀ i, FinL dn l0 i → FinL dn ls i
  pr : ∀ (p q : Nat) (x y : PV), ok p q → FinL dn l0 p → FinL dn l0 q → dn (p : Int) = some x → dn (q : Int) = some y → ∃ v, ls[(stepOf m p q).toNat]? = some v ∧ 0 < v ∧ v ≤ x.1 + y.1
theorem TurnL.put {l0 : List Int} {ok ok' : Nat → Nat → Prop} (h : TurnL m dn l0 ls ok) (pr : PriM m dn) (o : MOkU m) {p q : Nat} {vp vq vk : Int} (hok : ∀ a b, ok' a b → ok a b ∨ (a = p ∧ b = q)) (hp : ls[p]? = some vp) (hq : ls[q]? = some vq) (p0 : 0 < vp) (q0 : 0 < vq) (hk : ls[(stepOf m p q).toNat]? = some vk) (hc : vk = 0 ∨ vp + vq < vk) :
    TurnL m dn l0 (ls.set (stepOf m p q).toNat (vp + vq)) ok' := by
  obtain ⟨g1, g2⟩ := h.lo.put pr o hp hq p0 q0 hk hc
  have hkl := (List.getElem?_eq_some_iff.mp hk).1
  refine ⟨g1, fun i hi => g2 i (h.mo i hi), fun a b x y hab fa fb hx hy => ?_⟩
  rcases hok a b hab with hab | ⟨rfl, rfl⟩
  · obtain ⟨v, hv, v0, hle⟩ := h.pr a b x y hab fa fb hx hy
    by_cases e : (stepOf m a b).toNat = (stepOf m p q).toNat
    · rw [e] at hv ⊢
      rw [hk] at hv
      cases hv
      exact ⟨vp + vq, by rw [List.getElem?_set_self hkl], by omega, by omega⟩
    · exact ⟨v, by rw [List.getElem?_set_ne (fun z => e z.symm)]; exact hv, v0, hle⟩
  · refine ⟨vp + vq, by rw [List.getElem?_set_self hkl], by omega, ?_⟩
    obtain ⟨x', hx', hxp⟩ := h.mo a fa
    obtain ⟨y', hy', hyp⟩ := h.mo b fb
    rw [hx] at hx'; cases hx'
    rw [hy] at hy'; cases hy'
    rw [hp] at hxp; cases hxp
    rw [hq] at hyp; cases hyp
    exact Int.le_refl _
def AllF (dn : PF) (ls : List Int) : Prop := ∀ (i : Int) (x : PV), dn i = some x → FinL dn ls i.toNat
theorem TurnL.fin {l0 : List Int} {ok : Nat → Nat → Prop} (h : TurnL m dn l0 ls ok) (h0 : LoOk m dn l0) (pr : PriM m dn) (hok : ∀ p q, p < m.marks.length → q < m.marks.length → ok p q) :
    AllF dn ls ∨ cntB (finB dn l0 m.marks.length) < cntB (finB dn ls m.marks.length) := by
  by_cases hex : ∃ j : Nat, FinL dn ls j ∧ ¬ FinL dn l0 j
  · obtain ⟨j, h1, h2⟩ := hex
    have hj : j < m.marks.length := by
      obtain ⟨x, hx, _⟩ := h1
      have := (priM_one pr hx).2
      omega
    refine .inr (cntB_lt (k := j) (by rw [finB_len, finB_len]) (fun i hi => ?_) ?_ ((finB_get dn ls hj).mpr h1))
    · have hil := (List.getElem?_eq_some_iff.mp hi).1
      rw [finB_len] at hil
      exact (finB_get dn ls hil).mpr (h.mo i ((finB_get dn l0 hil).mp hi))
    · obtain ⟨b, hb⟩ : ∃ b, (finB dn l0 m.marks.length)[j]? = some b := ⟨_, List.getElem?_eq_getElem (by rw [finB_len]; exact hj)⟩
      cases b with
      | false => exact hb
      | true => exact absurd ((finB_get dn l0 hj).mp hb) h2
  · left
    have hno : ∀ j : Nat, FinL dn ls j → FinL dn l0 j := fun j h1 => by
      by_cases h2 : FinL dn l0 j
      · exact h2
      · exact absurd ⟨j, h1, h2⟩ hex
    have key : ∀ n : Nat, ∀ (i : Int) (x : PV), dn i = some x → x.1.toNat ≤ n → FinL dn l0 i.toNat := by
      intro n
      induction n with
      | zero =>
        intro i x hx hn
        have := (priM_one pr hx).1
        omega
      | succ n ih =>
        intro i x hx hn
        obtain ⟨x1, i0, i1⟩ := priM_one pr hx
        have ei : ((i.toNat : Nat) : Int) = i := Int.toNat_of_nonneg i0
        rcases (pr.one i x.1 x.2 (.inl hx)).2 with ⟨j, hj, hn1, _⟩ | ⟨p, q, a, b, _, ha, hb, hst, hsum⟩
        · refine ⟨x, by rw [ei]; exact hx, ?_⟩
          rw [hn1]
          exact h0.st i (List.mem_of_getElem? hj)
        · obtain ⟨a1, p0, p1⟩ := priM_one pr ha
          obtain ⟨b1, q0, q1⟩ := priM_one pr hb
          have fp := ih p a ha (by omega)
          have fq := ih q b hb (by omega)
          have ep : ((p.toNat : Nat) : Int) = p := Int.toNat_of_nonneg p0
          have eq : ((q.toNat : Nat) : Int) = q := Int.toNat_of_nonneg q0
          obtain ⟨v, hv, v0, hle⟩ := h.pr p.toNat q.toNat a b (hok _ _ (by omega) (by omega)) fp fq (by rw [ep]; exact ha) (by rw [eq]; exact hb)
          rw [ep, eq, hst] at hv
          obtain ⟨x', hx', hxv⟩ := h.lo.snd _ _ hv v0
          rw [ei, hx] at hx'
          cases hx'
          refine hno _ ⟨x, by rw [ei]; exact hx, ?_⟩
          rw [hv]
          congr 1
          omega
    exact fun i x hx => h.mo _ (key _ i x hx (Nat.le_refl _))
/-- what the law finds -/
def LowIs (m : Mch) (dn : PF) (ls : List Int) : Prop := ls.length = m.marks.length ∧ ∀ i : Nat, i < m.marks.length → ls[i]? = some ((dn (i : Int)).elim 0 (·.1))
theorem LoOk.all (h : LoOk m dn ls) (pr : PriM m dn) (a : AllF dn ls) : LowIs m dn ls := by
  refine ⟨h.len, fun i hi => ?_⟩
  obtain ⟨v, hv⟩ : ∃ v, ls[i]? = some v := ⟨_, List.getElem?_eq_getElem (by rw [h.len]; exact hi)⟩
  cases hd : dn (i : Int) with
  | some x =>
    obtain ⟨x', hx', hf⟩ := a _ _ hd
    rw [Int.toNat_natCast] at hx' hf
    rw [hd] at hx'
    cases hx'
    exact hf
  | none =>
    have h0 := h.nn i v hv
    by_cases h1 : 0 < v
    · obtain ⟨x, hx, _⟩ := h.snd i v hv h1
      rw [hd] at hx
      cases hx
    · rw [hv]
      congr 1
      show v = 0
      omega
/-- the turns' invariant -/
def TurnsL (m : Mch) (t : Nat) (ls : List Int) : Prop := ls.length = m.marks.length ∧ ∀ dn, PriM m dn → LoOk m dn ls ∧ (AllF dn ls ∨ t + 1 ≤ cntB (finB dn ls m.marks.length))
theorem TurnsL.start (o : MOkU m) (hl : ls.length = m.marks.length) (hv : ∀ (i : Nat) (v : Int), ls[i]? = some v → v = if ((i : Int) ∈ m.starts) then 1 else 0) : TurnsL m 0 ls := by
  have hst : ∀ s ∈ m.starts, ls[s.toNat]? = some 1 := fun s hs => by
    obtain ⟨b0, b1⟩ := o.sb s hs
    obtain ⟨v, hv'⟩ : ∃ v, ls[s.toNat]? = some v := ⟨_, List.getElem?_eq_getElem (by omega)⟩
    rw [hv', hv _ _ hv', Int.toNat_of_nonneg b0, if_pos hs]
  refine ⟨hl, fun dn pr => ⟨⟨hl, fun i v e => ?_, fun i v e h0 => ?_, hst⟩, .inr ?_⟩⟩
  · rw [hv i v e]; split <;> omega
  · have e' := hv i v e
    split at e'
    · rename_i hm
      obtain ⟨e2, he | he⟩ := pr.st _ hm
      · exact ⟨_, he, by rw [e']; exact Int.le_refl _⟩
      · cases he
    · omega
  · obtain ⟨s, hs⟩ : ∃ s, s ∈ m.starts := by
      have hsl := o.sl
      cases e : m.starts with
      | nil => rw [e] at hsl; cases hsl
      | cons a r => exact ⟨a, List.mem_cons_self⟩
    obtain ⟨b0, b1⟩ := o.sb s hs
    obtain ⟨e2, he | he⟩ := pr.st s hs
    · exact cntB_pos (i := s.toNat) ((finB_get dn ls (by omega)).mpr ⟨_, by rw [Int.toNat_of_nonneg b0]; exact he, hst s hs⟩)
    · cases he
theorem TurnsL.next {l0 : List Int} {t : Nat} (h : TurnsL m t l0) (g : ls.length = m.marks.length ∧ ∀ dn, PriM m dn → TurnL m dn l0 ls fun p q => p < m.marks.length ∧ q < m.marks.length) : TurnsL m (t + 1) ls := by
  refine ⟨g.1, fun dn pr => ⟨(g.2 dn pr).lo, ?_⟩⟩
  obtain ⟨h1, h2⟩ := h.2 dn pr
  rcases (g.2 dn pr).fin h1 pr (fun p q hp hq => ⟨hp, hq⟩) with e | e
  · exact .inl e
  · rcases h2 with h2 | h2
    · exact .inl fun i x hx => (g.2 dn pr).mo _ (h2 i x hx)
    · exact .inr (by omega)
theorem TurnsL.done (h : TurnsL m m.marks.length ls) : ∀ dn, PriM m dn → LowIs m dn ls := fun dn pr => by
  obtain ⟨h1, h2⟩ := h.2 dn pr
  refine h1.all pr ?_
  rcases h2 with h2 | h2
  · exact h2
  · have := cntB_le (finB dn ls m.marks.length)
    rw [finB_len] at this
    omega
end
end L2
set_option maxHeartbeats 4000000
set_option linter.all false
set_option maxRecDepth 100000
set_option maxHeartbeats 4000000
set_option linter.all false
set_option maxRecDepth 100000
set_option maxHeartbeats 4000000
set_option linter.all false
set_option maxRecDepth 100000
set_option maxHeartbeats 4000000
set_option linter.all false
set_option maxRecDepth 100000
namespace L2
open PySem PySem.Spec
/-- makings that came out, or None -/
def MkOut (H : Hp) (m : Mch) (z : Str) (dn : PF) (v : V) : Prop := (v = .non ∧ ∀ i x, dn i = some x → trV m z i = false) ∨
  ∃ (T : Addr) (es : List V) (xs : List Int) (s0 : Int) (x0 : PV), v = .ref T ∧ H T = some (.tup es) ∧ es.length = xs.length ∧ xs.length ≤ 64 ∧ MkAt H dn m.names xs es ∧ NeedOk dn s0 xs ∧ dn s0 = some x0 ∧ trV m z s0 = true ∧ (∀ i x, dn i = some x → trV m z i = true → x0.1 ≤ x.1)
theorem SameP.tt {P : Addr} {H H' : Hp} {pos : Pos} {q : Str} (s : SameP P H H') (c : CdAt H P pos q) : SameT H H' := fun b o e n => s b o (fun z => by
  obtain ⟨φ, hφ⟩ := c.ext
  rw [z, hφ] at e
  cases e
  exact n _ rfl) e
theorem MkOut.same {H H' : Hp} {m : Mch} {z : Str} {dn : PF} {v : V} (s : Same H H') (h : MkOut H m z dn v) : MkOut H' m z dn v := by
  rcases h with h | ⟨T, es, xs, s0, x0, h1, h2, h3, h4, h5, h6⟩
  · exact .inl h
  · exact .inr ⟨T, es, xs, s0, x0, h1, s _ _ h2, h3, h4, h5.tt (fun b ys e => s _ _ e), h6⟩
end L2
set_option maxHeartbeats 4000000
set_option linter.all false
set_option maxRecDepth 100000
set_option maxHeartbeats 4000000
set_option linter.all false
set_option maxRecDepth 100000
namespace L2
open PySem PySem.Spec PyProof.Rows
theorem valV_getT {κ : Type} [DecidableEq κ] {kvs : List (κ × V)} {k : κ} {v : V} (h : valV kvs k = some v) : ∃ i : Nat, kvs[i]? = some (k, v) := by
  unfold valV at h
  cases hf : kvs.find? (fun kv => decide (kv.1 = k)) with
  | none => rw [hf] at h; cases h
  | some p =>
    rw [hf] at h
    have hk := List.find?_some hf
    have hm := List.mem_of_find?_eq_some hf
    obtain ⟨i, hi⟩ := List.mem_iff_getElem?.mp hm
    refine ⟨i, hi.trans ?_⟩
    have e1 : p.1 = k := of_decide_eq_true hk
    have e2 : p.2 = v := Option.some.inj h
    rw [← e1, ← e2]
end L2
set_option maxHeartbeats 4000000
set_option linter.all false
set_option maxRecDepth 100000
namespace L2
open PySem PySem.Spec
/-! ### dicts of pairs of numbers, their values numbers -/
def pq (a : Int × Int) : List Key := [.inl a.1, .inl a.2]
theorem pq_inj {a b : Int × Int} (h : pq a = pq b) : a = b := by
  unfold pq at h
  injection h with h1 h2
  injection h2 with h2 _
  exact Prod.ext (Sum.inl.inj h1) (Sum.inl.inj h2)
structure PD (kvs : List (List Key × V)) (g : Int × Int → Option Int) : Prop where
  nd : (kvs.map (·.1)).Nodup
  ks : ∀ p ∈ kvs, ∃ (a : Int × Int) (n : Int), p = (pq a, .int n)
  vl : ∀ a, valV kvs (pq a) = (g a).map V.int
theorem PD.nil : PD [] fun _ => none := ⟨List.nodup_nil, fun _ h => (nomatch h), fun _ => rfl⟩
theorem keys_put {κ : Type} [DecidableEq κ] (kvs : List (κ × V)) (k : κ) (v : V) : (putK kvs k v).map (·.1) = if k ∈ kvs.map (·.1) then kvs.map (·.1) else kvs.map (·.1) ++ [k] := by
  have hm : (kvs.any fun kv => decide (kv.1 = k)) = true ↔ k ∈ kvs.map (·.1) := by
    rw [List.any_eq_true, List.mem_map]
    constructor
    · rintro ⟨p, h1, h2⟩; exact ⟨p, h1, of_decide_eq_true h2⟩
    · rintro ⟨p, h1, h2⟩; exact ⟨p, h1, decide_eq_true h2⟩
  unfold putK
  by_cases h : (kvs.any fun kv => decide (kv.1 = k)) = true
  · rw [if_pos h, if_pos (hm.mp h), List.map_map]
    refine List.map_congr_left fun p _ => ?_
    show (if p.1 = k then (p.1, v) else p).1 = p.1
    split <;> rfl
  · rw [if_neg h, if_neg fun z => h (hm.mpr z), List.map_append]
    rfl
theorem PD.put {kvs : List (List Key × V)} {g : Int × Int → Option Int} (h : PD kvs g) (a : Int × Int) (n : Int) : PD (putK kvs (pq a) (.int n)) fun b => if b = a then some n else g b := by
  refine ⟨?_, fun p hp => ?_, fun b => ?_⟩
  · rw [keys_put]
    split
    · exact h.nd
    · rename_i hn
      refine List.nodup_append.mpr ⟨h.nd, List.nodup_cons.mpr ⟨fun z => (nomatch z), List.nodup_nil⟩, fun x hx y hy z => ?_⟩
      rw [List.mem_singleton.mp hy] at z
      rw [z] at hx
      exact hn hx
  · unfold putK at hp
    split at hp
    · obtain ⟨q, hq, rfl⟩ := List.mem_map.mp hp
      by_cases e : q.1 = pq a
      · exact ⟨a, n, by rw [if_pos e, e]⟩
      · rw [if_neg e]; exact h.ks q hq
    · rcases List.mem_append.mp hp with hp | hp
      · exact h.ks p hp
      · rw [List.mem_singleton.mp hp]; exact ⟨a, n, rfl⟩
  · rw [valV_put]
    by_cases e : b = a
    · rw [if_pos (by rw [e]), if_pos e]; rfl
    · rw [if_neg (fun z => e (pq_inj z)), if_neg e]; exact h.vl b
theorem valV_inK {κ : Type} [DecidableEq κ] {kvs : List (κ × V)} {k : κ} : (valV kvs k).isSome = true ↔ k ∈ kvs.map (·.1) := by
  rw [← valV_any, List.any_eq_true, List.mem_map]
  constructor
  · rintro ⟨p, h1, h2⟩; exact ⟨p, h1, of_decide_eq_true h2⟩
  · rintro ⟨p, h1, h2⟩; exact ⟨p, h1, decide_eq_true h2⟩
theorem PD.key {kvs : List (List Key × V)} {g : Int × Int → Option Int} (h : PD kvs g) {k : List Key} (hk : k ∈ kvs.map (·.1)) : ∃ a, k = pq a ∧ (g a).isSome = true := by
  obtain ⟨p, hp, rfl⟩ := List.mem_map.mp hk
  obtain ⟨a, n, e⟩ := h.ks p hp
  refine ⟨a, by rw [e], ?_⟩
  have := valV_inK.mpr hk
  rw [e] at this
  have e2 : valV kvs (pq a) = (g a).map V.int := h.vl a
  rw [show ((pq a, V.int n) : List Key × V).1 = pq a from rfl, e2, Option.isSome_map] at this
  exact this
theorem PD.at_ {kvs : List (List Key × V)} {g : Int × Int → Option Int} (h : PD kvs g) {i : Nat} {k : List Key} {v : V} (e : kvs[i]? = some (k, v)) : ∃ a n, k = pq a ∧ v = .int n ∧ g a = some n := by
  obtain ⟨a, n, e2⟩ := h.ks _ (List.mem_of_getElem? e)
  cases e2
  refine ⟨a, n, rfl, rfl, ?_⟩
  have hv : valV kvs (pq a) = some (.int n) := by
    have hs := valV_inK.mpr (List.mem_map.mpr ⟨_, List.mem_of_getElem? e, rfl⟩ : pq a ∈ kvs.map (·.1))
    obtain ⟨v', hv'⟩ := Option.isSome_iff_exists.mp hs
    obtain ⟨j, hj⟩ := valV_getT hv'
    have hij : i = j := by
      have h1 : (kvs.map (·.1))[i]? = some (pq a) := by rw [List.getElem?_map, e]; rfl
      have h2 : (kvs.map (·.1))[j]? = some (pq a) := by rw [List.getElem?_map, hj]; rfl
      obtain ⟨hi, e1⟩ := List.getElem?_eq_some_iff.mp h1
      obtain ⟨hj', e2⟩ := List.getElem?_eq_some_iff.mp h2
      exact (List.getElem_inj h.nd).mp (e1.trans e2.symm)
    rw [← hij, e] at hj
    cases hj
    exact hv'
  rw [h.vl] at hv
  cases hg : g a with
  | none => rw [hg] at hv; cases hv
  | some x => rw [hg] at hv; cases hv; rfl
theorem PD.eq {ka kb : List (List Key × V)} {g : Int × Int → Option Int} (ha : PD ka g) (hb : PD kb g) : ka.length = kb.length ∧ ∀ (i : Nat) (k : List Key) (v : V), ka[i]? = some (k, v) → ∃ n : Int, v = .int n ∧ valV kb k = some (.int n) := by
  have sub : ∀ {k1 k2 : List (List Key × V)}, PD k1 g → PD k2 g → k1.length ≤ k2.length := fun {k1 k2} h1 h2 => by
    have := List.Nodup.length_le_of_subset h1.nd (l₂ := k2.map (·.1)) fun k hk => by
      obtain ⟨a, rfl, hs⟩ := h1.key hk
      exact valV_inK.mp (by rw [h2.vl, Option.isSome_map]; exact hs)
    rwa [List.length_map, List.length_map] at this
  refine ⟨Nat.le_antisymm (sub ha hb) (sub hb ha), fun i k v e => ?_⟩
  obtain ⟨a, n, rfl, rfl, hg⟩ := ha.at_ e
  exact ⟨n, rfl, by rw [hb.vl, hg]; rfl⟩
def lt2 (x y : Int × Int × Int) : Prop := x.1 < y.1 ∨ (x.1 = y.1 ∧ x.2.1 < y.2.1)
end L2
set_option maxHeartbeats 4000000
set_option linter.all false
set_option maxRecDepth 100000
set_option maxHeartbeats 4000000
set_option linter.all false
set_option maxRecDepth 100000
set_option maxHeartbeats 4000000
set_option linter.all false
set_option maxRecDepth 100000
namespace L2
open PySem PySem.Spec
/-! ### states told apart by rounds -/
/-- a step leads: from the left, from the right -/
def ledOf (m : Mch) (p : Int) (st : Int × Int) : Int := if st.1 = 0 then stepOf m p st.2 else stepOf m st.2 p
/-- the states to which documents come -/
structure RchOk (m : Mch) (rs : List Int) : Prop where
  bd : ∀ x ∈ rs, 0 ≤ x ∧ x < (m.marks.length : Int)
  st : ∀ s ∈ m.starts, s ∈ rs
  clo : ∀ p ∈ rs, ∀ q ∈ rs, stepOf m p q ∈ rs
  min : ∀ P : Int → Prop, (∀ s ∈ m.starts, P s) → (∀ p q, P p → P q → P (stepOf m p q)) → ∀ x ∈ rs, P x
theorem RchOk.sub {m : Mch} {r1 r2 : List Int} (h1 : RchOk m r1) (h2 : RchOk m r2) : ∀ x ∈ r1, x ∈ r2 := h1.min (· ∈ r2) h2.st fun p q hp hq => h2.clo p hp q hq
def stepsL (rs : List Int) : List (Int × Int) := rs.flatMap fun r => [(0, r), (1, r)]
def mkI (m : Mch) (p : Int) : Int := (m.marks[p.toNat]?).getD 0
/-- a relation that marks and steps keep -/
structure Bis (m : Mch) (rs : List Int) (R : Int → Int → Prop) : Prop where
  mar : ∀ p q, R p q → mkI m p = mkI m q
  stp : ∀ p q, R p q → ∀ st ∈ stepsL rs, R (ledOf m p st) (ledOf m q st)
def clI (cl : List Nat) (p : Int) : Nat := (cl[p.toNat]?).getD 0
structure ClsOk (m : Mch) (rs : List Int) (cl : List Nat) : Prop where
  len : cl.length = m.marks.length
  le : ∀ p : Nat, p < cl.length → clI cl (p : Int) ≤ p
  id : ∀ p : Nat, p < cl.length → clI cl ((clI cl (p : Int) : Nat) : Int) = clI cl (p : Int)
  mar : ∀ p q : Nat, p < cl.length → q < cl.length → clI cl (p : Int) = clI cl (q : Int) → mkI m (p : Int) = mkI m (q : Int)
  co : ∀ R, Bis m rs R → ∀ p q : Nat, p < cl.length → q < cl.length → R (p : Int) (q : Int) → clI cl (p : Int) = clI cl (q : Int)
theorem get_lt {α : Type} {xs : List α} {p : Nat} (h : p < xs.length) : ∃ x, xs[p]? = some x := ⟨_, List.getElem?_eq_getElem h⟩
end L2
set_option maxHeartbeats 4000000
set_option linter.all false
set_option maxRecDepth 100000
namespace L2
open PySem PySem.Spec PyProof.Rows
theorem for_enumL {K : PySem.W.Frag} {a : Addr} {xs : List V} {g : TG} {tb : TS} {D : Ends} {σ : St} {H : Hp} (Pv : Nat → St → Hp → Prop) (h0 : Pv 0 σ H) (hl : ∀ i σ H, i ≤ xs.length → Pv i σ H → SqL K H a xs)
    (hs : ∀ i x σ H T, xs[i]? = some x → Pv i σ H → H T = none → g (.ref T) σ (upd H T (.tup [.int (i : Nat), x])) fun σ2 H2 => tb { D with nx := Pv (i + 1), ct := Pv (i + 1), bk := D.nx } σ2 H2) (hd : ∀ σ H, Pv xs.length σ H → D.nx σ H) :
    ∃ W : Nat → Nat → St → Hp → Prop, (∃ m, W 0 m σ H) ∧ ∀ i m σ H, W i m σ H →
      ((Ite K a).stop i H ∧ D.nx σ H) ∨ ((Ite K a).go i H ∧ ∃ N : St → Hp → Prop, (∀ σ' H', N σ' H' → ∃ m', m' < m ∧ W (i + 1) m' σ' H') ∧ ∀ y H', (Ite K a).yld i H y H' → g y σ H' fun σ2 H2 => tb { D with nx := N, ct := N, bk := D.nx } σ2 H2) := by
  refine ⟨fun i m σ H => m = xs.length - i ∧ i ≤ xs.length ∧ Pv i σ H, ⟨xs.length, by simp, Nat.zero_le _, h0⟩, ?_⟩
  rintro i m σ H ⟨rfl, hi, p⟩
  have q := hl i σ H hi p
  by_cases hlt : i < xs.length
  · refine .inr ⟨⟨xs, xs[i], q, by simp [hlt]⟩, Pv (i + 1), fun σ' H' p' => ⟨xs.length - (i + 1), by omega, rfl, hlt, p'⟩, fun y H' hy => ?_⟩
    obtain ⟨T, x, e1, e2, e3, e4⟩ := hy
    subst e1 e3
    exact hs i x σ H T (e4 xs q) p e2
  · have e : i = xs.length := by omega
    subst e
    exact .inl ⟨⟨xs, q, Nat.le_refl _⟩, hd σ H p⟩
end L2
set_option maxHeartbeats 4000000
set_option linter.all false
set_option maxRecDepth 100000
namespace L2
open PySem PySem.Spec PyProof.Rows
theorem lead_of : ∀ (l : List Nat), (∃ x ∈ l, isB x = false) → ∃ i c r, l = List.replicate i 32 ++ c :: r ∧ isB c = false
  | [], h => by obtain ⟨x, hx, _⟩ := h; cases hx
  | x :: r, h => by
    cases hb : isB x with
    | false => exact ⟨0, x, r, rfl, hb⟩
    | true =>
      have h2 : ∃ y ∈ r, isB y = false := by
        obtain ⟨y, hy, e⟩ := h
        rcases List.mem_cons.mp hy with z | z
        · rw [z, hb] at e; cases e
        · exact ⟨y, z, e⟩
      obtain ⟨i, c, r', e1, e2⟩ := lead_of r h2
      have hx : x = 32 := by unfold isB at hb; simpa using hb
      exact ⟨i + 1, c, r', by rw [List.replicate_succ, hx, e1]; rfl, e2⟩
theorem strip_some {l : List Nat} (h : ∃ x ∈ l, isB x = false) : ∃ c m, Txt.stripChars (ofL l) " " = ofL (c :: m) := by
  obtain ⟨i, c, r, e1, e2⟩ := lead_of l h
  obtain ⟨j, c', r', e3, e4⟩ := lead_of (c :: r).reverse ⟨c, by simp, e2⟩
  have e5 : c :: r = (c' :: r').reverse ++ List.replicate j 32 := by
    have := congrArg List.reverse e3
    rw [List.reverse_reverse, List.reverse_append, List.reverse_replicate] at this
    exact this
  cases em : (c' :: r').reverse with
  | nil => simp at em
  | cons d m =>
    have hd : d = c := by
      rw [em] at e5
      injection e5 with e5 _
      exact e5.symm
    refine ⟨d, m, ?_⟩
    rw [e1, e5, em, ← List.append_assoc]
    exact strip_mid (m := d :: m) rfl (by rw [hd]; exact e2) (by rw [← em, List.reverse_reverse]) e4
/-! ### the texts of rules -/
abbrev Rule := Str × List Tr
def ruleL (r : Rule) : List Nat := r.1.cps.toList ++ (32 :: 45 :: 62 :: Tr.cl r.2)
def ruleT (r : Rule) : Str := ofL (ruleL r)
structure RlOk (r : Rule) : Prop where
  nm : nameF r.1 = true
  its : Tr.fsI r.2 = true
  sz : Tr.sizes r.2 ≤ 200
theorem ar_is : (" ->" : Str) = ⟨#[32, 45, 62]⟩ := by decide +kernel
theorem sc_is : (";" : Str) = ⟨#[59]⟩ := by decide +kernel
theorem ss_is : ("; " : Str) = ⟨#[59, 32]⟩ := by decide +kernel
theorem star_l : ("*" : Str).cps.toList = [42] := by decide +kernel
theorem let_no {c : Nat} (h : isLet c = true) : c ≠ 59 ∧ c ≠ 32 := by
  constructor
  · intro e; rw [e] at h; exact absurd h (by decide)
  · intro e; rw [e] at h; exact absurd h (by decide)
theorem name_no {n : Str} (h : nameF n = true) : ∀ c ∈ n.cps.toList, c ≠ 59 ∧ c ≠ 32 := fun c hc => by
  have h3 := (nameF_len h).2.2
  rw [List.all_eq_true] at h3
  exact let_no (h3 c hc)
mutual
theorem tl_no : ∀ t : Tr, t.fI = true → ∀ c ∈ t.tl, c ≠ 59
  | .node n ks, h, c, hc => by
    have hn : ∀ c ∈ n.cps.toList, c ≠ 59 := by
      rcases (fI_node h).1 with h1 | ⟨rfl, _⟩
      · exact fun c hc => (name_no h1 c hc).1
      · intro c hc
        rw [star_l] at hc
        rw [List.mem_singleton.mp hc]
        decide
    have hk := cl_no ks (fI_node h).2
    have hc : c ∈ n.cps.toList ++ (if ks.isEmpty then [] else 40 :: ((Tr.cl ks).tail ++ [41])) := hc
    rcases List.mem_append.mp hc with hc | hc
    · exact hn c hc
    · split at hc
      · cases hc
      · rcases List.mem_cons.mp hc with e | hc
        · rw [e]; decide
        · rcases List.mem_append.mp hc with hc | hc
          · exact hk c (List.mem_of_mem_tail hc)
          · rw [List.mem_singleton.mp hc]; decide
  | .bad, h, _, _ => by cases h
theorem cl_no : ∀ ts : List Tr, Tr.fsI ts = true → ∀ c ∈ Tr.cl ts, c ≠ 59
  | [], _, c, hc => (nomatch hc)
  | t :: r, h, c, hc => by
    have hc : c ∈ 32 :: (t.tl ++ Tr.cl r) := hc
    rcases List.mem_cons.mp hc with e | hc
    · rw [e]; decide
    · rcases List.mem_append.mp hc with hc | hc
      · exact tl_no t (fsI_cons h).1 c hc
      · exact cl_no r (fsI_cons h).2 c hc
end
theorem rule_no {r : Rule} (h : RlOk r) : ∀ c ∈ ruleL r, c ≠ 59 := fun c hc => by
  rcases List.mem_append.mp hc with hc | hc
  · exact (name_no h.nm c hc).1
  · rcases List.mem_cons.mp hc with e | hc
    · rw [e]; decide
    rcases List.mem_cons.mp hc with e | hc
    · rw [e]; decide
    rcases List.mem_cons.mp hc with e | hc
    · rw [e]; decide
    · exact cl_no _ h.its c hc
/-- no text of a tree ends with a blank -/
theorem tl_end : ∀ t : Tr, t.fI = true → ∃ c r, t.tl.reverse = c :: r ∧ isB c = false
  | .node n [], h => by
    rw [tl_nil]
    rcases (fI_node h).1 with h1 | ⟨rfl, _⟩
    · cases e : n.cps.toList.reverse with
      | nil =>
        have := congrArg List.length e
        rw [List.length_reverse, len_toList] at this
        have h2 := (nameF_len h1).1
        rw [this] at h2
        exact absurd h2 (by decide)
      | cons c r =>
        have hc : c ∈ n.cps.toList := by
          have : c ∈ n.cps.toList.reverse := by rw [e]; exact List.mem_cons_self
          simpa using this
        refine ⟨c, r, rfl, ?_⟩
        have := (name_no h1 c hc).2
        unfold isB
        simpa using this
    · exact ⟨42, [], by rw [star_l]; rfl, by decide⟩
  | .node n (k :: ks), h => ⟨41, _, by rw [tl_cons, List.reverse_append, List.reverse_cons, List.reverse_append, List.reverse_append]; rfl, by decide⟩
  | .bad, h => by cases h
theorem cl_end : ∀ ts : List Tr, Tr.fsI ts = true → ts ≠ [] → ∃ c r, (Tr.cl ts).reverse = c :: r ∧ isB c = false
  | [], _, h => absurd rfl h
  | [t], h, _ => by
    obtain ⟨c, r, e1, e2⟩ := tl_end t (fsI_cons h).1
    refine ⟨c, r ++ [32], ?_, e2⟩
    show (32 :: (t.tl ++ [])).reverse = _
    rw [List.append_nil, List.reverse_cons, e1]
    rfl
  | t :: u :: r, h, _ => by
    obtain ⟨c, q, e1, e2⟩ := cl_end (u :: r) (fsI_cons h).2 (by simp)
    refine ⟨c, q ++ (t.tl.reverse ++ [32]), ?_, e2⟩
    show (32 :: (t.tl ++ Tr.cl (u :: r))).reverse = _
    rw [List.reverse_cons, List.reverse_append, e1]
    simp
theorem rule_end {r : Rule} (h : RlOk r) : ∃ c q, (ruleL r).reverse = c :: q ∧ isB c = false := by
  unfold ruleL
  cases e : r.2 with
  | nil => exact ⟨62, _, by rw [List.reverse_append]; rfl, by decide⟩
  | cons t ts =>
    obtain ⟨c, q, e1, e2⟩ := cl_end r.2 h.its (by rw [e]; simp)
    rw [e] at e1
    exact ⟨c, _, by rw [List.reverse_append, List.reverse_cons, List.reverse_cons, List.reverse_cons, e1]; rfl, e2⟩
theorem rule_head {r : Rule} (h : RlOk r) : ∃ c q, ruleL r = c :: q ∧ isB c = false := by
  unfold ruleL
  cases e : r.1.cps.toList with
  | nil =>
    have := congrArg List.length e
    rw [len_toList] at this
    have h2 := (nameF_len h.nm).1
    rw [this] at h2
    exact absurd h2 (by decide)
  | cons c q =>
    refine ⟨c, _, rfl, ?_⟩
    have := (name_no h.nm c (by rw [e]; exact List.mem_cons_self)).2
    unfold isB
    simpa using this
/-- a rule's text with blanks about it -/
def PartOk (p : Str) (r : Rule) : Prop := ∃ i j : Nat, p = ofL (List.replicate i 32 ++ ruleL r ++ List.replicate j 32)
theorem part_strip {p : Str} {r : Rule} (hp : PartOk p r) (h : RlOk r) : Txt.stripChars p " " = ruleT r := by
  obtain ⟨i, j, rfl⟩ := hp
  obtain ⟨c, q, e1, e2⟩ := rule_head h
  obtain ⟨c', q', e3, e4⟩ := rule_end h
  exact strip_mid e1 e2 e3 e4
theorem part_no {p : Str} {r : Rule} (hp : PartOk p r) (h : RlOk r) : 59 ∉ p.cps.toList := by
  obtain ⟨i, j, rfl⟩ := hp
  intro hc
  have hc : 59 ∈ List.replicate i 32 ++ ruleL r ++ List.replicate j 32 := hc
  rcases List.mem_append.mp hc with hc | hc
  · rcases List.mem_append.mp hc with hc | hc
    · have := List.eq_of_mem_replicate hc; omega
    · exact rule_no h _ hc rfl
  · have := List.eq_of_mem_replicate hc; omega
theorem part_some {p : Str} {r : Rule} (hp : PartOk p r) (h : RlOk r) : ∃ x ∈ p.cps.toList, isB x = false := by
  obtain ⟨i, j, rfl⟩ := hp
  obtain ⟨c, q, e1, e2⟩ := rule_head h
  refine ⟨c, ?_, e2⟩
  show c ∈ List.replicate i 32 ++ ruleL r ++ List.replicate j 32
  rw [e1]
  simp
theorem rule_partition {r : Rule} (h : RlOk r) : Txt.partition (ruleT r) " ->" = (r.1, (" ->" : Str), ofL (Tr.cl r.2)) := by
  have e : ruleT r = r.1 ++ " ->" ++ ofL (Tr.cl r.2) := by
    refine str_ext ?_
    rw [cps_app, cps_app, ar_is]
    show ruleL r = r.1.cps.toList ++ [32, 45, 62] ++ Tr.cl r.2
    unfold ruleL
    simp
  rw [e]
  refine TL.partition_app (s := 32) (S := [45, 62]) (by rw [ar_is]) fun hc => ?_
  exact (name_no h.nm 32 hc).2 rfl
/-- the parts of a text of rules -/
theorem parts_split {ps : List Str} {rs : List Rule} (hne : ps ≠ []) (hp : ∀ p ∈ ps, ∃ r, PartOk p r ∧ RlOk r) : Txt.split (Txt.join ";" ps) ";" = ps := by
  refine TL.split_join (s := 59) (S := []) (by rw [sc_is]) (by decide +kernel) hne fun p h => ?_
  obtain ⟨r, h1, h2⟩ := hp p h
  exact part_no h1 h2
theorem joinL_mem {S p : List Nat} : ∀ {l : List (List Nat)}, p ∈ l → ∀ x ∈ p, x ∈ TL.joinL S l
  | [], h, _, _ => (nomatch h)
  | [q], h, x, hx => by
    rw [List.mem_singleton.mp h] at hx
    exact hx
  | q :: q2 :: r, h, x, hx => by
    show x ∈ q ++ (S ++ TL.joinL S (q2 :: r))
    rcases List.mem_cons.mp h with e | h
    · rw [e] at hx
      exact List.mem_append_left _ hx
    · exact List.mem_append_right _ (List.mem_append_right _ (joinL_mem h x hx))
theorem parts_some {ps : List Str} (hne : ps ≠ []) (hp : ∀ p ∈ ps, ∃ r, PartOk p r ∧ RlOk r) : ∃ c m, Txt.stripChars (Txt.join ";" ps) " " = ofL (c :: m) := by
  have e : Txt.join ";" ps = ofL (Txt.join ";" ps).cps.toList := str_of _
  rw [e]
  refine strip_some ?_
  cases ps with
  | nil => exact absurd rfl hne
  | cons p r =>
    obtain ⟨rl, h1, h2⟩ := hp p List.mem_cons_self
    obtain ⟨x, hx, hb⟩ := part_some h1 h2
    refine ⟨x, ?_, hb⟩
    have e2 : (Txt.join ";" (p :: r)).cps.toList = TL.joinL (TL.tl ";") ((p :: r).map TL.tl) := by
      rw [TL.join_eq]
      exact TL.tl_join ";" (p :: r)
    rw [e2]
    exact joinL_mem (List.mem_map_of_mem List.mem_cons_self) x hx
/-- rules as they stand -/
inductive RulesAt (H : Hp) : List V → List Rule → Prop
  | nil : RulesAt H [] []
  | cons {a c : Addr} {r : Rule} {us vs : List V} {rs : List Rule} : H a = some (.tup [.str r.1, .ref c]) → H c = some (.tup us) → StsAt H us r.2 → RulesAt H vs rs → RulesAt H (.ref a :: vs) (r :: rs)
theorem RulesAt.kp {H H' : Hp} (k : Kp H H') : ∀ {vs : List V} {rs : List Rule}, RulesAt H vs rs → RulesAt H' vs rs
  | _, _, .nil => .nil
  | _, _, .cons a b c d => .cons (k.tup _ _ a) (k.tup _ _ b) (c.kp k) (d.kp k)
theorem RulesAt.len {H : Hp} : ∀ {vs : List V} {rs : List Rule}, RulesAt H vs rs → vs.length = rs.length
  | _, _, .nil => rfl
  | _, _, .cons _ _ _ h => congrArg (· + 1) h.len
theorem RulesAt.snoc {H : Hp} {a c : Addr} {r : Rule} {us : List V} (h1 : H a = some (.tup [.str r.1, .ref c])) (h2 : H c = some (.tup us)) (h3 : StsAt H us r.2) : ∀ {vs : List V} {rs : List Rule}, RulesAt H vs rs → RulesAt H (vs ++ [.ref a]) (rs ++ [r])
  | _, _, .nil => .cons h1 h2 h3 .nil
  | _, _, .cons a b c d => .cons a b c (d.snoc h1 h2 h3)
theorem RulesAt.get {H : Hp} : ∀ {vs : List V} {rs : List Rule} {i : Nat} {v : V}, RulesAt H vs rs → vs[i]? = some v → ∃ (r : Rule) (a c : Addr) (us : List V), rs[i]? = some r ∧ v = .ref a ∧ H a = some (.tup [.str r.1, .ref c]) ∧ H c = some (.tup us) ∧ StsAt H us r.2
  | _, _, i, v, .nil, h => by simp at h
  | _, _, 0, v, .cons a b c d, h => by
    cases h
    exact ⟨_, _, _, _, rfl, rfl, a, b, c⟩
  | _, _, i + 1, v, .cons a b c d, h => by
    obtain ⟨r, x, y, us, h1, h2, h3, h4, h5⟩ := RulesAt.get (i := i) d (by simpa using h)
    exact ⟨r, x, y, us, by simpa using h1, h2, h3, h4, h5⟩
end L2
set_option maxHeartbeats 4000000
set_option linter.all false
set_option maxRecDepth 100000
namespace L2
open PySem PySem.Spec PyProof.Rows
mutual
def Tr.itm : Tr → Itm
  | .node n ks => if n = "*" then .hole else .node n (Tr.itms ks)
  | .bad => .hole
def Tr.itms : List Tr → List Itm
  | [] => []
  | t :: r => t.itm :: Tr.itms r
end
mutual
theorem StAt.it {H : Hp} {v : V} {t : Tr} : StAt H v t → ItAt H v t.itm
  | .star => by
    show ItAt H (.str "*") (if ("*" : Str) = "*" then .hole else .node "*" (Tr.itms []))
    rw [if_pos rfl]
    exact .hole
  | .node (n := n) (ks := ks) a b c d => by
    have hn : ¬ n = "*" := fun e => by rw [e, star_no] at c; cases c
    show ItAt H _ (if n = "*" then .hole else .node n (Tr.itms ks))
    rw [if_neg hn]
    exact .node a b c (StsAt.its d)
theorem StsAt.its {H : Hp} {vs : List V} {ts : List Tr} : StsAt H vs ts → ItsAt H vs (Tr.itms ts)
  | .nil => .nil
  | .cons a b => .cons a.it (StsAt.its b)
end
mutual
theorem itm_ht : ∀ t : Tr, t.itm.ht ≤ t.ht
  | .node n ks => by
    have := itms_ht ks
    show Itm.ht (if n = "*" then .hole else .node n (Tr.itms ks)) ≤ 1 + Tr.hts ks
    split
    · show 0 ≤ _; omega
    · show 1 + Itm.hts (Tr.itms ks) ≤ _; omega
  | .bad => Nat.zero_le _
theorem itms_ht : ∀ ts : List Tr, Itm.hts (Tr.itms ts) ≤ Tr.hts ts
  | [] => Nat.le_refl _
  | t :: r => by
    have h1 := itm_ht t
    have h2 := itms_ht r
    show max t.itm.ht (Itm.hts (Tr.itms r)) ≤ max t.ht (Tr.hts r)
    omega
end
mutual
theorem tr_ht : ∀ i : Itm, i.tr.ht ≤ i.ht + 1
  | .hole => by show 1 + 0 ≤ 0 + 1; omega
  | .node z ks => by
    have := trs_ht ks
    show 1 + Tr.hts (Itm.trs ks) ≤ 1 + Itm.hts ks + 1
    omega
theorem trs_ht : ∀ is : List Itm, Tr.hts (Itm.trs is) ≤ Itm.hts is + 1
  | [] => Nat.zero_le _
  | t :: r => by
    have h1 := tr_ht t
    have h2 := trs_ht r
    show max t.tr.ht (Tr.hts (Itm.trs r)) ≤ max t.ht (Itm.hts r) + 1
    omega
end
mutual
theorem tr_size : ∀ i : Itm, i.tr.size = i.size
  | .hole => rfl
  | .node z ks => by
    have := trs_sizes ks
    show 1 + Tr.sizes (Itm.trs ks) = 1 + Itm.sizes ks
    omega
theorem trs_sizes : ∀ is : List Itm, Tr.sizes (Itm.trs is) = Itm.sizes is
  | [] => rfl
  | t :: r => by
    have h1 := tr_size t
    have h2 := trs_sizes r
    show t.tr.size + Tr.sizes (Itm.trs r) = t.size + Itm.sizes r
    omega
end
theorem ht_posS : ∀ t : Tr, 1 ≤ t.ht
  | .node _ ks => by show 1 ≤ 1 + Tr.hts ks; omega
  | .bad => Nat.le_refl _
/-! ### values that tell the same -/
inductive SaAt (H : Hp) : Nat → V → V → Prop
  | str (z : Str) (n : Nat) : SaAt H n (.str z) (.str z)
  | tup {a b : Addr} {us vs : List V} {n : Nat} : H a = some (.tup us) → H b = some (.tup vs) → us.length = vs.length → us.length ≤ 1000 → (∀ (i : Nat) (x y : V), us[i]? = some x → vs[i]? = some y → SaAt H n x y) → SaAt H (n + 1) (.ref a) (.ref b)
theorem SaAt.same {H H' : Hp} (s : Same H H') : ∀ {n : Nat} {x y : V}, SaAt H n x y → SaAt H' n x y
  | _, _, _, .str z n => .str z n
  | _, _, _, .tup a b c d e => .tup (s _ _ a) (s _ _ b) c d fun i x y hx hy => (e i x y hx hy).same s
theorem sa_pair {H : Hp} {n : Nat} {a b : Addr} {x y x' y' : V} (ha : H a = some (.tup [x, y])) (hb : H b = some (.tup [x', y'])) (h1 : SaAt H n x x') (h2 : SaAt H n y y') : SaAt H (n + 1) (.ref a) (.ref b) := by
  refine .tup ha hb rfl (by show 2 ≤ 1000; decide) fun i u v hu hv => ?_
  match i, hu, hv with
  | 0, hu, hv => cases hu; cases hv; exact h1
  | 1, hu, hv => cases hu; cases hv; exact h2
theorem st_sa {H : Hp} : ∀ {n : Nat} {t : Tr} {v u : V}, StAt H v t → StAt H u t → t.ht ≤ n → t.size ≤ 900 → SaAt H (2 * n) v u
  | 0, t, _, _, _, _, h, _ => by have := ht_posS t; omega
  | n + 1, t, v, u, h1, h2, hh, hz => by
    cases h1 with
    | star =>
      cases h2 with
      | star => exact .str _ _
      | node _ _ c _ => rw [star_no] at c; cases c
    | @node a c m us ks p1 p2 p3 p4 =>
      cases h2 with
      | star => rw [star_no] at p3; cases p3
      | @node a' c' _ us' _ q1 q2 q3 q4 =>
        have g1 : 1 + Tr.hts ks ≤ n + 1 := hh
        have g2 : 1 + Tr.sizes ks ≤ 900 := hz
        refine sa_pair (n := 2 * n + 1) p1 q1 (.str _ _) (.tup (n := 2 * n) p2 q2 (by rw [p4.len, q4.len]) (by have := len_le_sizes ks; rw [p4.len]; omega) fun i x y hx hy => ?_)
        obtain ⟨t1, e1, f1⟩ := p4.get hx
        obtain ⟨t2, e2, f2⟩ := q4.get hy
        rw [e1] at e2
        cases e2
        have := ht_get e1
        have := size_get e1
        exact st_sa f1 f2 (by omega) (by omega)
theorem rules_sa {H : Hp} {a b : Addr} {us vs : List V} {rs : List Rule} (ha : H a = some (.tup us)) (hb : H b = some (.tup vs)) (h1 : RulesAt H us rs) (h2 : RulesAt H vs rs) (hr : ∀ r ∈ rs, Tr.hts r.2 ≤ 20 ∧ Tr.sizes r.2 ≤ 200) (hl : rs.length ≤ 20) : SaAt H 43 (.ref a) (.ref b) := by
  refine .tup (n := 42) ha hb (by rw [h1.len, h2.len]) (by rw [h1.len]; omega) fun i x y hx hy => ?_
  obtain ⟨r, a1, c1, w1, e1, rfl, p1, p2, p3⟩ := h1.get hx
  obtain ⟨r2, a2, c2, w2, e2, rfl, q1, q2, q3⟩ := h2.get hy
  rw [e1] at e2
  cases e2
  obtain ⟨g1, g2⟩ := hr r (List.mem_of_getElem? e1)
  refine sa_pair (n := 41) p1 q1 (.str _ _) (.tup (n := 40) p2 q2 (by rw [p3.len, q3.len]) (by have := len_le_sizes r.2; rw [p3.len]; omega) fun i x y hx hy => ?_)
  obtain ⟨t1, e1, f1⟩ := p3.get hx
  obtain ⟨t2, e2, f2⟩ := q3.get hy
  rw [e1] at e2
  cases e2
  have := ht_get e1
  have := size_get e1
  exact st_sa (n := 20) f1 f2 (by omega) (by omega)
/-! ### the texts of rules, joined -/
theorem join_ss : ∀ (r : List Str) (t p : Str), p ++ Str.join "; " (t :: r) = Str.join ";" ((p ++ t) :: r.map fun x : Str => (" " : Str) ++ x)
  | [], t, p => rfl
  | u :: r, t, p => by
    show p ++ (t ++ "; " ++ Str.join "; " (u :: r)) = (p ++ t) ++ ";" ++ Str.join ";" (((" " : Str) ++ u) :: r.map fun x : Str => (" " : Str) ++ x)
    rw [← join_ss r u " "]
    refine str_ext ?_
    simp only [cps_app, List.append_assoc]
    rw [ss_is, sc_is, bl_is]
    rfl
def lead : List Str → List Str
  | [] => []
  | t :: r => t :: r.map fun x : Str => (" " : Str) ++ x
theorem join_lead : ∀ ts : List Str, ts ≠ [] → Txt.join "; " ts = Txt.join ";" (lead ts)
  | [], h => absurd rfl h
  | t :: r, _ => by
    have e1 : Txt.join "; " (t :: r) = Str.join "; " (t :: r) := PySem.StrLaws.glued_eq_join "; " _
    have e2 : Txt.join ";" (lead (t :: r)) = Str.join ";" (lead (t :: r)) := PySem.StrLaws.glued_eq_join ";" _
    rw [e1, e2]
    have := join_ss r t ""
    have e0 : ∀ z : Str, "" ++ z = z := fun z => str_ext (by rw [cps_app, em_is]; rfl)
    rw [e0, e0] at this
    exact this
theorem lead_len (ts : List Str) : (lead ts).length = ts.length := by
  cases ts with
  | nil => rfl
  | cons t r => show (t :: r.map _).length = _; simp
theorem lead_get {rs : List Rule} {i : Nat} {x : Str} {r : Rule} (hx : (lead (rs.map ruleT))[i]? = some x) (hr : rs[i]? = some r) : PartOk x r ∧ (x.length ≤ (ruleT r).length + 1) := by
  cases rs with
  | nil => cases hr
  | cons r0 q =>
    cases i with
    | zero =>
      cases hr
      cases hx
      exact ⟨⟨0, 0, by show ruleT _ = ofL ([] ++ ruleL _ ++ []); rw [List.nil_append, List.append_nil]; rfl⟩, Nat.le_succ _⟩
    | succ i =>
      have hx' : ((q.map ruleT).map fun x : Str => (" " : Str) ++ x)[i]? = some x := hx
      have hr' : q[i]? = some r := hr
      rw [List.getElem?_map, List.getElem?_map, hr'] at hx'
      cases hx'
      refine ⟨⟨1, 0, ?_⟩, ?_⟩
      · refine str_ext ?_
        rw [cps_app, bl_is]
        show [32] ++ ruleL r = [32] ++ ruleL r ++ []
        rw [List.append_nil]
      · rw [app_len]
        have : (" " : Str).length = 1 := by rw [bl_is]; rfl
        omega
theorem join_blI : ∀ {ks : List Tr}, Txt.join " " (ks.map Tr.txt) = jS ks := by
  intro ks
  have e0 : Txt.join " " (ks.map Tr.txt) = Str.join " " (ks.map Tr.txt) := PySem.StrLaws.glued_eq_join " " _
  rw [e0]
  clear e0
  induction ks with
  | nil => rw [jS_nil]; rfl
  | cons x r ih =>
    cases r with
    | nil => rw [jS_one]; rfl
    | cons y r =>
      rw [jS_cons (by simp), ← ih]
      rfl
theorem sum_txtI : ∀ ks : List Tr, ((ks.map Tr.txt).map (·.length)).sum + ks.length = (Tr.cl ks).length
  | [] => rfl
  | t :: r => by
    have := sum_txtI r
    show t.txt.length + ((r.map Tr.txt).map (·.length)).sum + (r.length + 1) = (32 :: (t.tl ++ Tr.cl r)).length
    rw [List.length_cons, List.length_append, txt_len]
    omega
theorem sjoin_len (s : Str) : ∀ ps : List Str, (Str.join s ps).length ≤ (ps.map (·.length)).sum + ps.length * s.length
  | [] => by rw [show Str.join s [] = "" from rfl, em_is]; exact Nat.zero_le _
  | [t] => by
    show t.length ≤ (t.length + 0) + 1 * s.length
    omega
  | t :: u :: r => by
    have h := sjoin_len s (u :: r)
    show (t ++ s ++ Str.join s (u :: r)).length ≤ (t.length + ((u :: r).map (·.length)).sum) + ((u :: r).length + 1) * s.length
    rw [app_len, app_len, Nat.add_mul, Nat.one_mul]
    omega
theorem tjoin_len (s : Str) (ps : List Str) : (Txt.join s ps).length ≤ (ps.map (·.length)).sum + ps.length * s.length := by
  have e : Txt.join s ps = Str.join s ps := PySem.StrLaws.glued_eq_join s _
  rw [e]
  exact sjoin_len s ps
theorem set_last (us : List V) (x v : V) : (us ++ [x]).set us.length v = us ++ [v] := by
  induction us with
  | nil => rfl
  | cons u r ih => show u :: (r ++ [x]).set r.length v = u :: (r ++ [v]); rw [ih]
/-! ### nine names, told two by two -/
def ix9 (f : Int) (k : Nat) : Nat := ((f + 2 * (k : Int)) % 9).toNat
theorem ix9_lt (f : Int) (k : Nat) : ix9 f k < 9 := by unfold ix9; omega
theorem ix9_inj {f : Int} {a b : Nat} (ha : a < 9) (hb : b < 9) (h : ix9 f a = ix9 f b) : a = b := by
  unfold ix9 at h
  omega
theorem get_inj {zs : List Str} (hz : zs.Nodup) {a b : Nat} {z : Str} (h1 : zs[a]? = some z) (h2 : zs[b]? = some z) : a = b := by
  obtain ⟨l1, e1⟩ := List.getElem?_eq_some_iff.mp h1
  obtain ⟨l2, e2⟩ := List.getElem?_eq_some_iff.mp h2
  have hp := List.pairwise_iff_getElem.mp hz
  rcases Nat.lt_trichotomy a b with h | h | h
  · exact absurd (e1.trans e2.symm) (hp a b l1 l2 h)
  · exact h
  · exact absurd (e2.trans e1.symm) (hp b a l2 l1 h)
theorem nodup_ixS {zs ns : List Str} {f : Int} (hz : zs.Nodup) (hn : ns.length ≤ 9) (h : ∀ (i : Nat) (z : Str), ns[i]? = some z → zs[ix9 f i]? = some z) : ns.Nodup := by
  refine List.pairwise_iff_getElem.mpr fun i j hi hj hij e => ?_
  have h1 := h i _ (List.getElem?_eq_getElem hi)
  have h2 := h j _ (List.getElem?_eq_getElem hj)
  rw [e] at h1
  have := ix9_inj (by omega) (by omega) (get_inj hz h1 h2)
  omega
theorem nodup_ixS8 {zs ns : List Str} {f : Int} {z : Str} (hz : zs.Nodup) (hn : ns.length ≤ 8) (h : ∀ (i : Nat) (z : Str), ns[i]? = some z → zs[ix9 f i]? = some z) (hz8 : zs[ix9 f 8]? = some z) : (ns ++ [z]).Nodup := by
  rw [List.nodup_append]
  refine ⟨nodup_ixS hz (by omega) h, by simp, fun a ha b hb e => ?_⟩
  rw [List.mem_singleton.mp hb] at e
  rw [e] at ha
  obtain ⟨i, hi⟩ := List.mem_iff_getElem?.mp ha
  have hl := (List.getElem?_eq_some_iff.mp hi).1
  have := ix9_inj (by omega) (by omega) (get_inj hz (h i _ hi) hz8)
  omega
end L2
set_option maxHeartbeats 4000000
set_option linter.all false
set_option maxRecDepth 100000
namespace G72
open PySem L2
section
variable {P : Program} {w : World} {K : PySem.W.Frag} {mg : Str → Option Value} {base : Heap}
def spShown (d : Nat) : Sp := fun vs H Q _ => ∃ (I : Addr) (us : List V) (ks : List Tr), vs = [.ref I] ∧ H I = some (.tup us) ∧ StsAt H us ks ∧ Tr.hts ks < d ∧ Tr.hts ks ≤ 20 ∧ Tr.sizes ks ≤ 200 ∧ ∀ H', Same H H' → Q (.str (jS ks)) H'
theorem jS_lenI {ks : List Tr} (h : Tr.fsI ks = true) : (jS ks).length ≤ 11 * Tr.sizes ks := by
  have h1 := clI_len ks h
  have h2 : (jS ks).length = (Tr.cl ks).tail.length := by simp [jS, Tr.jl, Str.length]
  rw [h2, List.length_tail]
  omega
theorem sc_shown : FnScope ["_law_items_here", "_law_found", "_law_item", "_law_text"] ["_law_items_here"] (defScope (top 34)) := ⟨rfl, rfl, rfl, by decide +kernel, rfl, by decide +kernel, by decide +kernel⟩
theorem ok_shown (F : Dfn K mg "_law_shown" (top 34) ["_law_items_here"]) (T : Txt K mg) : ∀ d : Nat, Cal P w K mg base (d + 1) "_law_shown" ["_law_items_here"] (spShown d)
  | 0 => F.cal sc_shown (fun vs H Q E h => by obtain ⟨I, us, ks, rfl, _⟩ := h; rfl) (fun f cdv A outer s H vs Q E hr h => by
      obtain ⟨I, us, ks, rfl, _, _, h1, _⟩ := h
      exact absurd h1 (Nat.not_lt_zero _))
  | d + 1 => by
    refine F.cal sc_shown (fun vs H Q E h => by obtain ⟨I, us, ks, rfl, _⟩ := h; rfl) (fun f cdv A outer s H vs Q E hr h => ?_)
    have nd := sc_shown.nd
    obtain ⟨I, us, ks, rfl, hI, hks, hht, hht2, hsz, q⟩ := h
    refine ⟨_, (pss_cons (ps_set (i := 1) nd rfl (Or.inl rfl) (pe_lst pa_nil))
      (pss_cons (ps_for PassesOwn.never rfl (pi_tup (pv 0)) (pg_name (i := 2) nd rfl (Or.inl rfl))
        (pss_cons (ps_set (i := 3) nd rfl (Or.inl rfl) (pv 2))
      (pss_cons (ps_if (pt_cmpR (op_neD hr.units) (pv 2) pe_str (nomark _)) (pss_cons (ps_set (i := 3) nd rfl (Or.inl rfl) (pe_ix ix_tup (pv 2) pe_int (fun _ _ => rfl)))
      (pss_one (ps_if (pt_cmpR op_gt (pe_callB call_len_seq (by rfl) T.len PySem.boot_len (pa_cons (pe_ix ix_tup (pv 2) pe_int (fun _ _ => rfl)) pa_nil)) pe_int (nomark _)) (pss_one (ps_set (i := 3) nd rfl (Or.inl rfl) (pe_op op_add_str (pe_op op_add_str (pe_op op_add_str (pv 3) pe_str) (pe_cal (ok_shown F T d) hr rfl (pa_cons (pe_ix ix_tup (pv 2) pe_int (fun _ _ => rfl)) pa_nil))) pe_str))) pss_nil))) pss_nil)
      (pss_one (ps_expr (pe_bm PySem.F.plainAttrs_list PySem.F.slot_list_append PySem.F.type_list_append mt_append (pv 1) (pa_cons (pv 3) pa_nil)))))))
      (pss_one (ps_ret (pe_join pe_str (pv 1)))))), ?_⟩
    have small : ∀ m : Nat, m ≤ 100000 → m < sizeLine := fun m hm => Nat.lt_of_le_of_lt hm (by decide)
    have small' : ∀ m : Nat, m ≤ 100000 → m ≤ sizeLine := fun m hm => Nat.le_trans hm (by decide)
    have hul := hks.len
    have hsl := len_le_sizes ks
    refine ⟨(by show 0 ≤ sizeLine; decide), fun D hD => ?_⟩
    have sD := same_new (o := .lst []) hD
    refine ⟨_, rfl, I, rfl, ⟨_, SqT.of (sD _ _ hI)⟩, ?_⟩
    refine for_tup (K := K) (a := I) (xs := us) (fun i σ H2 => ∃ (o1 o2 : Option V), σ = [some (.ref I), some (.ref D), o1, o2] ∧ H2 D = some (.lst (((ks.take i).map Tr.txt).map V.str)) ∧ Same H H2) ⟨_, _, rfl, upd_same, sD⟩ (fun i σ H2 _ ⟨_, _, _, _, s2⟩ => SqT.of (s2 _ _ hI)) ?_ ?_
    · rintro i x σ H2 hx ⟨o1, o2, rfl, hd, s2⟩
      obtain ⟨k, hk, hkx⟩ := hks.get hx
      have g1 := ht_get hk
      have g2 := size_get hk
      have hk2 := hkx.kp (Kp.same s2)
      have hil := (List.getElem?_eq_some_iff.mp hk).1
      have add : ∀ (H3 : Hp), Same H2 H3 → ∃ ac, H3 D = some (.lst ac) ∧ ac.length < sizeLine ∧ (upd H3 D (.lst (ac ++ [.str k.txt]))) D = some (.lst (((ks.take (i + 1)).map Tr.txt).map V.str)) ∧ Same H (upd H3 D (.lst (ac ++ [.str k.txt]))) := fun H3 s3 => by
        have s23 := Same.trans s2 s3
        refine ⟨_, s3 _ _ hd, small _ (by rw [List.length_map, List.length_map, List.length_take]; omega), ?_, fun b o e => by rw [upd_ne (ne_of_none e hD)]; exact s23 b o e⟩
        rw [upd_same, List.take_add_one, hk, List.map_append, List.map_append]
        rfl
      cases hk2 with
      | star =>
        obtain ⟨ac, w1, w2, w3, w4⟩ := add H2 (Same.refl _)
        rw [show (Tr.node "*" []).txt = "*" from txt_nil _] at w3 w4
        refine ⟨_, rfl, ?_⟩
        refine ⟨_, rfl, _, _, .str _, .str _, hole_shaped, hole_shaped, _, rfl, ?_⟩
        rw [show PyData.eqv (.str "*") (.str "*") = true by decide +kernel]
        refine iteF ?_
        refine ⟨_, rfl, .inl ⟨rfl, _, SqL.of w1⟩, _, rfl, D, ac, _, rfl, rfl, w1, w2, ?_⟩
        exact ⟨_, _, rfl, w3, w4⟩
      | @node a c z vs ks' h1 h2 h3 h4 =>
        have g3 : 1 + Tr.hts ks' ≤ Tr.hts ks := g1
        have g4 : 1 + Tr.sizes ks' ≤ Tr.sizes ks := g2
        have hit := (StAt.node h1 h2 h3 h4).it
        have hih := itm_ht (Tr.node z ks')
        have hit2 : (Tr.node z ks').ht = 1 + Tr.hts ks' := rfl
        have hzn : ¬ z = "*" := fun e => by rw [e, star_no] at h3; cases h3
        have hzl := nameF_len h3
        refine ⟨_, rfl, ?_⟩
        refine ⟨_, rfl, _, _, hit.dp, .str _, it_shaped hit (by omega), hole_shaped, _, rfl, ?_⟩
        rw [show PyData.eqv (Tr.node z ks').itm.data (.str "*") = false by
          rw [it_eqv_hole]
          show (match (if z = "*" then Itm.hole else .node z (Tr.itms ks')) with | .hole => true | .node _ _ => false) = false
          rw [if_neg hzn]]
        refine iteT ?_
        refine ⟨_, rfl, a, _, _, _, rfl, rfl, SqT.of h1, atI_nat (j := 0) rfl, ?_⟩
        refine ⟨_, rfl, a, _, _, _, rfl, rfl, SqT.of h1, atI_nat (j := 1) rfl, c, vs, rfl, .inr (SqT.of h2), ?_⟩
        have hvl := h4.len
        refine ⟨_, _, rfl, rfl, _, rfl, ?_⟩
        refine ite2 (fun hc => ?_) (fun hc => ?_)
        · have hne : ks' ≠ [] := fun e => by
            rw [e] at hvl
            rw [show vs.length = 0 from hvl] at hc
            exact absurd hc (by decide)
          have hj := jS_lenI h4.fI
          refine ⟨_, rfl, _, _, rfl, rfl, small' _ (by show z.length + 1 ≤ _; omega), ?_⟩
          refine ⟨_, rfl, a, _, _, _, rfl, rfl, SqT.of h1, atI_nat (j := 1) rfl, c, vs, ks', rfl, h2, h4, by omega, by omega, by omega, fun H3 s3 => ?_⟩
          obtain ⟨ac, w1, w2, w3, w4⟩ := add H3 s3
          rw [txt_cons hne] at w3 w4
          refine ⟨_, _, rfl, rfl, small' _ (by rw [app_len]; show z.length + 1 + _ ≤ _; omega), _, _, rfl, rfl, small' _ (by rw [app_len, app_len]; show z.length + 1 + _ + 1 ≤ _; omega), ?_⟩
          refine ⟨_, rfl, .inl ⟨rfl, _, SqL.of w1⟩, _, rfl, D, ac, _, rfl, rfl, w1, w2, ?_⟩
          exact ⟨_, _, rfl, w3, w4⟩
        · have hne : ks' = [] := by
            cases ks' with
            | nil => rfl
            | cons t r =>
              have : decide ((0 : Int) < ((vs.length : Nat) : Int)) = true := decide_eq_true (by rw [hvl, List.length_cons]; omega)
              exact (hc this).elim
          subst hne
          obtain ⟨ac, w1, w2, w3, w4⟩ := add H2 (Same.refl _)
          rw [txt_nil] at w3 w4
          refine ⟨_, rfl, .inl ⟨rfl, _, SqL.of w1⟩, _, rfl, D, ac, _, rfl, rfl, w1, w2, ?_⟩
          exact ⟨_, _, rfl, w3, w4⟩
    · rintro σ H2 ⟨o1, o2, rfl, hd, s2⟩
      rw [hul, List.take_length] at hd
      have hcl := clI_len ks hks.fI
      have hst := sum_txtI ks
      have l1 : (" " : Str).length = 1 := by rw [bl_is]; rfl
      refine ⟨⟨_, rfl⟩, _, rfl, _, D, _, rfl, rfl, .inl (SqL.of hd), by rw [List.length_map, l1]; omega, ?_⟩
      rw [join_blI]
      exact q H2 s2
end
end G72
set_option maxHeartbeats 4000000
set_option linter.all false
set_option maxRecDepth 100000
namespace G72
open PySem L2
section
variable {P : Program} {w : World} {K : PySem.W.Frag} {mg : Str → Option Value} {base : Heap}
def bb : Nat → Nat
  | 0 => 0
  | d + 1 => 3 * (1 + bb d)
def bnd (d : Nat) : Nat := 3 * (1 + bb d)
def spItems (D : Nat) : Sp := fun vs H Q _ => ∃ (d : Nat) (L PL : Addr) (ns : List Int) (zs : List Str), d ≤ D ∧ vs = [.ref L, .int (d : Int), .ref PL] ∧ H L = some (.lst (ns.map V.int)) ∧ (∀ n ∈ ns, 0 ≤ n) ∧ PL ≠ L ∧ H PL = some (.lst (zs.map V.str)) ∧ zs.length = 9 ∧ (∀ z ∈ zs, nameF z = true) ∧
  ∀ (p : Addr) (us : List V) (ks : List Itm) (ns' : List Int) (H' : Hp), SameX L H H' → H' L = some (.lst (ns'.map V.int)) → (∀ n ∈ ns', 0 ≤ n) → H' p = some (.tup us) → ItsAt H' us ks → Itm.sizes ks ≤ bnd d → Itm.hts ks ≤ d + 1 → Q (.ref p) H'
theorem sameX_trans {L : Addr} {H H1 H2 : Hp} (a : SameX L H H1) (b : SameX L H1 H2) : SameX L H H2 := fun c o hc e => b c o hc (a c o hc e)
theorem sameX_same {L : Addr} {H H1 : Hp} (a : Same H H1) : SameX L H H1 := fun c o _ e => a c o e
theorem sc_items : FnScope ["_law_tape_here", "_law_depth", "_law_pool", "_law_found", "_law_k", "_law_name"] ["_law_tape_here", "_law_depth", "_law_pool"] (defScope (top 32)) := ⟨rfl, rfl, rfl, by decide +kernel, rfl, by decide +kernel, by decide +kernel⟩
theorem ok_items0 (F : Dfn K mg "_law_items" (top 32) ["_law_tape_here", "_law_depth", "_law_pool"]) (T : Txt K mg) (C_law_next : Cal P w K mg base 1 "_law_next" ["_law_tape_here", "_law_many"] spNext) : Cal P w K mg base 2 "_law_items" ["_law_tape_here", "_law_depth", "_law_pool"] (spItems 0) := by
  refine F.cal sc_items (fun vs H Q E h => ?_) (fun f cdv A outer s H vs Q E hr h => ?_)
  · obtain ⟨d, L, PL, ns, zs, _, rfl, _⟩ := h
    rfl
  · have nd := sc_items.nd
    obtain ⟨d, L, PL, ns, zs, hdD, rfl, hL, hn, hPL, hP, hzl, hzn, q⟩ := h
    refine ⟨_, (pss_cons (ps_set (i := 3) nd rfl (Or.inl rfl) (pe_lst pa_nil))
      (pss_cons (ps_for PassesOwn.never rfl (pi_range1 rfl T.range (pa_cons (pe_cal C_law_next (hr.mono (by decide)) rfl (pa_cons (pv 0) (pa_cons pe_int pa_nil))) pa_nil)) (pg_name (i := 4) nd rfl (Or.inl rfl))
        (pss_one (ps_if (pt_cmpR op_eq (pe_cal C_law_next (hr.mono (by decide)) rfl (pa_cons (pv 0) (pa_cons pe_int pa_nil))) pe_int (nomark _)) (pss_one (ps_expr (pe_bm PySem.F.plainAttrs_list PySem.F.slot_list_append PySem.F.type_list_append mt_append (pv 3) (pa_cons pe_str pa_nil)))) (pss_one (ps_if (pt_cmpR op_eq (pv 1) pe_int (nomark _)) (pss_one (ps_expr (pe_bm PySem.F.plainAttrs_list PySem.F.slot_list_append PySem.F.type_list_append mt_append (pv 3) (pa_cons (pe_tup (pa_cons (pe_ix ix_list (pv 2) (pe_cal C_law_next (hr.mono (by decide)) rfl (pa_cons (pv 0) (pa_cons pe_int pa_nil))) (fun _ _ => rfl)) (pa_cons (pe_tup pa_nil) pa_nil))) pa_nil)))) (pss_cons ps_never
      (pss_one ps_never)))))))
      (pss_one (ps_ret (pe_callTy call_tuple_of (by rfl) T.tuple (by decide +kernel) (pa_cons (pv 3) pa_nil)))))), ?_⟩
    have small : ∀ m : Nat, m ≤ 100000 → m < sizeLine := fun m hm => Nat.lt_of_le_of_lt hm (by decide)
    refine ⟨(by show 0 ≤ sizeLine; decide), fun D hD => ?_⟩
    have sD := same_new (o := .lst []) hD
    have hDL : D ≠ L := fun z => by rw [z, hL] at hD; cases hD
    have hDP : D ≠ PL := fun z => by rw [z, hP] at hD; cases hD
    refine ⟨_, rfl, L, ns, _, rfl, sD _ _ hL, hn, by decide, fun ns1 x1 H1 sx1 hL1 hn1 xa1 xb1 => ?_⟩
    refine ⟨x1, rfl, by omega, by omega, ?_⟩
    refine for_range (lo := 0) (n := x1.toNat) (fun i σ H2 => ∃ (us : List V) (ks : List Itm) (ns2 : List Int) (o1 o2 : Option V), σ = [some (.ref L), some (.int (d : Int)), some (.ref PL), some (.ref D), o1, o2] ∧ H2 D = some (.lst us) ∧ ItsAt H2 us ks ∧ ks.length = i ∧ Itm.sizes ks ≤ i * (1 + bb d) ∧ Itm.hts ks ≤ d + 1 ∧ H2 L = some (.lst (ns2.map V.int)) ∧ (∀ n ∈ ns2, 0 ≤ n) ∧ SameX L H H2)
      ⟨[], [], ns1, _, _, rfl, sx1 _ _ hDL upd_same, .nil, rfl, Nat.zero_le _, Nat.zero_le _, hL1, hn1, sameX_trans (sameX_same sD) sx1⟩ ?_ ?_
    · rintro i σ H2 hi ⟨us, ks, ns2, o1, o2, rfl, hd, hks, hkl, hsz, hht, hL2, hn2, s2⟩
      have hul := hks.len
      have add : ∀ (v : V) (k : Itm) (ns3 : List Int) (H3 : Hp) (ox : Option V), SameX L H2 H3 → H3 L = some (.lst (ns3.map V.int)) → (∀ n ∈ ns3, 0 ≤ n) → ItAt H3 v k → k.size ≤ 1 + bb d → k.ht ≤ d + 1 → (us.length < sizeLine) ∧ ∃ (us' : List V) (ks' : List Itm) (ns2 : List Int), (upd H3 D (.lst (us ++ [v]))) D = some (.lst us') ∧ ItsAt (upd H3 D (.lst (us ++ [v]))) us' ks' ∧ ks'.length = i + 1 ∧ Itm.sizes ks' ≤ (i + 1) * (1 + bb d) ∧ Itm.hts ks' ≤ d + 1 ∧ (upd H3 D (.lst (us ++ [v]))) L = some (.lst (ns2.map V.int)) ∧ (∀ n ∈ ns2, 0 ≤ n) ∧ SameX L H (upd H3 D (.lst (us ++ [v]))) := fun v k ns3 H3 ox s3 hL3 hn3 hk hksz hkh => by
        have hd3 := s3 _ _ hDL hd
        have kD : Kp H3 (upd H3 D (.lst (us ++ [v]))) := Kp.lset hd3
        refine ⟨small _ (by omega), us ++ [v], ks ++ [k], ns3, upd_same, ((hks.kp (kp_sameX s3 hL2 hL3)).kp kD).snoc (hk.kp kD), by rw [List.length_append, hkl]; rfl, ?_, ?_, by rw [upd_ne (fun z => hDL z.symm)]; exact hL3, hn3, fun b o hb e => by rw [upd_ne (ne_of_none e hD)]; exact s3 b o hb (s2 b o hb e)⟩
        · rw [its_sizes_app, Nat.add_mul, Nat.one_mul]
          show Itm.sizes ks + (k.size + 0) ≤ _
          omega
        · rw [its_hts_app]
          show max (Itm.hts ks) (max k.ht 0) ≤ _
          omega
      refine ⟨_, rfl, L, ns2, _, rfl, hL2, hn2, by decide, fun ns3 x3 H3 sx3 hL3 hn3 xa3 xb3 => ?_⟩
      refine ⟨rfl, _, rfl, ?_⟩
      refine ite2 (fun _ => ?_) (fun _ => ?_)
      · have hd3 := sx3 _ _ hDL hd
        obtain ⟨w0, us', ks', ns2', w1, w2, w3, w4, w5, w6, w7, w8⟩ := add (.str "*") .hole ns3 H3 none sx3 hL3 hn3 .hole (by show 1 ≤ 1 + bb d; omega) (by show 0 ≤ _; omega)
        refine ⟨_, rfl, .inl ⟨rfl, _, SqL.of hd3⟩, D, us, _, rfl, rfl, hd3, w0, ?_⟩
        exact ⟨us', ks', ns2', _, _, rfl, w1, w2, w3, w4, w5, w6, w7, w8⟩
      refine ⟨_, rfl, rfl, _, rfl, ?_⟩
      obtain rfl : d = 0 := by omega
      rw [show decide (V.int ((0 : Nat) : Int) = V.int 0) = true from decide_eq_true rfl]
      refine iteT ?_
      have hd3 := sx3 _ _ hDL hd
      refine ⟨_, rfl, .inl ⟨rfl, _, SqL.of hd3⟩, _, rfl, _, rfl, L, ns3, _, rfl, hL3, hn3, by decide, fun ns4 x4 H4 sx4 hL4 hn4 xa4 xb4 => ?_⟩
      obtain ⟨z, hzm, _, hzV⟩ := strs_get (ns := zs) (j := x4.toNat) (by omega)
      have hP4 := sx4 _ _ hPL (sx3 _ _ hPL (s2 _ _ hPL hP))
      refine ⟨PL, _, _, _, rfl, rfl, SqL.of hP4, at_get (by omega) hzV, (by show 0 ≤ sizeLine; decide), fun c hc => ?_⟩
      have sc := same_new (o := .tup []) hc
      refine ⟨(by show 2 ≤ sizeLine; decide), fun a ha => ?_⟩
      have sa := same_new (o := .tup [.str z, .ref c]) ha
      have s4a := sameX_trans sx4 (sameX_same (L := L) (Same.trans sc sa))
      obtain ⟨w0, us', ks', ns2', w1, w2, w3, w4, w5, w6, w7, w8⟩ := add (.ref a) (.node z []) ns4 _ none (sameX_trans sx3 s4a) (sa _ _ (sc _ _ hL4)) hn4 (.node upd_same (sa _ _ upd_same) (hzn z hzm) .nil) (by show 1 + 0 ≤ 1 + bb 0; omega) (by show 1 + 0 ≤ 0 + 1; omega)
      refine ⟨D, us, _, rfl, rfl, s4a _ _ hDL hd3, w0, ?_⟩
      exact ⟨us', ks', ns2', _, _, rfl, w1, w2, w3, w4, w5, w6, w7, w8⟩
    · rintro σ H2 ⟨us, ks, ns2, o1, o2, rfl, hd, hks, hkl, hsz, hht, hL2, hn2, s2⟩
      refine ⟨_, rfl, D, _, rfl, .inl ⟨SqL.of hd, fun p hp => ?_⟩⟩
      have sp := same_new (o := .tup us) hp
      have hx3 : x1.toNat ≤ 3 := by omega
      have hm : x1.toNat * (1 + bb d) ≤ 3 * (1 + bb d) := Nat.mul_le_mul_right _ hx3
      exact q p us ks ns2 _ (sameX_trans s2 (sameX_same sp)) (sp _ _ hL2) hn2 upd_same (hks.kp (Kp.same sp)) (Nat.le_trans hsz (Nat.le_trans hm (by first | exact Nat.le_refl _ | decide))) hht
theorem ok_items (F : Dfn K mg "_law_items" (top 32) ["_law_tape_here", "_law_depth", "_law_pool"]) (T : Txt K mg) (C_law_next : Cal P w K mg base 1 "_law_next" ["_law_tape_here", "_law_many"] spNext) : ∀ D : Nat, Cal P w K mg base (D + 2) "_law_items" ["_law_tape_here", "_law_depth", "_law_pool"] (spItems D)
  | 0 => ok_items0 F T C_law_next
  | D0 + 1 => by
    refine F.cal sc_items (fun vs H Q E h => by obtain ⟨d, L, PL, ns, zs, _, rfl, _⟩ := h; rfl) (fun f cdv A outer s H vs Q E hr h => ?_)
    have nd := sc_items.nd
    obtain ⟨d, L, PL, ns, zs, hdD, rfl, hL, hn, hPL, hP, hzl, hzn, q⟩ := h
    refine ⟨_, (pss_cons (ps_set (i := 3) nd rfl (Or.inl rfl) (pe_lst pa_nil))
      (pss_cons (ps_for PassesOwn.never rfl (pi_range1 rfl T.range (pa_cons (pe_cal C_law_next (hr.mono (by omega)) rfl (pa_cons (pv 0) (pa_cons pe_int pa_nil))) pa_nil)) (pg_name (i := 4) nd rfl (Or.inl rfl))
        (pss_one (ps_if (pt_cmpR op_eq (pe_cal C_law_next (hr.mono (by omega)) rfl (pa_cons (pv 0) (pa_cons pe_int pa_nil))) pe_int (nomark _)) (pss_one (ps_expr (pe_bm PySem.F.plainAttrs_list PySem.F.slot_list_append PySem.F.type_list_append mt_append (pv 3) (pa_cons pe_str pa_nil)))) (pss_one (ps_if (pt_cmpR op_eq (pv 1) pe_int (nomark _)) (pss_one (ps_expr (pe_bm PySem.F.plainAttrs_list PySem.F.slot_list_append PySem.F.type_list_append mt_append (pv 3) (pa_cons (pe_tup (pa_cons (pe_ix ix_list (pv 2) (pe_cal C_law_next (hr.mono (by omega)) rfl (pa_cons (pv 0) (pa_cons pe_int pa_nil))) (fun _ _ => rfl)) (pa_cons (pe_tup pa_nil) pa_nil))) pa_nil)))) (pss_cons (ps_set (i := 5) nd rfl (Or.inl rfl) (pe_ix ix_list (pv 2) (pe_cal C_law_next (hr.mono (by omega)) rfl (pa_cons (pv 0) (pa_cons pe_int pa_nil))) (fun _ _ => rfl)))
      (pss_one (ps_expr (pe_bm PySem.F.plainAttrs_list PySem.F.slot_list_append PySem.F.type_list_append mt_append (pv 3) (pa_cons (pe_tup (pa_cons (pv 5) (pa_cons (pe_cal (ok_items F T C_law_next D0) hr rfl (pa_cons (pv 0) (pa_cons (pe_op op_sub (pv 1) pe_int) (pa_cons (pv 2) pa_nil)))) pa_nil))) pa_nil))))))))))
      (pss_one (ps_ret (pe_callTy call_tuple_of (by rfl) T.tuple (by decide +kernel) (pa_cons (pv 3) pa_nil)))))), ?_⟩
    have small : ∀ m : Nat, m ≤ 100000 → m < sizeLine := fun m hm => Nat.lt_of_le_of_lt hm (by decide)
    refine ⟨(by show 0 ≤ sizeLine; decide), fun D hD => ?_⟩
    have sD := same_new (o := .lst []) hD
    have hDL : D ≠ L := fun z => by rw [z, hL] at hD; cases hD
    have hDP : D ≠ PL := fun z => by rw [z, hP] at hD; cases hD
    refine ⟨_, rfl, L, ns, _, rfl, sD _ _ hL, hn, by decide, fun ns1 x1 H1 sx1 hL1 hn1 xa1 xb1 => ?_⟩
    refine ⟨x1, rfl, by omega, by omega, ?_⟩
    refine for_range (lo := 0) (n := x1.toNat) (fun i σ H2 => ∃ (us : List V) (ks : List Itm) (ns2 : List Int) (o1 o2 : Option V), σ = [some (.ref L), some (.int (d : Int)), some (.ref PL), some (.ref D), o1, o2] ∧ H2 D = some (.lst us) ∧ ItsAt H2 us ks ∧ ks.length = i ∧ Itm.sizes ks ≤ i * (1 + bb d) ∧ Itm.hts ks ≤ d + 1 ∧ H2 L = some (.lst (ns2.map V.int)) ∧ (∀ n ∈ ns2, 0 ≤ n) ∧ SameX L H H2)
      ⟨[], [], ns1, _, _, rfl, sx1 _ _ hDL upd_same, .nil, rfl, Nat.zero_le _, Nat.zero_le _, hL1, hn1, sameX_trans (sameX_same sD) sx1⟩ ?_ ?_
    · rintro i σ H2 hi ⟨us, ks, ns2, o1, o2, rfl, hd, hks, hkl, hsz, hht, hL2, hn2, s2⟩
      have hul := hks.len
      have add : ∀ (v : V) (k : Itm) (ns3 : List Int) (H3 : Hp) (ox : Option V), SameX L H2 H3 → H3 L = some (.lst (ns3.map V.int)) → (∀ n ∈ ns3, 0 ≤ n) → ItAt H3 v k → k.size ≤ 1 + bb d → k.ht ≤ d + 1 → (us.length < sizeLine) ∧ ∃ (us' : List V) (ks' : List Itm) (ns2 : List Int), (upd H3 D (.lst (us ++ [v]))) D = some (.lst us') ∧ ItsAt (upd H3 D (.lst (us ++ [v]))) us' ks' ∧ ks'.length = i + 1 ∧ Itm.sizes ks' ≤ (i + 1) * (1 + bb d) ∧ Itm.hts ks' ≤ d + 1 ∧ (upd H3 D (.lst (us ++ [v]))) L = some (.lst (ns2.map V.int)) ∧ (∀ n ∈ ns2, 0 ≤ n) ∧ SameX L H (upd H3 D (.lst (us ++ [v]))) := fun v k ns3 H3 ox s3 hL3 hn3 hk hksz hkh => by
        have hd3 := s3 _ _ hDL hd
        have kD : Kp H3 (upd H3 D (.lst (us ++ [v]))) := Kp.lset hd3
        refine ⟨small _ (by omega), us ++ [v], ks ++ [k], ns3, upd_same, ((hks.kp (kp_sameX s3 hL2 hL3)).kp kD).snoc (hk.kp kD), by rw [List.length_append, hkl]; rfl, ?_, ?_, by rw [upd_ne (fun z => hDL z.symm)]; exact hL3, hn3, fun b o hb e => by rw [upd_ne (ne_of_none e hD)]; exact s3 b o hb (s2 b o hb e)⟩
        · rw [its_sizes_app, Nat.add_mul, Nat.one_mul]
          show Itm.sizes ks + (k.size + 0) ≤ _
          omega
        · rw [its_hts_app]
          show max (Itm.hts ks) (max k.ht 0) ≤ _
          omega
      refine ⟨_, rfl, L, ns2, _, rfl, hL2, hn2, by decide, fun ns3 x3 H3 sx3 hL3 hn3 xa3 xb3 => ?_⟩
      refine ⟨rfl, _, rfl, ?_⟩
      refine ite2 (fun _ => ?_) (fun _ => ?_)
      · have hd3 := sx3 _ _ hDL hd
        obtain ⟨w0, us', ks', ns2', w1, w2, w3, w4, w5, w6, w7, w8⟩ := add (.str "*") .hole ns3 H3 none sx3 hL3 hn3 .hole (by show 1 ≤ 1 + bb d; omega) (by show 0 ≤ _; omega)
        refine ⟨_, rfl, .inl ⟨rfl, _, SqL.of hd3⟩, D, us, _, rfl, rfl, hd3, w0, ?_⟩
        exact ⟨us', ks', ns2', _, _, rfl, w1, w2, w3, w4, w5, w6, w7, w8⟩
      refine ⟨_, rfl, rfl, _, rfl, ?_⟩
      cases d with
      | zero =>
        rw [show decide (V.int ((0 : Nat) : Int) = V.int 0) = true from decide_eq_true rfl]
        refine iteT ?_
        have hd3 := sx3 _ _ hDL hd
        refine ⟨_, rfl, .inl ⟨rfl, _, SqL.of hd3⟩, _, rfl, _, rfl, L, ns3, _, rfl, hL3, hn3, by decide, fun ns4 x4 H4 sx4 hL4 hn4 xa4 xb4 => ?_⟩
        obtain ⟨z, hzm, _, hzV⟩ := strs_get (ns := zs) (j := x4.toNat) (by omega)
        have hP4 := sx4 _ _ hPL (sx3 _ _ hPL (s2 _ _ hPL hP))
        refine ⟨PL, _, _, _, rfl, rfl, SqL.of hP4, at_get (by omega) hzV, (by show 0 ≤ sizeLine; decide), fun c hc => ?_⟩
        have sc := same_new (o := .tup []) hc
        refine ⟨(by show 2 ≤ sizeLine; decide), fun a ha => ?_⟩
        have sa := same_new (o := .tup [.str z, .ref c]) ha
        have s4a := sameX_trans sx4 (sameX_same (L := L) (Same.trans sc sa))
        obtain ⟨w0, us', ks', ns2', w1, w2, w3, w4, w5, w6, w7, w8⟩ := add (.ref a) (.node z []) ns4 _ none (sameX_trans sx3 s4a) (sa _ _ (sc _ _ hL4)) hn4 (.node upd_same (sa _ _ upd_same) (hzn z hzm) .nil) (by show 1 + 0 ≤ 1 + bb 0; omega) (by show 1 + 0 ≤ 0 + 1; omega)
        refine ⟨D, us, _, rfl, rfl, s4a _ _ hDL hd3, w0, ?_⟩
        exact ⟨us', ks', ns2', _, _, rfl, w1, w2, w3, w4, w5, w6, w7, w8⟩
      | succ d =>
        rw [show decide (V.int ((d + 1 : Nat) : Int) = V.int 0) = false from decide_eq_false (fun z => by injection z with z; omega)]
        refine iteF ?_
        have hd3 := sx3 _ _ hDL hd
        refine ⟨_, rfl, _, rfl, L, ns3, _, rfl, hL3, hn3, by decide, fun ns4 x4 H4 sx4 hL4 hn4 xa4 xb4 => ?_⟩
        obtain ⟨z, hzm, _, hzV⟩ := strs_get (ns := zs) (j := x4.toNat) (by omega)
        have hP4 := sx4 _ _ hPL (sx3 _ _ hPL (s2 _ _ hPL hP))
        refine ⟨PL, _, _, _, rfl, rfl, SqL.of hP4, at_get (by omega) hzV, ?_⟩
        have hd4 := sx4 _ _ hDL hd3
        refine ⟨_, rfl, .inl ⟨rfl, _, SqL.of hd4⟩, _, rfl, _, rfl, _, rfl, _, _, rfl, rfl, _, rfl, ?_⟩
        refine ⟨d, L, PL, ns4, zs, by omega, by show [V.ref L, V.int (((d + 1 : Nat) : Int) - 1), V.ref PL] = _; rw [show (((d + 1 : Nat) : Int) - 1) = ((d : Nat) : Int) by omega], hL4, hn4, hPL, hP4, hzl, hzn, fun c vs5 ks5 ns5 H5 s5 hL5 hn5 hc hks5 hsz5 hht5 => ?_⟩
        refine ⟨(by show 2 ≤ sizeLine; decide), fun a ha => ?_⟩
        have sa := same_new (o := .tup [.str z, .ref c]) ha
        have s4a := sameX_trans sx4 (sameX_trans s5 (sameX_same (L := L) sa))
        obtain ⟨w0, us', ks', ns2', w1, w2, w3, w4, w5, w6, w7, w8⟩ := add (.ref a) (.node z ks5) ns5 _ none (sameX_trans sx3 s4a) (sa _ _ hL5) hn5 (.node upd_same (sa _ _ hc) (hzn z hzm) (hks5.kp (Kp.same sa))) (by show 1 + Itm.sizes ks5 ≤ 1 + bb (d + 1); have : Itm.sizes ks5 ≤ 3 * (1 + bb d) := hsz5; show 1 + Itm.sizes ks5 ≤ 1 + 3 * (1 + bb d); omega) (by show 1 + Itm.hts ks5 ≤ d + 1 + 1; omega)
        refine ⟨D, us, _, rfl, rfl, s4a _ _ hDL hd3, w0, ?_⟩
        exact ⟨us', ks', ns2', _, _, rfl, w1, w2, w3, w4, w5, w6, w7, w8⟩
    · rintro σ H2 ⟨us, ks, ns2, o1, o2, rfl, hd, hks, hkl, hsz, hht, hL2, hn2, s2⟩
      refine ⟨_, rfl, D, _, rfl, .inl ⟨SqL.of hd, fun p hp => ?_⟩⟩
      have sp := same_new (o := .tup us) hp
      have hx3 : x1.toNat ≤ 3 := by omega
      have hm : x1.toNat * (1 + bb d) ≤ 3 * (1 + bb d) := Nat.mul_le_mul_right _ hx3
      exact q p us ks ns2 _ (sameX_trans s2 (sameX_same sp)) (sp _ _ hL2) hn2 upd_same (hks.kp (Kp.same sp)) (Nat.le_trans hsz (Nat.le_trans hm (by first | exact Nat.le_refl _ | decide))) hht
def spSame (d : Nat) : Sp := fun vs H Q _ => ∃ (x y : V) (n : Nat), vs = [x, y] ∧ SaAt H n x y ∧ n < d ∧ ∀ H', Same H H' → Q (.bl true) H'
theorem sc_same : FnScope ["_law_found", "_law_due", "_law_a", "_law_b"] ["_law_found", "_law_due"] (defScope (top 36)) := ⟨rfl, rfl, rfl, by decide +kernel, rfl, by decide +kernel, by decide +kernel⟩
theorem all_rep_true : ∀ n : Nat, (List.replicate n true).all id = true
  | 0 => rfl
  | n + 1 => by rw [List.replicate_succ, List.all_cons, all_rep_true n]; rfl
theorem ok_same (F : Dfn K mg "_law_same" (top 36) ["_law_found", "_law_due"]) (T : Txt K mg) : ∀ d : Nat, Cal P w K mg base (d + 1) "_law_same" ["_law_found", "_law_due"] (spSame d)
  | 0 => F.cal sc_same (fun vs H Q E h => by obtain ⟨x, y, n, rfl, _⟩ := h; rfl) (fun f cdv A outer s H vs Q E hr h => by
      obtain ⟨x, y, n, rfl, _, h1, _⟩ := h
      exact absurd h1 (Nat.not_lt_zero _))
  | d + 1 => by
    refine F.cal sc_same (fun vs H Q E h => by obtain ⟨x, y, n, rfl, _⟩ := h; rfl) (fun f cdv A outer s H vs Q E hr h => ?_)
    have nd := sc_same.nd
    obtain ⟨x, y, n, rfl, hs, hn, q⟩ := h
    refine ⟨_, (pss_cons (ps_if (pt_val (pe_callB call_isinst (by rfl) T.isinstance (by decide +kernel) (pa_cons (pv 1) (pa_cons (pe_bltn (v := .ty "tuple") (by rfl) T.tuple (by decide +kernel) rfl) pa_nil)))) (pss_cons (ps_if (PW.pt (pw_or (pt_not (pt_val (pe_callB call_isinst (by rfl) T.isinstance (by decide +kernel) (pa_cons (pv 0) (pa_cons (pe_bltn (v := .ty "tuple") (by rfl) T.tuple (by decide +kernel) rfl) pa_nil))))) (pw_or1 (pt_cmpR op_ne (pe_callB call_len_seq (by rfl) T.len PySem.boot_len (pa_cons (pv 0) pa_nil)) (pe_callB call_len_seq (by rfl) T.len PySem.boot_len (pa_cons (pv 1) pa_nil)) (nomark _))))) (pss_one (ps_ret pe_bl)) pss_nil)
      (pss_one (ps_ret (pe_callB (cr_all rfl) (by rfl) T.all (by decide +kernel) (pa_cons (pe_lc (own := [("_law_a", 2), ("_law_b", 3)]) (g := (gTup K 2 (gCons (gName 2) (gCons (gName 3) gNil)))) (by rfl) nd (pi_zipB true true (by rfl) T.zip (pa_cons (pv 0) (pa_cons (pv 1) pa_nil))) (blkOk_by (own := [("_law_a", 2), ("_law_b", 3)]) (N := ["_law_found", "_law_due", "_law_a", "_law_b"]) (sc := defScope (top 36)) (by decide +kernel)) (fun _ _ _ _ _ => (pg_tup rfl (pgs_cons (pg_name (i := 2) nd rfl (Or.inl rfl)) (pgs_cons (pg_name (i := 3) nd rfl (Or.inl rfl)) pgs_nil)))) (fun _ _ _ _ _ => pts_nil) (fun _ _ _ _ _ => (pe_cal (ok_same F T d) hr rfl (pa_cons (pv 2) (pa_cons (pv 3) pa_nil))))) pa_nil))))) pss_nil)
      (pss_cons (ps_if (pt_val (pe_callB call_isinst (by rfl) T.isinstance (by decide +kernel) (pa_cons (pv 1) (pa_cons (pe_bltn (v := .ty "str") (by rfl) T.str (by decide +kernel) rfl) pa_nil)))) (pss_one (ps_ret (pe_and (pe_callB call_isinst (by rfl) T.isinstance (by decide +kernel) (pa_cons (pv 0) (pa_cons (pe_bltn (v := .ty "str") (by rfl) T.str (by decide +kernel) rfl) pa_nil))) (pe_one (pe_cmpR op_eq (pv 0) (pv 1) (nomark _)))))) pss_nil)
      (pss_one ps_never))), ?_⟩
    have small : ∀ m : Nat, m ≤ 100000 → m < sizeLine := fun m hm => Nat.lt_of_le_of_lt hm (by decide)
    cases hs with
    | str z =>
      refine ⟨_, rfl, _, _, _, _, rfl, TyOf.str z, (show _ = some false from rfl), _, rfl, iteF ?_⟩
      refine ⟨_, rfl, _, _, _, _, rfl, TyOf.str z, (show _ = some true from rfl), _, rfl, iteT ?_⟩
      refine ⟨_, rfl, _, _, _, _, rfl, TyOf.str z, (show _ = some true from rfl), _, rfl, iteT ?_⟩
      refine ⟨_, rfl, _, rfl, rfl, ?_⟩
      rw [show decide (V.str z = V.str z) = true from decide_eq_true rfl]
      exact q H (Same.refl _)
    | @tup p r us vs n hp hr2 hl hl2 he =>
      refine ⟨_, rfl, _, _, _, _, rfl, TyOf.tup hr2, (show _ = some true from rfl), _, rfl, iteT ?_⟩
      refine ⟨_, rfl, _, _, _, _, rfl, TyOf.tup hp, (show _ = some true from rfl), _, rfl, iteF ?_⟩
      refine ⟨_, rfl, p, _, rfl, .inr (SqT.of hp), _, rfl, r, _, rfl, .inr (SqT.of hr2), rfl, _, rfl, ?_⟩
      rw [show (!decide (V.int ((us.length : Nat) : Int) = V.int ((vs.length : Nat) : Int))) = false by rw [hl, decide_eq_true rfl]; rfl]
      refine iteF ?_
      refine ⟨_, rfl, _, rfl, p, r, _, _, rfl, SqT.of hp, SqT.of hr2, fun D hD => ?_⟩
      refine lc_zipB (K := K) (t1 := true) (t2 := true) (a := p) (b := r) (xs := us) (ys := vs) hl (fun i H2 => H2 D = some (.lst ((List.replicate i true).map V.bl)) ∧ Same H H2) ⟨upd_same, same_new hD⟩ (fun i H2 _ ⟨_, s2⟩ => ⟨SqT.of (s2 _ _ hp), SqT.of (s2 _ _ hr2)⟩) ?_ ?_
      · rintro i x y H2 T1 hx hy ⟨hd, s2⟩ hT1
        have hjl := (List.getElem?_eq_some_iff.mp hx).1
        have sT := same_new (o := .tup [x, y]) hT1
        have s5 := Same.trans s2 sT
        refine ⟨T1, _, rfl, SqT.of upd_same, rfl, _, _, rfl, _, _, rfl, rfl, rfl, yes_go ?_⟩
        refine ⟨_, rfl, _, rfl, x, y, n, rfl, (he i x y hx hy).same s5, by omega, fun H3 s3 => ?_⟩
        have s35 := Same.trans s5 s3
        refine ⟨_, s3 _ _ (sT _ _ hd), by rw [List.length_map, List.length_replicate]; exact small _ (by omega), ?_, fun b o e => by rw [upd_ne (ne_of_none e hD)]; exact s35 b o e⟩
        rw [upd_same, List.replicate_succ', List.map_append]
        rfl
      · rintro H2 ⟨hd, s2⟩
        refine ⟨D, _, rfl, SqL.of hd, ?_⟩
        rw [all_rep_true]
        exact q H2 s2
end
end G72
set_option maxHeartbeats 4000000
set_option linter.all false
set_option maxRecDepth 100000
namespace G72
open PySem L2
section
variable {P : Program} {w : World} {K : PySem.W.Frag} {mg : Str → Option Value} {base : Heap}
def spLong : Sp := fun vs H Q _ => ∃ (L PL : Addr) (ns : List Int) (zs : List Str), vs = [.ref L, .ref PL] ∧ H L = some (.lst (ns.map V.int)) ∧ (∀ n ∈ ns, 0 ≤ n) ∧ PL ≠ L ∧ H PL = some (.lst (zs.map V.str)) ∧ zs.length = 9 ∧ (∀ z ∈ zs, nameF z = true) ∧
  ∀ (p : Addr) (us : List V) (ts : List Tr) (H' : Hp), SameX L H H' → H' p = some (.tup us) → StsAt H' us ts → Tr.sizes ts ≤ 41 → Tr.hts ts ≤ 10 → Q (.ref p) H'
theorem hts_app : ∀ a b : List Tr, Tr.hts (a ++ b) = max (Tr.hts a) (Tr.hts b)
  | [], b => by show Tr.hts b = max 0 (Tr.hts b); omega
  | t :: r, b => by
    show max t.ht (Tr.hts (r ++ b)) = max (max t.ht (Tr.hts r)) (Tr.hts b)
    rw [hts_app r b]
    omega
theorem sizes_appI : ∀ a b : List Tr, Tr.sizes (a ++ b) = Tr.sizes a + Tr.sizes b
  | [], b => by show Tr.sizes b = 0 + Tr.sizes b; omega
  | t :: r, b => by
    show t.size + Tr.sizes (r ++ b) = t.size + Tr.sizes r + Tr.sizes b
    rw [sizes_appI r b]
    omega
theorem sc_llong : FnScope ["_law_tape_here", "_law_pool", "_law_items_here", "_law_k"] ["_law_tape_here", "_law_pool"] (defScope (top 37)) := ⟨rfl, rfl, rfl, by decide +kernel, rfl, by decide +kernel, by decide +kernel⟩
theorem ok_llong  (F : Dfn K mg "_law_long" (top 37) ["_law_tape_here", "_law_pool"]) (T : Txt K mg) (C_law_next : Cal P w K mg base 1 "_law_next" ["_law_tape_here", "_law_many"] spNext) : Cal P w K mg base 2 "_law_long" ["_law_tape_here", "_law_pool"] spLong := by
  refine F.cal sc_llong (fun vs H Q E h => ?_) (fun f cdv A outer s H vs Q E hr h => ?_)
  · obtain ⟨L, PL, ns, zs, rfl, _⟩ := h
    rfl
  · have nd := sc_llong.nd
    obtain ⟨L, PL, ns, zs, rfl, hL, hn, hPL, hP, hzl, hzn, q⟩ := h
    refine ⟨_, (pss_cons (ps_set (i := 2) nd rfl (Or.inl rfl) (pe_lst pa_nil))
      (pss_cons (ps_if (pt_cmpR op_eq (pe_cal C_law_next (hr.mono (by decide)) rfl (pa_cons (pv 0) (pa_cons pe_int pa_nil))) pe_int (nomark _)) (pss_cons (ps_for PassesOwn.never rfl (pi_range1 rfl T.range (pa_cons (pe_cal C_law_next (hr.mono (by decide)) rfl (pa_cons (pv 0) (pa_cons pe_int pa_nil))) pa_nil)) (pg_name (i := 3) nd rfl (Or.inl rfl))
        (pss_cons (ps_expr (pe_bm PySem.F.plainAttrs_list PySem.F.slot_list_append PySem.F.type_list_append mt_append (pv 2) (pa_cons pe_str pa_nil)))
      (pss_one (ps_if (pt_cmpR op_gt (pe_cal C_law_next (hr.mono (by decide)) rfl (pa_cons (pv 0) (pa_cons pe_int pa_nil))) pe_int (nomark _)) (pss_one (ps_asg (pe_tup (pa_cons (pe_ix ix_list (pv 1) (pe_cal C_law_next (hr.mono (by decide)) rfl (pa_cons (pv 0) (pa_cons pe_int pa_nil))) (fun _ _ => rfl)) (pa_cons (pe_tup pa_nil) pa_nil))) (pg_sub (pv 2) (pv 3) set_list))) pss_nil))))
      (pss_one (ps_ret (pe_callTy call_tuple_of (by rfl) T.tuple (by decide +kernel) (pa_cons (pv 2) pa_nil))))) pss_nil)
      (pss_cons (ps_set (i := 2) nd rfl (Or.inl rfl) (pe_lst (pa_cons pe_str pa_nil)))
      (pss_cons (ps_for PassesOwn.never rfl (pi_range1 rfl T.range (pa_cons (pe_cal C_law_next (hr.mono (by decide)) rfl (pa_cons (pv 0) (pa_cons pe_int pa_nil))) pa_nil)) (pg_name (i := 3) nd rfl (Or.inl rfl))
        (pss_cons (ps_set (i := 2) nd rfl (Or.inl rfl) (pe_lst (pa_cons (pe_tup (pa_cons (pe_ix ix_list (pv 1) (pe_cal C_law_next (hr.mono (by decide)) rfl (pa_cons (pv 0) (pa_cons pe_int pa_nil))) (fun _ _ => rfl)) (pa_cons (pe_callTy call_tuple_of (by rfl) T.tuple (by decide +kernel) (pa_cons (pv 2) pa_nil)) pa_nil))) pa_nil)))
      (pss_one (ps_if (pt_cmpR op_eq (pe_cal C_law_next (hr.mono (by decide)) rfl (pa_cons (pv 0) (pa_cons pe_int pa_nil))) pe_int (nomark _)) (pss_one (ps_expr (pe_bm PySem.F.plainAttrs_list PySem.F.slot_list_append PySem.F.type_list_append mt_append (pv 2) (pa_cons pe_str pa_nil)))) pss_nil))))
      (pss_one (ps_ret (pe_callTy call_tuple_of (by rfl) T.tuple (by decide +kernel) (pa_cons (pv 2) pa_nil)))))))), ?_⟩
    have small : ∀ m : Nat, m ≤ 100000 → m < sizeLine := fun m hm => Nat.lt_of_le_of_lt hm (by decide)
    refine ⟨(by show 0 ≤ sizeLine; decide), fun D hD => ?_⟩
    have sD := same_new (o := .lst []) hD
    have hDL : D ≠ L := fun z => by rw [z, hL] at hD; cases hD
    have hDP : D ≠ PL := fun z => by rw [z, hP] at hD; cases hD
    refine ⟨_, rfl, L, ns, _, rfl, sD _ _ hL, hn, by decide, fun ns1 x1 H1 sx1 hL1 hn1 xa1 xb1 => ?_⟩
    refine ⟨rfl, _, rfl, ?_⟩
    refine ite2 (fun _ => ?_) (fun _ => ?_)
    · refine ⟨_, rfl, L, ns1, _, rfl, hL1, hn1, by decide, fun ns2 x2 H2 sx2 hL2 hn2 xa2 xb2 => ?_⟩
      refine ⟨x2, rfl, by omega, by omega, ?_⟩
      have s02 := sameX_trans (sameX_same sD) (sameX_trans sx1 sx2)
      refine for_range (lo := 0) (n := x2.toNat) (fun i σ H2 => ∃ (us : List V) (ts : List Tr) (ns2 : List Int) (o1 : Option V), σ = [some (.ref L), some (.ref PL), some (.ref D), o1] ∧ H2 D = some (.lst us) ∧ StsAt H2 us ts ∧ ts.length = i ∧ Tr.sizes ts ≤ i ∧ Tr.hts ts ≤ 1 ∧ H2 L = some (.lst (ns2.map V.int)) ∧ (∀ n ∈ ns2, 0 ≤ n) ∧ SameX L H H2) ⟨[], [], ns2, _, rfl, sx2 _ _ hDL (sx1 _ _ hDL upd_same), .nil, rfl, Nat.zero_le _, Nat.zero_le _, hL2, hn2, s02⟩ ?_ ?_
      · rintro i σ H3 hi ⟨us, ts, ns3, o1, rfl, hd, hts, htl, hsz, hht, hL3, hn3, s3⟩
        have hul := hts.len
        have fin : ∀ (v : V) (t : Tr) (ns5 : List Int) (H5 : Hp) (xs : List V), SameX L H H5 → H5 D = some (.lst xs) → StsAt H5 us ts → StAt H5 v t → t.size = 1 → t.ht = 1 → H5 L = some (.lst (ns5.map V.int)) → (∀ n ∈ ns5, 0 ≤ n) → ∃ (us' : List V) (ts' : List Tr) (ns2 : List Int), (upd H5 D (.lst (us ++ [v]))) D = some (.lst us') ∧ StsAt (upd H5 D (.lst (us ++ [v]))) us' ts' ∧ ts'.length = i + 1 ∧ Tr.sizes ts' ≤ i + 1 ∧ Tr.hts ts' ≤ 1 ∧ (upd H5 D (.lst (us ++ [v]))) L = some (.lst (ns2.map V.int)) ∧ (∀ n ∈ ns2, 0 ≤ n) ∧ SameX L H (upd H5 D (.lst (us ++ [v]))) := fun v t ns5 H5 xs s5 hd5 hts5 ht5 hz5 hh5 hL5 hn5 => by
          have kD : Kp H5 (upd H5 D (.lst (us ++ [v]))) := Kp.lset hd5
          refine ⟨us ++ [v], ts ++ [t], ns5, upd_same, (hts5.kp kD).app (.cons (ht5.kp kD) .nil), by rw [List.length_append, htl]; rfl, ?_, ?_, by rw [upd_ne (fun z => hDL z.symm)]; exact hL5, hn5, fun b o hb e => by rw [upd_ne (ne_of_none e hD)]; exact s5 b o hb e⟩
          · rw [sizes_appI]
            show Tr.sizes ts + (t.size + 0) ≤ _
            omega
          · rw [hts_app]
            show max (Tr.hts ts) (max t.ht 0) ≤ _
            omega
        refine ⟨_, rfl, .inl ⟨rfl, _, SqL.of hd⟩, D, us, _, rfl, rfl, hd, small _ (by omega), ?_⟩
        obtain ⟨us4, ts4, ns4, f1, f2, f3, f4, f5, f6, f7, f8⟩ := fin (.str "*") (.node "*" []) ns3 H3 us s3 hd hts .star rfl rfl hL3 hn3
        have hus4 : us4 = us ++ [.str "*"] := by rw [upd_same] at f1; cases f1; rfl
        have k4 : Kp H3 (upd H3 D (.lst (us ++ [.str "*"]))) := Kp.lset hd
        have hts4 := hts.kp k4
        have hd4 : (upd H3 D (.lst (us ++ [.str "*"]))) D = _ := upd_same
        generalize upd H3 D (.lst (us ++ [.str "*"])) = H4 at f1 f2 f6 f8 k4 hts4 hd4
        refine ⟨_, rfl, L, ns4, _, rfl, f6, f7, by decide, fun ns5 x5 H5 sx5 hL5 hn5 xa5 xb5 => ?_⟩
        refine ⟨_, _, rfl, rfl, _, rfl, ?_⟩
        refine ite2 (fun _ => ?_) (fun _ => ?_)
        · refine ⟨_, rfl, _, rfl, L, ns5, _, rfl, hL5, hn5, by decide, fun ns6 x6 H6 sx6 hL6 hn6 xa6 xb6 => ?_⟩
          obtain ⟨z, hzm, _, hzV⟩ := strs_get (ns := zs) (j := x6.toNat) (by omega)
          have s6 := sameX_trans f8 (sameX_trans sx5 sx6)
          have hP6 := s6 _ _ hPL hP
          refine ⟨PL, _, _, _, rfl, rfl, SqL.of hP6, at_get (by omega) hzV, (by show 0 ≤ sizeLine; decide), fun c hc => ?_⟩
          have sc := same_new (o := .tup []) hc
          refine ⟨(by show 2 ≤ sizeLine; decide), fun a ha => ?_⟩
          have sa := same_new (o := .tup [.str z, .ref c]) ha
          have sca := Same.trans sc sa
          have s4a : SameX L H4 _ := sameX_trans (sameX_trans sx5 sx6) (sameX_same (L := L) sca)
          have kx := kp_sameX s4a f6 (sca _ _ hL6)
          have hd6 := s4a _ _ hDL hd4
          obtain ⟨us7, ts7, ns7, g1, g2, g3, g4, g5, g6, g7, g8⟩ := fin (.ref a) (.node z []) ns6 _ _ (sameX_trans f8 s4a) hd6 (hts4.kp kx) (.node upd_same (sa _ _ upd_same) (hzn z hzm) .nil) rfl rfl (sca _ _ hL6) hn6
          refine ⟨_, rfl, _, rfl, D, us ++ [.str "*"], _, i, rfl, rfl, sca _ _ (sx6 _ _ hDL (sx5 _ _ hDL (by rw [← hus4]; exact f1))), ixN_of (by omega) (by rw [List.length_append]; show i < us.length + 1; omega), ?_⟩
          have hset := set_last us (.str "*") (.ref a)
          rw [hul, htl] at hset
          rw [hset]
          exact ⟨us7, ts7, ns7, _, rfl, g1, g2, g3, g4, g5, g6, g7, g8⟩
        · exact ⟨us4, ts4, ns5, _, rfl, sx5 _ _ hDL f1, f2.kp (kp_sameX sx5 f6 hL5), f3, f4, f5, hL5, hn5, sameX_trans f8 sx5⟩
      · rintro σ H3 ⟨us, ts, ns3, o1, rfl, hd, hts, htl, hsz, hht, hL3, hn3, s3⟩
        refine ⟨_, rfl, D, _, rfl, .inl ⟨SqL.of hd, fun p hp => ?_⟩⟩
        have sp := same_new (o := .tup us) hp
        exact q p us ts _ (sameX_trans s3 (sameX_same sp)) upd_same (hts.kp (Kp.same sp)) (by omega) (by omega)
    · refine ⟨(by show 1 ≤ sizeLine; decide), fun E1 hE1 => ?_⟩
      have sE := same_new (o := .lst [.str "*"]) hE1
      have none_of : ∀ (H3 : Hp) (b : Addr), SameX L H H3 → H3 b = none → b ≠ L → H b = none := fun H3 b s3 h3 hb => by
        cases e : H b with
        | none => rfl
        | some o => rw [s3 _ _ hb e] at h3; cases h3
      have s1E := sameX_trans (sameX_trans (sameX_same (L := L) sD) sx1) (sameX_same sE)
      have hEL : E1 ≠ L := fun z => by rw [z, hL1] at hE1; cases hE1
      have hE0 := none_of _ _ (sameX_trans (sameX_same (L := L) sD) sx1) hE1 hEL
      refine ⟨_, rfl, L, ns1, _, rfl, sE _ _ hL1, hn1, by decide, fun ns2 x2 H2 sx2 hL2 hn2 xa2 xb2 => ?_⟩
      refine ⟨x2, rfl, by omega, by omega, ?_⟩
      refine for_range (lo := 0) (n := x2.toNat) (fun i σ H2 => ∃ (D : Addr) (us : List V) (ts : List Tr) (ns2 : List Int) (o1 : Option V), σ = [some (.ref L), some (.ref PL), some (.ref D), o1] ∧ D ≠ L ∧ H D = none ∧ H2 D = some (.lst us) ∧ StsAt H2 us ts ∧ Tr.sizes ts ≤ 1 + 2 * i ∧ Tr.hts ts ≤ 1 + i ∧ H2 L = some (.lst (ns2.map V.int)) ∧ (∀ n ∈ ns2, 0 ≤ n) ∧ SameX L H H2) ⟨E1, [.str "*"], [.node "*" []], ns2, _, rfl, hEL, hE0, sx2 _ _ hEL upd_same, .cons .star .nil, by decide, by decide, hL2, hn2, sameX_trans s1E sx2⟩ ?_ ?_
      · rintro i σ H3 hi ⟨D, us, ts, ns3, o1, rfl, hDL, hD, hd, hts, hsz, hht, hL3, hn3, s3⟩
        have hul := hts.len
        have hsl := len_le_sizes ts
        refine ⟨_, rfl, _, rfl, L, ns3, _, rfl, hL3, hn3, by decide, fun ns5 x5 H5 sx5 hL5 hn5 xa5 xb5 => ?_⟩
        obtain ⟨z, hzm, _, hzV⟩ := strs_get (ns := zs) (j := x5.toNat) (by omega)
        have s5 := sameX_trans s3 sx5
        have hP5 := s5 _ _ hPL hP
        refine ⟨PL, _, _, _, rfl, rfl, SqL.of hP5, at_get (by omega) hzV, ?_⟩
        have hd5 := sx5 _ _ hDL hd
        refine ⟨_, rfl, D, _, rfl, .inl ⟨SqL.of hd5, fun c hc => ?_⟩⟩
        have sc := same_new (o := .tup us) hc
        refine ⟨(by show 2 ≤ sizeLine; decide), fun a ha => ?_⟩
        have sa := same_new (o := .tup [.str z, .ref c]) ha
        refine ⟨(by show 1 ≤ sizeLine; decide), fun E2 hE2 => ?_⟩
        have se := same_new (o := .lst [.ref a]) hE2
        have sce := Same.trans sc (Same.trans sa se)
        have s5e : SameX L H3 _ := sameX_trans sx5 (sameX_same (L := L) sce)
        have hLe := sce _ _ hL5
        have hts2 := hts.kp (kp_sameX s5e hL3 hLe)
        have hnode : StAt _ (.ref a) (.node z ts) := .node (se _ _ upd_same) (se _ _ (sa _ _ upd_same)) (hzn z hzm) hts2
        have hEL2 : E2 ≠ L := fun z => by rw [z, sa _ _ (sc _ _ hL5)] at hE2; cases hE2
        have hE20 : H E2 = none := none_of _ _ (sameX_trans s5 (sameX_same (L := L) (Same.trans sc sa))) hE2 hEL2
        have s0e := sameX_trans s3 s5e
        have hde := upd_same (H := (upd (upd H5 c (.tup us)) a (.tup [.str z, .ref c]))) (a := E2) (o := .lst [.ref a])
        generalize upd (upd (upd H5 c (.tup us)) a (.tup [.str z, .ref c])) E2 (.lst [.ref a]) = H6 at s5e hLe hts2 hnode s0e hde
        refine ⟨_, rfl, L, ns5, _, rfl, hLe, hn5, by decide, fun ns7 x7 H7 sx7 hL7 hn7 xa7 xb7 => ?_⟩
        refine ⟨rfl, _, rfl, ?_⟩
        have hn7k := hnode.kp (kp_sameX sx7 hLe hL7)
        have hd7 := sx7 _ _ hEL2 hde
        have s07 := sameX_trans s0e sx7
        have z1 : (Tr.node z ts).size = 1 + Tr.sizes ts := rfl
        have z2 : (Tr.node z ts).ht = 1 + Tr.hts ts := rfl
        refine ite2 (fun _ => ?_) (fun _ => ?_)
        · refine ⟨_, rfl, .inl ⟨rfl, _, SqL.of hd7⟩, E2, _, _, rfl, rfl, hd7, small _ (by show 1 ≤ _; omega), ?_⟩
          have kD : Kp H7 (upd H7 E2 (.lst ([.ref a] ++ [.str "*"]))) := Kp.lset hd7
          refine ⟨E2, _, [.node z ts, .node "*" []], ns7, _, rfl, hEL2, hE20, upd_same, .cons (hn7k.kp kD) (.cons .star .nil), ?_, ?_, by rw [upd_ne (fun z => hEL2 z.symm)]; exact hL7, hn7, fun b o hb e => by rw [upd_ne (ne_of_none e hE20)]; exact s07 b o hb e⟩
          · show (Tr.node z ts).size + (1 + 0 + 0) ≤ _
            omega
          · show max (Tr.node z ts).ht (max (1 + 0) 0) ≤ _
            omega
        · refine ⟨E2, _, [.node z ts], ns7, _, rfl, hEL2, hE20, hd7, .cons hn7k .nil, ?_, ?_, hL7, hn7, s07⟩
          · show (Tr.node z ts).size + 0 ≤ _
            omega
          · show max (Tr.node z ts).ht 0 ≤ _
            omega
      · rintro σ H3 ⟨D, us, ts, ns3, o1, rfl, hDL, hD, hd, hts, hsz, hht, hL3, hn3, s3⟩
        refine ⟨_, rfl, D, _, rfl, .inl ⟨SqL.of hd, fun p hp => ?_⟩⟩
        have sp := same_new (o := .tup us) hp
        exact q p us ts _ (sameX_trans s3 (sameX_same sp)) upd_same (hts.kp (Kp.same sp)) (by omega) (by omega)
end
end G72
set_option maxHeartbeats 4000000
set_option linter.all false
set_option maxRecDepth 100000
namespace G72
open PySem L2
section
variable {P : Program} {w : World} {K : PySem.W.Frag} {mg : Str → Option Value} {base : Heap}
structure LOk (r : Rule) : Prop where
  ok : RlOk r
  ht : Tr.hts r.2 ≤ 20
def spRS : Sp := fun vs H Q _ => ∃ (a c : Addr) (us : List V) (r : Rule), vs = [.ref a] ∧ H a = some (.tup [.str r.1, .ref c]) ∧ H c = some (.tup us) ∧ StsAt H us r.2 ∧ LOk r ∧ ∀ H', Same H H' → Q (.str (ruleT r)) H'
theorem ar2_is : (" -> " : Str) = ⟨#[32, 45, 62, 32]⟩ := by decide +kernel
theorem sc_rs : FnScope ["_law_rule"] ["_law_rule"] (defScope (top 35)) := ⟨rfl, rfl, rfl, by decide +kernel, rfl, by decide +kernel, by decide +kernel⟩
theorem ok_rs  (F : Dfn K mg "_law_rule_shown" (top 35) ["_law_rule"]) (T : Txt K mg) (C_law_shown : Cal P w K mg base 22 "_law_shown" ["_law_items_here"] (spShown 21)) : Cal P w K mg base 23 "_law_rule_shown" ["_law_rule"] spRS := by
  refine F.cal sc_rs (fun vs H Q E h => ?_) (fun f cdv A outer s H vs Q E hr h => ?_)
  · obtain ⟨a, c, us, r, rfl, _⟩ := h
    rfl
  · have nd := sc_rs.nd
    obtain ⟨a, c, us, r, rfl, ha, hc, hus, hr0, q⟩ := h
    refine ⟨_, (pss_cons (ps_if (pt_cmpR op_eq (pe_callB call_len_seq (by rfl) T.len PySem.boot_len (pa_cons (pe_ix ix_tup (pv 0) pe_int (fun _ _ => rfl)) pa_nil)) pe_int (nomark _)) (pss_one (ps_ret (pe_op op_add_str (pe_ix ix_tup (pv 0) pe_int (fun _ _ => rfl)) pe_str))) pss_nil)
      (pss_one (ps_ret (pe_op op_add_str (pe_op op_add_str (pe_ix ix_tup (pv 0) pe_int (fun _ _ => rfl)) pe_str) (pe_cal C_law_shown (hr.mono (by decide)) rfl (pa_cons (pe_ix ix_tup (pv 0) pe_int (fun _ _ => rfl)) pa_nil)))))), ?_⟩
    have small : ∀ m : Nat, m ≤ 100000 → m ≤ sizeLine := fun m hm => Nat.le_trans hm (by decide)
    have hul := hus.len
    have hnl := (nameF_len hr0.ok.nm).2.1
    have hsz := hr0.ok.sz
    have hj := jS_lenI hr0.ok.its
    refine ⟨_, rfl, a, _, _, _, rfl, rfl, SqT.of ha, atI_nat (j := 1) rfl, c, us, rfl, .inr (SqT.of hc), rfl, _, rfl, ?_⟩
    by_cases he : r.2 = []
    · rw [he] at hul
      have e0 : decide (V.int ((us.length : Nat) : Int) = V.int 0) = true := decide_eq_true (by rw [hul]; rfl)
      rw [e0]
      refine iteT ?_
      refine ⟨_, rfl, a, _, _, _, rfl, rfl, SqT.of ha, atI_nat (j := 0) rfl, _, _, rfl, rfl, small _ (by show r.1.length + 3 ≤ _; omega), ?_⟩
      have e : r.1 ++ " ->" = ruleT r := by
        refine str_ext ?_
        rw [cps_app, ar_is]
        show r.1.cps.toList ++ [32, 45, 62] = ruleL r
        unfold ruleL
        rw [he]
        rfl
      rw [e]
      exact q H (Same.refl _)
    · have e0 : decide (V.int ((us.length : Nat) : Int) = V.int 0) = false := decide_eq_false (fun z => by
        injection z with z
        have : r.2.length = 0 := by omega
        exact he (List.eq_nil_of_length_eq_zero this))
      rw [e0]
      refine iteF ?_
      refine ⟨_, rfl, a, _, _, _, rfl, rfl, SqT.of ha, atI_nat (j := 0) rfl, _, _, rfl, rfl, small _ (by show r.1.length + 4 ≤ _; omega), ?_⟩
      refine ⟨_, rfl, a, _, _, _, rfl, rfl, SqT.of ha, atI_nat (j := 1) rfl, c, us, r.2, rfl, hc, hus, by have := hr0.ht; omega, hr0.ht, hsz, fun H3 s3 => ?_⟩
      refine ⟨_, _, rfl, rfl, small _ (by rw [app_len]; show r.1.length + 4 + _ ≤ _; omega), ?_⟩
      have e : r.1 ++ " -> " ++ jS r.2 = ruleT r := by
        refine str_ext ?_
        rw [cps_app, cps_app, ar2_is]
        show r.1.cps.toList ++ [32, 45, 62, 32] ++ Tr.jl r.2 = ruleL r
        unfold ruleL
        rw [cl_jl he]
        simp
      rw [e]
      exact q H3 s3
end
end G72
set_option maxHeartbeats 4000000
set_option linter.all false
set_option maxRecDepth 100000
namespace G72
open PySem L2
section
variable {P : Program} {w : World} {K : PySem.W.Frag} {mg : Str → Option Value} {base : Heap}
def spTurner (K : PySem.W.Frag) : Sp := fun vs H Q _ => ∃ (S PL : Addr) (ns : List Int) (zs : List Str), vs = [.ref S, .int 2, .int 8, .ref PL, .int 3] ∧ SqL K H S (ns.map V.int) ∧ H PL = some (.lst (zs.map V.str)) ∧ zs.length = 9 ∧ (∀ z ∈ zs, nameF z = true) ∧
  ∀ (p : Addr) (us : List V) (rs : List Rule) (H' : Hp), Same H H' → H' p = some (.tup us) → RulesAt H' us rs → (∀ r ∈ rs, LOk r) → rs.length ≤ 8 → (∀ (i : Nat) (z : Str), (rs.map (·.1))[i]? = some z → zs[ix9 (cellE ns 2 / 16) i]? = some z) → Q (.ref p) H'
theorem bnd_le {d : Nat} (h : d ≤ 2) : bnd d ≤ 39 := by
  rcases (show d = 0 ∨ d = 1 ∨ d = 2 by omega) with e | e | e <;> subst e <;> decide
theorem sc_lturner : FnScope ["_law_script", "_law_start", "_law_most", "_law_pool", "_law_deep", "_law_first", "_law_rules", "_law_k", "_law_tape_here", "_law_depth"] ["_law_script", "_law_start", "_law_most", "_law_pool", "_law_deep"] (defScope (top 33)) := ⟨rfl, rfl, rfl, by decide +kernel, rfl, by decide +kernel, by decide +kernel⟩
theorem ok_lturner  (F : Dfn K mg "_law_turner" (top 33) ["_law_script", "_law_start", "_law_most", "_law_pool", "_law_deep"]) (T : Txt K mg) (C_law_cell_at : Cal P w K mg base 1 "_law_cell_at" ["_law_script", "_law_k"] (spCell K)) (C_law_tape : Cal P w K mg base 2 "_law_tape" ["_law_cell", "_law_many"] spTape) (C_law_next : Cal P w K mg base 1 "_law_next" ["_law_tape_here", "_law_many"] spNext) (C_law_items : Cal P w K mg base 4 "_law_items" ["_law_tape_here", "_law_depth", "_law_pool"] (spItems 2)) : Cal P w K mg base 5 "_law_turner" ["_law_script", "_law_start", "_law_most", "_law_pool", "_law_deep"] (spTurner K) := by
  refine F.cal sc_lturner (fun vs H Q E h => ?_) (fun f cdv A outer s H vs Q E hr h => ?_)
  · obtain ⟨S, PL, ns, zs, rfl, _⟩ := h
    rfl
  · have nd := sc_lturner.nd
    obtain ⟨S, PL, ns, zs, rfl, hS, hP, hzl, hzn, q⟩ := h
    refine ⟨_, (pss_cons (ps_set (i := 5) nd rfl (Or.inl rfl) (pe_cal C_law_cell_at (hr.mono (by decide)) rfl (pa_cons (pv 0) (pa_cons (pv 1) pa_nil))))
      (pss_cons (ps_set (i := 6) nd rfl (Or.inl rfl) (pe_lst pa_nil))
      (pss_cons (ps_for PassesOwn.never rfl (pi_range1 rfl T.range (pa_cons (pe_op op_mod (pv 5) (pe_op op_add (pv 2) pe_int)) pa_nil)) (pg_name (i := 7) nd rfl (Or.inl rfl))
        (pss_cons (ps_set (i := 8) nd rfl (Or.inl rfl) (pe_cal C_law_tape (hr.mono (by decide)) rfl (pa_cons (pe_cal C_law_cell_at (hr.mono (by decide)) rfl (pa_cons (pv 0) (pa_cons (pe_op op_add (pe_op op_add (pv 1) pe_int) (pv 7)) pa_nil))) (pa_cons pe_int pa_nil))))
      (pss_cons (ps_set (i := 9) nd rfl (Or.inl rfl) (pe_cal C_law_next (hr.mono (by decide)) rfl (pa_cons (pv 8) (pa_cons (pv 4) pa_nil))))
      (pss_one (ps_expr (pe_bm PySem.F.plainAttrs_list PySem.F.slot_list_append PySem.F.type_list_append mt_append (pv 6) (pa_cons (pe_tup (pa_cons (pe_ix ix_list (pv 3) (pe_op op_mod (pe_op op_add (pe_op op_fdiv (pv 5) pe_int) (pe_op op_mul pe_int (pv 7))) pe_int) (fun _ _ => rfl)) (pa_cons (pe_cal C_law_items (hr.mono (by decide)) rfl (pa_cons (pv 8) (pa_cons (pv 9) (pa_cons (pv 3) pa_nil)))) pa_nil))) pa_nil)))))))
      (pss_one (ps_ret (pe_callTy call_tuple_of (by rfl) T.tuple (by decide +kernel) (pa_cons (pv 6) pa_nil))))))), ?_⟩
    have small : ∀ m : Nat, m ≤ 100000 → m < sizeLine := fun m hm => Nat.lt_of_le_of_lt hm (by decide)
    refine ⟨_, rfl, _, rfl, S, ns, 2, rfl, hS, by decide, ?_⟩
    refine ⟨(by show 0 ≤ sizeLine; decide), fun D hD => ?_⟩
    have sD := same_new (o := .lst []) hD
    refine ⟨_, rfl, _, rfl, _, _, rfl, rfl, _, _, rfl, rfl, (by show (0 : Int) < 8 + 1; decide), ?_⟩
    obtain ⟨j, hj⟩ : ∃ j : Int, j = cellE ns 2 % (8 + 1) := ⟨_, rfl⟩
    have hj0 : 0 ≤ j ∧ j ≤ 8 := by omega
    refine ⟨j, by rw [hj], by omega, by omega, ?_⟩
    refine for_range (lo := 0) (n := j.toNat) (fun i σ H2 => ∃ (us : List V) (rs : List Rule) (o1 o2 o3 : Option V), σ = [some (.ref S), some (.int 2), some (.int 8), some (.ref PL), some (.int 3), some (.int (cellE ns 2)), some (.ref D), o1, o2, o3] ∧ H2 D = some (.lst us) ∧ RulesAt H2 us rs ∧ (∀ r ∈ rs, LOk r) ∧ rs.length = i ∧ (∀ (i : Nat) (z : Str), (rs.map (·.1))[i]? = some z → zs[ix9 (cellE ns 2 / 16) i]? = some z) ∧ Same H H2) ⟨[], [], _, _, _, rfl, upd_same, .nil, fun _ h => (nomatch h), rfl, fun _ _ h => (nomatch h), sD⟩ ?_ ?_
    · rintro i σ H2 hi ⟨us, rs, o1, o2, o3, rfl, hd, hrs, hro, hrl, hnm, s2⟩
      have hP2 := s2 _ _ hP
      refine ⟨_, rfl, _, rfl, _, _, rfl, rfl, _, rfl, _, _, rfl, rfl, S, ns, _, rfl, s2.seq hS, by omega, ?_⟩
      refine ⟨_, _, rfl, by decide, by decide, fun L nsT H6 hL s6 hLs hnT => ?_⟩
      have hP6 := s6 _ _ hP2
      have hPL : PL ≠ L := fun z => by rw [← z, hP2] at hL; cases hL
      refine ⟨_, rfl, _, rfl, L, nsT, _, rfl, hLs, hnT, by decide, fun ns3 x HA sxA hLA hnA x0 x1 => ?_⟩
      have s2A : Same H2 HA := SameX.of hL s6 sxA
      have hPA := s2A _ _ hP2
      have hdA := s2A _ _ hd
      have hil : i ≤ 7 := by omega
      obtain ⟨z, hzm, hzi, hzV⟩ := strs_get (ns := zs) (j := ix9 (cellE ns 2 / 16) i) (by rw [hzl]; exact ix9_lt _ _)
      refine ⟨_, rfl, .inl ⟨rfl, _, SqL.of hdA⟩, ?_⟩
      refine ⟨_, rfl, _, rfl, _, _, rfl, rfl, (by show CDiv _ _; unfold CDiv; omega), ?_⟩
      refine ⟨_, rfl, _, _, rfl, rfl, .inl ⟨by decide, by decide⟩, _, _, rfl, rfl, _, _, rfl, rfl, (by show (0 : Int) < 9; decide), PL, _, _, _, rfl, rfl, SqL.of hPA, at_get (j := ix9 (cellE ns 2 / 16) i) (by unfold ix9; show (cellE ns 2 / 16 + 2 * (0 + (i : Int))) % 9 = _; omega) hzV, ?_⟩
      refine ⟨_, rfl, _, rfl, _, rfl, x.toNat, L, PL, ns3, zs, by omega, by show [V.ref L, V.int x, V.ref PL] = _; rw [show ((x.toNat : Nat) : Int) = x by omega], hLA, hnA, hPL, hPA, hzl, hzn, fun c us2 ks ns4 HB sxB hLB hnB hc hks hksz hkht => ?_⟩
      have s2B : Same H2 HB := SameX.of hL s6 (sameX_trans sxA sxB)
      have bl := bnd_le (d := x.toNat) (by omega)
      refine ⟨(by show 2 ≤ sizeLine; decide), fun a ha => ?_⟩
      have sa := same_new (o := .tup [.str z, .ref c]) ha
      have s2C := Same.trans s2B sa
      have hul := hrs.len
      refine ⟨D, us, _, rfl, rfl, s2C _ _ hd, small _ (by omega), ?_⟩
      have kD := Kp.lset (l := D) (ys := us ++ [.ref a]) (s2C _ _ hd)
      have hst := hks.st
      have hsz : Tr.sizes (Itm.trs ks) ≤ 39 := by rw [trs_sizes]; omega
      have hhh := trs_ht ks
      refine ⟨us ++ [.ref a], rs ++ [(z, Itm.trs ks)], _, _, _, rfl, upd_same, ?_, ?_, by rw [List.length_append, hrl]; rfl, ?_, fun b o e => by rw [upd_ne (ne_of_none e hD)]; exact s2C _ _ (s2 b o e)⟩
      · exact RulesAt.snoc (r := (z, Itm.trs ks)) (kD.tup _ _ upd_same) (kD.tup _ _ (sa _ _ hc)) ((hst.kp (Kp.same sa)).kp kD) ((hrs.kp (Kp.same s2C)).kp kD)
      · intro r hr
        rcases List.mem_append.mp hr with h' | h'
        · exact hro r h'
        · rw [List.mem_singleton.mp h']
          exact ⟨⟨hzn z hzm, hst.fI, by show Tr.sizes (Itm.trs ks) ≤ 200; omega⟩, by show Tr.hts (Itm.trs ks) ≤ 20; omega⟩
      · intro i' z' h'
        rw [List.map_append] at h'
        by_cases hlt : i' < (rs.map (·.1)).length
        · rw [List.getElem?_append_left hlt] at h'
          exact hnm i' z' h'
        · rw [List.getElem?_append_right (by omega)] at h'
          have e0 : i' - (rs.map (·.1)).length = 0 := by
            cases hh : i' - (rs.map (·.1)).length with
            | zero => rfl
            | succ m => rw [hh] at h'; cases h'
          rw [e0] at h'
          cases h'
          have : i' = i := by rw [List.length_map] at e0 hlt; omega
          rw [this]
          exact hzi
    · rintro σ H2 ⟨us, rs, o1, o2, o3, rfl, hd, hrs, hro, hrl, hnm, s2⟩
      refine ⟨_, rfl, D, _, rfl, .inl ⟨SqL.of hd, fun p hp => ?_⟩⟩
      have sp := same_new (o := .tup us) hp
      exact q p us rs _ (Same.trans s2 sp) upd_same (hrs.kp (Kp.same sp)) hro (by omega) hnm
end
end G72
set_option maxHeartbeats 4000000
set_option linter.all false
set_option maxRecDepth 100000
namespace G72
open PySem L2
section
variable {P : Program} {w : World} {K : PySem.W.Frag} {mg : Str → Option Value} {base : Heap}
def spLetter : Sp := fun vs H Q _ => ∃ (c : Nat), vs = [.str ⟨#[c]⟩] ∧ Q (.bl (isLet c)) H
theorem sc_letter : FnScope ["sign"] ["sign"] (defScope (top 9)) := ⟨rfl, rfl, rfl, by decide +kernel, rfl, by decide +kernel, by decide +kernel⟩
theorem ok_letter  (F : Dfn K mg "is_letter" (top 9) ["sign"]) (T : Txt K mg)  : Cal P w K mg base 1 "is_letter" ["sign"] spLetter := by
  refine F.cal sc_letter (fun vs H Q E h => ?_) (fun f cdv A outer s H vs Q E hr h => ?_)
  · obtain ⟨c, rfl, _⟩ := h
    rfl
  · have nd := sc_letter.nd
    obtain ⟨c, rfl, q⟩ := h
    refine ⟨_, (pss_one (ps_ret (pe_chain op_le_str op_le_str pe_str (pv 0) pe_str))), ?_⟩
    obtain ⟨f1, f2⟩ := le_chain c
    refine ⟨_, rfl, _, _, rfl, rfl, _, rfl, ?_⟩
    have e : isLet c = (!decide (c < 97) && !decide (122 < c)) := rfl
    rw [f1]
    rw [e] at q
    cases hb : (!decide (c < 97)) with
    | false =>
      rw [hb] at q
      exact iteF q
    | true =>
      rw [hb] at q
      refine iteT ⟨_, _, rfl, rfl, ?_⟩
      rw [f2]
      exact q
def spSign : Sp := fun vs H Q _ => ∃ (z : Str) (a : Nat), vs = [.str z, .int (a : Int)] ∧ a ≤ z.length ∧ z.length ≤ 10000 ∧ Q (.str (sgS (z.cps.toList.drop a))) H
theorem sc_sign : FnScope ["text", "at"] ["text", "at"] (defScope (top 14)) := ⟨rfl, rfl, rfl, by decide +kernel, rfl, by decide +kernel, by decide +kernel⟩
theorem ok_sign  (F : Dfn K mg "sign_at" (top 14) ["text", "at"]) (T : Txt K mg)  : Cal P w K mg base 1 "sign_at" ["text", "at"] spSign := by
  refine F.cal sc_sign (fun vs H Q E h => ?_) (fun f cdv A outer s H vs Q E hr h => ?_)
  · obtain ⟨z, a, rfl, _⟩ := h
    rfl
  · have nd := sc_sign.nd
    obtain ⟨z, a, rfl, ha, hz, q⟩ := h
    refine ⟨_, (pss_one (ps_ret (pe_slice sl_str (pv 0) (po_some (pv 1)) (po_some (pe_op op_add (pv 1) pe_int))))), ?_⟩
    rw [← cut_sign ha] at q
    exact ⟨_, rfl, _, rfl, _, rfl, _, rfl, _, _, rfl, rfl, _, rfl, z, rfl, Nat.le_trans hz (by decide), q⟩
def spNameAt : Sp := fun vs H Q _ => ∃ (z n : Str) (a : Nat) (r : List Nat), vs = [.str z, .int (a : Int)] ∧ z.length ≤ 10000 ∧ nameF n = true ∧ z.cps.toList.drop a = n.cps.toList ++ r ∧ (r = [] ∨ ∃ c r', r = c :: r' ∧ isLet c = false) ∧ Q (.str n) H
theorem sc_nameat : FnScope ["text", "at", "end"] ["text", "at"] (defScope (top 15)) := ⟨rfl, rfl, rfl, by decide +kernel, rfl, by decide +kernel, by decide +kernel⟩
theorem ok_nameat  (F : Dfn K mg "name_at" (top 15) ["text", "at"]) (T : Txt K mg) (Cis_letter : Cal P w K mg base 1 "is_letter" ["sign"] spLetter) : Cal P w K mg base 2 "name_at" ["text", "at"] spNameAt := by
  refine F.cal sc_nameat (fun vs H Q E h => ?_) (fun f cdv A outer s H vs Q E hr h => ?_)
  · obtain ⟨z, n, a, r, rfl, _⟩ := h
    rfl
  · have nd := sc_nameat.nd
    obtain ⟨z, n, a, r, rfl, hz, hn, hd, hr', q⟩ := h
    obtain ⟨tn, hnl⟩ := T.NAME_LETTERS
    refine ⟨_, (pss_cons (ps_set (i := 2) nd rfl (Or.inl rfl) (pv 1))
      (pss_cons (ps_while PassesOwn.never (PW.pt (pw_and (pt_cmpR op_lt (pv 2) (pe_callB call_len_str (by rfl) T.len PySem.boot_len (pa_cons (pv 0) pa_nil)) (nomark _)) (pw_and (pt_cmpR op_lt (pv 2) (pe_op op_add (pv 1) (pe_glob (v := .int 8) (by rfl) hnl ⟨_, rfl⟩)) (nomark _)) (pw_and1 (pt_val (pe_cal Cis_letter (hr.mono (by decide)) rfl (pa_cons (pe_ix ix_str (pv 0) (pv 2) (fun _ _ => rfl)) pa_nil)))))))
        (pss_one (ps_aug (i := 2) nd rfl (.inl rfl) pe_int ip_add)))
      (pss_cons (ps_if (pt_cmpR op_eq (pv 2) (pv 1) (nomark _)) (pss_one ps_never) pss_nil)
      (pss_one (ps_ret (pe_slice sl_str (pv 0) (po_some (pv 1)) (po_some (pv 2)))))))), ?_⟩
    obtain ⟨n1, n2, n3⟩ := nameF_len hn
    have small : z.length ≤ sizeLine := Nat.le_trans hz (by decide)
    have hzl : z.length = a + n.length + r.length := by
      have h1 := congrArg List.length hd
      rw [List.length_drop, List.length_append, len_toList, len_toList] at h1
      omega
    refine ⟨_, rfl, ?_⟩
    refine ⟨fun m σ H2 => ∃ i : Nat, i ≤ n.length ∧ m = n.length - i ∧ σ = [some (.str z), some (.int (a : Int)), some (.int ((a + i : Nat) : Int))] ∧ H2 = H, ⟨n.length, 0, Nat.zero_le _, rfl, rfl, rfl⟩, ?_⟩
    rintro m σ H2 ⟨i, hi, rfl, rfl, rfl⟩
    have gt : ∀ j c, (n.cps.toList ++ r)[j]? = some c → atI z.cps.toList ((a + j : Nat) : Int) = some c := fun j c e => by
      refine at_get rfl ?_
      rw [← hd, List.getElem?_drop] at e
      exact e
    refine ⟨_, rfl, _, rfl, z, rfl, small, _, _, rfl, rfl, _, rfl, ?_⟩
    by_cases hlt : i < n.length
    · rw [decide_eq_true (show ((a + i : Nat) : Int) < ((z.length : Nat) : Int) by omega)]
      refine iteT ?_
      refine ⟨_, rfl, _, rfl, _, _, rfl, rfl, _, _, rfl, rfl, _, rfl, ?_⟩
      rw [decide_eq_true (show ((a + i : Nat) : Int) < (a : Int) + 8 by omega)]
      refine iteT ?_
      obtain ⟨c, hc⟩ : ∃ c, n.cps.toList[i]? = some c := ⟨n.cps.toList[i]'(by rw [len_toList]; exact hlt), List.getElem?_eq_getElem _⟩
      have hcl : isLet c = true := by
        rw [List.all_eq_true] at n3
        exact n3 c (List.mem_of_getElem? hc)
      refine ⟨_, rfl, _, rfl, z, _, c, rfl, rfl, small, gt i c (by rw [List.getElem?_append_left (by rw [len_toList]; exact hlt)]; exact hc), _, rfl, _, rfl, ?_⟩
      rw [hcl]
      refine iteT ?_
      refine ⟨fun σ' H' => ∃ m', m' < n.length - i ∧ ∃ i : Nat, i ≤ n.length ∧ m' = n.length - i ∧ σ' = [some (.str z), some (.int (a : Int)), some (.int ((a + i : Nat) : Int))] ∧ H' = H2, fun _ _ h => h, ?_⟩
      refine ⟨_, rfl, _, _, rfl, rfl, ?_⟩
      refine ⟨n.length - (i + 1), by omega, i + 1, hlt, rfl, ?_, rfl⟩
      show [some (V.str z), some (V.int (a : Int)), some (V.int (((a + i : Nat) : Int) + 1))] = _
      have e5 : ((a + i : Nat) : Int) + 1 = ((a + (i + 1) : Nat) : Int) := by omega
      rw [e5]
    · have ei : i = n.length := by omega
      rcases hr' with rfl | ⟨c, r', rfl, hc⟩
      · have hz2 : z.length = a + n.length := by simpa using hzl
        rw [decide_eq_false (show ¬ ((a + i : Nat) : Int) < ((z.length : Nat) : Int) by omega)]
        refine iteF (iteF ?_)
        refine ⟨_, rfl, _, rfl, rfl, _, rfl, ?_⟩
        have e0 : decide (V.int ((a + i : Nat) : Int) = V.int (a : Int)) = false := decide_eq_false (fun z => by injection z with z; omega)
        rw [e0]
        refine iteF ?_
        refine ⟨_, rfl, _, rfl, _, rfl, _, rfl, _, rfl, z, rfl, small, ?_⟩
        rw [cut_nat (by omega) (by omega), hd]
        have e1 : a + i - a = n.cps.toList.length := by rw [len_toList]; omega
        rw [e1, List.take_left' rfl]
        exact q
      · have hz2 : z.length = a + n.length + (r'.length + 1) := by simpa using hzl
        rw [decide_eq_true (show ((a + i : Nat) : Int) < ((z.length : Nat) : Int) by omega)]
        refine iteT ?_
        refine ⟨_, rfl, _, rfl, _, _, rfl, rfl, _, _, rfl, rfl, _, rfl, ?_⟩
        by_cases h8 : i < 8
        · rw [decide_eq_true (show ((a + i : Nat) : Int) < (a : Int) + 8 by omega)]
          refine iteT ?_
          refine ⟨_, rfl, _, rfl, z, _, c, rfl, rfl, small, gt i c (by rw [List.getElem?_append_right (by rw [len_toList]; omega), len_toList, ei, Nat.sub_self]; rfl), _, rfl, _, rfl, ?_⟩
          rw [hc]
          refine iteF ?_
          refine ⟨_, rfl, _, rfl, rfl, _, rfl, ?_⟩
          have e0 : decide (V.int ((a + i : Nat) : Int) = V.int (a : Int)) = false := decide_eq_false (fun z => by injection z with z; omega)
          rw [e0]
          refine iteF ?_
          refine ⟨_, rfl, _, rfl, _, rfl, _, rfl, _, rfl, z, rfl, small, ?_⟩
          rw [cut_nat (by omega) (by omega), hd]
          have e1 : a + i - a = n.cps.toList.length := by rw [len_toList]; omega
          rw [e1, List.take_left' rfl]
          exact q
        · rw [decide_eq_false (show ¬ ((a + i : Nat) : Int) < (a : Int) + 8 by omega)]
          refine iteF (iteF ?_)
          refine ⟨_, rfl, _, rfl, rfl, _, rfl, ?_⟩
          have e0 : decide (V.int ((a + i : Nat) : Int) = V.int (a : Int)) = false := decide_eq_false (fun z => by injection z with z; omega)
          rw [e0]
          refine iteF ?_
          refine ⟨_, rfl, _, rfl, _, rfl, _, rfl, _, rfl, z, rfl, small, ?_⟩
          rw [cut_nat (by omega) (by omega), hd]
          have e1 : a + i - a = n.cps.toList.length := by rw [len_toList]; omega
          rw [e1, List.take_left' rfl]
          exact q
def spClosed : Sp := fun vs H Q _ => ∃ (td0 : List Tr) (z : Str) (a : Nat) (v : V) (u : Tr) (B : Addr) (ws : List V) (fs : List Fr), vs = [.str z, .int (a : Int), v, .ref B] ∧ z.length ≤ 10000 ∧ a ≤ z.length ∧ z.cps.toList.drop a = restI td0 fs ∧ StAt H v u ∧ H B = some (.lst ws.reverse) ∧ FrsI H ws fs ∧ (∀ f ∈ fs, f.c ≠ B) ∧ (plug fs u).size ≤ 1000 ∧ (plug fs u).fI = true ∧
  ∀ (R : Addr) (a' : Nat) (v' : V) (u' : Tr) (ws' : List V) (fs' : List Fr) (H' : Hp), (∀ b o, b ≠ B → H b = some o → H' b = some o) → H' R = some (.tup [v', .int (a' : Int)]) → z.cps.toList.drop a' = restI td0 fs' → a ≤ a' → a' ≤ z.length → StAt H' v' u' → H' B = some (.lst ws'.reverse) → FrsI H' ws' fs' → (∀ f ∈ fs', f ∈ fs) → plug fs' u' = plug fs u → (fs' = [] ∨ ∃ f gs, fs' = f :: gs ∧ f.td ≠ []) → Q (.ref R) H'
theorem sc_closed : FnScope ["text", "at", "doc", "above", "name", "children"] ["text", "at", "doc", "above"] (defScope (top 16)) := ⟨rfl, rfl, rfl, by decide +kernel, rfl, by decide +kernel, by decide +kernel⟩
theorem ok_closed  (F : Dfn K mg "closed" (top 16) ["text", "at", "doc", "above"]) (T : Txt K mg) (Csign_at : Cal P w K mg base 1 "sign_at" ["text", "at"] spSign) : Cal P w K mg base 2 "closed" ["text", "at", "doc", "above"] spClosed := by
  refine F.cal sc_closed (fun vs H Q E h => ?_) (fun f cdv A outer s H vs Q E hr h => ?_)
  · obtain ⟨td0, z, a, v, u, B, ws, fs, rfl, _⟩ := h
    rfl
  · have nd := sc_closed.nd
    obtain ⟨td0, z, a, v, u, B, ws, fs, rfl, hz, ha, hd, ht, hB, hF, hne, hsz, hfin, q⟩ := h
    refine ⟨_, (pss_cons (ps_while PassesOwn.never (PW.pt (pw_and (pt_truth (pv 3) (by intro _; rfl)) (pw_and1 (pt_cmpR op_eq (pe_cal Csign_at (hr.mono (by decide)) rfl (pa_cons (pv 0) (pa_cons (pv 1) pa_nil))) pe_str (nomark _)))))
        (pss_cons (ps_asg (pe_bm0 PySem.F.plainAttrs_list PySem.F.slot_list_pop PySem.F.type_list_pop mt_pop (pv 3)) (pg_tup rfl (pgs_cons (pg_name (i := 4) nd rfl (Or.inl rfl)) (pgs_cons (pg_name (i := 5) nd rfl (Or.inl rfl)) pgs_nil))))
      (pss_cons (ps_set (i := 2) nd rfl (Or.inl rfl) (pe_tup (pa_cons (pv 4) (pa_cons (pe_callTy call_tuple_of (by rfl) T.tuple (by decide +kernel) (pa_cons (pe_op op_cat (pv 5) (pe_lst (pa_cons (pv 2) pa_nil))) pa_nil)) pa_nil))))
      (pss_one (ps_aug (i := 1) nd rfl (.inl rfl) pe_int ip_add)))))
      (pss_one (ps_ret (pe_tup (pa_cons (pv 2) (pa_cons (pv 1) pa_nil)))))), ?_⟩
    have small : ∀ m : Nat, m ≤ 100000 → m ≤ sizeLine := fun m hm => Nat.le_trans hm (by decide)
    refine ⟨fun m σ H2 => ∃ (a' : Nat) (v' : V) (u' : Tr) (ws' : List V) (fs' : List Fr) (nn cc : Option V), σ = [some (.str z), some (.int (a' : Int)), some v', some (.ref B), nn, cc] ∧ m = fs'.length ∧ (∀ b o, b ≠ B → H b = some o → H2 b = some o) ∧ z.cps.toList.drop a' = restI td0 fs' ∧ a ≤ a' ∧ a' ≤ z.length ∧ StAt H2 v' u' ∧ H2 B = some (.lst ws'.reverse) ∧ FrsI H2 ws' fs' ∧ (∀ f ∈ fs', f ∈ fs) ∧ plug fs' u' = plug fs u, ⟨fs.length, a, v, u, ws, fs, none, none, rfl, rfl, fun _ _ _ h => h, hd, Nat.le_refl _, ha, ht, hB, hF, fun _ h => h, rfl⟩, ?_⟩
    rintro m σ H2 ⟨a', v', u', ws', fs', nn, cc, rfl, rfl, k2, hd2, ha2, haz, ht2, hB2, hF2, hin, hpl⟩
    refine ⟨_, rfl, !ws'.reverse.isEmpty, .inl ⟨_, SqL.of hB2, rfl⟩, ?_⟩
    cases hF2 with
    | nil =>
      refine iteF (iteF ?_)
      refine ⟨_, rfl, _, rfl, (by show 2 ≤ sizeLine; decide), fun R hR => ?_⟩
      have sR := same_new (o := .tup [v', .int (a' : Int)]) hR
      exact q R a' v' u' [] [] _ (fun b o hb e => sR _ _ (k2 b o hb e)) upd_same hd2 ha2 haz (ht2.kp (Kp.same sR)) (sR _ _ hB2) .nil (fun f h => (nomatch h)) hpl (.inl rfl)
    | @cons ad f vs us gs h1 h2 h3 h4 h5 =>
      have hne1 : (!(V.ref ad :: us).reverse.isEmpty) = true := by simp
      rw [hne1]
      refine iteT ?_
      refine ⟨_, rfl, _, rfl, z, a', rfl, haz, hz, rfl, _, rfl, ?_⟩
      have hrest : restI td0 (f :: gs) = Tr.cl f.td ++ 41 :: restI td0 gs := rfl
      cases htd : f.td with
      | cons t1 tr =>
        have e0 : z.cps.toList.drop a' = 32 :: ((t1.tl ++ Tr.cl tr) ++ 41 :: restI td0 gs) := by rw [hd2, hrest, htd]; rfl
        have e1 : decide (V.str (sgS (z.cps.toList.drop a')) = V.str ")") = false := by rw [e0, sgS_bl]; decide +kernel
        rw [e1]
        refine iteF ?_
        refine ⟨_, rfl, _, rfl, (by show 2 ≤ sizeLine; decide), fun R hR => ?_⟩
        have sR := same_new (o := .tup [v', .int (a' : Int)]) hR
        exact q R a' v' u' _ _ _ (fun b o hb e => sR _ _ (k2 b o hb e)) upd_same hd2 ha2 haz (ht2.kp (Kp.same sR)) (sR _ _ hB2) (FrsI.same sR (.cons h1 h2 h3 h4 h5)) hin hpl (.inr ⟨f, gs, rfl, by rw [htd]; simp⟩)
      | nil =>
        have e0 : z.cps.toList.drop a' = 41 :: restI td0 gs := by rw [hd2, hrest, htd]; rfl
        have e1 : decide (V.str (sgS (z.cps.toList.drop a')) = V.str ")") = true := by rw [e0, sgS_rp]; decide +kernel
        rw [e1]
        refine iteT ?_
        refine ⟨fun σ' H' => ∃ m', m' < (f :: gs).length ∧ ∃ (a' : Nat) (v' : V) (u' : Tr) (ws' : List V) (fs' : List Fr) (nn cc : Option V), σ' = [some (.str z), some (.int (a' : Int)), some v', some (.ref B), nn, cc] ∧ m' = fs'.length ∧ (∀ b o, b ≠ B → H b = some o → H' b = some o) ∧ z.cps.toList.drop a' = restI td0 fs' ∧ a ≤ a' ∧ a' ≤ z.length ∧ StAt H' v' u' ∧ H' B = some (.lst ws'.reverse) ∧ FrsI H' ws' fs' ∧ (∀ f ∈ fs', f ∈ fs) ∧ plug fs' u' = plug fs u, fun _ _ h => h, ?_⟩
        have hfB : f.c ≠ B := hne f (hin f (List.mem_cons_self ..))
        have hgB : ∀ g ∈ gs, g.c ≠ B := fun g hg => hne g (hin g (List.mem_cons_of_mem _ hg))
        refine ⟨_, rfl, .inl ⟨rfl, _, SqL.of hB2⟩, B, _, _, rfl, rfl, hB2, last_rev, ?_⟩
        rw [dropLast_rev]
        have kB : Kp H2 (upd H2 B (.lst us.reverse)) := Kp.lset hB2
        have a1 := kB.tup _ _ h1
        have a2 : (upd H2 B (.lst us.reverse)) f.c = some (.lst vs) := by rw [upd_ne hfB]; exact h2
        have a3 := h3.kp kB
        have a4 : FrsI (upd H2 B (.lst us.reverse)) us gs := h4.upd hB2 hgB
        have a5 := ht2.kp kB
        have a6 : ∀ b o, b ≠ B → H b = some o → (upd H2 B (.lst us.reverse)) b = some o := fun b o hb e => by
          rw [upd_ne hb]
          exact k2 b o hb e
        have a7 : (upd H2 B (.lst us.reverse)) B = some (.lst us.reverse) := upd_same
        generalize upd H2 B (.lst us.reverse) = H3 at a1 a2 a3 a4 a5 a6 a7
        have vl := a3.len
        have pl := plug_len f gs u'
        rw [hpl] at pl
        refine ⟨ad, _, rfl, SqT.of a1, rfl, _, _, rfl, _, _, rfl, rfl, ?_⟩
        refine ⟨_, rfl, _, rfl, _, rfl, (by show 1 ≤ sizeLine; decide), fun l1 hl1 => ?_⟩
        have s1 := same_new (o := .lst [v']) hl1
        refine ⟨f.c, l1, vs, [v'], rfl, rfl, s1 _ _ a2, upd_same, small _ (by show vs.length + 1 ≤ _; omega), fun l2 hl2 => ?_⟩
        have s2 := same_new (o := .lst (vs ++ [v'])) hl2
        refine ⟨l2, _, rfl, .inl ⟨SqL.of upd_same, fun l3 hl3 => ?_⟩⟩
        have s3 := same_new (o := .tup (vs ++ [v'])) hl3
        refine ⟨(by show 2 ≤ sizeLine; decide), fun l4 hl4 => ?_⟩
        have s4 := same_new (o := .tup [.str f.n, .ref l3]) hl4
        refine ⟨_, rfl, _, _, rfl, rfl, ?_⟩
        have s14 := Same.trans (Same.trans (Same.trans s1 s2) s3) s4
        have hn : nameF f.n = true := plug_nameI f gs u' (by rw [hpl]; exact hfin)
        have e5 : ((a' : Nat) : Int) + 1 = ((a' + 1 : Nat) : Int) := by omega
        have dz : z.length - a' = (41 :: restI td0 gs).length := by rw [← e0, List.length_drop, len_toList]
        refine ⟨gs.length, by simp, a' + 1, .ref l4, .node f.n (f.d ++ [u']), us, gs, some (.str f.n), some (.ref f.c), (by rw [← e5]; rfl), rfl, fun b o hb e => s14 _ _ (a6 b o hb e), ?_, by omega, ?_, ?_, s14 _ _ a7, a4.same s14, fun g hg => hin g (List.mem_cons_of_mem _ hg), ?_⟩
        · rw [← List.drop_drop, e0]
          rfl
        · simp at dz
          omega
        · refine .node upd_same (s4 _ _ upd_same) hn ?_
          exact (a3.app (.cons a5 .nil)).kp (Kp.same s14)
        · rw [← hpl]
          show plug gs (.node f.n (f.d ++ [u'])) = plug gs (.node f.n (f.d ++ u' :: f.td))
          rw [htd]
def spItem : Sp := fun vs H Q _ => ∃ (z : Str) (a : Nat) (r : List Nat), vs = [.str z, .int (a : Int)] ∧ z.length ≤ 10000 ∧ a ≤ z.length ∧
  ((z.cps.toList.drop a = 42 :: r ∧ ∀ (R : Addr) (H' : Hp), Same H H' → H' R = some (.tup [.str "*", .int ((a : Int) + 1)]) → Q (.ref R) H') ∨
   (∃ n : Str, nameF n = true ∧ z.cps.toList.drop a = n.cps.toList ++ r ∧ (r = [] ∨ ∃ c r', r = c :: r' ∧ isLet c = false) ∧ ∀ (R T c0 : Addr) (H' : Hp), Same H H' → H' R = some (.tup [.ref T, .int ((a : Int) + (n.length : Int))]) → H' T = some (.tup [.str n, .ref c0]) → H' c0 = some (.tup []) → Q (.ref R) H'))
theorem st_is : ("*" : Str) = ⟨#[42]⟩ := by decide +kernel
theorem sc_item : FnScope ["text", "at", "name"] ["text", "at"] (defScope (top 20)) := ⟨rfl, rfl, rfl, by decide +kernel, rfl, by decide +kernel, by decide +kernel⟩
theorem ok_item  (F : Dfn K mg "item_at" (top 20) ["text", "at"]) (T : Txt K mg) (Cname_at : Cal P w K mg base 2 "name_at" ["text", "at"] spNameAt) (Csign_at : Cal P w K mg base 1 "sign_at" ["text", "at"] spSign) : Cal P w K mg base 3 "item_at" ["text", "at"] spItem := by
  refine F.cal sc_item (fun vs H Q E h => ?_) (fun f cdv A outer s H vs Q E hr h => ?_)
  · obtain ⟨z, a, r, rfl, _⟩ := h
    rfl
  · have nd := sc_item.nd
    obtain ⟨z, a, r, rfl, hz, ha, h⟩ := h
    obtain ⟨tH, hHOLE⟩ := T.HOLE
    refine ⟨_, (pss_cons (ps_if (pt_cmpR op_eq (pe_cal Csign_at (hr.mono (by decide)) rfl (pa_cons (pv 0) (pa_cons (pv 1) pa_nil))) (pe_glob (v := .str "*") (by rfl) hHOLE ⟨_, rfl⟩) (nomark _)) (pss_one (ps_ret (pe_tup (pa_cons (pe_glob (v := .str "*") (by rfl) hHOLE ⟨_, rfl⟩) (pa_cons (pe_op op_add (pv 1) pe_int) pa_nil))))) pss_nil)
      (pss_cons (ps_set (i := 2) nd rfl (Or.inl rfl) (pe_cal Cname_at (hr.mono (by decide)) rfl (pa_cons (pv 0) (pa_cons (pv 1) pa_nil))))
      (pss_one (ps_ret (pe_tup (pa_cons (pe_tup (pa_cons (pv 2) (pa_cons (pe_tup pa_nil) pa_nil))) (pa_cons (pe_op op_add (pv 1) (pe_callB call_len_str (by rfl) T.len PySem.boot_len (pa_cons (pv 2) pa_nil))) pa_nil))))))), ?_⟩
    have small : ∀ m : Nat, m ≤ 100000 → m ≤ sizeLine := fun m hm => Nat.le_trans hm (by decide)
    rcases h with ⟨hd, q⟩ | ⟨n, hn, hd, hr', q⟩
    · refine ⟨_, rfl, _, rfl, z, a, rfl, ha, hz, rfl, _, rfl, ?_⟩
      have e1 : decide (V.str (sgS (z.cps.toList.drop a)) = V.str "*") = true := by rw [hd, sgS_cons, st_is]; decide +kernel
      rw [e1]
      refine iteT ?_
      refine ⟨_, rfl, _, _, rfl, rfl, (by show 2 ≤ sizeLine; decide), fun R hR => ?_⟩
      exact q R _ (same_new hR) upd_same
    · obtain ⟨n1, n2, n3⟩ := nameF_len hn
      refine ⟨_, rfl, _, rfl, z, a, rfl, ha, hz, rfl, _, rfl, ?_⟩
      obtain ⟨c, l, hc⟩ : ∃ c l, n.cps.toList = c :: l := by
        cases e : n.cps.toList with
        | nil => have := congrArg List.length e; rw [len_toList] at this; rw [this] at n1; exact absurd n1 (by decide)
        | cons c l => exact ⟨c, l, rfl⟩
      have hcl : isLet c = true := by
        rw [hc, List.all_cons] at n3
        exact (Bool.and_eq_true_iff.mp n3).1
      have e1 : decide (V.str (sgS (z.cps.toList.drop a)) = V.str "*") = false := by
        rw [hd, hc, List.cons_append, sgS_cons, st_is]
        refine decide_eq_false fun e => ?_
        injection e with e
        injection e with e
        have e : c = 42 := by simpa using e
        rw [e] at hcl
        exact absurd hcl (by decide)
      rw [e1]
      refine iteF ?_
      refine ⟨_, rfl, _, rfl, z, n, a, r, rfl, hz, hn, hd, hr', ?_⟩
      refine ⟨_, rfl, (by show 0 ≤ sizeLine; decide), fun c0 hc0 => ⟨(by show 2 ≤ sizeLine; decide), fun T hT => ?_⟩⟩
      have s1 := same_new (o := .tup []) hc0
      have s2 := same_new (o := .tup [.str n, .ref c0]) hT
      refine ⟨_, rfl, _, rfl, n, rfl, small _ (by omega), _, _, rfl, rfl, (by show 2 ≤ sizeLine; decide), fun R hR => ?_⟩
      have s3 := same_new (o := .tup [.ref T, .int ((a : Int) + (n.length : Int))]) hR
      exact q R T c0 _ (Same.trans s1 (Same.trans s2 s3)) upd_same (s3 _ _ upd_same) (s3 _ _ (s2 _ _ upd_same))
end
end G72
set_option maxHeartbeats 4000000
set_option linter.all false
set_option maxRecDepth 100000
namespace G72
open PySem L2
section
variable {P : Program} {w : World} {K : PySem.W.Frag} {mg : Str → Option Value} {base : Heap}
theorem kp_but {H H' : Hp} {B : Addr} {xs ys : List V} (k : ∀ b o, b ≠ B → H b = some o → H' b = some o) (hB : H B = some (.lst xs)) (hB' : H' B = some (.lst ys)) : Kp H H' := by
  refine ⟨fun b zs e => k b _ (fun z => by rw [z, hB] at e; cases e) e, fun b zs e => ?_, fun b zs e => ⟨zs, k b _ (fun z => by rw [z, hB] at e; cases e) e⟩, fun b o u e => k b _ (fun z => by rw [z, hB] at e; cases e) e, fun b φ e => k b _ (fun z => by rw [z, hB] at e; cases e) e⟩
  by_cases hb : b = B
  · rw [hb]; exact ⟨ys, hB'⟩
  · exact ⟨zs, k b _ hb e⟩
def jlS (its : List Tr) : Str := ofL (Tr.jl its)
theorem jlS_len {its : List Tr} (hf : Tr.fsI its = true) : (jlS its).length ≤ 11 * Tr.sizes its := by
  have h1 := clI_len its hf
  have h2 : (jlS its).length = (Tr.cl its).tail.length := by simp [jlS, ofL, Tr.jl, Str.length]
  rw [h2, List.length_tail]
  omega
def spReadI : Sp := fun vs H Q _ => ∃ its : List Tr, vs = [.str (jlS its)] ∧ its ≠ [] ∧ Tr.fsI its = true ∧ Tr.sizes its ≤ 900 ∧ ∀ (R : Addr) (us : List V) (H' : Hp), Same H H' → H' R = some (.tup us) → StsAt H' us its → Q (.ref R) H'
theorem leaf_dp {K : PySem.W.Frag} {H : Hp} {T c0 : Addr} {n : Str} (h1 : H T = some (.tup [.str n, .ref c0])) (h2 : H c0 = some (.tup [])) (hn : nameF n = true) : Dp K H (.ref T) (Itm.node n []).data ∧ SeqAt.shaped (Itm.node n []).data = true := by
  have h : ItAt H (.ref T) (.node n []) := .node h1 h2 hn .nil
  exact ⟨h.dp, it_shaped h (by show 1 + 0 ≤ 30; decide)⟩
theorem sc_items_read : FnScope ["text", "items", "above", "at", "item", "row"] ["text"] (defScope (top 21)) := ⟨rfl, rfl, rfl, by decide +kernel, rfl, by decide +kernel, by decide +kernel⟩
theorem ok_items_read  (F : Dfn K mg "read_items" (top 21) ["text"]) (T : Txt K mg) (Citem_at : Cal P w K mg base 3 "item_at" ["text", "at"] spItem) (Csign_at : Cal P w K mg base 1 "sign_at" ["text", "at"] spSign) (Cclosed : Cal P w K mg base 2 "closed" ["text", "at", "doc", "above"] spClosed) : Cal P w K mg base 4 "read_items" ["text"] spReadI := by
  refine F.cal sc_items_read (fun vs H Q E h => ?_) (fun f cdv A outer s H vs Q E hr h => ?_)
  · obtain ⟨its, rfl, _⟩ := h
    rfl
  · have nd := sc_items_read.nd
    obtain ⟨its, rfl, hne, hf, hsz, q⟩ := h
    obtain ⟨tH, hHOLE⟩ := T.HOLE
    refine ⟨_, (pss_cons (ps_set (i := 1) nd rfl (Or.inl rfl) (pe_lst pa_nil))
      (pss_cons (ps_set (i := 2) nd rfl (Or.inl rfl) (pe_lst pa_nil))
      (pss_cons (ps_set (i := 3) nd rfl (Or.inl rfl) pe_int)
      (pss_one (ps_while PassesOwn.never (pt_val pe_bl)
        (pss_cons (ps_cut (ps_asg (pe_cal Citem_at (hr.mono (by decide)) rfl (pa_cons (pv 0) (pa_cons (pv 3) pa_nil))) (pg_tup rfl (pgs_cons (pg_name (i := 4) nd rfl (Or.inl rfl)) (pgs_cons (pg_name (i := 3) nd rfl (Or.inl rfl)) pgs_nil)))))
      (pss_cons (ps_cut (ps_if (PW.pt (pw_and (pt_cmpR (op_neD hr.units) (pv 4) (pe_glob (v := .str "*") (by rfl) hHOLE ⟨_, rfl⟩) (nomark _)) (pw_and1 (pt_cmpR op_eq (pe_cal Csign_at (hr.mono (by decide)) rfl (pa_cons (pv 0) (pa_cons (pv 3) pa_nil))) pe_str (nomark _))))) (pss_cons (ps_expr (pe_bm PySem.F.plainAttrs_list PySem.F.slot_list_append PySem.F.type_list_append mt_append (pv 2) (pa_cons (pe_tup (pa_cons (pe_ix ix_tup (pv 4) pe_int (fun _ _ => rfl)) (pa_cons (pe_lst pa_nil) pa_nil))) pa_nil)))
      (pss_cons (ps_aug (i := 3) nd rfl (.inl rfl) pe_int ip_add)
      (pss_one ps_continue))) pss_nil))
      (pss_cons (ps_asg (pe_cal Cclosed (hr.mono (by decide)) rfl (pa_cons (pv 0) (pa_cons (pv 3) (pa_cons (pv 4) (pa_cons (pv 2) pa_nil))))) (pg_tup rfl (pgs_cons (pg_name (i := 4) nd rfl (Or.inl rfl)) (pgs_cons (pg_name (i := 3) nd rfl (Or.inl rfl)) pgs_nil))))
      (pss_cons (ps_set (i := 5) nd rfl (Or.inl rfl) (pe_ifExp (pt_truth (pv 2) (by intro _; rfl)) (pe_ix ix_tup (pe_ix ix_list (pv 2) (pe_un un_neg pe_int) (fun _ _ => rfl)) pe_int (fun _ _ => rfl)) (pv 1)))
      (pss_cons (ps_expr (pe_bm PySem.F.plainAttrs_list PySem.F.slot_list_append PySem.F.type_list_append mt_append (pv 5) (pa_cons (pv 4) pa_nil)))
      (pss_cons (ps_if (PW.pt (pw_and (pt_cmpR op_eq (pv 3) (pe_callB call_len_str (by rfl) T.len PySem.boot_len (pa_cons (pv 0) pa_nil)) (nomark _)) (pw_and1 (pt_not (pt_truth (pv 2) (by intro _; rfl)))))) (pss_one (ps_ret (pe_callTy call_tuple_of (by rfl) T.tuple (by decide +kernel) (pa_cons (pv 1) pa_nil)))) pss_nil)
      (pss_cons (ps_if (pt_cmpR op_ne (pe_cal Csign_at (hr.mono (by decide)) rfl (pa_cons (pv 0) (pa_cons (pv 3) pa_nil))) pe_str (nomark _)) (pss_one ps_never) pss_nil)
      (pss_one (ps_aug (i := 3) nd rfl (.inl rfl) pe_int ip_add)))))))))))))), ?_⟩
    have hzl : (jlS its).length ≤ 10000 := by
      have := jlS_len hf
      omega
    have hz0 : (jlS its).cps.toList = Tr.jl its := rfl
    generalize jlS its = z at hzl hz0
    have small : ∀ m : Nat, m ≤ 100000 → m ≤ sizeLine := fun m hm => Nat.le_trans hm (by decide)
    have smal2 : ∀ m : Nat, m ≤ 100000 → m < sizeLine := fun m hm => Nat.lt_of_le_of_lt hm (by decide)
    refine ⟨(by show 0 ≤ sizeLine; decide), fun L hL => ?_⟩
    have sL := same_new (o := .lst []) hL
    refine ⟨(by show 0 ≤ sizeLine; decide), fun B hB => ?_⟩
    have sB := same_new (o := .lst []) hB
    have hBH : H B = none := by
      cases e : H B with
      | none => rfl
      | some o => rw [sL _ _ e] at hB; cases hB
    have hLB : L ≠ B := fun e => by rw [← e, upd_same] at hB; cases hB
    have setB : ∀ {H3 : Hp} {x : HO}, Same H H3 → Same H (upd H3 B x) := fun {H3 x} k b o e => by
      rw [upd_ne (ne_of_none e hBH)]
      exact k b o e
    have setL : ∀ {H3 : Hp} {x : HO}, Same H H3 → Same H (upd H3 L x) := fun {H3 x} k b o e => by
      rw [upd_ne (ne_of_none e hL)]
      exact k b o e
    obtain ⟨t0, r0, rfl⟩ : ∃ t0 r0, its = t0 :: r0 := by
      cases its with
      | nil => exact absurd rfl hne
      | cons t r => exact ⟨t, r, rfl⟩
    obtain ⟨its, eits⟩ : ∃ l, l = t0 :: r0 := ⟨_, rfl⟩
    refine ⟨fun m σ H2 => ∃ (a : Nat) (t : Tr) (fs : List Fr) (ws : List V) (td0 ds : List Tr) (us : List V) (oi orw : Option V), σ = [some (.str z), some (.ref L), some (.ref B), some (.int (a : Int)), oi, orw] ∧ m = z.length - a ∧ a ≤ z.length ∧ z.cps.toList.drop a = t.tl ++ restI td0 fs ∧ FrsI H2 ws fs ∧ H2 L = some (.lst us) ∧ StsAt H2 us ds ∧ ds ++ plug fs t :: td0 = its ∧ H2 B = some (.lst ws.reverse) ∧ (∀ f ∈ fs, f.c ≠ B ∧ f.c ≠ L ∧ H f.c = none) ∧ Same H H2, ⟨z.length - 0, 0, t0, [], [], r0, [], [], none, none, rfl, rfl, Nat.zero_le _, ?_, .nil, sB _ _ upd_same, .nil, eits.symm, upd_same, fun f h => (nomatch h), Same.trans sL sB⟩, ?_⟩
    · show z.cps.toList.drop 0 = t0.tl ++ Tr.cl r0
      rw [hz0]
      rfl
    rw [← eits] at hf hsz q
    clear hz0 hne eits
    rintro m σ H2 ⟨a, t, fs, ws, td0, ds, us, oi, orw, rfl, rfl, haz, hd, hF, hL2, hus, hits, hB2, hfc, s2⟩
    refine ⟨true, rfl, iteT ?_⟩
    refine ⟨fun σ' H' => ∃ m', m' < z.length - a ∧ ∃ (a : Nat) (t : Tr) (fs : List Fr) (ws : List V) (td0 ds : List Tr) (us : List V) (oi orw : Option V), σ' = [some (.str z), some (.ref L), some (.ref B), some (.int (a : Int)), oi, orw] ∧ m' = z.length - a ∧ a ≤ z.length ∧ z.cps.toList.drop a = t.tl ++ restI td0 fs ∧ FrsI H' ws fs ∧ H' L = some (.lst us) ∧ StsAt H' us ds ∧ ds ++ plug fs t :: td0 = its ∧ H' B = some (.lst ws.reverse) ∧ (∀ f ∈ fs, f.c ≠ B ∧ f.c ≠ L ∧ H f.c = none) ∧ Same H H', fun _ _ h => h, ?_⟩
    have hf2 := hf
    rw [← hits, fsI_app] at hf2
    obtain ⟨hfd, hf3⟩ := Bool.and_eq_true_iff.mp hf2
    obtain ⟨hpf, hftd⟩ := fsI_cons hf3
    have tf : t.fI = true := plug_fI fs t hpf
    have pd := plug_deep fs t
    have hsz2 := hsz
    rw [← hits, sizes_app] at hsz2
    have hsz3 : Tr.sizes ds + ((plug fs t).size + Tr.sizes td0) ≤ 900 := hsz2
    have dl := len_le_sizes ds
    have ul := hus.len
    have fl := hF.len
    -- what stands here
    refine ⟨fun σ' H' => ∃ (v : V) (a1 : Nat), σ' = [some (.str z), some (.ref L), some (.ref B), some (.int (a1 : Int)), some v, orw] ∧ Same H2 H' ∧ a < a1 ∧ a1 ≤ z.length ∧ ((v = .str "*" ∧ t = .node "*" [] ∧ z.cps.toList.drop a1 = restI td0 fs) ∨ (∃ (T c0 : Addr) (n : Str) (ks : List Tr), v = .ref T ∧ t = .node n ks ∧ nameF n = true ∧ H' T = some (.tup [.str n, .ref c0]) ∧ H' c0 = some (.tup []) ∧ z.cps.toList.drop a1 = (if ks.isEmpty then [] else 40 :: (Tr.jl ks ++ [41])) ++ restI td0 fs)), ?_, ?_⟩
    · cases t with
      | bad => cases tf
      | node n ks =>
      have dlen : z.length - a = (Tr.node n ks).tl.length + (restI td0 fs).length := by
        have h1 := congrArg List.length hd
        rwa [List.length_drop, len_toList, List.length_append] at h1
      rcases (fI_node tf).1 with hn | ⟨rfl, rfl⟩
      · obtain ⟨n1, n2, n3⟩ := nameF_len hn
        have hd1 : z.cps.toList.drop a = n.cps.toList ++ ((if ks.isEmpty then [] else 40 :: (Tr.jl ks ++ [41])) ++ restI td0 fs) := by rw [hd, ← List.append_assoc]; rfl
        have ln : (Tr.node n ks).tl.length = n.length + (if ks.isEmpty then ([] : List Nat) else 40 :: (Tr.jl ks ++ [41])).length := by
          show (n.cps.toList ++ _).length = _
          rw [List.length_append, len_toList]
          rfl
        refine ⟨_, rfl, _, rfl, z, a, _, rfl, hzl, haz, .inr ⟨n, hn, hd1, ?_, fun R T c0 H3 s3 hR hT hc0 => ?_⟩⟩
        · cases ks with
          | nil => exact (restI_head td0 fs).imp (fun h => h) (fun ⟨c, r, h1, h2, _⟩ => ⟨c, r, h1, h2⟩)
          | cons k0 kr => exact .inr ⟨40, _, rfl, by decide⟩
        refine ⟨R, _, rfl, SqT.of hR, rfl, _, _, rfl, _, _, rfl, rfl, ?_⟩
        have ea : (a : Int) + (n.length : Int) = ((a + n.length : Nat) : Int) := by omega
        refine ⟨.ref T, a + n.length, (by rw [← ea]; rfl), s3, by omega, by omega, .inr ⟨T, c0, n, ks, rfl, rfl, hn, hT, hc0, ?_⟩⟩
        rw [← List.drop_drop, hd1, List.drop_left' (len_toList n)]
      · have hd1 : z.cps.toList.drop a = 42 :: restI td0 fs := by rw [hd, tl_nil, st_is]; rfl
        have l1 : z.length - a = (restI td0 fs).length + 1 := by
          have h1 := congrArg List.length hd1
          rwa [List.length_drop, len_toList, List.length_cons] at h1
        refine ⟨_, rfl, _, rfl, z, a, _, rfl, hzl, haz, .inl ⟨hd1, fun R H3 s3 hR => ?_⟩⟩
        refine ⟨R, _, rfl, SqT.of hR, rfl, _, _, rfl, _, _, rfl, rfl, ?_⟩
        have ea : (a : Int) + 1 = ((a + 1 : Nat) : Int) := by omega
        refine ⟨.str "*", a + 1, (by rw [← ea]; rfl), s3, by omega, by omega, .inl ⟨rfl, rfl, ?_⟩⟩
        rw [← List.drop_drop, hd1]
        rfl
    rintro σ' H3 ⟨v, a1, rfl, s3, ha1, ha1z, hcase⟩
    have hF3 := hF.same s3
    have hB3 := s3 _ _ hB2
    have hL3 := s3 _ _ hL2
    have hus3 := hus.kp (Kp.same s3)
    have s23 := Same.trans s2 s3
    clear hd hF hB2 hL2 hus
    -- does more stand below it
    refine ⟨fun σ' H' => σ' = [some (.str z), some (.ref L), some (.ref B), some (.int (a1 : Int)), some v, orw] ∧ H3 = H' ∧ StAt H' v t ∧ z.cps.toList.drop a1 = restI td0 fs, ?_, ?_⟩
    · rcases hcase with ⟨rfl, rfl, hd1⟩ | ⟨T, c0, n, ks, rfl, rfl, hn, hT, hc0, hd1⟩
      · refine ⟨_, rfl, .str _, .str _, .str _, .str _, hole_shaped, hole_shaped, _, rfl, ?_⟩
        rw [show PyData.eqv (.str "*") (.str "*") = true by decide +kernel]
        refine iteF (iteF ?_)
        exact ⟨rfl, rfl, .star, hd1⟩
      · obtain ⟨hdp, hsh⟩ := leaf_dp (K := K) hT hc0 hn
        refine ⟨_, rfl, _, .str _, hdp, .str _, hsh, hole_shaped, _, rfl, ?_⟩
        rw [show PyData.eqv (Itm.node n []).data (.str "*") = false from rfl]
        refine iteT ?_
        refine ⟨_, rfl, _, rfl, z, a1, rfl, ha1z, hzl, rfl, _, rfl, ?_⟩
        cases ks with
        | nil =>
          have hd2 : z.cps.toList.drop a1 = restI td0 fs := hd1
          have e1 : decide (V.str (sgS (z.cps.toList.drop a1)) = V.str "(") = false := by
            rw [hd2, lp_is]
            rcases restI_head td0 fs with h | ⟨c, r, h1, h2, h3⟩
            · rw [h]; decide +kernel
            · rw [h1, sgS_cons]
              refine decide_eq_false fun e => h3 ?_
              injection e with e
              injection e with e
              simpa using e
          rw [e1]
          refine iteF ?_
          exact ⟨rfl, rfl, .node hT hc0 hn .nil, hd2⟩
        | cons k0 kr =>
          have hd2 : z.cps.toList.drop a1 = 40 :: (k0.tl ++ (Tr.cl kr ++ 41 :: restI td0 fs)) := by
            rw [hd1]
            show (40 :: ((k0.tl ++ Tr.cl kr) ++ [41])) ++ restI td0 fs = _
            simp
          have e1 : decide (V.str (sgS (z.cps.toList.drop a1)) = V.str "(") = true := by rw [hd2, sgS_lp]; decide +kernel
          rw [e1]
          refine iteT ?_
          have l1 : z.length - a1 = (k0.tl ++ (Tr.cl kr ++ 41 :: restI td0 fs)).length + 1 := by
            have h1 := congrArg List.length hd2
            rwa [List.length_drop, len_toList, List.length_cons] at h1
          refine ⟨_, rfl, .inl ⟨rfl, _, SqL.of hB3⟩, _, rfl, T, _, _, _, rfl, rfl, SqT.of hT, atI_nat (j := 0) rfl, (by show 0 ≤ sizeLine; decide), fun C hC => ?_⟩
          have sC := same_new (o := .lst []) hC
          refine ⟨(by show 2 ≤ sizeLine; decide), fun T2 hT2 => ?_⟩
          have sT := same_new (o := .tup [.str n, .ref C]) hT2
          have sCT := Same.trans sC sT
          refine ⟨B, _, _, rfl, rfl, sCT _ _ hB3, smal2 _ (by rw [List.length_reverse]; omega), ?_⟩
          refine ⟨_, rfl, _, _, rfl, rfl, ?_⟩
          have ea2 : (a1 : Int) + 1 = ((a1 + 1 : Nat) : Int) := by omega
          have hCB : C ≠ B := fun e => by rw [e, hB3] at hC; cases hC
          have hCL : C ≠ L := fun e => by rw [e, hL3] at hC; cases hC
          have hC0 : H C = none := by
            cases e : H C with
            | none => rfl
            | some o => rw [s23 _ _ e] at hC; cases hC
          have kB := Kp.lset (l := B) (ys := ws.reverse ++ [.ref T2]) (sCT _ _ hB3)
          refine ⟨z.length - (a1 + 1), by omega, a1 + 1, k0, ⟨n, [], kr, C⟩ :: fs, .ref T2 :: ws, td0, ds, us, some (.ref T), orw, (by rw [← ea2]; rfl), rfl, by omega, ?_, ?_, ?_, ?_, ?_, ?_, ?_, ?_⟩
          · rw [← List.drop_drop, hd2]
            rfl
          · have hnew : FrsI (upd (upd H3 C (.lst [])) T2 (.tup [.str n, .ref C])) (.ref T2 :: ws) (⟨n, [], kr, C⟩ :: fs) := by
              refine .cons (vs := []) upd_same (sT _ _ upd_same) .nil (hF3.same sCT) ?_
              intro g hg e
              obtain ⟨vs, hvs⟩ := hF3.have_ g hg
              have e' : g.c = C := e
              rw [e', hC] at hvs
              cases hvs
            refine hnew.upd (sCT _ _ hB3) ?_
            intro g hg
            rcases List.mem_cons.mp hg with e | e
            · rw [e]; exact hCB
            · exact (hfc g e).1
          · rw [upd_ne hLB]; exact sCT _ _ hL3
          · exact (hus3.kp (Kp.same sCT)).kp kB
          · rw [← hits]
            rfl
          · rw [upd_same, List.reverse_cons]
          · intro g hg
            rcases List.mem_cons.mp hg with e | e
            · rw [e]; exact ⟨hCB, hCL, hC0⟩
            · exact hfc g e
          · exact setB (Same.trans s23 sCT)
    rintro σ' H' ⟨rfl, rfl, ht3, hd1⟩
    clear hcase
    refine ⟨_, rfl, _, rfl, _, rfl, _, rfl, td0, z, a1, v, t, B, ws, fs, rfl, hzl, ha1z, hd1, ht3, hB3, hF3, fun f hf' => (hfc f hf').1, by omega, hpf, ?_⟩
    intro R a' v' u' ws' fs' H4 k4 hR hd4 ha4 haz4 ht4 hB4 hF4 hin hpl4 hcase
    have s4 : Same H H4 := fun b o e => k4 b o (ne_of_none e hBH) (s23 _ _ e)
    have hL4 := k4 _ _ hLB hL3
    have hus4 : StsAt H4 us ds := hus3.kp (kp_but k4 hB3 hB4)
    refine ⟨R, _, rfl, SqT.of hR, rfl, _, _, rfl, _, _, rfl, rfl, ?_⟩
    refine ⟨_, rfl, !ws'.reverse.isEmpty, .inl ⟨_, SqL.of hB4, rfl⟩, ?_⟩
    rcases hcase with rfl | ⟨f, gs, rfl, htd⟩
    · cases hF4
      refine iteF ?_
      refine ⟨_, rfl, ?_⟩
      refine ⟨_, rfl, .inl ⟨rfl, _, SqL.of hL4⟩, _, rfl, L, _, _, rfl, rfl, hL4, smal2 _ (by omega), ?_⟩
      have kL := Kp.lset (l := L) (ys := us ++ [v']) hL4
      have hpl5 : u' = plug fs t := hpl4
      have hus5 : StsAt (upd H4 L (.lst (us ++ [v']))) (us ++ [v']) (ds ++ [plug fs t]) := (hus4.kp kL).app (.cons (hpl5 ▸ (ht4.kp kL)) .nil)
      have hB5 : (upd H4 L (.lst (us ++ [v']))) B = some (.lst ([] : List V).reverse) := by rw [upd_ne (Ne.symm hLB)]; exact hB4
      have hL5 : (upd H4 L (.lst (us ++ [v']))) L = some (.lst (us ++ [v'])) := upd_same
      have s5 : Same H (upd H4 L (.lst (us ++ [v']))) := setL s4
      generalize upd H4 L (.lst (us ++ [v'])) = H5 at hus5 hB5 hL5 s5
      refine ⟨_, rfl, _, rfl, z, rfl, small _ (by omega), rfl, _, rfl, ?_⟩
      cases td0 with
      | nil =>
        have hl0 : z.length - a' = 0 := by
          have h1 := congrArg List.length hd4
          rw [List.length_drop, len_toList] at h1
          exact h1
        rw [decide_eq_true (show V.int (a' : Int) = V.int ((z.length : Nat) : Int) by congr 1; omega)]
        refine iteT ?_
        refine ⟨_, rfl, _, .inl ⟨_, SqL.of hB5, rfl⟩, ?_⟩
        refine iteT ?_
        refine ⟨_, rfl, L, _, rfl, .inl ⟨SqL.of hL5, fun R2 hR2 => ?_⟩⟩
        have sR := same_new (o := .tup (us ++ [v'])) hR2
        rw [hits] at hus5
        exact q R2 _ _ (Same.trans s5 sR) upd_same (hus5.kp (Kp.same sR))
      | cons t1 tr =>
        have e0 : z.cps.toList.drop a' = 32 :: (t1.tl ++ Tr.cl tr) := hd4
        have dz : z.length - a' = (t1.tl ++ Tr.cl tr).length + 1 := by
          have h1 := congrArg List.length e0
          rwa [List.length_drop, len_toList, List.length_cons] at h1
        rw [decide_eq_false (show ¬ V.int (a' : Int) = V.int ((z.length : Nat) : Int) from fun e => by injection e with e; omega)]
        refine iteF (iteF ?_)
        refine ⟨_, rfl, _, rfl, z, a', rfl, haz4, hzl, rfl, _, rfl, ?_⟩
        have e2 : decide (V.str (sgS (z.cps.toList.drop a')) = V.str " ") = true := by rw [e0, sgS_bl]; decide +kernel
        rw [e2]
        refine iteF ?_
        refine ⟨_, rfl, _, _, rfl, rfl, ?_⟩
        have e5 : ((a' : Nat) : Int) + 1 = ((a' + 1 : Nat) : Int) := by omega
        refine ⟨z.length - (a' + 1), by omega, a' + 1, t1, [], [], tr, ds ++ [plug fs t], us ++ [v'], some v', some (.ref L), (by rw [← e5]; rfl), rfl, by omega, ?_, .nil, hL5, hus5, ?_, hB5, fun f h => (nomatch h), s5⟩
        · rw [← List.drop_drop, e0]
          rfl
        · rw [← hits, List.append_assoc]
          rfl
    · cases hF4 with
      | @cons ad _ vs us2 _ h1 h2 h3 h4 h5 =>
      have hne1 : (!(V.ref ad :: us2).reverse.isEmpty) = true := by simp
      rw [hne1]
      refine iteT ?_
      refine ⟨_, rfl, _, rfl, B, _, _, _, rfl, rfl, SqL.of hB4, at_last, ad, _, _, _, rfl, rfl, SqT.of h1, atI_nat (j := 1) rfl, ?_⟩
      obtain ⟨hfB, hfL, hf0⟩ := hfc f (hin f (List.mem_cons_self ..))
      have vl := h3.len
      have pl := plug_len f gs u'
      rw [hpl4] at pl
      refine ⟨_, rfl, .inl ⟨rfl, _, SqL.of h2⟩, _, rfl, f.c, vs, _, rfl, rfl, h2, smal2 _ (by omega), ?_⟩
      have kf : Kp H4 (upd H4 f.c (.lst (vs ++ [v']))) := Kp.lset h2
      have hB5 : (upd H4 f.c (.lst (vs ++ [v']))) B = some (.lst (V.ref ad :: us2).reverse) := by rw [upd_ne (Ne.symm hfB)]; exact hB4
      have hL5 : (upd H4 f.c (.lst (vs ++ [v']))) L = some (.lst us) := by rw [upd_ne (Ne.symm hfL)]; exact hL4
      have s5 : Same H (upd H4 f.c (.lst (vs ++ [v']))) := fun b o e => by rw [upd_ne (ne_of_none e hf0)]; exact s4 b o e
      have hus5 := hus4.kp kf
      obtain ⟨t1, tr, et⟩ : ∃ t1 tr, f.td = t1 :: tr := by
        cases e : f.td with
        | nil => exact absurd e htd
        | cons t1 tr => exact ⟨t1, tr, rfl⟩
      have hF5 : FrsI (upd H4 f.c (.lst (vs ++ [v']))) (.ref ad :: us2) (⟨f.n, f.d ++ [u'], tr, f.c⟩ :: gs) := .cons (vs := vs ++ [v']) (kf.tup _ _ h1) upd_same ((h3.app (.cons ht4 .nil)).kp kf) (h4.upd h2 h5) h5
      generalize upd H4 f.c (.lst (vs ++ [v'])) = H5 at hB5 hL5 s5 hus5 hF5
      have e0 : z.cps.toList.drop a' = 32 :: (t1.tl ++ (Tr.cl tr ++ 41 :: restI td0 gs)) := by
        rw [hd4]
        show Tr.cl f.td ++ 41 :: restI td0 gs = _
        rw [et]
        show (32 :: (t1.tl ++ Tr.cl tr)) ++ 41 :: restI td0 gs = _
        simp
      have dz : z.length - a' = (t1.tl ++ (Tr.cl tr ++ 41 :: restI td0 gs)).length + 1 := by
        have h1 := congrArg List.length e0
        rwa [List.length_drop, len_toList, List.length_cons] at h1
      refine ⟨_, rfl, _, rfl, z, rfl, small _ (by omega), rfl, _, rfl, ?_⟩
      rw [decide_eq_false (show ¬ V.int (a' : Int) = V.int ((z.length : Nat) : Int) from fun e => by injection e with e; omega)]
      refine iteF (iteF ?_)
      refine ⟨_, rfl, _, rfl, z, a', rfl, haz4, hzl, rfl, _, rfl, ?_⟩
      have e2 : decide (V.str (sgS (z.cps.toList.drop a')) = V.str " ") = true := by rw [e0, sgS_bl]; decide +kernel
      rw [e2]
      refine iteF ?_
      refine ⟨_, rfl, _, _, rfl, rfl, ?_⟩
      have e5 : ((a' : Nat) : Int) + 1 = ((a' + 1 : Nat) : Int) := by omega
      refine ⟨z.length - (a' + 1), by omega, a' + 1, t1, ⟨f.n, f.d ++ [u'], tr, f.c⟩ :: gs, .ref ad :: us2, td0, ds, us, some v', some (.ref f.c), (by rw [← e5]; rfl), rfl, by omega, ?_, hF5, hL5, hus5, ?_, hB5, ?_, s5⟩
      · rw [← List.drop_drop, e0]
        rfl
      · rw [← hits, ← hpl4]
        show ds ++ plug gs (.node f.n ((f.d ++ [u']) ++ t1 :: tr)) :: td0 = ds ++ plug gs (.node f.n (f.d ++ u' :: f.td)) :: td0
        rw [et]
        simp
      · intro g hg
        rcases List.mem_cons.mp hg with e | e
        · rw [e]; exact ⟨hfB, hfL, hf0⟩
        · exact hfc g (hin g (List.mem_cons_of_mem _ e))
end
end G72
set_option maxHeartbeats 4000000
set_option linter.all false
set_option maxRecDepth 100000
namespace G72
open PySem L2
section
variable {P : Program} {w : World} {K : PySem.W.Frag} {mg : Str → Option Value} {base : Heap}
def spName (p : Addr) : Sp := fun vs H Q _ => ∃ v, vs = [v] ∧ H p = some (TbO p) ∧ ((∃ z, v = .str z ∧ z.length ≤ sizeLine ∧ Q (.bl (nameF z)) H) ∨ (NStr H v ∧ Q (.bl false) H))
theorem scName : FnScope ["thing"] ["thing"] (defScope (top 10)) := ⟨rfl, rfl, rfl, by decide +kernel, rfl, by decide +kernel, by decide +kernel⟩
theorem ok_name {fl f c p bm : Addr} {ob : Obj} {fd fdl : FuncData} (F : Fun K "is_name" "is_name" (top 10) f fd) (FL : Fun K "is_letter" "is_letter" (top 9) fl fdl) (mgl : mg "is_letter" = some (.ref fl)) (mgn : mg "is_name" = some (.ref f)) (bn : Binds K fd ["thing"] []) (T : Txt K mg) (hc : fd.code = .ref c) (B : Tbl K mg base c p bm ob) :
    Cal P w K mg base 2 "is_name" ["thing"] (spName p) := by
  refine ⟨f, fd, F.okC scName (fun vs H Q E h => ?_) hc (fun A outer s H vs Q E hr h => ?_), mgn, F.kp, bn⟩
  · obtain ⟨v, rfl, _⟩ := h
    rfl
  · obtain ⟨v, rfl, hp, h⟩ := h
    obtain ⟨tn, hnl⟩ := T.NAME_LETTERS
    obtain ⟨oc, od, kV, doc, pm, an, cdv, ct, osl, efd, lk, hcd⟩ := FL.ex
    subst efd
    refine ⟨_, pss_cons (ps_if (PW.pt (pw_or (pt_not (pt_val (pe_callB call_isinst (by rfl) T.isinstance (by decide +kernel) (pa_cons (pv 0) (pa_cons (pe_bltn (v := .ty "str") (by rfl) T.str (by decide +kernel) rfl) pa_nil)))))
        (pw_or1 (pt_not (pt_chain op_le op_le pe_int (pe_callB call_len_str (by rfl) T.len PySem.boot_len (pa_cons (pv 0) pa_nil)) (pe_glob (v := .int 8) (by rfl) hnl ⟨_, rfl⟩))))))
        (pss_one (ps_ret pe_bl)) pss_nil)
      (pss_one (ps_ret (pe_allStr isLet B.bm B.cc rfl hr T.all (pv 0)
        (letter_elt lk hcd FL.kp mgl hr (fun v => rfl) rfl rfl rfl rfl rfl rfl rfl rfl (by decide))))), ?_⟩
    rcases h with ⟨z, rfl, hz, q⟩ | ⟨hns, q⟩
    · refine ⟨_, rfl, _, _, _, _, rfl, TyOf.str z, (show _ = some true from rfl), true, rfl, ?_⟩
      refine iteF ?_
      refine ⟨_, rfl, z, rfl, hz, _, _, rfl, rfl, _, rfl, ?_⟩
      refine ite2 (fun h1 => ?_) (fun h1 => ?_)
      · have h1' : 1 ≤ z.length := by have := of_decide_eq_true h1; omega
        refine ⟨_, _, rfl, rfl, _, rfl, ?_⟩
        refine ite2 (fun h2 => ?_) (fun h2 => ?_)
        · have h2' : ¬ z.length ≤ 8 := fun h3 => by
            have h4 : decide (((z.length : Nat) : Int) ≤ 8) = true := decide_eq_true (by omega)
            rw [h4] at h2
            cases h2
          have e : nameF z = false := by unfold nameF; rw [decide_eq_false h2']; simp
          rw [e] at q
          exact q
        · have h2' : z.length ≤ 8 := by
            have h4 : decide (((z.length : Nat) : Int) ≤ 8) = true := by
              cases h5 : decide (((z.length : Nat) : Int) ≤ 8) with
              | true => rfl
              | false => rw [h5] at h2; exact absurd rfl h2
            have := of_decide_eq_true h4
            omega
          refine ⟨_, rfl, z, rfl, hp, ?_⟩
          have e : nameF z = z.cps.toList.all isLet := by unfold nameF; rw [decide_eq_true h1', decide_eq_true h2']; rfl
          rw [e] at q
          exact q
      · have h1' : ¬ 1 ≤ z.length := fun h3 => h1 (decide_eq_true (by omega))
        refine ⟨_, rfl, ?_⟩
        refine iteT ?_
        have e : nameF z = false := by unfold nameF; rw [decide_eq_false h1']; rfl
        rw [e] at q
        exact q
    · obtain ⟨t, ty, hk⟩ := hns.ty (K := K)
      refine ⟨_, rfl, _, _, _, _, rfl, ty, hk, false, rfl, ?_⟩
      refine iteT ?_
      refine iteT ?_
      exact q
def spFirst : Sp := fun vs H Q _ => ∃ (L : Addr) (zs : List Str), vs = [.ref L] ∧ H L = some (.lst (zs.map V.str)) ∧ zs.Nodup ∧ zs.length ≤ 1000 ∧ ∀ H', Same H H' → Q .non H'
theorem sc_first : FnScope ["forms", "row", "form"] ["forms"] (defScope (top 7)) := ⟨rfl, rfl, rfl, by decide +kernel, rfl, by decide +kernel, by decide +kernel⟩
theorem ok_first  (F : Dfn K mg "first_told_ahead" (top 7) ["forms"]) (T : Txt K mg)  : Cal P w K mg base 1 "first_told_ahead" ["forms"] spFirst := by
  refine F.cal sc_first (fun vs H Q E h => ?_) (fun f cdv A outer s H vs Q E hr h => ?_)
  · obtain ⟨L, zs, rfl, _⟩ := h
    rfl
  · have nd := sc_first.nd
    obtain ⟨L, zs, rfl, hL, hnd, hzl, q⟩ := h
    refine ⟨_, (pss_cons (ps_for PassesOwn.never rfl (pi_enum (by rfl) T.enumerate (pa_cons (pv 0) pa_nil)) (pg_tup rfl (pgs_cons (pg_name (i := 1) nd rfl (Or.inl rfl)) (pgs_cons (pg_name (i := 2) nd rfl (Or.inl rfl)) pgs_nil)))
        (pss_one (ps_if (pt_cmpR op_in_seq (pv 2) (pe_slice sl_list (pv 0) po_none (po_some (pv 1))) (by with_unfolding_all rfl)) (pss_one (ps_ret (pv 1))) pss_nil)))
      (pss_one (ps_ret pe_non))), ?_⟩
    refine ⟨_, rfl, L, _, rfl, SqL.of hL, ?_⟩
    refine for_enumL (K := K) (a := L) (xs := zs.map V.str) (fun i σ H2 => ∃ o1 o2 : Option V, σ = [some (.ref L), o1, o2] ∧ Same H H2) ⟨none, none, rfl, Same.refl _⟩ (fun i σ H2 _ ⟨_, _, _, s2⟩ => SqL.of (s2 _ _ hL)) ?_ ?_
    · rintro i x σ H2 T1 hx ⟨o1, o2, rfl, s2⟩ hT1
      have hil := (List.getElem?_eq_some_iff.mp hx).1
      rw [List.length_map] at hil
      obtain ⟨z, hz⟩ := get_lt hil
      rw [List.getElem?_map, hz] at hx
      cases hx
      have sT := same_new (o := .tup [.int ((i : Nat) : Int), .str z]) hT1
      have s3 := Same.trans s2 sT
      refine ⟨T1, _, rfl, SqT.of upd_same, rfl, _, _, rfl, _, _, rfl, rfl, ?_⟩
      generalize upd H2 T1 (.tup [.int ((i : Nat) : Int), .str z]) = H3 at s3
      refine ⟨_, rfl, _, rfl, _, rfl, _, rfl, L, _, rfl, SqL.of (s3 _ _ hL), fun L2 hL2 => ?_⟩
      have s4 := same_new (o := .lst (cutV (zs.map V.str) none (some ((i : Nat) : Int)))) hL2
      have s24 := Same.trans s3 s4
      rw [cutV_to _ _ (by omega), ← List.map_take, Int.toNat_natCast] at s24 ⊢
      refine ⟨L2, _, rfl, .inl (SqL.of upd_same), rfl, strs_flat _, _, rfl, ?_⟩
      have hni : z ∉ zs.take i := fun hin => by
        obtain ⟨j, hj, e⟩ := List.getElem_of_mem hin
        rw [List.length_take] at hj
        rw [List.getElem_take] at e
        have e2 : zs[j]? = some z := by rw [List.getElem?_eq_getElem (by omega), e]
        have := (List.getElem?_inj (i := j) (by omega) hnd).mp (e2.trans hz.symm)
        omega
      have hin : inV (.str z) ((zs.take i).map V.str) = false := by rw [posOf_in, posOf_mem, decide_eq_false hni]
      rw [show (if false = true then !inV (.str z) ((zs.take i).map V.str) else inV (.str z) ((zs.take i).map V.str)) = false from by rw [if_neg (by decide), hin]]
      refine iteF ?_
      exact ⟨_, _, rfl, s24⟩
    · rintro σ H2 ⟨o1, o2, rfl, s2⟩
      exact q H2 s2
def spRule (p : Addr) : Sp := fun vs H Q _ => ∃ (z : Str) (k : Int) (r : Rule), vs = [.str z, .int k] ∧ PartOk z r ∧ RlOk r ∧ z.length ≤ 10000 ∧ H p = some (TbO p) ∧ ∀ (R c : Addr) (us : List V) (H' : Hp), Same H H' → H' R = some (.tup [.str r.1, .ref c]) → H' c = some (.tup us) → StsAt H' us r.2 → Q (.ref R) H'
theorem starts_bl (l : List Nat) : Txt.startswith (ofL (32 :: l)) " " = true := by
  unfold Txt.startswith
  have e1 : (" " : Str).length = 1 := by decide +kernel
  have e2 : (ofL (32 :: l)).length = l.length + 1 := by show (32 :: l).toArray.size = _; rw [List.size_toArray]; rfl
  rw [e1, e2, decide_eq_true (by omega)]
  rw [Bool.true_and, bl_is]
  show ((32 :: l).toArray.extract 0 (0 + 1) == #[32]) = true
  rw [beq_iff_eq]
  apply Array.toList_inj.mp
  simp
theorem cut_one (l : List Nat) : cutS (ofL (32 :: l)) (some 1) none = ofL l := by
  have e2 : (ofL (32 :: l)).length = l.length + 1 := by show (32 :: l).toArray.size = _; rw [List.size_toArray]; rfl
  refine str_ext ?_
  unfold cutS
  rw [e2]
  have h1 : HT.sIx (l.length + 1) 0 (some 1) = 1 := by
    rw [show (some (1 : Int)) = some ((1 : Nat) : Int) from rfl, HT.sIx_nat]
    omega
  have h2 : HT.sIx (l.length + 1) (l.length + 1) none = l.length + 1 := rfl
  rw [h1, h2]
  show ((32 :: l).drop 1).take (l.length + 1 - 1) = l
  simp
theorem sc_rule : FnScope ["text", "row", "name", "arrow", "rest"] ["text", "row"] (defScope (top 22)) := ⟨rfl, rfl, rfl, by decide +kernel, rfl, by decide +kernel, by decide +kernel⟩
theorem ok_rule {p : Addr} (F : Dfn K mg "read_turner_rule" (top 22) ["text", "row"]) (T : Txt K mg) (Cis_name : Cal P w K mg base 2 "is_name" ["thing"] (spName p)) (Cread_items : Cal P w K mg base 4 "read_items" ["text"] spReadI) : Cal P w K mg base 5 "read_turner_rule" ["text", "row"] (spRule p) := by
  refine F.cal sc_rule (fun vs H Q E h => ?_) (fun f cdv A outer s H vs Q E hr h => ?_)
  · obtain ⟨z, k, r, rfl, _⟩ := h
    rfl
  · have nd := sc_rule.nd
    obtain ⟨z, k, r, rfl, hpz, hr0, hzl, hp, q⟩ := h
    obtain ⟨tA, hARROW⟩ := T.ARROW
    refine ⟨_, (pss_cons (ps_asg (pe_partition (pe_strip1 (pv 0) pe_str) (pe_glob (v := .str " ->") (by rfl) hARROW ⟨_, rfl⟩)) (pg_tup rfl (pgs_cons (pg_name (i := 2) nd rfl (Or.inl rfl)) (pgs_cons (pg_name (i := 3) nd rfl (Or.inl rfl)) (pgs_cons (pg_name (i := 4) nd rfl (Or.inl rfl)) pgs_nil)))))
      (pss_cons (ps_if (PW.pt (pw_or (pt_not (pt_val (pe_cal Cis_name (hr.mono (by decide)) rfl (pa_cons (pv 2) pa_nil)))) (pw_or1 (pt_not (pt_truth (pv 3) (by intro _; rfl)))))) (pss_one ps_never) pss_nil)
      (pss_cons (ps_if (pt_not (pt_truth (pv 4) (by intro _; rfl))) (pss_one (ps_ret (pe_tup (pa_cons (pv 2) (pa_cons (pe_tup pa_nil) pa_nil))))) pss_nil)
      (pss_cons (ps_if (pt_not (pt_val (pe_starts (pv 4) pe_str))) (pss_one ps_never) pss_nil)
      (pss_one (ps_tryN (fun pn xe => pss_one (ps_ret (pe_tup (pa_cons (pv 2) (pa_cons (pe_cal Cread_items (hr.mono (by decide)) rfl (pa_cons (pe_slice sl_str (pv 4) (po_some pe_int) po_none) pa_nil)) pa_nil))))))))))), ?_⟩
    have small : ∀ m : Nat, m ≤ 100000 → m ≤ sizeLine := fun m hm => Nat.le_trans hm (by decide)
    refine ⟨_, rfl, ⟨_, rfl⟩, z, _, rfl, rfl, small _ (by omega), ?_⟩
    rw [part_strip hpz hr0]
    have hle : (ofL (Tr.cl r.2)).length ≤ 2200 := by
      show (Tr.cl r.2).toArray.size ≤ _
      rw [List.size_toArray]
      have h1 := clI_len r.2 hr0.its
      have h2 := hr0.sz
      omega
    have hnl := nameF_len hr0.nm
    have hrl : (ruleT r).length ≤ 3000 := by
      show (ruleL r).toArray.size ≤ _
      rw [List.size_toArray]
      unfold ruleL
      rw [List.length_append, len_toList]
      have h1 := clI_len r.2 hr0.its
      have h2 := hr0.sz
      simp only [List.length_cons]
      omega
    refine ⟨⟨_, rfl⟩, _, _, rfl, rfl, (by decide +kernel), small _ (by omega), fun T1 hT1 => ?_⟩
    rw [rule_partition hr0]
    have s1 := same_new (o := .tup [.str r.1, .str " ->", .str (ofL (Tr.cl r.2))]) hT1
    refine ⟨T1, _, rfl, SqT.of upd_same, rfl, _, _, rfl, _, _, rfl, _, _, rfl, rfl, ?_⟩
    generalize upd H T1 (.tup [.str r.1, .str " ->", .str (ofL (Tr.cl r.2))]) = H1 at s1
    refine ⟨_, rfl, _, rfl, s1 _ _ hp, .inl ⟨r.1, rfl, small _ (by omega), ?_⟩⟩
    rw [hr0.nm]
    refine ⟨true, rfl, iteF ?_⟩
    refine ⟨_, rfl, true, ⟨(by show (" ->" : Str).length ≤ sizeLine; decide +kernel), (by show true = (((" ->" : Str).length : Int) != 0); decide +kernel)⟩, iteF ?_⟩
    cases hits : r.2 with
    | nil =>
      refine ⟨_, rfl, false, ⟨by rw [show (ofL (Tr.cl [])).length = 0 from rfl]; decide, rfl⟩, iteT ?_⟩
      refine ⟨_, rfl, (by show 0 ≤ sizeLine; decide), fun c hc => ⟨(by show 2 ≤ sizeLine; decide), fun R hR => ?_⟩⟩
      have s2 := same_new (o := .tup []) hc
      have s3 := same_new (o := .tup [.str r.1, .ref c]) hR
      exact q R c [] _ (Same.trans s1 (Same.trans s2 s3)) upd_same (s3 _ _ upd_same) (by rw [hits]; exact .nil)
    | cons t0 ts =>
      rw [hits] at hle
      have hl1 : (ofL (Tr.cl (t0 :: ts))).length = (t0.tl ++ Tr.cl ts).length + 1 := by show (32 :: (t0.tl ++ Tr.cl ts)).toArray.size = _; rw [List.size_toArray]; rfl
      refine ⟨_, rfl, true, ⟨(by show (ofL (Tr.cl (t0 :: ts))).length ≤ sizeLine; exact small _ (by omega)), ?_⟩, iteF ?_⟩
      · show true = (((ofL (Tr.cl (t0 :: ts))).length : Int) != 0)
        rw [hl1]
        have : ((((t0.tl ++ Tr.cl ts).length + 1 : Nat) : Int) != 0) = true := by rw [bne_iff_ne]; omega
        exact this.symm
      refine ⟨_, rfl, ⟨_, rfl⟩, _, _, rfl, rfl, true, ?_, iteF ?_⟩
      · rw [show Txt.startswith (ofL (Tr.cl (t0 :: ts))) " " = true from starts_bl (t0.tl ++ Tr.cl ts)]
      refine ⟨_, rfl, _, rfl, _, rfl, _, rfl, (by show (ofL (Tr.cl (t0 :: ts))).length ≤ sizeLine; exact small _ (by omega)), ?_⟩
      rw [show cutS (ofL (Tr.cl (t0 :: ts))) (some 1) none = jlS (t0 :: ts) from cut_one (t0.tl ++ Tr.cl ts)]
      refine ⟨t0 :: ts, rfl, by simp, by rw [← hits]; exact hr0.its, by rw [← hits]; have := hr0.sz; omega, fun c us H2 s2 hc hus => ⟨(by show 2 ≤ sizeLine; decide), fun R hR => ?_⟩⟩
      have s3 := same_new (o := .tup [.str r.1, .ref c]) hR
      exact q R c us _ (Same.trans s1 (Same.trans s2 s3)) upd_same (s3 _ _ hc) (by rw [hits]; exact hus.kp (Kp.same s3))
end
end G72
set_option maxHeartbeats 4000000
set_option linter.all false
set_option maxRecDepth 100000
namespace G72
open PySem L2
section
variable {P : Program} {w : World} {K : PySem.W.Frag} {mg : Str → Option Value} {base : Heap}
def spReadT (p : Addr) : Sp := fun vs H Q _ => ∃ (z : Str), vs = [.str z] ∧ H p = some (TbO p) ∧ z.length ≤ 90000 ∧
  ((∃ n : Nat, z = ofL (List.replicate n 32) ∧ ∀ (R : Addr) (H' : Hp), Same H H' → H' R = some (.tup []) → Q (.ref R) H') ∨
   (∃ (ps : List Str) (rs : List Rule), ps ≠ [] ∧ z = Txt.join ";" ps ∧ ps.length = rs.length ∧ (∀ (i : Nat) (x : Str) (r : Rule), ps[i]? = some x → rs[i]? = some r → PartOk x r ∧ RlOk r ∧ x.length ≤ 10000) ∧ rs.length ≤ 12 ∧ (rs.map (·.1)).Nodup ∧
     ∀ (R : Addr) (us : List V) (H' : Hp), Same H H' → H' R = some (.tup us) → RulesAt H' us rs → Q (.ref R) H'))
theorem sc_turner : FnScope ["text", "texts", "rules", "row", "part", "name", "items"] ["text"] (defScope (top 23)) := ⟨rfl, rfl, rfl, by decide +kernel, rfl, by decide +kernel, by decide +kernel⟩
theorem ok_turner {p : Addr} (F : Dfn K mg "read_turner" (top 23) ["text"]) (T : Txt K mg) (Cread_turner_rule : Cal P w K mg base 5 "read_turner_rule" ["text", "row"] (spRule p)) (Cfirst_told_ahead : Cal P w K mg base 1 "first_told_ahead" ["forms"] spFirst) : Cal P w K mg base 6 "read_turner" ["text"] (spReadT p) := by
  refine F.cal sc_turner (fun vs H Q E h => ?_) (fun f cdv A outer s H vs Q E hr h => ?_)
  · obtain ⟨z, rfl, _⟩ := h
    rfl
  · have nd := sc_turner.nd
    obtain ⟨z, rfl, hp, hzl, h⟩ := h
    obtain ⟨tT, hTR⟩ := T.TURNER_RULES
    refine ⟨_, (pss_cons (ps_if (pt_not (pt_truth (pe_strip1 (pv 0) pe_str) (by intro _; rfl))) (pss_one (ps_ret (pe_tup pa_nil))) pss_nil)
      (pss_cons (ps_set (i := 1) nd rfl (Or.inl rfl) (pe_split (pv 0) pe_str))
      (pss_cons (ps_if (pt_cmpR op_gt (pe_callB call_len_seq (by rfl) T.len PySem.boot_len (pa_cons (pv 1) pa_nil)) (pe_glob (v := .int 12) (by rfl) hTR ⟨_, rfl⟩) (nomark _)) (pss_one ps_never) pss_nil)
      (pss_cons (ps_setLc (i := 2) (own := [("row", 3), ("part", 4)]) (g := (gTup K 2 (gCons (gName 3) (gCons (gName 4) gNil)))) (by rfl) nd rfl rfl (sw_true rfl rfl rfl (by decide +kernel)) (pi_enum (by rfl) T.enumerate (pa_cons (pv 1) pa_nil)) (blkOk_by (own := [("row", 3), ("part", 4)]) (N := ["text", "texts", "rules", "row", "part", "name", "items"]) (sc := defScope (top 23)) (by decide +kernel)) (fun _ _ _ _ _ => (pg_tup rfl (pgs_cons (pg_name (i := 3) nd rfl (Or.inl rfl)) (pgs_cons (pg_name (i := 4) nd rfl (Or.inl rfl)) pgs_nil)))) (fun _ _ _ _ _ => pts_nil) (fun _ _ _ _ _ => (pe_cal Cread_turner_rule (hr.mono (by decide)) rfl (pa_cons (pv 4) (pa_cons (pv 3) pa_nil)))))
      (pss_cons (ps_set (i := 3) nd rfl (Or.inl rfl) (pe_cal Cfirst_told_ahead (hr.mono (by decide)) rfl (pa_cons (pe_lc (own := [("name", 5), ("items", 6)]) (g := (gTup K 2 (gCons (gName 5) (gCons (gName 6) gNil)))) (by rfl) nd (pi_list (pv 2)) (blkOk_by (own := [("name", 5), ("items", 6)]) (N := ["text", "texts", "rules", "row", "part", "name", "items"]) (sc := defScope (top 23)) (by decide +kernel)) (fun _ _ _ _ _ => (pg_tup rfl (pgs_cons (pg_name (i := 5) nd rfl (Or.inl rfl)) (pgs_cons (pg_name (i := 6) nd rfl (Or.inl rfl)) pgs_nil)))) (fun _ _ _ _ _ => pts_nil) (fun _ _ _ _ _ => (pv 5))) pa_nil)))
      (pss_cons (ps_if (pt_cmpR op_notN (pv 3) pe_non (nomark _)) (pss_one ps_never) pss_nil)
      (pss_one (ps_ret (pe_callTy call_tuple_of (by rfl) T.tuple (by decide +kernel) (pa_cons (pv 2) pa_nil)))))))))), ?_⟩
    have small : ∀ m : Nat, m ≤ 100000 → m ≤ sizeLine := fun m hm => Nat.le_trans hm (by decide)
    have smal2 : ∀ m : Nat, m ≤ 100000 → m < sizeLine := fun m hm => Nat.lt_of_le_of_lt hm (by decide)
    refine ⟨_, rfl, ⟨_, rfl⟩, z, _, rfl, rfl, small _ (by omega), ?_⟩
    rcases h with ⟨n, rfl, q⟩ | ⟨ps, rs, hne, rfl, hpl, hpr, hrl, hnd, q⟩
    · rw [strip_all]
      refine ⟨false, ⟨(by show ("" : Str).length ≤ sizeLine; decide +kernel), (by show false = ((("" : Str).length : Int) != 0); decide +kernel)⟩, iteT ?_⟩
      exact ⟨(by show 0 ≤ sizeLine; decide), fun R hR => q R _ (same_new hR) upd_same⟩
    have hpx : ∀ x ∈ ps, ∃ r, PartOk x r ∧ RlOk r := fun x hx => by
      obtain ⟨i, hi, e⟩ := List.getElem_of_mem hx
      have h1 : ps[i]? = some x := by rw [List.getElem?_eq_getElem hi, e]
      have h2 : rs[i]? = some (rs[i]'(by omega)) := List.getElem?_eq_getElem _
      obtain ⟨a, b, _⟩ := hpr i _ _ h1 h2
      exact ⟨_, a, b⟩
    obtain ⟨c, m, es⟩ := parts_some hne hpx
    rw [es]
    have hsl : (ofL (c :: m)).length ≤ 90000 := by
      rw [← es]
      exact Nat.le_trans (PyProof.Rows.len_stripBy _ _ _ _) hzl
    have hs1 : (ofL (c :: m)).length = m.length + 1 := by show (c :: m).toArray.size = _; rw [List.size_toArray]; rfl
    refine ⟨true, ⟨(by show (ofL (c :: m)).length ≤ sizeLine; exact small _ (by omega)), ?_⟩, iteF ?_⟩
    · show true = (((ofL (c :: m)).length : Int) != 0)
      rw [hs1]
      have : (((m.length + 1 : Nat) : Int) != 0) = true := by rw [bne_iff_ne]; omega
      exact this.symm
    refine ⟨_, rfl, ⟨_, rfl⟩, _, _, rfl, rfl, (by decide +kernel), small _ (by omega), fun TL hTL => ?_⟩
    rw [parts_split (rs := rs) hne hpx]
    have s1 := same_new (o := .lst (ps.map V.str)) hTL
    have hTs := upd_same (H := H) (a := TL) (o := .lst (ps.map V.str))
    generalize upd H TL (.lst (ps.map V.str)) = H1 at s1 hTs
    refine ⟨_, rfl, TL, _, rfl, .inl (SqL.of hTs), _, _, rfl, rfl, _, rfl, ?_⟩
    rw [List.length_map, decide_eq_false (show ¬ (12 : Int) < ((ps.length : Nat) : Int) by omega)]
    refine iteF ?_
    refine ⟨_, rfl, TL, _, rfl, SqL.of hTs, fun D hD => ?_⟩
    refine lc_enumL (K := K) (a := TL) (xs := ps.map V.str) (fun i H2 => ∃ us : List V, H2 D = some (.lst us) ∧ RulesAt H2 us (rs.take i) ∧ Same H1 H2) ⟨[], upd_same, .nil, same_new hD⟩ (fun i H2 _ ⟨_, _, _, s2⟩ => SqL.of (s2 _ _ hTs)) ?_ ?_
    · rintro i v H2 T1 hx ⟨us, hd, hus, s2⟩ hT1
      have hil := (List.getElem?_eq_some_iff.mp hx).1
      rw [List.length_map] at hil
      obtain ⟨x, hx2⟩ := get_lt hil
      obtain ⟨r, hr2⟩ := get_lt (show i < rs.length by omega)
      obtain ⟨p1, p2, p3⟩ := hpr i x r hx2 hr2
      rw [List.getElem?_map, hx2] at hx
      cases hx
      have sT := same_new (o := .tup [.int (i : Nat), .str x]) hT1
      have s3 := Same.trans s2 sT
      refine ⟨T1, _, rfl, SqT.of upd_same, rfl, _, _, rfl, _, _, rfl, rfl, rfl, yes_go ?_⟩
      refine ⟨_, rfl, _, rfl, x, _, r, rfl, p1, p2, p3, s3 _ _ (s1 _ _ hp), fun R c us2 H4 s4 hR hc hus2 => ?_⟩
      have s24 := Same.trans sT s4
      have kD := Kp.lset (l := D) (ys := us ++ [.ref R]) (s24 _ _ hd)
      refine ⟨_, s24 _ _ hd, smal2 _ (by rw [hus.len, List.length_take]; omega), us ++ [.ref R], upd_same, ?_, fun b o e => by rw [upd_ne (ne_of_none e hD)]; exact s24 _ _ (s2 b o e)⟩
      rw [List.take_add_one, hr2]
      exact ((hus.kp (Kp.same s24)).kp kD).snoc (kD.tup _ _ hR) (kD.tup _ _ hc) (hus2.kp kD)
    rintro H2 ⟨us, hd, hus, s2⟩
    rw [List.length_map, hpl, List.take_length] at hus
    have hul := hus.len
    refine ⟨_, rfl, D, rfl, ⟨_, SqL.of hd⟩, fun D2 hD2 => ?_⟩
    refine lc_list (K := K) (a := D) (xs := us) (fun j H3 => H3 D2 = some (.lst (((rs.take j).map (·.1)).map V.str)) ∧ Same H2 H3) ⟨upd_same, same_new hD2⟩ (fun j H3 _ ⟨_, s3⟩ => SqL.of (s3 _ _ hd)) ?_ ?_
    · rintro j v H3 hv ⟨hd3, s3⟩
      obtain ⟨r, a, c, us2, g1, rfl, g2, g3, g4⟩ := hus.get hv
      refine ⟨a, _, rfl, SqT.of (s3 _ _ g2), rfl, _, _, rfl, _, _, rfl, rfl, rfl, yes_go ?_⟩
      refine ⟨_, rfl, _, hd3, smal2 _ (by rw [List.length_map, List.length_map, List.length_take]; omega), ?_, fun b o e => by rw [upd_ne (ne_of_none e hD2)]; exact s3 b o e⟩
      rw [upd_same, List.take_add_one, g1, List.map_append, List.map_append]
      rfl
    rintro H3 ⟨hd3, s3⟩
    rw [hul, List.take_length] at hd3
    refine ⟨D2, _, rfl, hd3, hnd, by rw [List.length_map]; omega, fun H4 s4 => ?_⟩
    refine ⟨_, rfl, rfl, _, rfl, ?_⟩
    refine iteF ?_
    have s24 := Same.trans s3 s4
    refine ⟨_, rfl, D, _, rfl, .inl ⟨SqL.of (s24 _ _ hd), fun R hR => ?_⟩⟩
    have s5 := same_new (o := .tup us) hR
    exact q R us _ (Same.trans s1 (Same.trans s2 (Same.trans s24 s5))) upd_same (hus.kp (Kp.same (Same.trans s24 s5)))
end
end G72
set_option maxHeartbeats 4000000
set_option linter.all false
set_option maxRecDepth 100000
namespace G72
open PySem L2
section
variable {P : Program} {w : World} {K : PySem.W.Frag} {mg : Str → Option Value} {base : Heap}
def spPieces : Sp := fun vs H Q _ => ∃ (a c : Addr) (n : Str) (us : List V) (ks : List Tr), vs = [.ref a] ∧ H a = some (.tup [.str n, .ref c]) ∧ H c = some (.tup us) ∧ StsAt H us ks ∧ (Tr.node n ks).size ≤ 4000 ∧
  ∀ (D : Addr) (ws : List V) (H' : Hp), H D = none → Same H H' → H' D = some (.lst ws) → PzsAtI H' ws (pcs n ks) → Q (.ref D) H'
theorem sc_pieces : FnScope ["doc", "name", "children", "pieces", "k", "child"] ["doc"] (defScope (top 12)) := ⟨rfl, rfl, rfl, by decide +kernel, rfl, by decide +kernel, by decide +kernel⟩
theorem ok_pieces  (F : Dfn K mg "pieces_of" (top 12) ["doc"]) (T : Txt K mg)  : Cal P w K mg base 1 "pieces_of" ["doc"] spPieces := by
  refine F.cal sc_pieces (fun vs H Q E h => ?_) (fun f cdv A outer s H vs Q E hr h => ?_)
  · obtain ⟨a, c, n, us, ks, rfl, _⟩ := h
    rfl
  · have nd := sc_pieces.nd
    obtain ⟨a, c, n, us, ks, rfl, h1, h2, h4, hsz, q⟩ := h
    refine ⟨_, (pss_cons (ps_asg (pv 0) (pg_tup rfl (pgs_cons (pg_name (i := 1) nd rfl (Or.inl rfl)) (pgs_cons (pg_name (i := 2) nd rfl (Or.inl rfl)) pgs_nil))))
      (pss_cons (ps_if (pt_not (pt_truth (pv 2) (by intro _; rfl))) (pss_one (ps_ret (pe_lst (pa_cons (pv 1) pa_nil)))) pss_nil)
      (pss_cons (ps_set (i := 3) nd rfl (Or.inl rfl) (pe_lst (pa_cons (pv 1) pa_nil)))
      (pss_cons (ps_for PassesOwn.never rfl (pi_enumT (by rfl) T.enumerate (pa_cons (pv 2) pa_nil)) (pg_tup rfl (pgs_cons (pg_name (i := 4) nd rfl (Or.inl rfl)) (pgs_cons (pg_name (i := 5) nd rfl (Or.inl rfl)) pgs_nil)))
        (pss_cons (ps_expr (pe_bm PySem.F.plainAttrs_list PySem.F.slot_list_append PySem.F.type_list_append mt_append (pv 3) (pa_cons (pe_ifExp (pt_cmpR op_gt (pv 4) pe_int (nomark _)) pe_str pe_str) pa_nil)))
      (pss_one (ps_expr (pe_bm PySem.F.plainAttrs_list PySem.F.slot_list_append PySem.F.type_list_append mt_append (pv 3) (pa_cons (pv 5) pa_nil))))))
      (pss_cons (ps_expr (pe_bm PySem.F.plainAttrs_list PySem.F.slot_list_append PySem.F.type_list_append mt_append (pv 3) (pa_cons pe_str pa_nil)))
      (pss_one (ps_ret (pv 3)))))))), ?_⟩
    have hul := h4.len
    have hkl := len_le_sizes ks
    have hks : (Tr.node n ks).size = 1 + Tr.sizes ks := rfl
    have small : ∀ m : Nat, m ≤ 10000 → m < sizeLine := fun m hm => Nat.lt_of_le_of_lt hm (by decide)
    refine ⟨_, rfl, a, _, rfl, SqT.of h1, rfl, _, _, rfl, _, _, rfl, rfl, ?_⟩
    refine ⟨_, rfl, !us.isEmpty, .inr (.inl ⟨us, SqT.of h2, rfl⟩), ?_⟩
    by_cases he : us = []
    · subst he
      refine iteT ?_
      have e : ks = [] := List.eq_nil_of_length_eq_zero (by rw [← hul]; rfl)
      subst e
      refine ⟨_, rfl, (by show 1 ≤ sizeLine; decide), fun D hD => ?_⟩
      exact q D _ _ hD (same_new hD) upd_same (.cons rfl .nil)
    · have hne : (!us.isEmpty) = true := by
        cases us with
        | nil => exact absurd rfl he
        | cons _ _ => rfl
      rw [hne]
      refine iteF ?_
      have hkn : ks ≠ [] := fun z => by rw [z] at hul; exact he (List.eq_nil_of_length_eq_zero hul)
      refine ⟨_, rfl, (by show 1 ≤ sizeLine; decide), fun D hD => ?_⟩
      have sD : Same H (upd H D (.lst [.str n])) := same_new hD
      refine ⟨_, rfl, c, us, rfl, SqT.of (sD _ _ h2), ?_⟩
      refine for_enumT (K := K) (a := c) (xs := us) (fun i σ H2 => ∃ (ws : List V) (kk hh : Option V), H2 D = some (.lst ws) ∧ PzsAtI H2 ws (.s n :: pk true (ks.take i)) ∧ ws.length = 1 + 2 * i ∧ Same H H2 ∧ σ = [some (.ref a), some (.str n), some (.ref c), some (.ref D), kk, hh])
        ⟨_, _, _, upd_same, .cons rfl .nil, rfl, sD, rfl⟩ (fun i σ H2 _ ⟨_, _, _, _, _, _, s2, _⟩ => SqT.of (s2 _ _ h2)) ?_ ?_
      · rintro i x σ H2 T hx ⟨ws, kk, hh, hd, hp, hwl, s2, rfl⟩ hT
        have hil : i < us.length := (List.getElem?_eq_some_iff.mp hx).1
        have sT := same_new (o := .tup [.int ((i : Nat) : Int), x]) hT
        obtain ⟨tx, htx, hat⟩ := h4.get hx
        have hd2 := sT _ _ hd
        have hp2 := hp.kp (Kp.same sT)
        have hat2 := hat.kp (Kp.same (Same.trans s2 sT))
        have s3 := Same.trans s2 sT
        refine ⟨T, _, rfl, SqT.of upd_same, rfl, _, _, rfl, _, _, rfl, rfl, ?_⟩
        generalize upd H2 T (.tup [.int ((i : Nat) : Int), x]) = H3 at hd2 hp2 hat2 s3
        refine ⟨_, rfl, .inl ⟨rfl, _, SqL.of hd2⟩, _, rfl, _, _, rfl, rfl, _, rfl, ?_⟩
        have key : ∀ z : Str, z = (if (true && (ks.take i).isEmpty) = true then ("(" : Str) else (" " : Str)) → PzsAtI (upd (upd H3 D (.lst (ws ++ [.str z]))) D (.lst (ws ++ [.str z] ++ [x]))) (ws ++ [.str z] ++ [x]) (.s n :: pk true (ks.take (i + 1))) := fun z ez => by
          have k1 : Kp H3 (upd H3 D (.lst (ws ++ [.str z]))) := Kp.lset hd2
          have k2 : Kp (upd H3 D (.lst (ws ++ [.str z]))) (upd (upd H3 D (.lst (ws ++ [.str z]))) D (.lst (ws ++ [.str z] ++ [x]))) := Kp.lset upd_same
          have et : ks.take (i + 1) = ks.take i ++ [tx] := by rw [List.take_add_one, htx]; rfl
          have e5 : ws ++ [.str z] ++ [x] = ws ++ [.str z, x] := by simp
          have hh := ((hp2.kp k1).kp k2).app (PzsAtI.cons (t := .s z) (v := .str z) rfl (.cons (t := .d tx) (v := x) (StAt.kp k2 (StAt.kp k1 hat2)) .nil))
          rw [← e5] at hh
          rw [et, pk_snoc, ← ez]
          exact hh
        have s4 : ∀ y1 y2 : HO, Same H (upd (upd H3 D y1) D y2) := fun y1 y2 b o e => by
          rw [upd_ne (ne_of_none e hD), upd_ne (ne_of_none e hD)]
          exact s3 b o e
        have step : ∀ z : Str, z = (if (true && (ks.take i).isEmpty) = true then ("(" : Str) else (" " : Str)) → ∃ (w2 : List V) (k2 h2' : Option V), (upd (upd H3 D (.lst (ws ++ [.str z]))) D (.lst (ws ++ [.str z] ++ [x]))) D = some (.lst w2) ∧ PzsAtI (upd (upd H3 D (.lst (ws ++ [.str z]))) D (.lst (ws ++ [.str z] ++ [x]))) w2 (.s n :: pk true (ks.take (i + 1))) ∧ w2.length = 1 + 2 * (i + 1) ∧ Same H (upd (upd H3 D (.lst (ws ++ [.str z]))) D (.lst (ws ++ [.str z] ++ [x]))) ∧ [some (.ref a), some (.str n), some (.ref c), some (.ref D), some (V.int ((i : Nat) : Int)), some x] = [some (.ref a), some (.str n), some (.ref c), some (.ref D), k2, h2'] :=
          fun z ez => ⟨_, _, _, upd_same, key z ez, by simp [hwl]; omega, s4 _ _, rfl⟩
        refine ite2 (fun hk => ?_) (fun hk => ?_)
        · have hi1 : 1 ≤ i := by have := of_decide_eq_true hk; omega
          refine ⟨D, ws, _, rfl, rfl, hd2, small _ (by omega), ?_⟩
          refine ⟨_, rfl, .inl ⟨rfl, _, SqL.of upd_same⟩, _, rfl, D, _, _, rfl, rfl, upd_same, small _ (by simp; omega), ?_⟩
          refine step " " ?_
          rw [if_neg]
          intro z
          have e0 : (ks.take i).isEmpty = true := z
          rw [List.isEmpty_iff, List.take_eq_nil_iff] at e0
          rcases e0 with e0 | e0
          · omega
          · exact hkn e0
        · have hi0 : i = 0 := by
            rcases Nat.eq_zero_or_pos i with h | h
            · exact h
            · exact absurd (decide_eq_true (by omega)) hk
          refine ⟨D, ws, _, rfl, rfl, hd2, small _ (by omega), ?_⟩
          refine ⟨_, rfl, .inl ⟨rfl, _, SqL.of upd_same⟩, _, rfl, D, _, _, rfl, rfl, upd_same, small _ (by simp; omega), ?_⟩
          refine step "(" ?_
          rw [if_pos]
          rw [hi0]
          rfl
      · rintro σ H2 ⟨ws, kk, hh, hd, hp, hwl, s2, rfl⟩
        rw [hul, List.take_length] at hp
        refine ⟨_, rfl, .inl ⟨rfl, _, SqL.of hd⟩, D, ws, _, rfl, rfl, hd, small _ (by omega), ?_⟩
        refine ⟨_, rfl, ?_⟩
        refine q D _ _ hD ?_ upd_same ?_
        · intro b o e
          rw [upd_ne (ne_of_none e hD)]
          exact s2 b o e
        · have e1 : pcs n ks = (.s n :: pk true ks) ++ [.s ")"] := by
            unfold pcs
            rw [if_neg (by rw [List.isEmpty_iff]; exact hkn)]
            rfl
          rw [e1]
          exact (hp.kp (Kp.lset hd)).app (.cons rfl .nil)
def PzL : Pz → Bool
  | .s z => decide (z.length ≤ 8)
  | .d _ => true
theorem pk_L : ∀ (b : Bool) (l : List Tr), (pk b l).all PzL = true
  | _, [] => rfl
  | b, t :: r => by
    have ih := pk_L false r
    show (decide ((if b then ("(" : Str) else " ").length ≤ 8) && (true && (pk false r).all PzL)) = true
    rw [ih]
    cases b <;> decide +kernel
theorem pcs_L {n : Str} (hn : n.length ≤ 8) (ks : List Tr) : (pcs n ks).all PzL = true := by
  have e1 : decide (n.length ≤ 8) = true := decide_eq_true hn
  cases ks with
  | nil =>
    show (decide (n.length ≤ 8) && true) = true
    rw [e1]; rfl
  | cons t r =>
    show (decide (n.length ≤ 8) && (pk true (t :: r) ++ [Pz.s ")"]).all PzL) = true
    rw [e1, List.all_append, pk_L true (t :: r)]
    decide +kernel
def spShow : Sp := fun vs H Q _ => ∃ (v : V) (t : Tr), vs = [v] ∧ StAt H v t ∧ t.size ≤ 1000 ∧ ∀ H', Same H H' → Q (.str t.txt) H'
theorem sc_show : FnScope ["doc", "texts", "waiting", "here"] ["doc"] (defScope (top 13)) := ⟨rfl, rfl, rfl, by decide +kernel, rfl, by decide +kernel, by decide +kernel⟩
theorem ok_show  (F : Dfn K mg "show_doc" (top 13) ["doc"]) (T : Txt K mg) (Cpieces_of : Cal P w K mg base 1 "pieces_of" ["doc"] spPieces) : Cal P w K mg base 2 "show_doc" ["doc"] spShow := by
  refine F.cal sc_show (fun vs H Q E h => ?_) (fun f cdv A outer s H vs Q E hr h => ?_)
  · obtain ⟨v, t, rfl, _⟩ := h
    rfl
  · have nd := sc_show.nd
    obtain ⟨v, t, rfl, ht, hsz, q⟩ := h
    have hf := ht.fI
    refine ⟨_, (pss_cons (ps_set (i := 1) nd rfl (Or.inl rfl) (pe_lst pa_nil))
      (pss_cons (ps_set (i := 2) nd rfl (Or.inl rfl) (pe_lst (pa_cons (pv 0) pa_nil)))
      (pss_cons (ps_while PassesOwn.never (pt_truth (pv 2) (by intro _; rfl))
        (pss_cons (ps_set (i := 3) nd rfl (Or.inl rfl) (pe_bm0 PySem.F.plainAttrs_list PySem.F.slot_list_pop PySem.F.type_list_pop mt_pop (pv 2)))
      (pss_one (ps_if (pt_val (pe_callB call_isinst (by rfl) T.isinstance (by decide +kernel) (pa_cons (pv 3) (pa_cons (pe_bltn (v := .ty "str") (by rfl) T.str (by decide +kernel) rfl) pa_nil)))) (pss_one (ps_expr (pe_bm PySem.F.plainAttrs_list PySem.F.slot_list_append PySem.F.type_list_append mt_append (pv 1) (pa_cons (pv 3) pa_nil)))) (pss_one (ps_expr (pe_bm PySem.F.plainAttrs_list PySem.F.slot_list_extend PySem.F.type_list_extend mt_extend (pv 2) (pa_cons (pe_rev (pe_cal Cpieces_of (hr.mono (by decide)) rfl (pa_cons (pv 3) pa_nil))) pa_nil))))))))
      (pss_one (ps_ret (pe_join pe_str (pv 1))))))), ?_⟩
    have small : ∀ m : Nat, m ≤ 100000 → m < sizeLine := fun m hm => Nat.lt_of_le_of_lt hm (by decide)
    refine ⟨(by show 0 ≤ sizeLine; decide), fun X hX => ?_⟩
    refine ⟨_, rfl, (by show 1 ≤ sizeLine; decide), fun W hW => ?_⟩
    have sX : Same H (upd H X (.lst [])) := same_new hX
    have sW := same_new (o := .lst [v]) hW
    have hW0 : H W = none := by
      cases e : H W with
      | none => rfl
      | some o => rw [sX _ _ e] at hW; cases hW
    have hXW : X ≠ W := fun z => by rw [← z, upd_same] at hW; cases hW
    have hw := w_size t
    have hm : ∀ {H3 : Hp} {x : HO}, Same H H3 → Same H (upd H3 W x) := fun {H3 x} k b o e => by
      rw [upd_ne (ne_of_none e hW0)]
      exact k b o e
    have hm2 : ∀ {H3 : Hp} {x : HO}, Same H H3 → Same H (upd H3 X x) := fun {H3 x} k b o e => by
      rw [upd_ne (ne_of_none e hX)]
      exact k b o e
    refine ⟨fun m σ H2 => ∃ (ws : List V) (ts : List Pz) (ys : List Str) (hh : Option V), σ = [some v, some (.ref X), some (.ref W), hh] ∧ Same H H2 ∧ H2 W = some (.lst ws) ∧ PzsAtI H2 ws ts ∧ ts.all PzL = true ∧ H2 X = some (.lst (ys.map V.str)) ∧ catL ys ++ itl ts.reverse = t.tl ∧ ys.length + itw ts ≤ 4000 ∧ itw ts = m,
      ⟨t.w, [v], [.d t], [], none, rfl, Same.trans sX sW, upd_same, .cons (StAt.kp (Kp.same (Same.trans sX sW)) ht) .nil, rfl, sW _ _ upd_same, by show [] ++ (t.tl ++ []) = t.tl; simp, by show 0 + (t.w + 0) ≤ 4000; omega, rfl⟩, ?_⟩
    rintro m σ H2 ⟨ws, ts, ys, hh, rfl, k2, hw2, hts, hfin, hx2, htx, hmm, rfl⟩
    have hlen := hts.len
    have hll := itw_len ts
    refine ⟨_, rfl, !ws.isEmpty, .inl ⟨ws, SqL.of hw2, rfl⟩, ?_⟩
    by_cases he : ws = []
    · subst he
      refine iteF ?_
      have e : ts = [] := List.eq_nil_of_length_eq_zero (by rw [← hlen]; rfl)
      subst e
      have e2 : catL ys = t.tl := by rw [← htx]; show _ = catL ys ++ []; rw [List.append_nil]
      have l2 := tlI_len t hf
      refine ⟨⟨_, rfl⟩, _, rfl, _, X, ys, rfl, rfl, .inl (SqL.of hx2), ?_, ?_⟩
      · rw [cat_len, e2]
        have l0 : ("" : Str).length = 0 := by rw [em_is]; rfl
        rw [l0, Nat.mul_zero]
        omega
      · have e3 : Txt.join "" ys = t.txt := str_ext (by rw [join_cat, e2]; rfl)
        rw [e3]
        exact q H2 k2
    · have hne : (!ws.isEmpty) = true := by
        cases ws with
        | nil => exact absurd rfl he
        | cons _ _ => rfl
      rw [hne]
      refine iteT ?_
      obtain ⟨y, ty, ts', e1, hy, hd, rfl⟩ := hts.last he
      refine ⟨fun σ' H' => ∃ m', m' < itw (ts' ++ [ty]) ∧ ∃ (ws : List V) (ts : List Pz) (ys : List Str) (hh : Option V), σ' = [some v, some (.ref X), some (.ref W), hh] ∧ Same H H' ∧ H' W = some (.lst ws) ∧ PzsAtI H' ws ts ∧ ts.all PzL = true ∧ H' X = some (.lst (ys.map V.str)) ∧ catL ys ++ itl ts.reverse = t.tl ∧ ys.length + itw ts ≤ 4000 ∧ itw ts = m', fun _ _ h => h, ?_⟩
      have k3 : Kp H2 (upd H2 W (.lst ws.dropLast)) := Kp.lset hw2
      refine ⟨_, rfl, .inl ⟨rfl, _, SqL.of hw2⟩, W, ws, y, rfl, rfl, hw2, e1, ?_⟩
      have hx3 : (upd H2 W (.lst ws.dropLast)) X = some (.lst (ys.map V.str)) := by rw [upd_ne hXW]; exact hx2
      have s3 : Same H (upd H2 W (.lst ws.dropLast)) := hm k2
      have hd3 := hd.kp k3
      have hy3 := PzAtI.kp k3 hy
      have hw3 : (upd H2 W (.lst ws.dropLast)) W = some (.lst ws.dropLast) := upd_same
      generalize upd H2 W (.lst ws.dropLast) = H3 at hx3 s3 hd3 hy3 hw3
      have hfa : ts'.all PzL = true ∧ PzL ty = true := by
        rw [List.all_append] at hfin
        have := Bool.and_eq_true_iff.mp hfin
        refine ⟨this.1, ?_⟩
        have h2 := this.2
        simpa using h2
      have ew : itw (ts' ++ [ty]) = itw ts' + ty.w := by rw [itw_app]; rfl
      have el : itl (ts' ++ [ty]).reverse = ty.l ++ itl ts'.reverse := by rw [List.reverse_append]; rfl
      rw [el] at htx
      rw [ew] at hmm hll
      cases ty with
      | s z =>
        cases hy3
        refine ⟨_, rfl, _, _, _, _, rfl, TyOf.str z, (show _ = some true from rfl), true, rfl, iteT ?_⟩
        refine ⟨_, rfl, .inl ⟨rfl, _, SqL.of hx3⟩, _, rfl, X, _, _, rfl, rfl, hx3, small _ (by rw [List.length_map]; omega), ?_⟩
        refine ⟨itw ts', by rw [ew]; show _ < _ + 1; omega, ws.dropLast, ts', ys ++ [z], _, rfl, hm2 s3, by rw [upd_ne (fun z => hXW z.symm)]; exact hw3, hd3.kp (Kp.lset hx3), hfa.1, by rw [upd_same, List.map_append]; rfl, ?_, ?_, rfl⟩
        · rw [catL_snoc, List.append_assoc]
          exact htx
        · rw [List.length_append]
          have : (Pz.s z).w = 1 := rfl
          simp
          omega
      | d u =>
        cases hy3 with
        | star =>
          refine ⟨_, rfl, _, _, _, _, rfl, TyOf.str "*", (show _ = some true from rfl), true, rfl, iteT ?_⟩
          have e0 : (Pz.d (Tr.node "*" [])).w = 3 := rfl
          refine ⟨_, rfl, .inl ⟨rfl, _, SqL.of hx3⟩, _, rfl, X, _, _, rfl, rfl, hx3, small _ (by rw [List.length_map]; omega), ?_⟩
          refine ⟨itw ts', by rw [ew]; omega, ws.dropLast, ts', ys ++ [("*" : Str)], _, rfl, hm2 s3, by rw [upd_ne (fun z => hXW z.symm)]; exact hw3, hd3.kp (Kp.lset hx3), hfa.1, by rw [upd_same, List.map_append]; rfl, ?_, ?_, rfl⟩
          · rw [catL_snoc, List.append_assoc]
            rw [show (Pz.d (Tr.node "*" [])).l = ("*" : Str).cps.toList from tl_nil "*"] at htx
            exact htx
          · rw [List.length_append]
            simp
            omega
        | @node a c n us ks h1 h2 h3 h4 =>
        have hsz2 : (Tr.node n ks).size ≤ 4000 := by
          have e0 : (Pz.d (Tr.node n ks)).w = 3 + Tr.ws ks := rfl
          have e9 := sizes_ws ks
          show 1 + Tr.sizes ks ≤ 4000
          omega
        refine ⟨_, rfl, _, _, _, _, rfl, TyOf.tup h1, (show _ = some false from rfl), false, rfl, iteF ?_⟩
        refine ⟨_, rfl, .inl ⟨rfl, _, SqL.of hw3⟩, _, rfl, a, c, n, us, ks, rfl, h1, h2, h4, hsz2, fun D ps H4 hD4 s4 hD hps => ?_⟩
        refine ⟨D, ps, rfl, SqL.of hD, fun R hR => ?_⟩
        have sR := same_new (o := .lst ps.reverse) hR
        have s34 := Same.trans s4 sR
        have pw := pcs_w n ks
        have pl := itw_len (pcs n ks)
        have hpl := hps.len
        have dl := hd3.len
        have tl2 := itw_len ts'
        have e0 : (Pz.d (Tr.node n ks)).w = (Tr.node n ks).w := rfl
        refine ⟨W, R, ws.dropLast, ps.reverse, rfl, rfl, s34 _ _ hw3, upd_same, Nat.le_of_lt (small _ (by rw [List.length_reverse]; omega)), ?_⟩
        have kW : Kp (upd H4 R (.lst ps.reverse)) (upd (upd H4 R (.lst ps.reverse)) W (.lst (ws.dropLast ++ ps.reverse))) := Kp.lset (s34 _ _ hw3)
        refine ⟨itw (ts' ++ (pcs n ks).reverse), by rw [ew, itw_app, itw_rev]; omega, _, ts' ++ (pcs n ks).reverse, ys, _, rfl, hm (Same.trans s3 s34), upd_same, ((hd3.kp (Kp.same s34)).kp kW).app (((hps.kp (Kp.same sR)).rev).kp kW), ?_, by rw [upd_ne hXW]; exact s34 _ _ hx3, ?_, by rw [itw_app, itw_rev]; omega, rfl⟩
        · rw [List.all_append, hfa.1, List.all_reverse, pcs_L (nameF_len h3).2.1 ks]
          rfl
        · rw [List.reverse_append, List.reverse_reverse, itl_app, pcs_l]
          exact htx
end
end G72
set_option maxHeartbeats 4000000
set_option linter.all false
set_option maxRecDepth 100000
namespace G72
open PySem L2
section
variable {P : Program} {w : World} {K : PySem.W.Frag} {mg : Str → Option Value} {base : Heap}
def spShowR : Sp := fun vs H Q _ => ∃ (I : Addr) (us : List V) (r : Rule), vs = [.str r.1, .ref I] ∧ H I = some (.tup us) ∧ StsAt H us r.2 ∧ RlOk r ∧ ∀ H', Same H H' → Q (.str (ruleT r)) H'
theorem catL_cl : ∀ ts : List Tr, catL (ts.map fun t : Tr => (" " : Str) ++ t.txt) = Tr.cl ts
  | [] => rfl
  | t :: r => by
    show (" " ++ t.txt).cps.toList ++ catL (r.map fun t : Tr => (" " : Str) ++ t.txt) = 32 :: (t.tl ++ Tr.cl r)
    rw [catL_cl r, cps_app, bl_is]
    rfl
theorem sc_showr : FnScope ["name", "items", "texts", "item"] ["name", "items"] (defScope (top 24)) := ⟨rfl, rfl, rfl, by decide +kernel, rfl, by decide +kernel, by decide +kernel⟩
theorem ok_showr  (F : Dfn K mg "show_turner_rule" (top 24) ["name", "items"]) (T : Txt K mg) (Cshow_doc : Cal P w K mg base 2 "show_doc" ["doc"] spShow) : Cal P w K mg base 3 "show_turner_rule" ["name", "items"] spShowR := by
  refine F.cal sc_showr (fun vs H Q E h => ?_) (fun f cdv A outer s H vs Q E hr h => ?_)
  · obtain ⟨I, us, r, rfl, _⟩ := h
    rfl
  · have nd := sc_showr.nd
    obtain ⟨I, us, r, rfl, hI, hus, hr0, q⟩ := h
    obtain ⟨tA, hARROW⟩ := T.ARROW
    refine ⟨_, (pss_cons (ps_setLc (i := 2) (own := [("item", 3)]) (g := (gName 3)) (by rfl) nd rfl rfl (sw_true rfl rfl rfl (by decide +kernel)) (pi_tup (pv 1)) (blkOk_by (own := [("item", 3)]) (N := ["name", "items", "texts", "item"]) (sc := defScope (top 24)) (by decide +kernel)) (fun _ _ _ _ _ => (pg_name (i := 3) nd rfl (Or.inl rfl))) (fun _ _ _ _ _ => pts_nil) (fun _ _ _ _ _ => (pe_op op_add_str pe_str (pe_cal Cshow_doc (hr.mono (by decide)) rfl (pa_cons (pv 3) pa_nil)))))
      (pss_one (ps_ret (pe_op op_add_str (pe_op op_add_str (pv 0) (pe_glob (v := .str " ->") (by rfl) hARROW ⟨_, rfl⟩)) (pe_join pe_str (pv 2)))))), ?_⟩
    have small : ∀ m : Nat, m ≤ 100000 → m ≤ sizeLine := fun m hm => Nat.le_trans hm (by decide)
    have smal2 : ∀ m : Nat, m ≤ 100000 → m < sizeLine := fun m hm => Nat.lt_of_le_of_lt hm (by decide)
    have hul := hus.len
    have hsl := len_le_sizes r.2
    have hsz := hr0.sz
    refine ⟨_, rfl, I, rfl, ⟨_, SqT.of hI⟩, fun D hD => ?_⟩
    refine lc_tup (K := K) (a := I) (xs := us) (fun i H2 => H2 D = some (.lst (((r.2.take i).map fun t : Tr => (" " : Str) ++ t.txt).map V.str)) ∧ Same H H2) ⟨upd_same, same_new hD⟩ (fun i H2 _ ⟨_, s2⟩ => SqT.of (s2 _ _ hI)) ?_ ?_
    · rintro i v H2 hv ⟨hd, s2⟩
      obtain ⟨t, ht, hst⟩ := hus.get hv
      have htm := List.mem_of_getElem? ht
      have htz : t.size ≤ Tr.sizes r.2 := by
        have : ∀ (l : List Tr), t ∈ l → t.size ≤ Tr.sizes l := fun l => by
          induction l with
          | nil => intro h; cases h
          | cons x r ih =>
            intro h
            show t.size ≤ x.size + Tr.sizes r
            rcases List.mem_cons.mp h with e | e
            · rw [e]; omega
            · have := ih e; omega
        exact this _ htm
      have hlen := tlI_len t hst.fI
      refine ⟨rfl, yes_go ?_⟩
      refine ⟨_, rfl, v, t, rfl, hst.kp (Kp.same s2), by omega, fun H3 s3 => ?_⟩
      have s23 := Same.trans s2 s3
      refine ⟨_, _, rfl, rfl, small _ (by rw [txt_len]; show 1 + _ ≤ _; omega), ?_⟩
      refine ⟨_, s3 _ _ hd, smal2 _ (by rw [List.length_map, List.length_map, List.length_take]; omega), ?_, fun b o e => by rw [upd_ne (ne_of_none e hD)]; exact s23 b o e⟩
      rw [upd_same, List.take_add_one, ht, List.map_append, List.map_append]
      rfl
    rintro H2 ⟨hd, s2⟩
    rw [hul, List.take_length] at hd
    have hcl := clI_len r.2 hr0.its
    have hj : Txt.join "" (r.2.map fun t : Tr => (" " : Str) ++ t.txt) = ofL (Tr.cl r.2) := str_ext (by rw [join_cat, catL_cl]; rfl)
    have hjl : (ofL (Tr.cl r.2)).length = (Tr.cl r.2).length := by show (Tr.cl r.2).toArray.size = _; rw [List.size_toArray]
    have hnl := (nameF_len hr0.nm).2.1
    refine ⟨_, rfl, _, _, rfl, rfl, small _ (by show r.1.length + 3 ≤ _; omega), ?_⟩
    refine ⟨⟨_, rfl⟩, _, rfl, _, D, _, rfl, rfl, .inl (SqL.of hd), ?_, ?_⟩
    · rw [cat_len, catL_cl]
      have l0 : ("" : Str).length = 0 := by rw [em_is]; rfl
      rw [l0, Nat.mul_zero]
      omega
    rw [hj]
    refine ⟨_, _, rfl, rfl, small _ (by rw [app_len, hjl]; show r.1.length + 3 + _ ≤ _; omega), ?_⟩
    have e : r.1 ++ " ->" ++ ofL (Tr.cl r.2) = ruleT r := by
      refine str_ext ?_
      rw [cps_app, cps_app, ar_is]
      show r.1.cps.toList ++ [32, 45, 62] ++ Tr.cl r.2 = ruleL r
      unfold ruleL
      simp
    rw [e]
    exact q H2 s2
def spShowT : Sp := fun vs H Q _ => ∃ (R : Addr) (us : List V) (rs : List Rule), vs = [.ref R] ∧ H R = some (.tup us) ∧ RulesAt H us rs ∧ (∀ r ∈ rs, RlOk r) ∧ rs.length ≤ 20 ∧ ∀ H', Same H H' → Q (.str (Txt.join "; " (rs.map ruleT))) H'
theorem ruleT_len {r : Rule} (h : RlOk r) : (ruleT r).length ≤ 3000 := by
  show (ruleL r).toArray.size ≤ _
  rw [List.size_toArray]
  unfold ruleL
  rw [List.length_append, len_toList]
  have h1 := clI_len r.2 h.its
  have h2 := h.sz
  have h3 := (nameF_len h.nm).2.1
  simp only [List.length_cons]
  omega
theorem lens_le {c : Nat} : ∀ parts : List Str, (∀ p ∈ parts, p.length ≤ c) → (parts.map (·.length)).sum ≤ c * parts.length
  | [], _ => Nat.zero_le _
  | p :: r, h => by
    have h1 := lens_le r fun x hx => h x (List.mem_cons_of_mem _ hx)
    have h2 := h p List.mem_cons_self
    rw [List.map_cons, List.sum_cons, List.length_cons, Nat.mul_add]
    omega
theorem ss_len : ("; " : Str).length = 2 := by decide +kernel
theorem sc_showt : FnScope ["turner", "name", "items"] ["turner"] (defScope (top 25)) := ⟨rfl, rfl, rfl, by decide +kernel, rfl, by decide +kernel, by decide +kernel⟩
theorem ok_showt  (F : Dfn K mg "show_turner" (top 25) ["turner"]) (T : Txt K mg) (Cshow_turner_rule : Cal P w K mg base 3 "show_turner_rule" ["name", "items"] spShowR) : Cal P w K mg base 4 "show_turner" ["turner"] spShowT := by
  refine F.cal sc_showt (fun vs H Q E h => ?_) (fun f cdv A outer s H vs Q E hr h => ?_)
  · obtain ⟨R, us, rs, rfl, _⟩ := h
    rfl
  · have nd := sc_showt.nd
    obtain ⟨R, us, rs, rfl, hR, hus, hro, hrl, q⟩ := h
    refine ⟨_, (pss_one (ps_ret (pe_join pe_str (pe_lc (own := [("name", 1), ("items", 2)]) (g := (gTup K 2 (gCons (gName 1) (gCons (gName 2) gNil)))) (by rfl) nd (pi_tup (pv 0)) (blkOk_by (own := [("name", 1), ("items", 2)]) (N := ["turner", "name", "items"]) (sc := defScope (top 25)) (by decide +kernel)) (fun _ _ _ _ _ => (pg_tup rfl (pgs_cons (pg_name (i := 1) nd rfl (Or.inl rfl)) (pgs_cons (pg_name (i := 2) nd rfl (Or.inl rfl)) pgs_nil)))) (fun _ _ _ _ _ => pts_nil) (fun _ _ _ _ _ => (pe_cal Cshow_turner_rule (hr.mono (by decide)) rfl (pa_cons (pv 1) (pa_cons (pv 2) pa_nil)))))))), ?_⟩
    have smal2 : ∀ m : Nat, m ≤ 100000 → m < sizeLine := fun m hm => Nat.lt_of_le_of_lt hm (by decide)
    have hul := hus.len
    refine ⟨⟨_, rfl⟩, _, rfl, R, rfl, ⟨_, SqT.of hR⟩, fun D hD => ?_⟩
    refine lc_tup (K := K) (a := R) (xs := us) (fun i H2 => H2 D = some (.lst (((rs.take i).map ruleT).map V.str)) ∧ Same H H2) ⟨upd_same, same_new hD⟩ (fun i H2 _ ⟨_, s2⟩ => SqT.of (s2 _ _ hR)) ?_ ?_
    · rintro i v H2 hv ⟨hd, s2⟩
      obtain ⟨r, a, c, us2, g1, rfl, g2, g3, g4⟩ := hus.get hv
      refine ⟨a, _, rfl, SqT.of (s2 _ _ g2), rfl, _, _, rfl, _, _, rfl, rfl, rfl, yes_go ?_⟩
      refine ⟨_, rfl, _, rfl, c, us2, r, rfl, s2 _ _ g3, g4.kp (Kp.same s2), hro r (List.mem_of_getElem? g1), fun H3 s3 => ?_⟩
      have s23 := Same.trans s2 s3
      refine ⟨_, s3 _ _ hd, smal2 _ (by rw [List.length_map, List.length_map, List.length_take]; omega), ?_, fun b o e => by rw [upd_ne (ne_of_none e hD)]; exact s23 b o e⟩
      rw [upd_same, List.take_add_one, g1, List.map_append, List.map_append]
      rfl
    rintro H2 ⟨hd, s2⟩
    rw [hul, List.take_length] at hd
    refine ⟨_, D, _, rfl, rfl, .inl (SqL.of hd), ?_, q H2 s2⟩
    have h1 := lens_le (c := 3000) (rs.map ruleT) fun p hp => by
      obtain ⟨r, hr, rfl⟩ := List.mem_map.mp hp
      exact ruleT_len (hro r hr)
    rw [ss_len, List.length_map]
    rw [List.length_map] at h1
    omega
end
end G72
set_option maxHeartbeats 4000000
set_option linter.all false
set_option maxRecDepth 100000
namespace G72
open PySem L2
section
variable {P : Program} {w : World} {K : PySem.W.Frag} {mg : Str → Option Value} {base : Heap}
def spLaw (K : PySem.W.Frag) (p : Addr) : Sp := fun vs H Q _ => ∃ (a : Addr) (ns : List Int), vs = [.ref a] ∧ SqL K H a (ns.map V.int) ∧ ns.length ≤ 63 ∧ H p = some (TbO p) ∧ ∀ H', H' p = some (TbO p) → Q (.bl true) H'
theorem sc_law : FnScope ["_law_script", "_law_pool", "_law_rules", "_law_start", "_law_texts", "_law_rule", "_law_text", "_law_wide", "_law_tape_here", "_law_rule_text"] ["_law_script"] (defScope (top 38)) := ⟨rfl, rfl, rfl, by decide +kernel, rfl, by decide +kernel, by decide +kernel⟩
def Tx (z : Str) (rs : List Rule) : Prop := ∃ ps : List Str, z = Txt.join ";" ps ∧ ps.length = rs.length ∧ ∀ (i : Nat) (x : Str) (r : Rule), ps[i]? = some x → rs[i]? = some r → PartOk x r ∧ x.length ≤ 10000
theorem rd_of {p : Addr} {z : Str} {rs : List Rule} {H : Hp} {Q : V → Hp → Prop} {E : XK} (hp : H p = some (TbO p)) (hzl : z.length ≤ 90000) (hT : Tx z rs) (hl : rs.length ≤ 9) (ho : ∀ r ∈ rs, RlOk r) (hn : (rs.map (·.1)).Nodup)
    (q : ∀ (R : Addr) (us : List V) (H' : Hp), Same H H' → H' R = some (.tup us) → RulesAt H' us rs → Q (.ref R) H') : spReadT p [.str z] H Q E := by
  obtain ⟨ps, rfl, h1, h2⟩ := hT
  refine ⟨_, rfl, hp, hzl, ?_⟩
  cases rs with
  | nil =>
    have : ps = [] := List.eq_nil_of_length_eq_zero h1
    subst this
    refine .inl ⟨0, ?_, fun R H' s hR => q R [] H' s hR .nil⟩
    have e : Txt.join ";" ([] : List Str) = Str.join ";" [] := PySem.StrLaws.glued_eq_join ";" _
    rw [e]
    rw [show Str.join ";" [] = "" from rfl, em_is]
    rfl
  | cons r q2 =>
    refine .inr ⟨ps, r :: q2, (fun e => by rw [e] at h1; cases h1), rfl, h1, fun i x r' hx hr => ?_, by omega, hn, q⟩
    obtain ⟨g1, g2⟩ := h2 i x r' hx hr
    exact ⟨g1, ho r' (List.mem_of_getElem? hr), g2⟩
theorem rd_blank {p : Addr} {n : Nat} {H : Hp} {Q : V → Hp → Prop} {E : XK} (hp : H p = some (TbO p)) (hn : n ≤ 1000)
    (q : ∀ (R : Addr) (H' : Hp), Same H H' → H' R = some (.tup []) → Q (.ref R) H') : spReadT p [.str ⟨(List.replicate n 32).toArray⟩] H Q E :=
  ⟨_, rfl, hp, by show (List.replicate n 32).toArray.size ≤ _; rw [List.size_toArray, List.length_replicate]; omega, .inl ⟨n, rfl, q⟩⟩
theorem tx_text {rs : List Rule} (ho : ∀ r ∈ rs, RlOk r) : Tx (Txt.join "; " (rs.map ruleT)) rs := by
  refine ⟨lead (rs.map ruleT), ?_, by rw [lead_len, List.length_map], fun i x r hx hr => ?_⟩
  · cases rs with
    | nil =>
      have e1 : Txt.join "; " ([] : List Str) = Str.join "; " [] := PySem.StrLaws.glued_eq_join "; " _
      have e2 : Txt.join ";" ([] : List Str) = Str.join ";" [] := PySem.StrLaws.glued_eq_join ";" _
      show Txt.join "; " [] = Txt.join ";" []
      rw [e1, e2]
      rfl
    | cons r q => exact join_lead _ (by simp)
  · obtain ⟨g1, g2⟩ := lead_get hx hr
    have := ruleT_len (ho r (List.mem_of_getElem? hr))
    exact ⟨g1, by omega⟩
theorem part_wide {r : Rule} (i j : Nat) : PartOk (⟨(List.replicate i 32).toArray⟩ ++ ruleT r ++ ⟨(List.replicate j 32).toArray⟩) r := by
  refine ⟨i, j, str_ext ?_⟩
  rw [cps_app, cps_app]
  rfl
theorem rep_len (i : Nat) : (⟨(List.replicate i 32).toArray⟩ : Str).length = i := by
  show (List.replicate i 32).toArray.size = i
  rw [List.size_toArray, List.length_replicate]
theorem ok_law {f p : Addr} {fd : FuncData} {SR : Sp}
    (rdO : ∀ {z : Str} {rs : List Rule} {H : Hp} {Q : V → Hp → Prop} {E : XK}, H p = some (TbO p) → z.length ≤ 90000 → Tx z rs → rs.length ≤ 9 → (∀ r ∈ rs, RlOk r) → (rs.map (·.1)).Nodup →
      (∀ (R : Addr) (us : List V) (H' : Hp), Same H H' → H' R = some (.tup us) → RulesAt H' us rs → Q (.ref R) H') → SR [.str z] H Q E)
    (rdB : ∀ {n : Nat} {H : Hp} {Q : V → Hp → Prop} {E : XK}, H p = some (TbO p) → n ≤ 1000 → (∀ (R : Addr) (H' : Hp), Same H H' → H' R = some (.tup []) → Q (.ref R) H') → SR [.str ⟨(List.replicate n 32).toArray⟩] H Q E)
    (F : Fun K "law" "law" (top 38) f fd) (T : Txt K mg)
    (C_law_cell_at : Cal P w K mg base 1 "_law_cell_at" ["_law_script", "_law_k"] (spCell K))
    (C_law_names : Cal P w K mg base 1 "_law_names" ["_law_cell"] spNames)
    (C_law_turner : Cal P w K mg base 5 "_law_turner" ["_law_script", "_law_start", "_law_most", "_law_pool", "_law_deep"] (spTurner K))
    (C_law_tape : Cal P w K mg base 2 "_law_tape" ["_law_cell", "_law_many"] spTape)
    (C_law_next : Cal P w K mg base 1 "_law_next" ["_law_tape_here", "_law_many"] spNext)
    (C_law_long : Cal P w K mg base 2 "_law_long" ["_law_tape_here", "_law_pool"] spLong)
    (C_law_rule_shown : Cal P w K mg base 23 "_law_rule_shown" ["_law_rule"] spRS)
    (Cshow_turner : Cal P w K mg base 4 "show_turner" ["turner"] spShowT)
    (Cread_turner : Cal P w K mg base 6 "read_turner" ["text"] SR)
    (C_law_same : Cal P w K mg base 46 "_law_same" ["_law_found", "_law_due"] (spSame 45)) :
    FnOk P w K mg base CX0 47 f fd ["_law_script"] (spLaw K p) := by
  refine F.ok sc_law (fun vs H Q E h => ?_) (fun cdv A outer s H vs Q E hr h => ?_)
  · obtain ⟨a, ns, rfl, _⟩ := h
    rfl
  · have nd := sc_law.nd
    obtain ⟨a, ns, rfl, hS, hlen, hp, q⟩ := h
    refine ⟨_, (pss_cons (ps_set (i := 1) nd rfl (Or.inl rfl) (pe_cal C_law_names (hr.mono (by decide)) rfl (pa_cons (pe_cal C_law_cell_at (hr.mono (by decide)) rfl (pa_cons (pv 0) (pa_cons pe_int pa_nil))) pa_nil)))
      (pss_cons (ps_set (i := 2) nd rfl (Or.inl rfl) (pe_cal C_law_turner (hr.mono (by decide)) rfl (pa_cons (pv 0) (pa_cons pe_int (pa_cons pe_int (pa_cons (pv 1) (pa_cons pe_int pa_nil)))))))
      (pss_cons (ps_cut (ps_if (pt_cmpR op_eq (pe_op op_mod (pe_cal C_law_cell_at (hr.mono (by decide)) rfl (pa_cons (pv 0) (pa_cons pe_int pa_nil))) pe_int) pe_int (nomark _)) (pss_cons (ps_set (i := 3) nd rfl (Or.inl rfl) (pe_op op_add (pe_op op_fdiv (pe_cal C_law_cell_at (hr.mono (by decide)) rfl (pa_cons (pv 0) (pa_cons pe_int pa_nil))) pe_int) pe_int))
      (pss_one (ps_set (i := 2) nd rfl (Or.inl rfl) (pe_op op_catA (pv 2) (pe_tup (pa_cons (pe_tup (pa_cons (pe_ix ix_list (pv 1) (pe_op op_mod (pv 3) pe_int) (fun _ _ => rfl)) (pa_cons (pe_cal C_law_long (hr.mono (by decide)) rfl (pa_cons (pe_cal C_law_tape (hr.mono (by decide)) rfl (pa_cons (pe_cal C_law_cell_at (hr.mono (by decide)) rfl (pa_cons (pv 0) (pa_cons pe_int pa_nil))) (pa_cons pe_int pa_nil))) (pa_cons (pv 1) pa_nil))) pa_nil))) pa_nil)))))) pss_nil))
      (pss_cons (ps_setLc (i := 4) (own := [("_law_rule", 5)]) (g := (gName 5)) (by rfl) nd rfl rfl (sw_true rfl rfl rfl (by decide +kernel)) (pi_tup (pv 2)) (blkOk_by (own := [("_law_rule", 5)]) (N := ["_law_script", "_law_pool", "_law_rules", "_law_start", "_law_texts", "_law_rule", "_law_text", "_law_wide", "_law_tape_here", "_law_rule_text"]) (sc := defScope (top 38)) (by decide +kernel)) (fun _ _ _ _ _ => (pg_name (i := 5) nd rfl (Or.inl rfl))) (fun _ _ _ _ _ => pts_nil) (fun _ _ _ _ _ => (pe_cal C_law_rule_shown (hr.mono (by decide)) rfl (pa_cons (pv 5) pa_nil))))
      (pss_cons (ps_if (pt_cmpR op_gt (pe_callB call_len_str (by rfl) T.len PySem.boot_len (pa_cons (pe_join pe_str (pv 4)) pa_nil)) pe_int (nomark _)) (pss_one (ps_ret pe_bl)) pss_nil)
      (pss_cons (ps_set (i := 6) nd rfl (Or.inl rfl) (pe_cal Cshow_turner (hr.mono (by decide)) rfl (pa_cons (pv 2) pa_nil)))
      (pss_cons (ps_if (PW.pt (pw_or (pt_not (pt_val (pe_callB call_isinst (by rfl) T.isinstance (by decide +kernel) (pa_cons (pv 6) (pa_cons (pe_bltn (v := .ty "str") (by rfl) T.str (by decide +kernel) rfl) pa_nil))))) (pw_or1 (pt_cmpR op_ne (pv 6) (pe_join pe_str (pv 4)) (nomark _))))) (pss_one (ps_ret pe_bl)) pss_nil)
      (pss_cons (ps_set (i := 7) nd rfl (Or.inl rfl) (pe_lst pa_nil))
      (pss_cons (ps_set (i := 8) nd rfl (Or.inl rfl) (pe_cal C_law_tape (hr.mono (by decide)) rfl (pa_cons (pe_cal C_law_cell_at (hr.mono (by decide)) rfl (pa_cons (pv 0) (pa_cons pe_int pa_nil))) (pa_cons pe_int pa_nil))))
      (pss_cons (ps_for PassesOwn.never rfl (pi_list (pv 4)) (pg_name (i := 9) nd rfl (Or.inl rfl))
        (pss_one (ps_expr (pe_bm PySem.F.plainAttrs_list PySem.F.slot_list_append PySem.F.type_list_append mt_append (pv 7) (pa_cons (pe_op op_add_str (pe_op op_add_str (pe_op op_mul_sign0 pe_str (pe_cal C_law_next (hr.mono (by decide)) rfl (pa_cons (pv 8) (pa_cons pe_int pa_nil)))) (pv 9)) (pe_op op_mul_sign0 pe_str (pe_cal C_law_next (hr.mono (by decide)) rfl (pa_cons (pv 8) (pa_cons pe_int pa_nil))))) pa_nil)))))
      (pss_cons (ps_if (PW.pt (pw_or (pt_not (pt_val (pe_cal C_law_same (hr.mono (by decide)) rfl (pa_cons (pe_cal Cread_turner (hr.mono (by decide)) rfl (pa_cons (pv 6) pa_nil)) (pa_cons (pv 2) pa_nil))))) (pw_or1 (pt_not (pt_val (pe_cal C_law_same (hr.mono (by decide)) rfl (pa_cons (pe_cal Cread_turner (hr.mono (by decide)) rfl (pa_cons (pe_join pe_str (pv 7)) pa_nil)) (pa_cons (pv 2) pa_nil)))))))) (pss_one (ps_ret pe_bl)) pss_nil)
      (pss_one (ps_ret (pe_cal C_law_same (hr.mono (by decide)) rfl (pa_cons (pe_cal Cread_turner (hr.mono (by decide)) rfl (pa_cons (pe_op op_mul_sign0 pe_str (pe_op op_mod (pe_cal C_law_cell_at (hr.mono (by decide)) rfl (pa_cons (pv 0) (pa_cons pe_int pa_nil))) pe_int)) pa_nil)) (pa_cons (pe_tup pa_nil) pa_nil)))))))))))))))), ?_⟩
    have small : ∀ m : Nat, m ≤ 100000 → m < sizeLine := fun m hm => Nat.lt_of_le_of_lt hm (by decide)
    have small' : ∀ m : Nat, m ≤ 100000 → m ≤ sizeLine := fun m hm => Nat.le_trans hm (by decide)
    refine ⟨_, rfl, a, ns, _, rfl, hS, by decide, ?_⟩
    refine ⟨_, rfl, fun PL zs H1 s1 hPL hzl hzn hznd => ?_⟩
    refine ⟨_, rfl, _, rfl, a, PL, ns, zs, rfl, s1.seq hS, hPL, hzl, hzn, fun R us rs H2 s2 hR hrs hro hrl hrn => ?_⟩
    have s12 := Same.trans s1 s2
    refine ⟨fun σ H3 => ∃ (R : Addr) (us : List V) (rs : List Rule) (o0 : Option V), σ = [some (.ref a), some (.ref PL), some (.ref R), o0, none, none, none, none, none, none] ∧ Same H H3 ∧ H3 R = some (.tup us) ∧ RulesAt H3 us rs ∧ (∀ r ∈ rs, LOk r) ∧ rs.length ≤ 9 ∧ (rs.map (·.1)).Nodup, ?_, ?_⟩
    · refine ⟨_, rfl, a, ns, _, rfl, s12.seq hS, by decide, ?_⟩
      refine ⟨_, _, rfl, rfl, (by show (0 : Int) < 4; decide), ?_⟩
      refine ⟨rfl, _, rfl, ?_⟩
      have hP2 := s2 _ _ hPL
      refine ite2 (fun _ => ?_) (fun _ => ?_)
      · refine ⟨_, rfl, a, ns, _, rfl, s12.seq hS, by decide, _, _, rfl, rfl, (by show CDiv _ _; unfold CDiv; omega), _, _, rfl, rfl, ?_⟩
        obtain ⟨z, hzm, hzi, hzV⟩ := strs_get (ns := zs) (j := ix9 (cellE ns 2 / 16) 8) (by rw [hzl]; exact ix9_lt _ _)
        refine ⟨_, rfl, _, rfl, _, rfl, _, _, rfl, rfl, (by show (0 : Int) < 9; decide), PL, _, _, _, rfl, rfl, SqL.of hP2, at_get (j := ix9 (cellE ns 2 / 16) 8) (by unfold ix9; show (cellE ns 2 / 16 + 16) % 9 = _; omega) hzV, ?_⟩
        refine ⟨_, rfl, a, ns, _, rfl, s12.seq hS, by decide, _, _, rfl, by decide, by decide, fun L nsT H6 hL s6 hLs hnT => ?_⟩
        have hP6 := s6 _ _ hP2
        have hPL2 : PL ≠ L := fun z => by rw [← z, hP2] at hL; cases hL
        refine ⟨_, rfl, L, PL, nsT, zs, rfl, hLs, hnT, hPL2, hP6, hzl, hzn, fun c us2 ts HB sxB hc hts hsz hht => ?_⟩
        have s2B : Same H2 HB := SameX.of hL s6 sxB
        refine ⟨(by show 2 ≤ sizeLine; decide), fun a2 ha2 => ?_⟩
        have sa2 := same_new (o := .tup [.str z, .ref c]) ha2
        refine ⟨(by show 1 ≤ sizeLine; decide), fun a3 ha3 => ?_⟩
        have sa3 := same_new (o := .tup [.ref a2]) ha3
        have s23 := Same.trans s2B (Same.trans sa2 sa3)
        have hul := hrs.len
        refine ⟨R, a3, _, _, rfl, rfl, s23 _ _ hR, upd_same, small' _ (by show us.length + 1 ≤ _; omega), fun R2 H' s4 hR2 => ?_⟩
        have s24 := Same.trans s23 s4
        refine ⟨R2, us ++ [.ref a2], rs ++ [(z, ts)], _, rfl, Same.trans s12 s24, hR2, ?_, ?_, by rw [List.length_append]; show rs.length + 1 ≤ 9; omega, ?_⟩
        · exact RulesAt.snoc (r := (z, ts)) (s4 _ _ (sa3 _ _ upd_same)) (s4 _ _ (sa3 _ _ (sa2 _ _ hc))) (hts.kp (Kp.same (Same.trans sa2 (Same.trans sa3 s4)))) (hrs.kp (Kp.same s24))
        · intro r hr
          rcases List.mem_append.mp hr with h' | h'
          · exact hro r h'
          · rw [List.mem_singleton.mp h']
            exact ⟨⟨hzn z hzm, hts.fI, by show Tr.sizes ts ≤ 200; omega⟩, by show Tr.hts ts ≤ 20; omega⟩
        · rw [List.map_append]
          exact nodup_ixS8 hznd (by rw [List.length_map]; exact hrl) hrn hzi
      · exact ⟨R, us, rs, _, rfl, s12, hR, hrs, hro, by omega, nodup_ixS hznd (by rw [List.length_map]; omega) hrn⟩
    · rintro σ H3 ⟨R, us, rs, o0, rfl, s3, hR, hrs, hro, hrl, hrn⟩
      have hul := hrs.len
      refine ⟨_, rfl, R, rfl, ⟨_, SqT.of hR⟩, fun D hD => ?_⟩
      refine lc_tup (K := K) (a := R) (xs := us) (fun i H4 => H4 D = some (.lst (((rs.take i).map ruleT).map V.str)) ∧ Same H3 H4) ⟨upd_same, same_new hD⟩ (fun i H4 _ ⟨_, s4⟩ => SqT.of (s4 _ _ hR)) ?_ ?_
      · rintro i x H4 hx ⟨hd, s4⟩
        obtain ⟨r, ra, rc, rus, g1, rfl, g2, g3, g4⟩ := hrs.get hx
        refine ⟨rfl, yes_go ?_⟩
        refine ⟨_, rfl, ra, rc, rus, r, rfl, s4 _ _ g2, s4 _ _ g3, g4.kp (Kp.same s4), hro r (List.mem_of_getElem? g1), fun H5 s5 => ?_⟩
        have s45 := Same.trans s4 s5
        refine ⟨_, s5 _ _ hd, small _ (by rw [List.length_map, List.length_map, List.length_take]; omega), ?_, fun b o e => by rw [upd_ne (ne_of_none e hD)]; exact s45 b o e⟩
        rw [upd_same, List.take_add_one, g1, List.map_append, List.map_append]
        rfl
      rintro H4 ⟨hd, s4⟩
      rw [hul, List.take_length] at hd
      have hrt : (rs.map ruleT).length = rs.length := List.length_map _
      have hll := lens_le (c := 3000) (rs.map ruleT) fun p hp => by
        obtain ⟨r, hr, rfl⟩ := List.mem_map.mp hp
        exact ruleT_len (hro r hr).ok
      have hro' : ∀ r ∈ rs, RlOk r := fun r hr => (hro r hr).ok
      have ls2 := ss_len
      have hjl := tjoin_len "; " (rs.map ruleT)
      rw [ls2] at hjl
      have hb : ((rs.map ruleT).map (·.length)).sum + (rs.map ruleT).length * ("; " : Str).length ≤ 16777216 := by rw [ls2]; omega
      refine ⟨⟨_, rfl⟩, _, rfl, _, D, _, rfl, rfl, .inl (SqL.of hd), hb, ?_⟩
      refine ⟨_, rfl, small' _ (by omega), _, _, rfl, rfl, _, rfl, ?_⟩
      have s34 := Same.trans s3 s4
      refine ite2 (fun _ => q H4 (s34 _ _ hp)) (fun _ => ?_)
      refine ⟨_, rfl, R, us, rs, rfl, s4 _ _ hR, hrs.kp (Kp.same s4), hro', by omega, fun H5 s5 => ?_⟩
      have s35 := Same.trans s34 s5
      have hd5 := s5 _ _ hd
      refine ⟨_, rfl, _, _, _, _, rfl, TyOf.str _, (show _ = some true from rfl), _, rfl, iteF ?_⟩
      refine ⟨_, rfl, ⟨_, rfl⟩, _, rfl, _, D, _, rfl, rfl, .inl (SqL.of hd5), hb, rfl, _, rfl, ?_⟩
      rw [show (!decide (V.str (Txt.join "; " (rs.map ruleT)) = V.str (Txt.join "; " (rs.map ruleT)))) = false by rw [decide_eq_true rfl]; rfl]
      refine iteF ?_
      have hR5 := s5 _ _ (s4 _ _ hR)
      refine ⟨(by show 0 ≤ sizeLine; decide), fun W hW => ?_⟩
      have sW := same_new (o := .lst []) hW
      have sHW := Same.trans s35 sW
      refine ⟨_, rfl, a, ns, _, rfl, sHW.seq hS, by decide, _, _, rfl, by decide, by decide, fun L nsT H6 hL s6 hLs hnT => ?_⟩
      have hW6 := s6 _ _ (upd_same (H := H5) (a := W) (o := .lst []))
      have s56 := Same.trans sW s6
      have hWL : W ≠ L := fun z => by rw [← z, upd_same] at hL; cases hL
      have hL5 : H5 L = none := by
        cases e : H5 L with
        | none => rfl
        | some o => rw [sW _ _ e] at hL; cases hL
      refine ⟨_, rfl, D, rfl, ⟨_, SqL.of (s56 _ _ hd5)⟩, ?_⟩
      refine for_list (K := K) (a := D) (xs := (rs.map ruleT).map V.str) (fun i σ H7 => ∃ (ps : List Str) (nsT : List Int) (o9 : Option V), σ = [some (.ref a), some (.ref PL), some (.ref R), o0, some (.ref D), none, some (.str (Txt.join "; " (rs.map ruleT))), some (.ref W), some (.ref L), o9] ∧ H7 W = some (.lst (ps.map V.str)) ∧ ps.length = i ∧ (∀ (j : Nat) (x : Str) (r : Rule), ps[j]? = some x → rs[j]? = some r → PartOk x r ∧ x.length ≤ 3006) ∧ H7 L = some (.lst (nsT.map V.int)) ∧ (∀ n ∈ nsT, 0 ≤ n) ∧ Same H5 H7) ⟨[], nsT, _, rfl, hW6, rfl, fun _ _ _ h => (nomatch h), hLs, hnT, s56⟩ (fun i σ H7 _ ⟨_, _, _, _, _, _, _, _, _, s7⟩ => SqL.of (s7 _ _ hd5)) ?_ ?_
      · rintro i x σ H7 hx ⟨ps, ns7, o9, rfl, hw, hpl, hpp, hL7, hn7, s7⟩
        rw [List.getElem?_map, List.getElem?_map] at hx
        cases hr : rs[i]? with
        | none => rw [hr] at hx; cases hx
        | some r =>
        rw [hr] at hx
        cases hx
        have hrm := List.mem_of_getElem? hr
        have hrl2 := ruleT_len (hro' r hrm)
        have hil := (List.getElem?_eq_some_iff.mp hr).1
        refine ⟨_, rfl, .inl ⟨rfl, _, SqL.of hw⟩, ?_⟩
        refine ⟨_, rfl, L, ns7, _, rfl, hL7, hn7, by decide, fun ns8 x8 H8 sx8 hL8 hn8 xa8 xb8 => ?_⟩
        refine ⟨32, x8, by rw [bl_is], rfl, by omega, by omega, ?_⟩
        refine ⟨_, rfl, _, _, rfl, rfl, small' _ (by rw [rep_len]; omega), ?_⟩
        refine ⟨_, rfl, L, ns8, _, rfl, hL8, hn8, by decide, fun ns9 x9 H9 sx9 hL9 hn9 xa9 xb9 => ?_⟩
        refine ⟨32, x9, by rw [bl_is], rfl, by omega, by omega, ?_⟩
        refine ⟨_, _, rfl, rfl, small' _ (by rw [app_len, rep_len, rep_len]; omega), ?_⟩
        have s79 := sameX_trans sx8 sx9
        have hw9 := s79 _ _ hWL hw
        refine ⟨W, _, _, rfl, rfl, hw9, small _ (by rw [List.length_map]; omega), ?_⟩
        refine ⟨ps ++ [⟨(List.replicate x8.toNat 32).toArray⟩ ++ ruleT r ++ ⟨(List.replicate x9.toNat 32).toArray⟩], ns9, _, rfl, by rw [upd_same, List.map_append]; rfl, by rw [List.length_append, hpl]; rfl, fun j x r' hj hr' => ?_, by rw [upd_ne (fun z => hWL z.symm)]; exact hL9, hn9, fun b o e => by rw [upd_ne (ne_of_none e hW)]; exact s79 b o (ne_of_none e hL5) (s7 b o e)⟩
        by_cases hlt : j < ps.length
        · rw [List.getElem?_append_left hlt] at hj
          exact hpp j x r' hj hr'
        · rw [List.getElem?_append_right (by omega)] at hj
          have e0 : j - ps.length = 0 := by
            cases hh : j - ps.length with
            | zero => rfl
            | succ m => rw [hh] at hj; cases hj
          rw [e0] at hj
          cases hj
          have ej : j = i := by omega
          rw [ej, hr] at hr'
          cases hr'
          exact ⟨part_wide _ _, by rw [app_len, app_len, rep_len, rep_len]; omega⟩
      rintro σ H7 ⟨ps, ns7, o9, rfl, hw, hpl, hpp, hL7, hn7, s7⟩
      rw [List.length_map, List.length_map] at hpl
      have s37 := Same.trans s35 s7
      have hR7 := s7 _ _ hR5
      have hrs7 := hrs.kp (Kp.same (Same.trans s4 (Same.trans s5 s7)))
      have hrq : ∀ r ∈ rs, Tr.hts r.2 ≤ 20 ∧ Tr.sizes r.2 ≤ 200 := fun r hr => ⟨(hro r hr).ht, (hro r hr).ok.sz⟩
      have hpw : ∀ p ∈ ps, p.length ≤ 3006 := fun p hpm => by
        obtain ⟨j, hj⟩ := List.mem_iff_getElem?.mp hpm
        have hjl := (List.getElem?_eq_some_iff.mp hj).1
        exact (hpp j p _ hj (List.getElem?_eq_getElem (by omega))).2
      have hlw := lens_le ps hpw
      have hjw := tjoin_len ";" ps
      have ls1 : (";" : Str).length = 1 := by rw [sc_is]; rfl
      rw [ls1] at hjw
      refine ⟨_, rfl, ?_⟩
      refine rdO (s37 _ _ hp) (by rw [hrt] at hjl hll; omega) (tx_text hro') hrl hro' hrn fun R1 us1 H8 s8 hR1 hrs1 => ?_
      have hR8 := s8 _ _ hR7
      have hrs8 := hrs7.kp (Kp.same s8)
      refine ⟨_, rfl, _, _, _, rfl, rules_sa hR1 hR8 hrs1 hrs8 hrq (by omega), by decide, fun H9 s9 => ?_⟩
      refine ⟨true, rfl, iteF ?_⟩
      have s79 := Same.trans s8 s9
      have hw9 := s79 _ _ hw
      have hR9 := s79 _ _ hR7
      have hrs9 := hrs7.kp (Kp.same s79)
      have s39 := Same.trans s37 s79
      refine ⟨⟨_, rfl⟩, _, rfl, _, W, ps, rfl, rfl, .inl (SqL.of hw9), by rw [ls1]; omega, ?_⟩
      refine rdO (s39 _ _ hp) (by omega) ⟨ps, rfl, hpl, fun j x r hx hr => by obtain ⟨g1, g2⟩ := hpp j x r hx hr; exact ⟨g1, by omega⟩⟩ hrl hro' hrn fun R2 us2 HA sA hR2 hrs2 => ?_
      have hRA := sA _ _ hR9
      have hrsA := hrs9.kp (Kp.same sA)
      refine ⟨_, rfl, _, _, _, rfl, rules_sa hR2 hRA hrs2 hrsA hrq (by omega), by decide, fun HB sB => ?_⟩
      refine ⟨true, rfl, iteF ?_⟩
      have s3B := Same.trans s39 (Same.trans sA sB)
      refine ⟨_, rfl, a, ns, _, rfl, s3B.seq hS, by decide, _, _, rfl, rfl, (by show (0 : Int) < 5; decide), 32, _, by rw [bl_is], rfl, by omega, by omega, ?_⟩
      refine rdB (s3B _ _ hp) (by omega) fun R3 HC sC hR3 => ?_
      refine ⟨(by show 0 ≤ sizeLine; decide), fun c hc => ?_⟩
      have sc := same_new (o := .tup []) hc
      refine ⟨_, _, 1, rfl, .tup (n := 0) (sc _ _ hR3) upd_same rfl (by decide) (fun i x y hx hy => by cases hx), by decide, fun HD sD => ?_⟩
      exact q HD (sD _ _ (sc _ _ (sC _ _ (s3B _ _ hp))))
end
end G72
set_option maxHeartbeats 4000000
set_option linter.all false
set_option maxRecDepth 100000
namespace G72
open PySem L2
theorem all_mk {l : PySem.W.OpenLaw} {w : World} {K : PySem.W.Frag} {h : Heap} {mg : Str → Option Value} {fa : Addr} (X : K.In h) (G : h.Ns mainGlobals mg) (hfa : mg "law" = some (.ref fa))
    {f_first_told_ahead : Addr} {oc_first_told_ahead kV_first_told_ahead dc_first_told_ahead pm_first_told_ahead cd_first_told_ahead ct_first_told_ahead : Value} {od_first_told_ahead an_first_told_ahead : Option Addr} {sl_first_told_ahead : Array (Option Value)}
    {f_is_letter : Addr} {oc_is_letter kV_is_letter dc_is_letter pm_is_letter cd_is_letter ct_is_letter : Value} {od_is_letter an_is_letter : Option Addr} {sl_is_letter : Array (Option Value)}
    {f_is_name : Addr} {oc_is_name kV_is_name dc_is_name pm_is_name cd_is_name ct_is_name : Value} {od_is_name an_is_name : Option Addr} {sl_is_name : Array (Option Value)}
    {f_pieces_of : Addr} {oc_pieces_of kV_pieces_of dc_pieces_of pm_pieces_of cd_pieces_of ct_pieces_of : Value} {od_pieces_of an_pieces_of : Option Addr} {sl_pieces_of : Array (Option Value)}
    {f_show_doc : Addr} {oc_show_doc kV_show_doc dc_show_doc pm_show_doc cd_show_doc ct_show_doc : Value} {od_show_doc an_show_doc : Option Addr} {sl_show_doc : Array (Option Value)}
    {f_sign_at : Addr} {oc_sign_at kV_sign_at dc_sign_at pm_sign_at cd_sign_at ct_sign_at : Value} {od_sign_at an_sign_at : Option Addr} {sl_sign_at : Array (Option Value)}
    {f_name_at : Addr} {oc_name_at kV_name_at dc_name_at pm_name_at cd_name_at ct_name_at : Value} {od_name_at an_name_at : Option Addr} {sl_name_at : Array (Option Value)}
    {f_closed : Addr} {oc_closed kV_closed dc_closed pm_closed cd_closed ct_closed : Value} {od_closed an_closed : Option Addr} {sl_closed : Array (Option Value)}
    {f_item_at : Addr} {oc_item_at kV_item_at dc_item_at pm_item_at cd_item_at ct_item_at : Value} {od_item_at an_item_at : Option Addr} {sl_item_at : Array (Option Value)}
    {f_read_items : Addr} {oc_read_items kV_read_items dc_read_items pm_read_items cd_read_items ct_read_items : Value} {od_read_items an_read_items : Option Addr} {sl_read_items : Array (Option Value)}
    {f_read_turner_rule : Addr} {oc_read_turner_rule kV_read_turner_rule dc_read_turner_rule pm_read_turner_rule cd_read_turner_rule ct_read_turner_rule : Value} {od_read_turner_rule an_read_turner_rule : Option Addr} {sl_read_turner_rule : Array (Option Value)}
    {f_read_turner : Addr} {oc_read_turner kV_read_turner dc_read_turner pm_read_turner cd_read_turner ct_read_turner : Value} {od_read_turner an_read_turner : Option Addr} {sl_read_turner : Array (Option Value)}
    {f_show_turner_rule : Addr} {oc_show_turner_rule kV_show_turner_rule dc_show_turner_rule pm_show_turner_rule cd_show_turner_rule ct_show_turner_rule : Value} {od_show_turner_rule an_show_turner_rule : Option Addr} {sl_show_turner_rule : Array (Option Value)}
    {f_show_turner : Addr} {oc_show_turner kV_show_turner dc_show_turner pm_show_turner cd_show_turner ct_show_turner : Value} {od_show_turner an_show_turner : Option Addr} {sl_show_turner : Array (Option Value)}
    {f_law_cell_at : Addr} {oc_law_cell_at kV_law_cell_at dc_law_cell_at pm_law_cell_at cd_law_cell_at ct_law_cell_at : Value} {od_law_cell_at an_law_cell_at : Option Addr} {sl_law_cell_at : Array (Option Value)}
    {f_law_mix : Addr} {oc_law_mix kV_law_mix dc_law_mix pm_law_mix cd_law_mix ct_law_mix : Value} {od_law_mix an_law_mix : Option Addr} {sl_law_mix : Array (Option Value)}
    {f_law_tape : Addr} {oc_law_tape kV_law_tape dc_law_tape pm_law_tape cd_law_tape ct_law_tape : Value} {od_law_tape an_law_tape : Option Addr} {sl_law_tape : Array (Option Value)}
    {f_law_next : Addr} {oc_law_next kV_law_next dc_law_next pm_law_next cd_law_next ct_law_next : Value} {od_law_next an_law_next : Option Addr} {sl_law_next : Array (Option Value)}
    {f_law_names : Addr} {oc_law_names kV_law_names dc_law_names pm_law_names cd_law_names ct_law_names : Value} {od_law_names an_law_names : Option Addr} {sl_law_names : Array (Option Value)}
    {f_law_items : Addr} {oc_law_items kV_law_items dc_law_items pm_law_items cd_law_items ct_law_items : Value} {od_law_items an_law_items : Option Addr} {sl_law_items : Array (Option Value)}
    {f_law_turner : Addr} {oc_law_turner kV_law_turner dc_law_turner pm_law_turner cd_law_turner ct_law_turner : Value} {od_law_turner an_law_turner : Option Addr} {sl_law_turner : Array (Option Value)}
    {f_law_shown : Addr} {oc_law_shown kV_law_shown dc_law_shown pm_law_shown cd_law_shown ct_law_shown : Value} {od_law_shown an_law_shown : Option Addr} {sl_law_shown : Array (Option Value)}
    {f_law_rule_shown : Addr} {oc_law_rule_shown kV_law_rule_shown dc_law_rule_shown pm_law_rule_shown cd_law_rule_shown ct_law_rule_shown : Value} {od_law_rule_shown an_law_rule_shown : Option Addr} {sl_law_rule_shown : Array (Option Value)}
    {f_law_same : Addr} {oc_law_same kV_law_same dc_law_same pm_law_same cd_law_same ct_law_same : Value} {od_law_same an_law_same : Option Addr} {sl_law_same : Array (Option Value)}
    {f_law_long : Addr} {oc_law_long kV_law_long dc_law_long pm_law_long cd_law_long ct_law_long : Value} {od_law_long an_law_long : Option Addr} {sl_law_long : Array (Option Value)}
    {f_law : Addr} {oc_law kV_law dc_law pm_law cd_law ct_law : Value} {od_law an_law : Option Addr} {sl_law : Array (Option Value)}
    {t_HOLE : Tok}
    {t_NAME_LETTERS : Tok}
    {t_ARROW : Tok}
    {t_TURNER_RULES : Tok}
    (a_first_told_ahead : PySem.W.nsIn K mainGlobals "first_told_ahead" = some (some (.ref f_first_told_ahead)))
    (l_first_told_ahead : K.lookup f_first_told_ahead = some ⟨oc_first_told_ahead, od_first_told_ahead, .func (PySem.W.fnOf "first_told_ahead" "first_told_ahead" (defArgs (top 7)) (defBody (top 7)) (defScope (top 7)) .none kV_first_told_ahead dc_first_told_ahead pm_first_told_ahead an_first_told_ahead cd_first_told_ahead ct_first_told_ahead), sl_first_told_ahead⟩)
    (c_first_told_ahead : PySem.W.codeIn K cd_first_told_ahead "first_told_ahead" = true)
    (k_first_told_ahead : PySem.W.keepIn K (.ref f_first_told_ahead) = true)
    (a_is_letter : PySem.W.nsIn K mainGlobals "is_letter" = some (some (.ref f_is_letter)))
    (l_is_letter : K.lookup f_is_letter = some ⟨oc_is_letter, od_is_letter, .func (PySem.W.fnOf "is_letter" "is_letter" (defArgs (top 9)) (defBody (top 9)) (defScope (top 9)) .none kV_is_letter dc_is_letter pm_is_letter an_is_letter cd_is_letter ct_is_letter), sl_is_letter⟩)
    (c_is_letter : PySem.W.codeIn K cd_is_letter "is_letter" = true)
    (k_is_letter : PySem.W.keepIn K (.ref f_is_letter) = true)
    (a_is_name : PySem.W.nsIn K mainGlobals "is_name" = some (some (.ref f_is_name)))
    (l_is_name : K.lookup f_is_name = some ⟨oc_is_name, od_is_name, .func (PySem.W.fnOf "is_name" "is_name" (defArgs (top 10)) (defBody (top 10)) (defScope (top 10)) .none kV_is_name dc_is_name pm_is_name an_is_name cd_is_name ct_is_name), sl_is_name⟩)
    (c_is_name : PySem.W.codeIn K cd_is_name "is_name" = true)
    (k_is_name : PySem.W.keepIn K (.ref f_is_name) = true)
    (a_pieces_of : PySem.W.nsIn K mainGlobals "pieces_of" = some (some (.ref f_pieces_of)))
    (l_pieces_of : K.lookup f_pieces_of = some ⟨oc_pieces_of, od_pieces_of, .func (PySem.W.fnOf "pieces_of" "pieces_of" (defArgs (top 12)) (defBody (top 12)) (defScope (top 12)) .none kV_pieces_of dc_pieces_of pm_pieces_of an_pieces_of cd_pieces_of ct_pieces_of), sl_pieces_of⟩)
    (c_pieces_of : PySem.W.codeIn K cd_pieces_of "pieces_of" = true)
    (k_pieces_of : PySem.W.keepIn K (.ref f_pieces_of) = true)
    (a_show_doc : PySem.W.nsIn K mainGlobals "show_doc" = some (some (.ref f_show_doc)))
    (l_show_doc : K.lookup f_show_doc = some ⟨oc_show_doc, od_show_doc, .func (PySem.W.fnOf "show_doc" "show_doc" (defArgs (top 13)) (defBody (top 13)) (defScope (top 13)) .none kV_show_doc dc_show_doc pm_show_doc an_show_doc cd_show_doc ct_show_doc), sl_show_doc⟩)
    (c_show_doc : PySem.W.codeIn K cd_show_doc "show_doc" = true)
    (k_show_doc : PySem.W.keepIn K (.ref f_show_doc) = true)
    (a_sign_at : PySem.W.nsIn K mainGlobals "sign_at" = some (some (.ref f_sign_at)))
    (l_sign_at : K.lookup f_sign_at = some ⟨oc_sign_at, od_sign_at, .func (PySem.W.fnOf "sign_at" "sign_at" (defArgs (top 14)) (defBody (top 14)) (defScope (top 14)) .none kV_sign_at dc_sign_at pm_sign_at an_sign_at cd_sign_at ct_sign_at), sl_sign_at⟩)
    (c_sign_at : PySem.W.codeIn K cd_sign_at "sign_at" = true)
    (k_sign_at : PySem.W.keepIn K (.ref f_sign_at) = true)
    (a_name_at : PySem.W.nsIn K mainGlobals "name_at" = some (some (.ref f_name_at)))
    (l_name_at : K.lookup f_name_at = some ⟨oc_name_at, od_name_at, .func (PySem.W.fnOf "name_at" "name_at" (defArgs (top 15)) (defBody (top 15)) (defScope (top 15)) .none kV_name_at dc_name_at pm_name_at an_name_at cd_name_at ct_name_at), sl_name_at⟩)
    (c_name_at : PySem.W.codeIn K cd_name_at "name_at" = true)
    (k_name_at : PySem.W.keepIn K (.ref f_name_at) = true)
    (a_closed : PySem.W.nsIn K mainGlobals "closed" = some (some (.ref f_closed)))
    (l_closed : K.lookup f_closed = some ⟨oc_closed, od_closed, .func (PySem.W.fnOf "closed" "closed" (defArgs (top 16)) (defBody (top 16)) (defScope (top 16)) .none kV_closed dc_closed pm_closed an_closed cd_closed ct_closed), sl_closed⟩)
    (c_closed : PySem.W.codeIn K cd_closed "closed" = true)
    (k_closed : PySem.W.keepIn K (.ref f_closed) = true)
    (a_item_at : PySem.W.nsIn K mainGlobals "item_at" = some (some (.ref f_item_at)))
    (l_item_at : K.lookup f_item_at = some ⟨oc_item_at, od_item_at, .func (PySem.W.fnOf "item_at" "item_at" (defArgs (top 20)) (defBody (top 20)) (defScope (top 20)) .none kV_item_at dc_item_at pm_item_at an_item_at cd_item_at ct_item_at), sl_item_at⟩)
    (c_item_at : PySem.W.codeIn K cd_item_at "item_at" = true)
    (k_item_at : PySem.W.keepIn K (.ref f_item_at) = true)
    (a_read_items : PySem.W.nsIn K mainGlobals "read_items" = some (some (.ref f_read_items)))
    (l_read_items : K.lookup f_read_items = some ⟨oc_read_items, od_read_items, .func (PySem.W.fnOf "read_items" "read_items" (defArgs (top 21)) (defBody (top 21)) (defScope (top 21)) .none kV_read_items dc_read_items pm_read_items an_read_items cd_read_items ct_read_items), sl_read_items⟩)
    (c_read_items : PySem.W.codeIn K cd_read_items "read_items" = true)
    (k_read_items : PySem.W.keepIn K (.ref f_read_items) = true)
    (a_read_turner_rule : PySem.W.nsIn K mainGlobals "read_turner_rule" = some (some (.ref f_read_turner_rule)))
    (l_read_turner_rule : K.lookup f_read_turner_rule = some ⟨oc_read_turner_rule, od_read_turner_rule, .func (PySem.W.fnOf "read_turner_rule" "read_turner_rule" (defArgs (top 22)) (defBody (top 22)) (defScope (top 22)) .none kV_read_turner_rule dc_read_turner_rule pm_read_turner_rule an_read_turner_rule cd_read_turner_rule ct_read_turner_rule), sl_read_turner_rule⟩)
    (c_read_turner_rule : PySem.W.codeIn K cd_read_turner_rule "read_turner_rule" = true)
    (k_read_turner_rule : PySem.W.keepIn K (.ref f_read_turner_rule) = true)
    (a_read_turner : PySem.W.nsIn K mainGlobals "read_turner" = some (some (.ref f_read_turner)))
    (l_read_turner : K.lookup f_read_turner = some ⟨oc_read_turner, od_read_turner, .func (PySem.W.fnOf "read_turner" "read_turner" (defArgs (top 23)) (defBody (top 23)) (defScope (top 23)) .none kV_read_turner dc_read_turner pm_read_turner an_read_turner cd_read_turner ct_read_turner), sl_read_turner⟩)
    (c_read_turner : PySem.W.codeIn K cd_read_turner "read_turner" = true)
    (k_read_turner : PySem.W.keepIn K (.ref f_read_turner) = true)
    (a_show_turner_rule : PySem.W.nsIn K mainGlobals "show_turner_rule" = some (some (.ref f_show_turner_rule)))
    (l_show_turner_rule : K.lookup f_show_turner_rule = some ⟨oc_show_turner_rule, od_show_turner_rule, .func (PySem.W.fnOf "show_turner_rule" "show_turner_rule" (defArgs (top 24)) (defBody (top 24)) (defScope (top 24)) .none kV_show_turner_rule dc_show_turner_rule pm_show_turner_rule an_show_turner_rule cd_show_turner_rule ct_show_turner_rule), sl_show_turner_rule⟩)
    (c_show_turner_rule : PySem.W.codeIn K cd_show_turner_rule "show_turner_rule" = true)
    (k_show_turner_rule : PySem.W.keepIn K (.ref f_show_turner_rule) = true)
    (a_show_turner : PySem.W.nsIn K mainGlobals "show_turner" = some (some (.ref f_show_turner)))
    (l_show_turner : K.lookup f_show_turner = some ⟨oc_show_turner, od_show_turner, .func (PySem.W.fnOf "show_turner" "show_turner" (defArgs (top 25)) (defBody (top 25)) (defScope (top 25)) .none kV_show_turner dc_show_turner pm_show_turner an_show_turner cd_show_turner ct_show_turner), sl_show_turner⟩)
    (c_show_turner : PySem.W.codeIn K cd_show_turner "show_turner" = true)
    (k_show_turner : PySem.W.keepIn K (.ref f_show_turner) = true)
    (a_law_cell_at : PySem.W.nsIn K mainGlobals "_law_cell_at" = some (some (.ref f_law_cell_at)))
    (l_law_cell_at : K.lookup f_law_cell_at = some ⟨oc_law_cell_at, od_law_cell_at, .func (PySem.W.fnOf "_law_cell_at" "_law_cell_at" (defArgs (top 27)) (defBody (top 27)) (defScope (top 27)) .none kV_law_cell_at dc_law_cell_at pm_law_cell_at an_law_cell_at cd_law_cell_at ct_law_cell_at), sl_law_cell_at⟩)
    (c_law_cell_at : PySem.W.codeIn K cd_law_cell_at "_law_cell_at" = true)
    (k_law_cell_at : PySem.W.keepIn K (.ref f_law_cell_at) = true)
    (a_law_mix : PySem.W.nsIn K mainGlobals "_law_mix" = some (some (.ref f_law_mix)))
    (l_law_mix : K.lookup f_law_mix = some ⟨oc_law_mix, od_law_mix, .func (PySem.W.fnOf "_law_mix" "_law_mix" (defArgs (top 28)) (defBody (top 28)) (defScope (top 28)) .none kV_law_mix dc_law_mix pm_law_mix an_law_mix cd_law_mix ct_law_mix), sl_law_mix⟩)
    (c_law_mix : PySem.W.codeIn K cd_law_mix "_law_mix" = true)
    (k_law_mix : PySem.W.keepIn K (.ref f_law_mix) = true)
    (a_law_tape : PySem.W.nsIn K mainGlobals "_law_tape" = some (some (.ref f_law_tape)))
    (l_law_tape : K.lookup f_law_tape = some ⟨oc_law_tape, od_law_tape, .func (PySem.W.fnOf "_law_tape" "_law_tape" (defArgs (top 29)) (defBody (top 29)) (defScope (top 29)) .none kV_law_tape dc_law_tape pm_law_tape an_law_tape cd_law_tape ct_law_tape), sl_law_tape⟩)
    (c_law_tape : PySem.W.codeIn K cd_law_tape "_law_tape" = true)
    (k_law_tape : PySem.W.keepIn K (.ref f_law_tape) = true)
    (a_law_next : PySem.W.nsIn K mainGlobals "_law_next" = some (some (.ref f_law_next)))
    (l_law_next : K.lookup f_law_next = some ⟨oc_law_next, od_law_next, .func (PySem.W.fnOf "_law_next" "_law_next" (defArgs (top 30)) (defBody (top 30)) (defScope (top 30)) .none kV_law_next dc_law_next pm_law_next an_law_next cd_law_next ct_law_next), sl_law_next⟩)
    (c_law_next : PySem.W.codeIn K cd_law_next "_law_next" = true)
    (k_law_next : PySem.W.keepIn K (.ref f_law_next) = true)
    (a_law_names : PySem.W.nsIn K mainGlobals "_law_names" = some (some (.ref f_law_names)))
    (l_law_names : K.lookup f_law_names = some ⟨oc_law_names, od_law_names, .func (PySem.W.fnOf "_law_names" "_law_names" (defArgs (top 31)) (defBody (top 31)) (defScope (top 31)) .none kV_law_names dc_law_names pm_law_names an_law_names cd_law_names ct_law_names), sl_law_names⟩)
    (c_law_names : PySem.W.codeIn K cd_law_names "_law_names" = true)
    (k_law_names : PySem.W.keepIn K (.ref f_law_names) = true)
    (a_law_items : PySem.W.nsIn K mainGlobals "_law_items" = some (some (.ref f_law_items)))
    (l_law_items : K.lookup f_law_items = some ⟨oc_law_items, od_law_items, .func (PySem.W.fnOf "_law_items" "_law_items" (defArgs (top 32)) (defBody (top 32)) (defScope (top 32)) .none kV_law_items dc_law_items pm_law_items an_law_items cd_law_items ct_law_items), sl_law_items⟩)
    (c_law_items : PySem.W.codeIn K cd_law_items "_law_items" = true)
    (k_law_items : PySem.W.keepIn K (.ref f_law_items) = true)
    (a_law_turner : PySem.W.nsIn K mainGlobals "_law_turner" = some (some (.ref f_law_turner)))
    (l_law_turner : K.lookup f_law_turner = some ⟨oc_law_turner, od_law_turner, .func (PySem.W.fnOf "_law_turner" "_law_turner" (defArgs (top 33)) (defBody (top 33)) (defScope (top 33)) .none kV_law_turner dc_law_turner pm_law_turner an_law_turner cd_law_turner ct_law_turner), sl_law_turner⟩)
    (c_law_turner : PySem.W.codeIn K cd_law_turner "_law_turner" = true)
    (k_law_turner : PySem.W.keepIn K (.ref f_law_turner) = true)
    (a_law_shown : PySem.W.nsIn K mainGlobals "_law_shown" = some (some (.ref f_law_shown)))
    (l_law_shown : K.lookup f_law_shown = some ⟨oc_law_shown, od_law_shown, .func (PySem.W.fnOf "_law_shown" "_law_shown" (defArgs (top 34)) (defBody (top 34)) (defScope (top 34)) .none kV_law_shown dc_law_shown pm_law_shown an_law_shown cd_law_shown ct_law_shown), sl_law_shown⟩)
    (c_law_shown : PySem.W.codeIn K cd_law_shown "_law_shown" = true)
    (k_law_shown : PySem.W.keepIn K (.ref f_law_shown) = true)
    (a_law_rule_shown : PySem.W.nsIn K mainGlobals "_law_rule_shown" = some (some (.ref f_law_rule_shown)))
    (l_law_rule_shown : K.lookup f_law_rule_shown = some ⟨oc_law_rule_shown, od_law_rule_shown, .func (PySem.W.fnOf "_law_rule_shown" "_law_rule_shown" (defArgs (top 35)) (defBody (top 35)) (defScope (top 35)) .none kV_law_rule_shown dc_law_rule_shown pm_law_rule_shown an_law_rule_shown cd_law_rule_shown ct_law_rule_shown), sl_law_rule_shown⟩)
    (c_law_rule_shown : PySem.W.codeIn K cd_law_rule_shown "_law_rule_shown" = true)
    (k_law_rule_shown : PySem.W.keepIn K (.ref f_law_rule_shown) = true)
    (a_law_same : PySem.W.nsIn K mainGlobals "_law_same" = some (some (.ref f_law_same)))
    (l_law_same : K.lookup f_law_same = some ⟨oc_law_same, od_law_same, .func (PySem.W.fnOf "_law_same" "_law_same" (defArgs (top 36)) (defBody (top 36)) (defScope (top 36)) .none kV_law_same dc_law_same pm_law_same an_law_same cd_law_same ct_law_same), sl_law_same⟩)
    (c_law_same : PySem.W.codeIn K cd_law_same "_law_same" = true)
    (k_law_same : PySem.W.keepIn K (.ref f_law_same) = true)
    (a_law_long : PySem.W.nsIn K mainGlobals "_law_long" = some (some (.ref f_law_long)))
    (l_law_long : K.lookup f_law_long = some ⟨oc_law_long, od_law_long, .func (PySem.W.fnOf "_law_long" "_law_long" (defArgs (top 37)) (defBody (top 37)) (defScope (top 37)) .none kV_law_long dc_law_long pm_law_long an_law_long cd_law_long ct_law_long), sl_law_long⟩)
    (c_law_long : PySem.W.codeIn K cd_law_long "_law_long" = true)
    (k_law_long : PySem.W.keepIn K (.ref f_law_long) = true)
    (a_law : PySem.W.nsIn K mainGlobals "law" = some (some (.ref f_law)))
    (l_law : K.lookup f_law = some ⟨oc_law, od_law, .func (PySem.W.fnOf "law" "law" (defArgs (top 38)) (defBody (top 38)) (defScope (top 38)) .none kV_law dc_law pm_law an_law cd_law ct_law), sl_law⟩)
    (c_law : PySem.W.codeIn K cd_law "law" = true)
    (k_law : PySem.W.keepIn K (.ref f_law) = true)
    (b_isinstance : PySem.W.nsIn K mainGlobals "isinstance" = some none)
    (b_str : PySem.W.nsIn K mainGlobals "str" = some none)
    (b_int : PySem.W.nsIn K mainGlobals "int" = some none)
    (b_bool : PySem.W.nsIn K mainGlobals "bool" = some none)
    (b_list : PySem.W.nsIn K mainGlobals "list" = some none)
    (b_tuple : PySem.W.nsIn K mainGlobals "tuple" = some none)
    (b_len : PySem.W.nsIn K mainGlobals "len" = some none)
    (b_range : PySem.W.nsIn K mainGlobals "range" = some none)
    (b_enumerate : PySem.W.nsIn K mainGlobals "enumerate" = some none)
    (b_all : PySem.W.nsIn K mainGlobals "all" = some none)
    (b_zip : PySem.W.nsIn K mainGlobals "zip" = some none)
    (b_reversed : PySem.W.nsIn K mainGlobals "reversed" = some none)
    (n_HOLE : PySem.W.nsIn K mainGlobals "HOLE" = some (some (.str "*" t_HOLE)))
    (n_NAME_LETTERS : PySem.W.nsIn K mainGlobals "NAME_LETTERS" = some (some (.int 8 t_NAME_LETTERS)))
    (n_ARROW : PySem.W.nsIn K mainGlobals "ARROW" = some (some (.str " ->" t_ARROW)))
    (n_TURNER_RULES : PySem.W.nsIn K mainGlobals "TURNER_RULES" = some (some (.int 12 t_TURNER_RULES))) :
    ∃ fd : FuncData, (∀ (s : Shared) (u : Value), BindsTo s fd ⟨[u], []⟩ [("_law_script", u)]) ∧ ∃ (fg : Addr) (og : Obj) (gd : FuncData), mg "is_name" = some (.ref fg) ∧ h.get? fg = some og ∧ og.data = .func gd ∧
      ∀ (base : Heap) (c P bm : Addr) (ob : Obj), gd.code = .ref c → K.In base → base.Ns mainGlobals mg → Tbl K mg base c P bm ob → FnOk l.prog w K mg base CX0 47 fa fd ["_law_script"] (spLaw K P) := by
  have e := hfa.symm.trans (PySem.W.mg_of X G a_law)
  cases e
  have T : Txt K mg := ⟨PySem.W.mg_none_of X G b_isinstance, PySem.W.mg_none_of X G b_str, PySem.W.mg_none_of X G b_int, PySem.W.mg_none_of X G b_bool, PySem.W.mg_none_of X G b_list, PySem.W.mg_none_of X G b_tuple, PySem.W.mg_none_of X G b_len, PySem.W.mg_none_of X G b_range, PySem.W.mg_none_of X G b_enumerate, PySem.W.mg_none_of X G b_all, PySem.W.mg_none_of X G b_zip, PySem.W.mg_none_of X G b_reversed, ⟨_, PySem.W.mg_of X G n_HOLE⟩, ⟨_, PySem.W.mg_of X G n_NAME_LETTERS⟩, ⟨_, PySem.W.mg_of X G n_ARROW⟩, ⟨_, PySem.W.mg_of X G n_TURNER_RULES⟩⟩
  have F_first_told_ahead := fun_mk (st := top 7) l_first_told_ahead c_first_told_ahead k_first_told_ahead
  have b_first_told_ahead := F_first_told_ahead.binds (ps := ["forms"]) fun _ _ _ _ _ _ us hl => match us, hl with | [_], _ => rfl
  have m_first_told_ahead := PySem.W.mg_of X G a_first_told_ahead
  have D_first_told_ahead : Dfn K mg "first_told_ahead" (top 7) ["forms"] := ⟨_, _, F_first_told_ahead, m_first_told_ahead, b_first_told_ahead⟩
  have F_is_letter := fun_mk (st := top 9) l_is_letter c_is_letter k_is_letter
  have b_is_letter := F_is_letter.binds (ps := ["sign"]) fun _ _ _ _ _ _ us hl => match us, hl with | [_], _ => rfl
  have m_is_letter := PySem.W.mg_of X G a_is_letter
  have D_is_letter : Dfn K mg "is_letter" (top 9) ["sign"] := ⟨_, _, F_is_letter, m_is_letter, b_is_letter⟩
  have F_is_name := fun_mk (st := top 10) l_is_name c_is_name k_is_name
  have b_is_name := F_is_name.binds (ps := ["thing"]) fun _ _ _ _ _ _ us hl => match us, hl with | [_], _ => rfl
  have m_is_name := PySem.W.mg_of X G a_is_name
  have D_is_name : Dfn K mg "is_name" (top 10) ["thing"] := ⟨_, _, F_is_name, m_is_name, b_is_name⟩
  have F_pieces_of := fun_mk (st := top 12) l_pieces_of c_pieces_of k_pieces_of
  have b_pieces_of := F_pieces_of.binds (ps := ["doc"]) fun _ _ _ _ _ _ us hl => match us, hl with | [_], _ => rfl
  have m_pieces_of := PySem.W.mg_of X G a_pieces_of
  have D_pieces_of : Dfn K mg "pieces_of" (top 12) ["doc"] := ⟨_, _, F_pieces_of, m_pieces_of, b_pieces_of⟩
  have F_show_doc := fun_mk (st := top 13) l_show_doc c_show_doc k_show_doc
  have b_show_doc := F_show_doc.binds (ps := ["doc"]) fun _ _ _ _ _ _ us hl => match us, hl with | [_], _ => rfl
  have m_show_doc := PySem.W.mg_of X G a_show_doc
  have D_show_doc : Dfn K mg "show_doc" (top 13) ["doc"] := ⟨_, _, F_show_doc, m_show_doc, b_show_doc⟩
  have F_sign_at := fun_mk (st := top 14) l_sign_at c_sign_at k_sign_at
  have b_sign_at := F_sign_at.binds (ps := ["text", "at"]) fun _ _ _ _ _ _ us hl => match us, hl with | [_, _], _ => rfl
  have m_sign_at := PySem.W.mg_of X G a_sign_at
  have D_sign_at : Dfn K mg "sign_at" (top 14) ["text", "at"] := ⟨_, _, F_sign_at, m_sign_at, b_sign_at⟩
  have F_name_at := fun_mk (st := top 15) l_name_at c_name_at k_name_at
  have b_name_at := F_name_at.binds (ps := ["text", "at"]) fun _ _ _ _ _ _ us hl => match us, hl with | [_, _], _ => rfl
  have m_name_at := PySem.W.mg_of X G a_name_at
  have D_name_at : Dfn K mg "name_at" (top 15) ["text", "at"] := ⟨_, _, F_name_at, m_name_at, b_name_at⟩
  have F_closed := fun_mk (st := top 16) l_closed c_closed k_closed
  have b_closed := F_closed.binds (ps := ["text", "at", "doc", "above"]) fun _ _ _ _ _ _ us hl => match us, hl with | [_, _, _, _], _ => rfl
  have m_closed := PySem.W.mg_of X G a_closed
  have D_closed : Dfn K mg "closed" (top 16) ["text", "at", "doc", "above"] := ⟨_, _, F_closed, m_closed, b_closed⟩
  have F_item_at := fun_mk (st := top 20) l_item_at c_item_at k_item_at
  have b_item_at := F_item_at.binds (ps := ["text", "at"]) fun _ _ _ _ _ _ us hl => match us, hl with | [_, _], _ => rfl
  have m_item_at := PySem.W.mg_of X G a_item_at
  have D_item_at : Dfn K mg "item_at" (top 20) ["text", "at"] := ⟨_, _, F_item_at, m_item_at, b_item_at⟩
  have F_read_items := fun_mk (st := top 21) l_read_items c_read_items k_read_items
  have b_read_items := F_read_items.binds (ps := ["text"]) fun _ _ _ _ _ _ us hl => match us, hl with | [_], _ => rfl
  have m_read_items := PySem.W.mg_of X G a_read_items
  have D_read_items : Dfn K mg "read_items" (top 21) ["text"] := ⟨_, _, F_read_items, m_read_items, b_read_items⟩
  have F_read_turner_rule := fun_mk (st := top 22) l_read_turner_rule c_read_turner_rule k_read_turner_rule
  have b_read_turner_rule := F_read_turner_rule.binds (ps := ["text", "row"]) fun _ _ _ _ _ _ us hl => match us, hl with | [_, _], _ => rfl
  have m_read_turner_rule := PySem.W.mg_of X G a_read_turner_rule
  have D_read_turner_rule : Dfn K mg "read_turner_rule" (top 22) ["text", "row"] := ⟨_, _, F_read_turner_rule, m_read_turner_rule, b_read_turner_rule⟩
  have F_read_turner := fun_mk (st := top 23) l_read_turner c_read_turner k_read_turner
  have b_read_turner := F_read_turner.binds (ps := ["text"]) fun _ _ _ _ _ _ us hl => match us, hl with | [_], _ => rfl
  have m_read_turner := PySem.W.mg_of X G a_read_turner
  have D_read_turner : Dfn K mg "read_turner" (top 23) ["text"] := ⟨_, _, F_read_turner, m_read_turner, b_read_turner⟩
  have F_show_turner_rule := fun_mk (st := top 24) l_show_turner_rule c_show_turner_rule k_show_turner_rule
  have b_show_turner_rule := F_show_turner_rule.binds (ps := ["name", "items"]) fun _ _ _ _ _ _ us hl => match us, hl with | [_, _], _ => rfl
  have m_show_turner_rule := PySem.W.mg_of X G a_show_turner_rule
  have D_show_turner_rule : Dfn K mg "show_turner_rule" (top 24) ["name", "items"] := ⟨_, _, F_show_turner_rule, m_show_turner_rule, b_show_turner_rule⟩
  have F_show_turner := fun_mk (st := top 25) l_show_turner c_show_turner k_show_turner
  have b_show_turner := F_show_turner.binds (ps := ["turner"]) fun _ _ _ _ _ _ us hl => match us, hl with | [_], _ => rfl
  have m_show_turner := PySem.W.mg_of X G a_show_turner
  have D_show_turner : Dfn K mg "show_turner" (top 25) ["turner"] := ⟨_, _, F_show_turner, m_show_turner, b_show_turner⟩
  have F_law_cell_at := fun_mk (st := top 27) l_law_cell_at c_law_cell_at k_law_cell_at
  have b_law_cell_at := F_law_cell_at.binds (ps := ["_law_script", "_law_k"]) fun _ _ _ _ _ _ us hl => match us, hl with | [_, _], _ => rfl
  have m_law_cell_at := PySem.W.mg_of X G a_law_cell_at
  have D_law_cell_at : Dfn K mg "_law_cell_at" (top 27) ["_law_script", "_law_k"] := ⟨_, _, F_law_cell_at, m_law_cell_at, b_law_cell_at⟩
  have F_law_mix := fun_mk (st := top 28) l_law_mix c_law_mix k_law_mix
  have b_law_mix := F_law_mix.binds (ps := ["_law_number", "_law_k"]) fun _ _ _ _ _ _ us hl => match us, hl with | [_, _], _ => rfl
  have m_law_mix := PySem.W.mg_of X G a_law_mix
  have D_law_mix : Dfn K mg "_law_mix" (top 28) ["_law_number", "_law_k"] := ⟨_, _, F_law_mix, m_law_mix, b_law_mix⟩
  have F_law_tape := fun_mk (st := top 29) l_law_tape c_law_tape k_law_tape
  have b_law_tape := F_law_tape.binds (ps := ["_law_cell", "_law_many"]) fun _ _ _ _ _ _ us hl => match us, hl with | [_, _], _ => rfl
  have m_law_tape := PySem.W.mg_of X G a_law_tape
  have D_law_tape : Dfn K mg "_law_tape" (top 29) ["_law_cell", "_law_many"] := ⟨_, _, F_law_tape, m_law_tape, b_law_tape⟩
  have F_law_next := fun_mk (st := top 30) l_law_next c_law_next k_law_next
  have b_law_next := F_law_next.binds (ps := ["_law_tape_here", "_law_many"]) fun _ _ _ _ _ _ us hl => match us, hl with | [_, _], _ => rfl
  have m_law_next := PySem.W.mg_of X G a_law_next
  have D_law_next : Dfn K mg "_law_next" (top 30) ["_law_tape_here", "_law_many"] := ⟨_, _, F_law_next, m_law_next, b_law_next⟩
  have F_law_names := fun_mk (st := top 31) l_law_names c_law_names k_law_names
  have b_law_names := F_law_names.binds (ps := ["_law_cell"]) fun _ _ _ _ _ _ us hl => match us, hl with | [_], _ => rfl
  have m_law_names := PySem.W.mg_of X G a_law_names
  have D_law_names : Dfn K mg "_law_names" (top 31) ["_law_cell"] := ⟨_, _, F_law_names, m_law_names, b_law_names⟩
  have F_law_items := fun_mk (st := top 32) l_law_items c_law_items k_law_items
  have b_law_items := F_law_items.binds (ps := ["_law_tape_here", "_law_depth", "_law_pool"]) fun _ _ _ _ _ _ us hl => match us, hl with | [_, _, _], _ => rfl
  have m_law_items := PySem.W.mg_of X G a_law_items
  have D_law_items : Dfn K mg "_law_items" (top 32) ["_law_tape_here", "_law_depth", "_law_pool"] := ⟨_, _, F_law_items, m_law_items, b_law_items⟩
  have F_law_turner := fun_mk (st := top 33) l_law_turner c_law_turner k_law_turner
  have b_law_turner := F_law_turner.binds (ps := ["_law_script", "_law_start", "_law_most", "_law_pool", "_law_deep"]) fun _ _ _ _ _ _ us hl => match us, hl with | [_, _, _, _, _], _ => rfl
  have m_law_turner := PySem.W.mg_of X G a_law_turner
  have D_law_turner : Dfn K mg "_law_turner" (top 33) ["_law_script", "_law_start", "_law_most", "_law_pool", "_law_deep"] := ⟨_, _, F_law_turner, m_law_turner, b_law_turner⟩
  have F_law_shown := fun_mk (st := top 34) l_law_shown c_law_shown k_law_shown
  have b_law_shown := F_law_shown.binds (ps := ["_law_items_here"]) fun _ _ _ _ _ _ us hl => match us, hl with | [_], _ => rfl
  have m_law_shown := PySem.W.mg_of X G a_law_shown
  have D_law_shown : Dfn K mg "_law_shown" (top 34) ["_law_items_here"] := ⟨_, _, F_law_shown, m_law_shown, b_law_shown⟩
  have F_law_rule_shown := fun_mk (st := top 35) l_law_rule_shown c_law_rule_shown k_law_rule_shown
  have b_law_rule_shown := F_law_rule_shown.binds (ps := ["_law_rule"]) fun _ _ _ _ _ _ us hl => match us, hl with | [_], _ => rfl
  have m_law_rule_shown := PySem.W.mg_of X G a_law_rule_shown
  have D_law_rule_shown : Dfn K mg "_law_rule_shown" (top 35) ["_law_rule"] := ⟨_, _, F_law_rule_shown, m_law_rule_shown, b_law_rule_shown⟩
  have F_law_same := fun_mk (st := top 36) l_law_same c_law_same k_law_same
  have b_law_same := F_law_same.binds (ps := ["_law_found", "_law_due"]) fun _ _ _ _ _ _ us hl => match us, hl with | [_, _], _ => rfl
  have m_law_same := PySem.W.mg_of X G a_law_same
  have D_law_same : Dfn K mg "_law_same" (top 36) ["_law_found", "_law_due"] := ⟨_, _, F_law_same, m_law_same, b_law_same⟩
  have F_law_long := fun_mk (st := top 37) l_law_long c_law_long k_law_long
  have b_law_long := F_law_long.binds (ps := ["_law_tape_here", "_law_pool"]) fun _ _ _ _ _ _ us hl => match us, hl with | [_, _], _ => rfl
  have m_law_long := PySem.W.mg_of X G a_law_long
  have D_law_long : Dfn K mg "_law_long" (top 37) ["_law_tape_here", "_law_pool"] := ⟨_, _, F_law_long, m_law_long, b_law_long⟩
  have F_law := fun_mk (st := top 38) l_law c_law k_law
  have b_law := F_law.binds (ps := ["_law_script"]) fun _ _ _ _ _ _ us hl => match us, hl with | [_], _ => rfl
  have m_law := PySem.W.mg_of X G a_law
  have D_law : Dfn K mg "law" (top 38) ["_law_script"] := ⟨_, _, F_law, m_law, b_law⟩
  refine ⟨PySem.W.fnOf "law" "law" (defArgs (top 38)) (defBody (top 38)) (defScope (top 38)) .none kV_law dc_law pm_law an_law cd_law ct_law, fun s u => .of_eq rfl, f_is_name, _, _, m_is_name, X _ _ l_is_name, rfl, fun base c P bm ob hc _ _ B => ?_⟩
  have CNm := ok_name (P := l.prog) (w := w) (base := base) F_is_name F_is_letter m_is_letter m_is_name b_is_name T hc B
  have CC := ok_cell (P := l.prog) (w := w) (base := base) D_law_cell_at T
  have CT := ok_tape (P := l.prog) (w := w) (base := base) D_law_tape T (ok_mix D_law_mix T)
  have CN := ok_next (P := l.prog) (w := w) (base := base) D_law_next T
  have CSg := ok_sign (P := l.prog) (w := w) (base := base) D_sign_at T
  have CNA := ok_nameat (P := l.prog) (w := w) (base := base) D_name_at T (ok_letter D_is_letter T)
  have CRI := ok_items_read (P := l.prog) (w := w) (base := base) D_read_items T (ok_item D_item_at T CNA CSg) CSg (ok_closed D_closed T CSg)
  have CRT := ok_turner (P := l.prog) (w := w) (base := base) D_read_turner T (ok_rule D_read_turner_rule T CNm CRI) (ok_first D_first_told_ahead T)
  have CST := ok_showt (P := l.prog) (w := w) (base := base) D_show_turner T (ok_showr D_show_turner_rule T (ok_show D_show_doc T (ok_pieces D_pieces_of T)))
  have CRS := ok_rs (P := l.prog) (w := w) (base := base) D_law_rule_shown T (ok_shown D_law_shown T 21)
  have CTu := ok_lturner (P := l.prog) (w := w) (base := base) D_law_turner T CC CT CN (ok_items D_law_items T CN 2)
  exact ok_law (fun a b c d e f g => rd_of a b c d e f g) (fun a b c => rd_blank a b c) F_law T CC (ok_names D_law_names T) CTu CT CN (ok_llong D_law_long T CN) CRS CST CRT (ok_same D_law_same T 45)
end G72
open PySem PySem.W PyProof.Rows
set_option maxRecDepth 100000 in
set_option maxHeartbeats 0 in
theorem PySem.Challenge.cw_graftform_k72_turners_read_and_shown_holds : PySem.Challenge.rw_graftform_k72_turners_read_and_shown.Holds := by
  w_on; o_law; k_head; (case hw => w_witness2)
  k_fill
  refine L2.walk_ofP (l := PySem.Challenge.rw_graftform_k72_turners_read_and_shown) (n := 63) (k := 47) (x := "_law_script") (gname := "is_name") (sp := G72.spLaw) rfl (by decide) rfl ⟨rfl, by decide, by decide⟩ (fun w h Y => PySem.W.kIn_of Y) ?C ?D ?F ?S
  case D => first | rfl | decide +kernel
  case C =>
    intro w
    rfl
  case F =>
    intro w mg fa h KX G hmg
    refine' G72.all_mk KX G hmg ?a_first_told_ahead ?l_first_told_ahead ?c_first_told_ahead ?k_first_told_ahead ?a_is_letter ?l_is_letter ?c_is_letter ?k_is_letter ?a_is_name ?l_is_name ?c_is_name ?k_is_name ?a_pieces_of ?l_pieces_of ?c_pieces_of ?k_pieces_of ?a_show_doc ?l_show_doc ?c_show_doc ?k_show_doc ?a_sign_at ?l_sign_at ?c_sign_at ?k_sign_at ?a_name_at ?l_name_at ?c_name_at ?k_name_at ?a_closed ?l_closed ?c_closed ?k_closed ?a_item_at ?l_item_at ?c_item_at ?k_item_at ?a_read_items ?l_read_items ?c_read_items ?k_read_items ?a_read_turner_rule ?l_read_turner_rule ?c_read_turner_rule ?k_read_turner_rule ?a_read_turner ?l_read_turner ?c_read_turner ?k_read_turner ?a_show_turner_rule ?l_show_turner_rule ?c_show_turner_rule ?k_show_turner_rule ?a_show_turner ?l_show_turner ?c_show_turner ?k_show_turner ?a_law_cell_at ?l_law_cell_at ?c_law_cell_at ?k_law_cell_at ?a_law_mix ?l_law_mix ?c_law_mix ?k_law_mix ?a_law_tape ?l_law_tape ?c_law_tape ?k_law_tape ?a_law_next ?l_law_next ?c_law_next ?k_law_next ?a_law_names ?l_law_names ?c_law_names ?k_law_names ?a_law_items ?l_law_items ?c_law_items ?k_law_items ?a_law_turner ?l_law_turner ?c_law_turner ?k_law_turner ?a_law_shown ?l_law_shown ?c_law_shown ?k_law_shown ?a_law_rule_shown ?l_law_rule_shown ?c_law_rule_shown ?k_law_rule_shown ?a_law_same ?l_law_same ?c_law_same ?k_law_same ?a_law_long ?l_law_long ?c_law_long ?k_law_long ?a_law ?l_law ?c_law ?k_law ?b_isinstance ?b_str ?b_int ?b_bool ?b_list ?b_tuple ?b_len ?b_range ?b_enumerate ?b_all ?b_zip ?b_reversed ?n_HOLE ?n_NAME_LETTERS ?n_ARROW ?n_TURNER_RULES
    (case a_first_told_ahead => k_is)
    (case l_first_told_ahead => k_is)
    (case c_first_told_ahead => k_is)
    (case k_first_told_ahead => k_is)
    (case a_is_letter => k_is)
    (case l_is_letter => k_is)
    (case c_is_letter => k_is)
    (case k_is_letter => k_is)
    (case a_is_name => k_is)
    (case l_is_name => k_is)
    (case c_is_name => k_is)
    (case k_is_name => k_is)
    (case a_pieces_of => k_is)
    (case l_pieces_of => k_is)
    (case c_pieces_of => k_is)
    (case k_pieces_of => k_is)
    (case a_show_doc => k_is)
    (case l_show_doc => k_is)
    (case c_show_doc => k_is)
    (case k_show_doc => k_is)
    (case a_sign_at => k_is)
    (case l_sign_at => k_is)
    (case c_sign_at => k_is)
    (case k_sign_at => k_is)
    (case a_name_at => k_is)
    (case l_name_at => k_is)
    (case c_name_at => k_is)
    (case k_name_at => k_is)
    (case a_closed => k_is)
    (case l_closed => k_is)
    (case c_closed => k_is)
    (case k_closed => k_is)
    (case a_item_at => k_is)
    (case l_item_at => k_is)
    (case c_item_at => k_is)
    (case k_item_at => k_is)
    (case a_read_items => k_is)
    (case l_read_items => k_is)
    (case c_read_items => k_is)
    (case k_read_items => k_is)
    (case a_read_turner_rule => k_is)
    (case l_read_turner_rule => k_is)
    (case c_read_turner_rule => k_is)
    (case k_read_turner_rule => k_is)
    (case a_read_turner => k_is)
    (case l_read_turner => k_is)
    (case c_read_turner => k_is)
    (case k_read_turner => k_is)
    (case a_show_turner_rule => k_is)
    (case l_show_turner_rule => k_is)
    (case c_show_turner_rule => k_is)
    (case k_show_turner_rule => k_is)
    (case a_show_turner => k_is)
    (case l_show_turner => k_is)
    (case c_show_turner => k_is)
    (case k_show_turner => k_is)
    (case a_law_cell_at => k_is)
    (case l_law_cell_at => k_is)
    (case c_law_cell_at => k_is)
    (case k_law_cell_at => k_is)
    (case a_law_mix => k_is)
    (case l_law_mix => k_is)
    (case c_law_mix => k_is)
    (case k_law_mix => k_is)
    (case a_law_tape => k_is)
    (case l_law_tape => k_is)
    (case c_law_tape => k_is)
    (case k_law_tape => k_is)
    (case a_law_next => k_is)
    (case l_law_next => k_is)
    (case c_law_next => k_is)
    (case k_law_next => k_is)
    (case a_law_names => k_is)
    (case l_law_names => k_is)
    (case c_law_names => k_is)
    (case k_law_names => k_is)
    (case a_law_items => k_is)
    (case l_law_items => k_is)
    (case c_law_items => k_is)
    (case k_law_items => k_is)
    (case a_law_turner => k_is)
    (case l_law_turner => k_is)
    (case c_law_turner => k_is)
    (case k_law_turner => k_is)
    (case a_law_shown => k_is)
    (case l_law_shown => k_is)
    (case c_law_shown => k_is)
    (case k_law_shown => k_is)
    (case a_law_rule_shown => k_is)
    (case l_law_rule_shown => k_is)
    (case c_law_rule_shown => k_is)
    (case k_law_rule_shown => k_is)
    (case a_law_same => k_is)
    (case l_law_same => k_is)
    (case c_law_same => k_is)
    (case k_law_same => k_is)
    (case a_law_long => k_is)
    (case l_law_long => k_is)
    (case c_law_long => k_is)
    (case k_law_long => k_is)
    (case a_law => k_is)
    (case l_law => k_is)
    (case c_law => k_is)
    (case k_law => k_is)
    (case b_isinstance => k_is)
    (case b_str => k_is)
    (case b_int => k_is)
    (case b_bool => k_is)
    (case b_list => k_is)
    (case b_tuple => k_is)
    (case b_len => k_is)
    (case b_range => k_is)
    (case b_enumerate => k_is)
    (case b_all => k_is)
    (case b_zip => k_is)
    (case b_reversed => k_is)
    (case n_HOLE => k_is)
    (case n_NAME_LETTERS => k_is)
    (case n_ARROW => k_is)
    (case n_TURNER_RULES => k_is)
  case S => exact fun K H a P ns hl hp hS => ⟨a, ns, rfl, hS, hl, hp, fun H' hp' => ⟨rfl, hp'⟩⟩
