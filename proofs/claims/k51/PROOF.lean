import PyProof.Rows.All
import Wide.All
import OpenK.AllK
import Wide.FinOn
import PyProof.EqAt
import PyProof.EqKinds
import PyProof.TupleCall
import PyProof.CompFree
import PyProof.EvalArms
import KE.BitLaws
import OpenK.KOwn
import KE.KIsAll
import PyProof.ExcArgsOwn
import PyProof.IsiH_list
import PyProof.NsDelKeeps
import PyProof.ExcAttrAll.ValueError
import PyProof.ExcBaseAll.ValueError
import PyProof.ZipIter
import PyProof.Rows.SumAny
import KE.LcSums
import PyProof.SetRoads
import PyProof.Rows.SetFrom
import KE.KSetDisp
import PyProof.DictIter
import PyProof.DictRoadsH
import PyProof.Rows.TupDisplay
import PyProof.FString
import PyProof.FactsAll.list_1
import PyProof.CollectWalk
import PyProof.SetKind
import PyProof.TupleKey
import PyProof.IsRules
import PyProof.SetNew
import PySem.Challenge.RW_turnline_k51_finer_lines_and_trains
set_option Elab.async false
set_option linter.all false
set_option maxRecDepth 100000
/-! THE HAND LAYER, for ints, bools, texts, own classes, LISTS and tuples (index, slices, in, append, pop ..), calls, loops. Paste it whole ahead of your own text; what your proof does not reach may be deleted. -/
namespace L2
open PySem PySem.Spec PyProof.Rows

/-- a key: an int or a str -/
abbrev Key := Sum Int Str
def keyIs : Key → Value → Bool
  | .inl k, v => Value.isInt k v
  | .inr x, v => Value.isStrOf x v
def keyH (w : World) : Key → Int
  | .inl k => hashInt k
  | .inr x => hashStr w x
theorem keyIs_shape : ∀ {k : Key} {v : Value}, keyIs k v = true → (∃ i t, k = Sum.inl i ∧ v = Value.int i t) ∨ (∃ x t, k = Sum.inr x ∧ v = Value.str x t)
  | .inl i, v, h => by
    obtain ⟨t, e⟩ := Value.isInt_shape (k := i) (v := v) h
    exact .inl ⟨i, t, rfl, e⟩
  | .inr x, v, h => by
    obtain ⟨t, e⟩ := Value.isStrOf_shape (x := x) (v := v) h
    exact .inr ⟨x, t, rfl, e⟩
theorem keyIs_int (i : Int) (t : Tok) : keyIs (.inl i) (.int i t) = true := by simp [keyIs, Value.isInt]
theorem keyIs_str (x : Str) (t : Tok) : keyIs (.inr x) (.str x t) = true := by simp [keyIs, Value.isStrOf]
theorem key_ll (a b : Int) : decide ((Sum.inl a : Key) = Sum.inl b) = (a == b) := by
  by_cases e : a = b
  · subst e; simp
  · have h : ¬ (Sum.inl a : Key) = Sum.inl b := fun q => e (Sum.inl.inj q)
    rw [decide_eq_false h]
    exact (beq_eq_false_iff_ne.mpr e).symm
theorem key_rr (a b : Str) : decide ((Sum.inr a : Key) = Sum.inr b) = decide (a = b) := by
  by_cases e : a = b
  · subst e; simp
  · have h : ¬ (Sum.inr a : Key) = Sum.inr b := fun q => e (Sum.inr.inj q)
    rw [decide_eq_false h, decide_eq_false e]
theorem key_lr (a : Int) (b : Str) : decide ((Sum.inl a : Key) = Sum.inr b) = false := decide_eq_false (fun q => nomatch q)
theorem key_rl (a : Str) (b : Int) : decide ((Sum.inr a : Key) = Sum.inl b) = false := decide_eq_false (fun q => nomatch q)

def mixKind (prog : Program) (w : World) : PySem.KeyKind prog w Key where
  is := keyIs
  hash := keyH w
  inj := fun v a b ha hb => by
    rcases keyIs_shape ha with ⟨i, t, rfl, rfl⟩ | ⟨x, t, rfl, rfl⟩
    · rcases keyIs_shape hb with ⟨j, u, rfl, e⟩ | ⟨y, u, rfl, e⟩
      · injection e with e1 _; rw [e1]
      · exact nomatch e
    · rcases keyIs_shape hb with ⟨j, u, rfl, e⟩ | ⟨y, u, rfl, e⟩
      · exact nomatch e
      · injection e with e1 _; rw [e1]
  byValue := fun k v h => by
    rcases keyIs_shape h with ⟨i, t, rfl, rfl⟩ | ⟨x, t, rfl, rfl⟩ <;> rfl
  pyHash := fun hv h => by
    rcases keyIs_shape hv with ⟨i, t, rfl, rfl⟩ | ⟨x, t, rfl, rfl⟩
    · exact wpAny_pyHash_int h
    · exact wpAny_pyHash_str h
  eqBool := fun hu hv h => by
    rcases keyIs_shape hu with ⟨i, t, rfl, rfl⟩ | ⟨x, t, rfl, rfl⟩
    · rcases keyIs_shape hv with ⟨j, u, rfl, rfl⟩ | ⟨y, u, rfl, rfl⟩
      · rw [key_ll] at h; exact wpAny_eqBool_int h
      · rw [key_lr] at h; exact SeqAt.EqAt.int_str i t y u _ _ _ _ h
    · rcases keyIs_shape hv with ⟨j, u, rfl, rfl⟩ | ⟨y, u, rfl, rfl⟩
      · rw [key_rl] at h; exact SeqAt.EqAt.str_int x t j u _ _ _ _ h
      · rw [key_rr] at h; exact wpAny_eqBool_str h
  «strs» := fun k x t v h => by
    rcases keyIs_shape h with ⟨i, u, rfl, e⟩ | ⟨y, u, rfl, e⟩
    · exact nomatch e
    · injection e with e1 _
      subst e1
      cases v <;> rfl

theorem mixKind_int (prog : Program) (w : World) (i : Int) (t : Tok) : (mixKind prog w).is (.inl i) (.int i t) = true := keyIs_int i t
theorem mixKind_str (prog : Program) (w : World) (x : Str) (t : Tok) : (mixKind prog w).is (.inr x) (.str x t) = true := keyIs_str x t
end L2

namespace L2
open PySem PySem.Spec PyProof.Rows

/-- a value, without the heap -/
inductive V where
  | non | bl (b : Bool) | int (i : Int) | str (x : Str) | byt (b : Array UInt8) | flt (b : UInt64) | ref (a : Addr) | ty (n : String)
  deriving DecidableEq

def RelV : V → Value → Prop
  | .non, u => u = Value.none
  | .bl b, u => u = Value.bool b
  | .int i, u => ∃ t, u = Value.int i t
  | .str x, u => ∃ t, u = Value.str x t
  | .byt b, u => ∃ t, u = Value.bytes b t
  | .flt b, u => ∃ t, u = Value.float b t
  | .ref a, u => u = Value.ref a
  | .ty n, u => u = Value.type n

abbrev Vals : List V → List Value → Prop := Paired RelV
theorem Vals.length {xs : List V} {us : List Value} (r : Vals xs us) : xs.length = us.length := Paired.length r
theorem Vals.get : ∀ {xs : List V} {us : List Value} {i : Nat} {x : V}, Vals xs us → xs[i]? = some x → ∃ u, us[i]? = some u ∧ RelV x u
  | _, _, _, _, .nil, e => by simp at e
  | _, _, 0, _, .cons r _, e => by simp at e; subst e; exact ⟨_, rfl, r⟩
  | _, _, i + 1, x, .cons _ t, e => by
    obtain ⟨u, h1, h2⟩ := Vals.get (i := i) (x := x) t (by simpa using e)
    exact ⟨u, by simpa using h1, h2⟩
theorem Vals.append : ∀ {xs ys : List V} {us ws : List Value}, Vals xs us → Vals ys ws → Vals (xs ++ ys) (us ++ ws)
  | _, _, _, _, .nil, s => s
  | _, _, _, _, .cons r t, s => .cons r (Vals.append t s)
theorem Vals.take : ∀ {xs : List V} {us : List Value} (n : Nat), Vals xs us → Vals (xs.take n) (us.take n)
  | _, _, 0, _ => .nil
  | _, _, _ + 1, .nil => .nil
  | _, _, n + 1, .cons r t => .cons r (Vals.take n t)
theorem Vals.drop : ∀ {xs : List V} {us : List Value} (n : Nat), Vals xs us → Vals (xs.drop n) (us.drop n)
  | _, _, 0, r => r
  | _, _, _ + 1, .nil => .nil
  | _, _, n + 1, .cons _ t => Vals.drop n t
def RelO : Option V → Option Value → Prop
  | some v, some u => RelV v u
  | none, none => True
  | _, _ => False
def KV {κ : Type} : List (κ × V) → List (κ × Value) → Prop := Paired fun (p : κ × V) (q : κ × Value) => p.1 = q.1 ∧ RelV p.2 q.2

/-- a key of a dict (00_mix): an int or a text -/
def kV : Key → V
  | .inl i => .int i
  | .inr x => .str x

/-- what stands at a tracked address -/
inductive HO where
  /-- a list -/
  | lst (xs : List V)
  /-- a tuple (never changes) -/
  | tup (xs : List V)
  /-- a dict whose keys are ints and texts; one whose keys are tuples of ints and texts (the empty one is both) -/
  | dK (kvs : List (Key × V)) | dT (kvs : List (List Key × V))
  /-- a set of ints: its members, its size -/
  | set (S : Int → Bool) (n : Nat)
  /-- an instance of the class at C, its dict at dx, its attributes -/
  | ins (C dx : Addr) (fs : List (Str × V))
  /-- the dict of the instance at x -/
  | own (x : Addr)
  /-- the dict of an exception -/
  | xd (fs : List (Str × V))
  /-- a bound method, f of x -/
  | met (f x : Addr)
  /-- a range object lo, lo + 1, .. below hi -/
  | rng (lo hi : Int)
  /-- a thing that is known to the object (the script; a dict while a loop walks it): read, never written while it is so -/
  | frz (o : Obj) (u : HO)
  /-- a code object's table -/
  | tbl (ps : Array Value)
  /-- any other thing, by what is true of its one object (a def of one's own: SetO a S n := HO.ext fun h => ..) -/
  | ext (φ : Heap → Prop)

abbrev Hp := Addr → Option HO
def upd (H : Hp) (a : Addr) (o : HO) : Hp := fun b => if b = a then some o else H b
theorem upd_same {H : Hp} {a : Addr} {o : HO} : upd H a o a = some o := by unfold upd; rw [if_pos rfl]
theorem upd_ne {H : Hp} {a b : Addr} {o : HO} (h : b ≠ a) : upd H a o b = H b := by unfold upd; rw [if_neg h]
theorem upd_upd {H : Hp} {a : Addr} {o u : HO} : upd (upd H a o) a u = upd H a u := by
  funext b; unfold upd; split <;> rfl
/-- two objects of different content stand apart -/
theorem ne_of {H : Hp} {a b : Addr} {o u : HO} (h : H a = some o) (h' : H b = some u) (d : o ≠ u) : a ≠ b := by
  intro e; subst e; rw [h] at h'; exact d (Option.some.inj h')
theorem ne_of_none {H : Hp} {a b : Addr} {o : HO} (h : H a = some o) (h' : H b = none) : a ≠ b := by
  intro e; subst e; rw [h] at h'; cases h'

section
variable (P : Program) (w : World)
def ObjOk (H : Hp) (h : Heap) (a : Addr) : HO → Prop
  | .lst xs => xs.length ≤ sizeLine ∧ ∃ (its : List Value) (n : Nat), Vals xs its ∧ h.get? a = some { cls := .type "list", data := .seq its.toArray n }
  | .tup xs => xs.length ≤ sizeLine ∧ ∃ its : List Value, Vals xs its ∧ IsTup h a its.toArray
  | .dK kvs => kvs.length ≤ sizeLine ∧ (a == sysModules) = false ∧ ∃ vs, KV kvs vs ∧ h.DictOf (mixKind P w) a vs
  | .dT kvs => kvs.length ≤ sizeLine ∧ (a == sysModules) = false ∧ ∃ xs : List (List Key × Addr × Value),
      Paired (fun (p : List Key × V) (q : List Key × Addr × Value) => p.1 = q.1 ∧ H q.2.1 = some (.tup (p.1.map kV)) ∧ RelV p.2 q.2.2) kvs xs ∧
      ∃ o es ep, h.get? a = some o ∧ o.ExactDict ∧ o.data = .dict es ep ∧ es.toList = xs.map (entryOfKey (tupleKind (mixKind P w))) ∧ (xs.map (·.1)).Nodup
  | .set S n => h.SetOf (intKind P w) a S n
  | .ins C dx fs => H dx = some (.own a) ∧ fs.length ≤ 1000 ∧ dx ≠ a ∧ h.get? a = some (PySem.W.instObj C dx) ∧
      ∃ mA, h.Ns1 dx mA ∧ (∀ f, RelO (fs.lookup f) (mA f)) ∧ PySem.Within mA (fs.map (·.1))
  | .own _ => ∃ o, h.get? a = some o
  | .xd fs => ∃ mA, h.Ns1 a mA ∧ ∀ f, RelO (fs.lookup f) (mA f)
  | .rng lo hi => ∃ t u v, h.get? a = some { cls := .type "range", data := .fields #[.int lo t, .int hi u, .int 1 v] }
  | .frz o u => h.get? a = some o ∧ ObjOk H h a u
  | .tbl ps => h.get? a = some { cls := .none, data := .fields ps }
  | .met f x => h.get? a = some (PySem.W.methodObj (.ref f) (.ref x))
  | .ext φ => φ h ∧ (∃ o, h.get? a = some o) ∧ ∀ h1 h2 : Heap, φ h1 → (∀ o, h1.get? a = some o → h2.get? a = some o) → φ h2
/-- the abstract heap is held -/
def HOk (H : Hp) (h : Heap) : Prop := ∀ a o, H a = some o → ObjOk P w H h a o
end

section
variable {P : Program} {w : World} {H H' : Hp} {h h' : Heap} {a : Addr} {o : HO}
theorem ObjOk.lt (x : ObjOk P w H h a o) : a < h.objs.size := by
  cases o with
  | lst xs => obtain ⟨_, _, _, _, e⟩ := x; exact Heap.lt_size e
  | tup xs => obtain ⟨_, _, _, p⟩ := x; exact p.lt
  | dK kvs => obtain ⟨_, _, _, _, o, _, _, e, _⟩ := x; exact Heap.lt_size e
  | dT kvs => obtain ⟨_, _, _, _, o, _, _, e, _⟩ := x; exact Heap.lt_size e
  | set S n => obtain ⟨o, _, _, _, e, _⟩ := x; exact Heap.lt_size e
  | ins C dx fs => obtain ⟨_, _, _, e, _⟩ := x; exact Heap.lt_size e
  | own y => obtain ⟨_, e⟩ := x; exact Heap.lt_size e
  | xd fs => obtain ⟨_, ⟨_, _, _, e, _⟩, _⟩ := x; exact Heap.lt_size e
  | rng lo hi => obtain ⟨_, _, _, e⟩ := x; exact Heap.lt_size e
  | frz ob u => obtain ⟨e, _⟩ := x; exact Heap.lt_size e
  | tbl ps => exact Heap.lt_size (show h.get? a = some _ from x)
  | met f y => exact Heap.lt_size (show h.get? a = some _ from x)
  | ext φ => obtain ⟨_, ⟨_, e⟩, _⟩ := x; exact Heap.lt_size e
theorem Paired.mapP {α β : Type} {F G : α → β → Prop} : ∀ {l₁ : List α} {l₂ : List β}, Paired F l₁ l₂ → (∀ a b, F a b → G a b) → Paired G l₁ l₂
  | _, _, .nil, _ => .nil
  | _, _, .cons r t, f => .cons (f _ _ r) (Paired.mapP t f)
/-- what an object's description leans on: its own object, its own dict, the tuples -/
theorem ObjOk.stay (x : ObjOk P w H h a o) (k : ∀ b u, (b = a ∨ H b = some (.own a)) → h.get? b = some u → h'.get? b = some u)
    (ho : ∀ b, H b = some (.own a) → H' b = some (.own a)) (ht : ∀ b xs, H b = some (.tup xs) → H' b = some (.tup xs)) : ObjOk P w H' h' a o := by
  induction o with
  | lst xs => obtain ⟨z, its, n, r, e⟩ := x; exact ⟨z, its, n, r, k _ _ (.inl rfl) e⟩
  | tup xs => obtain ⟨z, its, r, ob, e, c⟩ := x; exact ⟨z, its, r, ob, k _ _ (.inl rfl) e, c⟩
  | dK kvs => obtain ⟨z, y, vs, r, ob, es, ep, e, c⟩ := x; exact ⟨z, y, vs, r, ob, es, ep, k _ _ (.inl rfl) e, c⟩
  | dT kvs =>
    obtain ⟨z, y, xs, r, ob, es, ep, e, c⟩ := x
    exact ⟨z, y, xs, Paired.mapP r fun p q z => ⟨z.1, ht _ _ z.2.1, z.2.2⟩, ob, es, ep, k _ _ (.inl rfl) e, c⟩
  | set S n => obtain ⟨ob, es, ep, t, e, c⟩ := x; exact ⟨ob, es, ep, t, k _ _ (.inl rfl) e, c⟩
  | ins C dx fs =>
    obtain ⟨d, z, ne, e, mA, ⟨od, es, ep, e2, c⟩, r⟩ := x
    exact ⟨ho _ d, z, ne, k _ _ (.inl rfl) e, mA, ⟨od, es, ep, k _ _ (.inr d) e2, c⟩, r⟩
  | own y => obtain ⟨ob, e⟩ := x; exact ⟨ob, k _ _ (.inl rfl) e⟩
  | xd fs => obtain ⟨mA, ⟨od, es, ep, e, c⟩, r⟩ := x; exact ⟨mA, ⟨od, es, ep, k _ _ (.inl rfl) e, c⟩, r⟩
  | rng lo hi => obtain ⟨t, u, v, e⟩ := x; exact ⟨t, u, v, k _ _ (.inl rfl) e⟩
  | frz ob u ih => obtain ⟨e, q⟩ := x; exact ⟨k _ _ (.inl rfl) e, ih q⟩
  | tbl ps =>
    have e : h.get? a = some { cls := .none, data := .fields ps } := x
    show h'.get? a = some { cls := .none, data := .fields ps }
    exact k a _ (.inl rfl) e
  | met f y =>
    have e : h.get? a = some (PySem.W.methodObj (.ref f) (.ref y)) := x
    show h'.get? a = some (PySem.W.methodObj (.ref f) (.ref y))
    exact k a _ (.inl rfl) e
  | ext φ => obtain ⟨p, ⟨o, e⟩, st⟩ := x; exact ⟨st _ _ p fun o q => k _ _ (.inl rfl) q, ⟨o, k _ _ (.inl rfl) e⟩, st⟩
theorem HOk.lt (x : HOk P w H h) (e : H a = some o) : a < h.objs.size := (x a o e).lt
theorem HOk.fresh (x : HOk P w H h) (e : h.objs.size ≤ a) : H a = none := by
  cases q : H a with
  | none => rfl
  | some u => exact absurd (Nat.lt_of_lt_of_le (x.lt q) e) (Nat.lt_irrefl _)
/-- every object of the heap is kept -/
theorem HOk.kept (x : HOk P w H h) (k : ∀ b u, h.get? b = some u → h'.get? b = some u) : HOk P w H h' := fun a o e =>
  (x a o e).stay (fun b u _ q => k b u q) (fun _ q => q) fun _ _ q => q
/-- a new object is laid and tracked -/
theorem HOk.laid (x : HOk P w H h) (k : ∀ b u, h.get? b = some u → h'.get? b = some u) (hp : h.objs.size ≤ a) (new : ObjOk P w (upd H a o) h' a o) : HOk P w (upd H a o) h' := fun b u e => by
  have hn := x.fresh hp
  by_cases hb : b = a
  · subst hb; rw [upd_same] at e; cases e; exact new
  · rw [upd_ne hb] at e
    exact (x b u e).stay (fun c v _ q => k c v q) (fun c q => by rw [upd_ne (ne_of_none q hn)]; exact q) fun c xs q => by rw [upd_ne (ne_of_none q hn)]; exact q
end

/-- what may be read as u: it is u, or a known u -/
def Rd (H : Hp) (a : Addr) (u : HO) : Prop := H a = some u ∨ ∃ o, H a = some (.frz o u)
theorem Rd.ok {P : Program} {w : World} {H : Hp} {h : Heap} {a : Addr} {u : HO} (r : Rd H a u) (x : HOk P w H h) : ObjOk P w H h a u := by
  rcases r with r | ⟨o, r⟩
  · exact x a u r
  · obtain ⟨_, q⟩ := x a _ r
    exact q
/-- what may be written -/
def Mut : Option HO → Prop
  | some (.lst _) => True
  | some (.dK _) => True
  | some (.dT _) => True
  | some (.set _ _) => True
  | some (.ins _ _ _) => True
  | some (.ext _) => True
  | _ => False
section
variable {P : Program} {w : World} {H : Hp} {h h' : Heap} {x e : Addr} {o' : HO}
/-- the object at e is changed: x itself, or the dict of the instance x -/
theorem HOk.write (ok : HOk P w H h) (mu : Mut (H x)) (he : e = x ∨ H e = some (.own x)) (k : ∀ b u, b ≠ e → h.get? b = some u → h'.get? b = some u) (heo : ∃ u, h'.get? e = some u)
    (new : ObjOk P w (upd H x o') h' x o') : HOk P w (upd H x o') h' := fun b u q => by
  have nown : ∀ c y, H c = some (.own y) → c ≠ x := fun c y r z => by subst z; rw [r] at mu; exact mu
  have ntup : ∀ c xs, H c = some (.tup xs) → c ≠ x := fun c xs r z => by subst z; rw [r] at mu; exact mu
  by_cases hb : b = x
  · subst hb; rw [upd_same] at q; cases q; exact new
  · rw [upd_ne hb] at q
    by_cases hbe : b = e
    · have q' : H b = some (.own x) := by
        rcases he with z | z
        · exact absurd (hbe.trans z) hb
        · rw [hbe]; exact z
      rw [q] at q'; cases q'
      obtain ⟨v, hv⟩ := heo
      exact ⟨v, by rw [hbe]; exact hv⟩
    · refine (ok b u q).stay (fun c v hc r => k c v ?_ r) (fun c r => by rw [upd_ne (nown c b r)]; exact r) fun c xs r => by rw [upd_ne (ntup c xs r)]; exact r
      rcases hc with rfl | hc
      · exact hbe
      · rintro rfl
        rcases he with z | z
        · exact nown c b hc z
        · rw [hc] at z; cases z; exact hb rfl
end

/-! ### kept unless tracked; of the frames at fs (the callers') the slots may change (an exception that passes writes there); of the records at ex (iterators) nothing is said -/
structure Un (fs ex : List Addr) (H H' : Hp) (h h' : Heap) : Prop where
  keep : ∀ b o, h.get? b = some o → H b = none → b ∉ fs → b ∉ ex → h'.get? b = some o
  slot : ∀ b o, h.get? b = some o → H b = none → b ∈ fs → b ∉ ex → ∃ sl, h'.get? b = some { o with slots := sl }
  free : ∀ b o, h.get? b = some o → H b = none → b ∉ ex → H' b = none
  there : ∀ b o, h.get? b = some o → b ∉ ex → ∃ o', h'.get? b = some o'
  tups : ∀ b xs, H b = some (.tup xs) → H' b = some (.tup xs)
  frzs : ∀ b o u, H b = some (.frz o u) → H' b = some (.frz o u)
  tbls : ∀ b ps, H b = some (.tbl ps) → ∃ more, H' b = some (.tbl (ps ++ more))
section
variable {fs fs' ex ex' : List Addr} {H H1 H2 : Hp} {h h1 h2 h' : Heap} {a x e : Addr} {o : HO}
theorem Un.any (u : Un fs ex H H1 h h1) {b : Addr} {ob : Obj} (q : h.get? b = some ob) (n : H b = none) (hx : b ∉ ex) : ∃ sl, h1.get? b = some { ob with slots := sl } := by
  by_cases hb : b ∈ fs
  · exact u.slot b ob q n hb hx
  · exact ⟨ob.slots, u.keep b ob q n hb hx⟩
theorem Un.trans (a : Un fs ex H H1 h h1) (b : Un fs ex H1 H2 h1 h2) : Un fs ex H H2 h h2 where
  keep := fun c ob q n hc hx => b.keep c ob (a.keep c ob q n hc hx) (a.free c ob q n hx) hc hx
  slot := fun c ob q n hc hx => by
    obtain ⟨sl, e1⟩ := a.slot c ob q n hc hx
    obtain ⟨sl', e2⟩ := b.slot c _ e1 (a.free c ob q n hx) hc hx
    exact ⟨sl', e2⟩
  free := fun c ob q n hx => by
    obtain ⟨o', e1⟩ := a.there c ob q hx
    exact b.free c o' e1 (a.free c ob q n hx) hx
  there := fun c ob q hx => by
    obtain ⟨o', e1⟩ := a.there c ob q hx
    exact b.there c o' e1 hx
  tups := fun c xs q => b.tups c xs (a.tups c xs q)
  frzs := fun c ob xs q => b.frzs c ob xs (a.frzs c ob xs q)
  tbls := fun c ps q => by
    obtain ⟨m1, e1⟩ := a.tbls c ps q
    obtain ⟨m2, e2⟩ := b.tbls c _ e1
    exact ⟨m1 ++ m2, by rw [e2, Array.append_assoc]⟩
theorem Un.kept (k : ∀ b u, h.get? b = some u → h'.get? b = some u) : Un fs ex H H h h' :=
  ⟨fun b ob q _ _ _ => k b ob q, fun b ob q _ _ _ => ⟨ob.slots, k b ob q⟩, fun _ _ _ n _ => n, fun b ob q _ => ⟨ob, k b ob q⟩, fun _ _ q => q, fun _ _ _ q => q, fun _ ps q => ⟨#[], by rw [q]; simp⟩⟩
theorem Un.refl : Un fs ex H H h h := Un.kept fun _ _ q => q
theorem Un.laid (k : ∀ b u, h.get? b = some u → h'.get? b = some u) (hp : h.objs.size ≤ a) (hn : H a = none) : Un fs ex H (upd H a o) h h' where
  keep := fun b u q _ _ _ => k b u q
  slot := fun b u q _ _ _ => ⟨u.slots, k b u q⟩
  free := fun b u q n _ => by rw [upd_ne (Nat.ne_of_lt (Nat.lt_of_lt_of_le (Heap.lt_size q) hp))]; exact n
  there := fun b u q _ => ⟨u, k b u q⟩
  tups := fun b xs q => by rw [upd_ne (ne_of_none q hn)]; exact q
  frzs := fun b u xs q => by rw [upd_ne (ne_of_none q hn)]; exact q
  tbls := fun b ps q => ⟨#[], by rw [upd_ne (ne_of_none q hn), q]; simp⟩
theorem Un.write (mu : Mut (H x)) (he : e = x ∨ H e = some (.own x)) (k : ∀ b u, b ≠ e → h.get? b = some u → h'.get? b = some u) (heo : ∃ u, h'.get? e = some u) : Un fs ex H (upd H x o) h h' := by
  have hx : ∀ b, H b = none → b ≠ x := fun b n z => by subst z; rw [n] at mu; exact mu
  have hb : ∀ b, H b = none → b ≠ e := fun b n z => by
    subst z
    rcases he with r | r
    · exact hx b n r
    · rw [n] at r; cases r
  have hm : ∀ b u, H b = some u → ¬ Mut (some u) → b ≠ x := fun b u q nm z => by subst z; rw [q] at mu; exact nm mu
  refine ⟨fun b u q n _ _ => k b u (hb b n) q, fun b u q n _ _ => ⟨u.slots, k b u (hb b n) q⟩, fun b u q n _ => by rw [upd_ne (hx b n)]; exact n, fun b u q _ => ?_,
    fun b xs q => by rw [upd_ne (hm b _ q fun z => z)]; exact q, fun b u xs q => by rw [upd_ne (hm b _ q fun z => z)]; exact q, fun b ps q => ⟨#[], by rw [upd_ne (hm b _ q fun z => z), q]; simp⟩⟩
  by_cases hbe : b = e
  · subst hbe; exact heo
  · exact ⟨u, k b u hbe q⟩
end

/-! ### the heap without what is tracked -/
def trk (h : Heap) (H : Hp) : List Addr := (List.range h.objs.size).filter fun a => (H a).isSome
def hidT (h : Heap) (H : Hp) : Heap := PySem.W.hideAll h (trk h H)
theorem hidT_size (h : Heap) (H : Hp) : (hidT h H).objs.size = h.objs.size := PySem.W.hideAll_size _ _
theorem hidT_get {h : Heap} {H : Hp} {b : Addr} {o : Obj} (e : h.get? b = some o) (n : H b = none) : (hidT h H).get? b = some o :=
  PySem.W.hideAll_get _ e fun hm => by
    have q : (H b).isSome = true := (List.mem_filter.mp hm).2
    rw [n] at q; simp at q
theorem of_hidT {h : Heap} {H : Hp} {b : Addr} {o : Obj} (e : (hidT h H).get? b = some o) : h.get? b = some o ∧ H b = none := by
  have e' : h.get? b = some o := PySem.W.of_hideAll (trk h H) e
  refine ⟨e', ?_⟩
  cases q : H b with
  | none => rfl
  | some x =>
    have hm : b ∈ trk h H := List.mem_filter.mpr ⟨List.mem_range.mpr (Heap.lt_size e'), by simp [q]⟩
    have z : (hidT h H).get? b = none := PySem.W.hideAll_none (trk h H) hm
    rw [z] at e; cases e

/-! ### OpenK's ledger, filled with every new object but one -/
end L2

namespace L2
open PySem PySem.Spec PyProof.Rows

/-- the module's facts, over the base: the heap at the law's entry without what is tracked there -/
structure Mod (K : PySem.W.Frag) (mg : Str → Option Value) (base : Heap) : Prop where
  kin : K.In base
  glob : base.Ns mainGlobals mg
  blt : ∃ mb, base.Ns builtinsNs mb ∧ ∀ x : Str, x ≠ "__name__" → mb x = bootBuiltins x
  nolimit : base.NoLimit

/-- the context: a def's body (or a comprehension's block) running. base: fixed through the whole law; s₀, H₀: the entry; outer: the frames whose slots others may change (a def's callers); stack: all frames that run;
   ex: iterators that were made ahead of the entry and are walked here (a comprehension's); fn: the names whose cells were made at the entry (a def: all; a comprehension's block: its own); calm: not within an except suite; pn: pins that every state bears; xe: what is wanted of an exception that leaves the code -/
structure Cx where
  prog : Program
  w : World
  K : PySem.W.Frag
  mg : Str → Option Value
  base : Heap
  A : Around
  N : List Str
  s₀ : Shared
  H₀ : Hp
  env : Env
  outer : List Env
  stack : List Env
  ex : List Addr
  fn : Str → Bool
  calm : Bool
  pn : List (Addr × Obj)
  xe : Value → Shared → Prop
/-- the callers' frames -/
def frs (l : List Env) : List Addr := l.filterMap (·.frame)
abbrev Cx.fs (X : Cx) : List Addr := frs X.outer

def Vis (sc : Scope) (x : Str) : Prop := sc.names.lookup x = some .local ∨ sc.names.lookup x = some .cell ∨ sc.names.lookup x = some .free
def Loc (sc : Scope) (x : Str) : Prop := sc.names.lookup x = some .local ∨ sc.names.lookup x = some .cell
def Look (env : Env) (h : Heap) (m : Str → Option Value) (x : Str) (u : Value) : Prop :=
  (env.kindOf x = some .local ∧ m x = some u) ∨ ((env.kindOf x = some .cell ∨ env.kindOf x = some .free) ∧ ∃ c, env.cells.lookup x = some c ∧ h.IsCell c (some u))

structure Cx.Ok (X : Cx) : Prop where
  mod : Mod X.K X.mg X.base
  kind : X.env.scope.kind = .function
  glob : X.env.globals = mainGlobals
  blt : X.env.builtins = builtinsNs
  above : X.s₀.heap.objs.size ≤ X.env.locals
  inj : ∀ x y c, X.env.cells.lookup x = some c → X.env.cells.lookup y = some c → x = y
  has : ∀ x, (X.env.kindOf x = some .cell ∨ X.env.kindOf x = some .free) → ∃ c, X.env.cells.lookup x = some c
  cab : ∀ x c, X.fn x = true → X.env.cells.lookup x = some c → X.s₀.heap.objs.size ≤ c
  hd : X.calm = true → X.A.handled = none
  frames : X.A.frames = some X.stack
  stk : X.stack = X.outer ∨ (X.stack = X.env :: X.outer ∧ X.env.frame = some X.env.locals)
  exf : ∀ b ∈ X.ex, b ≠ X.env.locals ∧ ∀ x c, X.env.cells.lookup x = some c → c ≠ b
  bs : ∀ b o, X.base.get? b = some o → X.s₀.heap.get? b = some o ∧ X.H₀ b = none
  bsz : X.base.objs.size ≤ X.s₀.heap.objs.size
  noex : ∀ b o, X.base.get? b = some o → b ∉ X.ex
  exfs : ∀ b ∈ X.ex, b ∉ X.fs
  funs : X.s₀.heap.FunFrames X.base X.outer
  frf : ∀ b ∈ X.fs, X.H₀ b = none

structure Inv (X : Cx) (pins : List (Addr × Obj)) (σ : List (Option V)) (H : Hp) (s : Shared) : Prop where
  ok : X.Ok
  os : s.os = X.s₀.os
  bare : AllBare s.gens
  base : Un X.fs X.ex X.H₀ H X.s₀.heap s.heap
  loc : ∃ m, s.heap.Ns X.env.locals m ∧ ∀ (i : Nat) (x : Str) (v : V), X.N[i]? = some x → σ[i]? = some (some v) → Vis X.env.scope x → ∃ u, RelV v u ∧ Look X.env s.heap m x u
  cell : ∀ x c, X.env.cells.lookup x = some c → ∃ v, s.heap.IsCell c v
  free : H X.env.locals = none
  freeC : ∀ x c, X.env.cells.lookup x = some c → H c = none
  pin : ∀ p ∈ X.pn ++ pins, s.heap.get? p.1 = some p.2 ∧ H p.1 = none ∧ p.1 ≠ X.env.locals ∧ p.1 ∉ X.fs ∧ ∀ v, p.2.data ≠ .cell v
  hok : HOk X.prog X.w H s.heap
  len : σ.length = X.N.length

section
variable {X : Cx} {pins : List (Addr × Obj)} {σ : List (Option V)} {H H' : Hp} {s : Shared} {h' : Heap}

theorem Cx.Ok.nofr (ok : X.Ok) {b : Addr} {o : Obj} (e : X.base.get? b = some o) : b ∉ X.fs := fun hb => by
  have := (ok.funs.mem hb).1
  rw [e] at this; cases this
theorem Inv.bs (I : Inv X pins σ H s) : ∀ b o, X.base.get? b = some o → s.heap.get? b = some o ∧ H b = none := fun b o e =>
  ⟨I.base.keep b o (I.ok.bs b o e).1 (I.ok.bs b o e).2 (I.ok.nofr e) (I.ok.noex b o e), I.base.free b o (I.ok.bs b o e).1 (I.ok.bs b o e).2 (I.ok.noex b o e)⟩
theorem Inv.bk (I : Inv X pins σ H s) : ∀ b o, X.base.get? b = some o → s.heap.get? b = some o := fun b o e => (I.bs b o e).1
theorem Inv.mod (I : Inv X pins σ H s) : Mod X.K X.mg X.base := I.ok.mod
theorem Inv.kIn (I : Inv X pins σ H s) : X.K.In s.heap := I.ok.mod.kin.keeps I.bk
theorem Inv.lt (I : Inv X pins σ H s) : X.env.locals < s.heap.objs.size := let ⟨_, hn, _⟩ := I.loc; hn.lt
theorem Inv.sz (I : Inv X pins σ H s) : X.s₀.heap.objs.size ≤ s.heap.objs.size := Nat.le_trans I.ok.above (Nat.le_of_lt I.lt)
theorem Inv.nofs (I : Inv X pins σ H s) {a : Addr} (h : s.heap.objs.size ≤ a) : a ∉ X.fs := fun hb => by
  obtain ⟨_, o, ho, _⟩ := I.ok.funs.mem hb
  exact absurd (Nat.lt_of_lt_of_le (Heap.lt_size ho) (Nat.le_trans I.sz h)) (Nat.lt_irrefl _)
theorem Inv.cne (I : Inv X pins σ H s) : ∀ x c, X.env.cells.lookup x = some c → c ≠ X.env.locals := fun x c e z => by
  obtain ⟨v, o, ho, hd⟩ := I.cell x c e
  obtain ⟨m, ⟨o', es, ep, ho', hd', _⟩, _⟩ := I.loc
  rw [z, ho'] at ho; cases ho; rw [hd'] at hd; cases hd
theorem Inv.funs (I : Inv X pins σ H s) : s.heap.FunFrames X.base X.outer := by
  have all : ∀ (l : List Env), (∀ b ∈ frs l, b ∈ X.fs) → X.s₀.heap.FunFrames X.base l → s.heap.FunFrames X.base l := by
    intro l
    induction l with
    | nil => intro _ _; trivial
    | cons env r ih =>
      intro hs hl
      obtain ⟨hk, ⟨L, o, hf, hn, ho, hd⟩, hr⟩ := hl
      have hL : L ∈ X.fs := hs L (by unfold frs; rw [List.filterMap_cons, hf]; exact List.mem_cons_self)
      obtain ⟨sl, e⟩ := I.base.slot L o ho (I.ok.frf L hL) hL fun z => I.ok.exfs L z hL
      exact ⟨hk, ⟨L, _, hf, hn, e, hd⟩, ih (fun b hb => hs b (by unfold frs; rw [List.filterMap_cons, hf]; exact List.mem_cons_of_mem _ hb)) hr⟩
  exact all X.outer (fun _ hb => hb) I.ok.funs

/-- the frames that run, for a call -/
theorem Inv.stack (I : Inv X pins σ H s) : s.heap.FunFrames X.base X.stack := by
  rcases I.ok.stk with e | ⟨e, hf⟩
  · rw [e]; exact I.funs
  · rw [e]
    obtain ⟨m, hn, _⟩ := I.loc
    refine .cons (by rw [I.ok.kind]; decide) hf hn ?_ I.funs
    exact Heap.get?_none_of_le (Nat.le_trans I.ok.bsz I.ok.above)
theorem Inv.stkSub (I : Inv X pins σ H s) : ∀ b ∈ frs X.stack, b ∈ X.env.locals :: X.fs := fun b hb => by
  rcases I.ok.stk with e | ⟨e, hf⟩
  · rw [e] at hb; exact List.mem_cons_of_mem _ hb
  · rw [e] at hb
    unfold frs at hb
    rw [List.filterMap_cons, hf] at hb
    exact hb
theorem Inv.stkFree (I : Inv X pins σ H s) : ∀ b ∈ frs X.stack, H b = none := fun b hb => by
  rcases List.mem_cons.mp (I.stkSub b hb) with e | hb
  · rw [e]; exact I.free
  · obtain ⟨_, o, ho, _⟩ := I.ok.funs.mem hb
    exact I.base.free b o ho (I.ok.frf b hb) fun z => I.ok.exfs b z hb

/-- THE STEP: the untracked objects but the frame and the records at ch are kept (the callers' frames up to slots), the frame's map is kept, the new abstract heap is held -/
theorem Inv.step {g' : Array GenState} {t' : Nat} {d' : Drawn} {ch : List Addr} (I : Inv X pins σ H s)
    (hch : ∀ b ∈ ch, (b ∈ X.ex ∨ X.s₀.heap.objs.size ≤ b) ∧ b ≠ X.env.locals ∧ (∀ x c, X.env.cells.lookup x = some c → c ≠ b) ∧ ∀ p ∈ X.pn ++ pins, p.1 ≠ b)
    (keep : ∀ b o, b ≠ X.env.locals → b ∉ X.fs → b ∉ ch → s.heap.get? b = some o → H b = none → h'.get? b = some o)
    (slot : ∀ b o, b ≠ X.env.locals → b ∈ X.fs → b ∉ ch → s.heap.get? b = some o → H b = none → ∃ sl, h'.get? b = some { o with slots := sl }) (free : ∀ b o, b ∉ ch → s.heap.get? b = some o → H b = none → H' b = none)
    (there : ∀ b o, b ∉ ch → s.heap.get? b = some o → ∃ o', h'.get? b = some o')
    (tups : ∀ b xs, H b = some (.tup xs) → H' b = some (.tup xs)) (frzs : ∀ b o u, H b = some (.frz o u) → H' b = some (.frz o u)) (tbls : ∀ b ps, H b = some (.tbl ps) → ∃ more, H' b = some (.tbl (ps ++ more)))
    (ns : ∀ m, s.heap.Ns X.env.locals m → h'.Ns X.env.locals m) (hok : HOk X.prog X.w H' h') (hg : AllBare g') :
    Inv X pins σ H' { s with heap := h', gens := g', drawn := d', toks := t' } := by
  have neL : ∀ b o, X.s₀.heap.get? b = some o → b ≠ X.env.locals := fun b o e => Nat.ne_of_lt (Nat.lt_of_lt_of_le (Heap.lt_size e) I.ok.above)
  have neC : ∀ b o, X.s₀.heap.get? b = some o → b ∉ X.ex → b ∉ ch := fun b o e hx hb => by
    rcases (hch b hb).1 with z | z
    · exact hx z
    · exact absurd (Nat.lt_of_lt_of_le (Heap.lt_size e) z) (Nat.lt_irrefl _)
  have cellK : ∀ x c, X.env.cells.lookup x = some c → ∀ v, s.heap.IsCell c v → h'.IsCell c v := fun x c e v ⟨o, ho, hd⟩ => by
    have nch : c ∉ ch := fun z => (hch c z).2.2.1 x c e rfl
    by_cases hc : c ∈ X.fs
    · obtain ⟨sl, q⟩ := slot c o (I.cne x c e) hc nch ho (I.freeC x c e)
      exact ⟨_, q, hd⟩
    · exact ⟨o, keep c o (I.cne x c e) hc nch ho (I.freeC x c e), hd⟩
  refine ⟨I.ok, I.os, hg, ⟨fun b o e n hb hx => ?_, fun b o e n hb hx => ?_, fun b o e n hx => ?_, fun b o e hx => ?_, fun b xs e => tups b xs (I.base.tups b xs e), fun b o xs e => frzs b o xs (I.base.frzs b o xs e), fun b ps e => ?_⟩, ?_, fun x c e => ?_, ?_, fun x c e => ?_, fun p hp => ?_, hok, I.len⟩
  · exact keep b o (neL b o e) hb (neC b o e hx) (I.base.keep b o e n hb hx) (I.base.free b o e n hx)
  · obtain ⟨sl, e1⟩ := I.base.slot b o e n hb hx
    obtain ⟨sl', e2⟩ := slot b _ (neL b o e) hb (neC b o e hx) e1 (I.base.free b o e n hx)
    exact ⟨sl', e2⟩
  · obtain ⟨o', e1⟩ := I.base.there b o e hx
    exact free b o' (neC b o e hx) e1 (I.base.free b o e n hx)
  · obtain ⟨o', e1⟩ := I.base.there b o e hx
    exact there b o' (neC b o e hx) e1
  · obtain ⟨m1, e1⟩ := I.base.tbls b ps e
    obtain ⟨m2, e2⟩ := tbls b _ e1
    exact ⟨m1 ++ m2, by rw [e2, Array.append_assoc]⟩
  · obtain ⟨m, hn, hl⟩ := I.loc
    refine ⟨m, ns m hn, fun i x v e1 e2 e3 => ?_⟩
    obtain ⟨u, r, l⟩ := hl i x v e1 e2 e3
    refine ⟨u, r, ?_⟩
    rcases l with l | ⟨k, c, e, z⟩
    · exact .inl l
    · exact .inr ⟨k, c, e, cellK x c e _ z⟩
  · obtain ⟨v, z⟩ := I.cell x c e
    exact ⟨v, cellK x c e v z⟩
  · obtain ⟨m, ⟨o, _, _, ho, _⟩, _⟩ := I.loc
    exact free _ o (fun z => (hch _ z).2.1 rfl) ho I.free
  · obtain ⟨v, o, ho, hd⟩ := I.cell x c e
    exact free c o (fun z => (hch c z).2.2.1 x c e rfl) ho (I.freeC x c e)
  · obtain ⟨e, n, ne, nf, d⟩ := I.pin p hp
    have nch : p.1 ∉ ch := fun z => (hch p.1 z).2.2.2 p hp rfl
    exact ⟨keep p.1 p.2 ne nf nch e n, free p.1 p.2 nch e n, ne, nf, d⟩
/-- .. where the frame's own object is kept too -/
theorem Inv.un {t' : Nat} (I : Inv X pins σ H s) (u : Un X.fs [] H H' s.heap h') (hok : HOk X.prog X.w H' h') : Inv X pins σ H' { s with heap := h', toks := t' } := by
  obtain ⟨m, ⟨o, es, ep, ho, r⟩, _⟩ := id I.loc
  obtain ⟨sl, hL⟩ := u.any ho I.free (by simp)
  exact I.step (g' := s.gens) (d' := s.drawn) (ch := []) (fun _ z => nomatch z) (fun b o _ hb _ e n => u.keep b o e n hb (by simp)) (fun b o _ hb _ e n => u.slot b o e n hb (by simp)) (fun b o _ e n => u.free b o e n (by simp)) (fun b o _ e => u.there b o e (by simp)) u.tups u.frzs u.tbls (fun m' hm => by
    obtain ⟨o', es', ep', ho', r'⟩ := hm
    rw [ho] at ho'; cases ho'
    exact ⟨_, es', ep', hL, r'⟩) hok I.bare
/-- behind a call (or a comprehension's block): the slots of this frame may have changed too, the records at ch may have turned -/
theorem Inv.call {g' : Array GenState} {t' : Nat} {d' : Drawn} {ch : List Addr} (I : Inv X pins σ H s) (u : Un (frs X.stack) ch H H' s.heap h') (hok : HOk X.prog X.w H' h') (hg : AllBare g')
    (hch : ∀ b ∈ ch, (b ∈ X.ex ∨ X.s₀.heap.objs.size ≤ b) ∧ b ≠ X.env.locals ∧ (∀ x c, X.env.cells.lookup x = some c → c ≠ b) ∧ ∀ p ∈ X.pn ++ pins, p.1 ≠ b) :
    Inv X pins σ H' { s with heap := h', gens := g', drawn := d', toks := t' } := by
  obtain ⟨m, ⟨o, es, ep, ho, r⟩, _⟩ := id I.loc
  obtain ⟨sl, hL⟩ := u.any ho I.free fun z => (hch _ z).2.1 rfl
  exact I.step (ch := ch) hch (fun b o hL hb hc e n => u.keep b o e n (fun z => (List.mem_cons.mp (I.stkSub b z)).elim hL hb) hc) (fun b o _ _ hc e n => u.any e n hc) (fun b o hc e n => u.free b o e n hc) (fun b o hc e => u.there b o e hc) u.tups u.frzs u.tbls (fun m' hm => by
    obtain ⟨o', es', ep', ho', r'⟩ := hm
    rw [ho] at ho'; cases ho'
    exact ⟨_, es', ep', hL, r'⟩) hok hg
/-- an untracked record of ours (an iterator) has turned -/
theorem Inv.turned {t' : Nat} {it : Addr} (I : Inv X pins σ H s) (k : ∀ b o, b ≠ it → s.heap.get? b = some o → h'.get? b = some o) (hn : H it = none) (hL : it ≠ X.env.locals)
    (h1 : it ∈ X.ex ∨ X.s₀.heap.objs.size ≤ it) (h2 : ∀ x c, X.env.cells.lookup x = some c → c ≠ it) (h3 : ∀ p ∈ X.pn ++ pins, p.1 ≠ it) : Inv X pins σ H { s with heap := h', toks := t' } := by
  have nit : ∀ b u, H b = some u → b ≠ it := fun b u e z => by rw [z, hn] at e; cases e
  refine I.step (g' := s.gens) (d' := s.drawn) (ch := [it]) (fun b hb => ?_) (fun b o _ _ hc e _ => k b o (fun z => hc (by simp [z])) e) (fun b o _ _ hc e _ => ⟨o.slots, k b o (fun z => hc (by simp [z])) e⟩) (fun _ _ _ _ n => n)
    (fun b o hc e => ⟨o, k b o (fun z => hc (by simp [z])) e⟩) (fun _ _ e => e) (fun _ _ _ e => e) (fun b ps e => ⟨#[], by rw [e]; simp⟩) (fun m hm => ?_) (fun b u e => ?_) I.bare
  · have e : b = it := by simpa using hb
    subst e
    exact ⟨h1, hL, h2, h3⟩
  · obtain ⟨o, es, ep, ho, r⟩ := hm
    exact ⟨o, es, ep, k _ o (Ne.symm hL) ho, r⟩
  · refine (I.hok b u e).stay (fun c v hc q => k c v ?_ q) (fun _ q => q) fun _ _ q => q
    rcases hc with z | z
    · rw [z]; exact nit b u e
    · exact nit c _ z
theorem Inv.tok (I : Inv X pins σ H s) (t : Nat) : Inv X pins σ H { s with toks := t } := I.un (h' := s.heap) (t' := t) Un.refl I.hok
/-- all objects kept -/
theorem Inv.kept {t' : Nat} (I : Inv X pins σ H s) (k : ∀ b u, s.heap.get? b = some u → h'.get? b = some u) : Inv X pins σ H { s with heap := h', toks := t' } := I.un (Un.kept k) (I.hok.kept k)
/-- a new object laid and tracked -/
theorem Inv.laid {a : Addr} {o : HO} {t' : Nat} (I : Inv X pins σ H s) (k : ∀ b u, s.heap.get? b = some u → h'.get? b = some u) (hp : s.heap.objs.size ≤ a) (new : ObjOk X.prog X.w (upd H a o) h' a o) :
    Inv X pins σ (upd H a o) { s with heap := h', toks := t' } := I.un (Un.laid k hp (I.hok.fresh hp)) (I.hok.laid k hp new)
/-- an object written -/
theorem Inv.write {x e : Addr} {o : HO} {t' : Nat} (I : Inv X pins σ H s) (mu : Mut (H x)) (he : e = x ∨ H e = some (.own x)) (k : ∀ b u, b ≠ e → s.heap.get? b = some u → h'.get? b = some u) (heo : ∃ u, h'.get? e = some u)
    (new : ObjOk X.prog X.w (upd H x o) h' x o) : Inv X pins σ (upd H x o) { s with heap := h', toks := t' } := I.un (Un.write mu he k heo) (I.hok.write mu he k heo new)
/-- forgetting slots, pins -/
theorem Inv.weak {σ' : List (Option V)} (I : Inv X pins σ H s) (hl : σ'.length = σ.length) (w : ∀ (i : Nat) v, σ'[i]? = some (some v) → σ[i]? = some (some v)) : Inv X pins σ' H s :=
  ⟨I.ok, I.os, I.bare, I.base, let ⟨m, hn, hl'⟩ := I.loc; ⟨m, hn, fun i x v e1 e2 e3 => hl' i x v e1 (w i v e2) e3⟩, I.cell, I.free, I.freeC, I.pin, I.hok, hl.trans I.len⟩
theorem Inv.pins_of {pins' : List (Addr × Obj)} (I : Inv X pins σ H s) (h : ∀ p ∈ pins', s.heap.get? p.1 = some p.2 ∧ H p.1 = none ∧ p.1 ≠ X.env.locals ∧ p.1 ∉ X.fs ∧ ∀ v, p.2.data ≠ .cell v) : Inv X pins' σ H s :=
  ⟨I.ok, I.os, I.bare, I.base, I.loc, I.cell, I.free, I.freeC, fun p hp => (List.mem_append.mp hp).elim (fun z => I.pin p (List.mem_append_left _ z)) (h p), I.hok, I.len⟩

theorem nodup_ix {N : List Str} (hN : N.Nodup) {i j : Nat} {x : Str} (a : N[i]? = some x) (b : N[j]? = some x) : i = j := by
  obtain ⟨h1, e1⟩ := List.getElem?_eq_some_iff.mp a
  obtain ⟨h2, e2⟩ := List.getElem?_eq_some_iff.mp b
  exact (List.getElem_inj hN).mp (e1.trans e2.symm)

/-- a name is stored; what changed -/
theorem store_ok2 {M : Model} {A : Around} {E : Value → Shared → Prop} {i : Nat} {x : Str} {v : V} {u : Value} {Q : Unit → Shared → Prop} (I : Inv X pins σ H s) (hN : X.N.Nodup) (hi : X.N[i]? = some x) (hx : Loc X.env.scope x) (r : RelV v u)
    (h : ∀ s', Inv X pins (σ.set i (some v)) H s' → (∃ a, Heap.SameBut a s.heap s'.heap ∧ (a = X.env.locals ∨ X.env.cells.lookup x = some a)) → Q () s') (hf : X.fn x = true ∨ X.env.scope.names.lookup x = some .local := by first | exact .inl rfl | exact .inr rfl | assumption) : wpAny M A (storeName X.env x u) Q E s := by
  obtain ⟨m, hn, hl⟩ := id I.loc
  have hcls : (X.env.scope.kind == .class || (X.env.scope.kind == .module && X.env.locals != X.env.globals)) = false := by rw [I.ok.kind]; rfl
  have hiσ : i < σ.length := by rw [I.len]; exact (List.getElem?_eq_some_iff.mp hi).1
  have cne := I.cne
  have tracked : ∀ {a : Addr} {h' : Heap}, (∃ o, s.heap.get? a = some o ∧ H a = none) → Heap.SameBut a s.heap h' → HOk X.prog X.w H h' := fun {a h'} ha hs b ob e => by
    obtain ⟨_, _, hfree⟩ := ha
    refine (I.hok b ob e).stay (fun c w' hc q => (hs.2 c ?_).trans q) (fun _ q => q) fun _ _ q => q
    rintro rfl
    rcases hc with rfl | hc
    · rw [hfree] at e; cases e
    · rw [hfree] at hc; cases hc
  rcases hx with hk | hk
  · refine wpAny_storeName_local hk hn (fun h' hn' hs => ?_) hcls
    obtain ⟨oL, _, _, hoL, _⟩ := id hn
    refine h _ ⟨I.ok, I.os, I.bare, ⟨fun b o e n hb hx => ?_, fun b o e n hb hx => ?_, I.base.free, fun b o e hx => ?_, I.base.tups, I.base.frzs, I.base.tbls⟩, ⟨_, hn', fun j y v' e1 e2 e3 => ?_⟩, fun y c e => ?_, I.free, I.freeC, fun p hp => ?_, tracked ⟨oL, hoL, I.free⟩ hs, by simpa using I.len⟩ ⟨_, hs, .inl rfl⟩
    · exact (hs.2 b (Nat.ne_of_lt (Nat.lt_of_lt_of_le (Heap.lt_size e) I.ok.above))).trans (I.base.keep b o e n hb hx)
    · obtain ⟨sl, e1⟩ := I.base.slot b o e n hb hx
      exact ⟨sl, (hs.2 b (Nat.ne_of_lt (Nat.lt_of_lt_of_le (Heap.lt_size e) I.ok.above))).trans e1⟩
    · obtain ⟨o', e1⟩ := I.base.there b o e hx
      exact ⟨o', (hs.2 b (Nat.ne_of_lt (Nat.lt_of_lt_of_le (Heap.lt_size e) I.ok.above))).trans e1⟩
    · by_cases hj : j = i
      · subst hj
        rw [hi] at e1; cases e1
        rw [List.getElem?_set_self hiσ] at e2
        cases e2
        exact ⟨u, r, .inl ⟨hk, by simp⟩⟩
      · rw [List.getElem?_set_ne (Ne.symm hj)] at e2
        obtain ⟨u', r', q⟩ := hl j y v' e1 e2 e3
        refine ⟨u', r', ?_⟩
        rcases q with ⟨k, e⟩ | ⟨k, c, e, z⟩
        · refine .inl ⟨k, ?_⟩
          have : y ≠ x := fun e => hj (nodup_ix hN e1 (e ▸ hi))
          simp [this, e]
        · exact .inr ⟨k, c, e, z.sameBut hs (cne y c e)⟩
    · obtain ⟨w', z⟩ := I.cell y c e
      exact ⟨w', z.sameBut hs (cne y c e)⟩
    · obtain ⟨e, n, ne, nf, d⟩ := I.pin p hp
      exact ⟨(hs.2 p.1 ne).trans e, n, ne, nf, d⟩
  · have hfn : X.fn x = true := by
      rcases hf with z | z
      · exact z
      · rw [z] at hk; cases hk
    obtain ⟨c, hc⟩ := I.ok.has x (.inl hk)
    obtain ⟨w', z⟩ := I.cell x c hc
    refine wpAny_storeName_cell I.ok.kind hk hc z (fun h' hc' hs => ?_)
    obtain ⟨oc, hoc, hocd⟩ := id z
    refine h { s with heap := h' } ⟨I.ok, I.os, I.bare, ⟨fun b o e n hb hx => ?_, fun b o e n hb hx => ?_, I.base.free, fun b o e hx => ?_, I.base.tups, I.base.frzs, I.base.tbls⟩, ⟨m, hn.sameBut hs (Ne.symm (cne x c hc)), fun j y v' e1 e2 e3 => ?_⟩, fun y c' e => ?_, I.free, I.freeC, fun p hp => ?_, tracked ⟨oc, hoc, I.freeC x c hc⟩ hs, by simpa using I.len⟩ ⟨c, hs, .inr hc⟩
    · exact (hs.2 b (Nat.ne_of_lt (Nat.lt_of_lt_of_le (Heap.lt_size e) (I.ok.cab x c hfn hc)))).trans (I.base.keep b o e n hb hx)
    · obtain ⟨sl, e1⟩ := I.base.slot b o e n hb hx
      exact ⟨sl, (hs.2 b (Nat.ne_of_lt (Nat.lt_of_lt_of_le (Heap.lt_size e) (I.ok.cab x c hfn hc)))).trans e1⟩
    · obtain ⟨o', e1⟩ := I.base.there b o e hx
      exact ⟨o', (hs.2 b (Nat.ne_of_lt (Nat.lt_of_lt_of_le (Heap.lt_size e) (I.ok.cab x c hfn hc)))).trans e1⟩
    · by_cases hj : j = i
      · subst hj
        rw [hi] at e1; cases e1
        rw [List.getElem?_set_self hiσ] at e2
        cases e2
        exact ⟨u, r, .inr ⟨.inl hk, c, hc, hc'⟩⟩
      · rw [List.getElem?_set_ne (Ne.symm hj)] at e2
        obtain ⟨u', r', q⟩ := hl j y v' e1 e2 e3
        refine ⟨u', r', ?_⟩
        rcases q with q | ⟨k, c', e, z'⟩
        · exact .inl q
        · refine .inr ⟨k, c', e, z'.sameBut hs ?_⟩
          rintro rfl
          exact hj (nodup_ix hN e1 (I.ok.inj _ _ _ e hc ▸ hi))
    · by_cases hcc : c' = c
      · subst hcc; exact ⟨_, hc'⟩
      · obtain ⟨w2, z2⟩ := I.cell y c' e
        exact ⟨w2, z2.sameBut hs hcc⟩
    · obtain ⟨e, n, ne, nf, d⟩ := I.pin p hp
      refine ⟨(hs.2 p.1 ?_).trans e, n, ne, nf, d⟩
      intro q
      rw [q, hoc] at e
      have q' : oc = p.2 := Option.some.inj e
      exact d w' (by rw [← q']; exact hocd)
theorem store_ok {M : Model} {A : Around} {E : Value → Shared → Prop} {i : Nat} {x : Str} {v : V} {u : Value} {Q : Unit → Shared → Prop} (I : Inv X pins σ H s) (hN : X.N.Nodup) (hi : X.N[i]? = some x) (hx : Loc X.env.scope x) (r : RelV v u)
    (h : ∀ s', Inv X pins (σ.set i (some v)) H s' → Q () s') (hf : X.fn x = true ∨ X.env.scope.names.lookup x = some .local := by first | exact .inl rfl | exact .inr rfl | assumption) : wpAny M A (storeName X.env x u) Q E s :=
  store_ok2 I hN hi hx r (fun s' I' _ => h s' I') hf
/-- behind a call or a block, the state as it is -/
theorem Inv.call' {s' : Shared} {ch : List Addr} (I : Inv X pins σ H s) (ho : s'.os = s.os) (u : Un (frs X.stack) ch H H' s.heap s'.heap) (hok : HOk X.prog X.w H' s'.heap) (hg : AllBare s'.gens)
    (hch : ∀ b ∈ ch, (b ∈ X.ex ∨ X.s₀.heap.objs.size ≤ b) ∧ b ≠ X.env.locals ∧ (∀ x c, X.env.cells.lookup x = some c → c ≠ b) ∧ ∀ p ∈ X.pn ++ pins, p.1 ≠ b) : Inv X pins σ H' s' := by
  obtain ⟨h', g', d', t', o'⟩ := s'
  have e : o' = s.os := ho
  subst e
  exact I.call (g' := g') (t' := t') (d' := d') u hok hg hch
end

/-! ### the judgements -/
/-- an exception: its class, its own dict's address (where it has one), the abstract heap behind it -/
abbrev XK := Value → Option Addr → Hp → Prop
abbrev St := List (Option V)
abbrev VK := V → Hp → Prop
/-- an expression's reading; a test's; an argument list's -/
abbrev TE := St → Hp → VK → Prop
abbrev TT := St → Hp → (Bool → Hp → Prop) → Prop
abbrev TA := St → Hp → (List V → Hp → Prop) → Prop
/-- what is wanted behind a statement -/
structure Ends where
  nx : St → Hp → Prop
  rt : VK
  bk : St → Hp → Prop := fun _ _ => False
  ct : St → Hp → Prop := fun _ _ => False
abbrev TS := Ends → St → Hp → Prop

def EP (X : Cx) (pins : List (Addr × Obj)) (σ : St) (Q : VK) (u : Value) (s' : Shared) : Prop := ∃ v H', Inv X pins σ H' s' ∧ RelV v u ∧ Q v H'
def TP (X : Cx) (pins : List (Addr × Obj)) (σ : St) (Q : Bool → Hp → Prop) (b : Bool) (s' : Shared) : Prop := ∃ H', Inv X pins σ H' s' ∧ Q b H'
def AP (X : Cx) (pins : List (Addr × Obj)) (σ : St) (Q : List V → Hp → Prop) (us : List Value) (s' : Shared) : Prop := ∃ vs H', Inv X pins σ H' s' ∧ Vals vs us ∧ Q vs H'
def SP (X : Cx) (pins : List (Addr × Obj)) (D : Ends) (f : Flow) (s' : Shared) : Prop :=
  match f with
  | .next => ∃ σ' H', Inv X pins σ' H' s' ∧ D.nx σ' H'
  | .brk => ∃ σ' H', Inv X pins σ' H' s' ∧ D.bk σ' H'
  | .cont => ∃ σ' H', Inv X pins σ' H' s' ∧ D.ct σ' H'
  | .ret u => ∃ v σ' H', Inv X pins σ' H' s' ∧ RelV v u ∧ D.rt v H'

def PE (X : Cx) (e : Expr) (t : TE) : Prop :=
  ∀ (pins : List (Addr × Obj)) (s : Shared) (σ : St) (H : Hp) (Q : VK), Inv X pins σ H s → t σ H Q → wpAny (model X.prog X.w) X.A (eval e X.env) (EP X pins σ Q) X.xe s
def PT (X : Cx) (e : Expr) (t : TT) : Prop :=
  ∀ (pins : List (Addr × Obj)) (s : Shared) (σ : St) (H : Hp) (Q : Bool → Hp → Prop), Inv X pins σ H s → t σ H Q → wpAny (model X.prog X.w) X.A (isTrue e X.env (eval e X.env)) (TP X pins σ Q) X.xe s
/-- a test whatever its 'whole' is (and, or) -/
def PW (X : Cx) (e : Expr) (t : TT) : Prop :=
  ∀ (whole : Sem Value) (pins : List (Addr × Obj)) (s : Shared) (σ : St) (H : Hp) (Q : Bool → Hp → Prop), Inv X pins σ H s → t σ H Q → wpAny (model X.prog X.w) X.A (isTrue e X.env whole) (TP X pins σ Q) X.xe s
theorem PW.pt {X : Cx} {e : Expr} {t : TT} (h : PW X e t) : PT X e t := h _
/-- an argument list (no star), from the left -/
def PA (X : Cx) (es : List Expr) (t : TA) : Prop :=
  ∀ (pos : Pos) (pins : List (Addr × Obj)) (s : Shared) (σ : St) (H : Hp) (Q : List V → Hp → Prop), Inv X pins σ H s → t σ H Q → wpAny (model X.prog X.w) X.A (spliced (backTo pos (starEach es X.env))) (AP X pins σ Q) X.xe s
def PS (X : Cx) (st : Stmt) (t : TS) : Prop :=
  ∀ (pins : List (Addr × Obj)) (s : Shared) (σ : St) (H : Hp) (D : Ends), Inv X pins σ H s → t D σ H → wpAny (model X.prog X.w) X.A (exec st X.env) (SP X pins D) X.xe s
def PSs (X : Cx) (st : List Stmt) (t : TS) : Prop :=
  ∀ (pins : List (Addr × Obj)) (s : Shared) (σ : St) (H : Hp) (D : Ends), Inv X pins σ H s → t D σ H → wpAny (model X.prog X.w) X.A (execs st X.env) (SP X pins D) X.xe s
/-- weaken the end -/
theorem thn {α : Type} {t : Sem α} {Q Q' : α → Shared → Prop} {M : Model} {A : Around} {E : Value → Shared → Prop} {s : Shared} (h : wpAny M A t Q E s) (hQ : ∀ a s, Q a s → Q' a s) : wpAny M A t Q' E s := wpAny_mono h hQ fun _ _ x => x
end L2

namespace L2
open PySem PySem.Spec PyProof.Rows
section
variable {X : Cx}

/-- two expressions in a row -/
theorem bin {a b : Expr} {ta tb : TE} (ha : PE X a ta) (hb : PE X b tb) {pins : List (Addr × Obj)} {s : Shared} {σ : St} {H : Hp} {R : V → V → Hp → Prop} (I : Inv X pins σ H s) (h : ta σ H fun x H1 => tb σ H1 fun y H2 => R x y H2)
    {α : Type} {Q : α → Shared → Prop} {f : Value → Value → Sem α}
    (hf : ∀ v u s2 x y H2, Inv X pins σ H2 s2 → RelV x v → RelV y u → R x y H2 → wpAny (model X.prog X.w) X.A (f v u) Q X.xe s2) :
    wpAny (model X.prog X.w) X.A (eval a X.env) (fun v s₁ => wpAny (model X.prog X.w) X.A (eval b X.env) (fun u s₂ => wpAny (model X.prog X.w) X.A (f v u) Q X.xe s₂) X.xe s₁) X.xe s := by
  refine thn (ha pins s σ H _ I h) fun v s1 ⟨x, H1, I1, r1, q1⟩ => ?_
  refine thn (hb pins s1 σ H1 _ I1 q1) fun u s2 ⟨y, H2, I2, r2, q2⟩ => ?_
  exact hf v u s2 x y H2 I2 r1 r2 q2

/-! ### names and constants -/
def tVar (i : Nat) : TE := fun σ H Q => ∃ v, σ[i]? = some (some v) ∧ Q v H
def tC (v : V) : TE := fun _ H Q => Q v H
theorem pe_var {i : Nat} {x : Str} {pos : Pos} (hN : X.N[i]? = some x) (hv : Vis X.env.scope x) (hd : (x == ("__debug__" : Str)) = false := by decide) (hcd : (x == ("__classdict__" : Str)) = false := by decide) : PE X (.Name x pos) (tVar i) := by
  intro pins s σ H Q I h
  obtain ⟨v, e, h⟩ := h
  obtain ⟨m, hn, hl⟩ := I.loc
  obtain ⟨u, r, l⟩ := hl i x v hN e hv
  have fin : EP X pins σ Q u s := ⟨v, H, I, r, h⟩
  rcases l with ⟨hk, hm⟩ | ⟨hk, c, hc, hcell⟩
  · exact wpAny_Name (wpAny_loadName_local I.ok.kind hk hn hm fin) hd
  · rcases hk with hk | hk
    · exact wpAny_Name (wpAny_loadName_cell I.ok.kind hk hc hcell fin) hd
    · exact wpAny_Name (wpAny_loadName_free I.ok.kind hk hc hcell fin hcd) hd
theorem pe_int {i j pos} : PE X (.Constant (.int i) j pos) (tC (.int i)) := fun _ _ _ H _ I h => wpAny_Constant_int ⟨.int i, H, I.tok _, ⟨_, rfl⟩, h⟩
theorem pe_bl {b j pos} : PE X (.Constant (.bool b) j pos) (tC (.bl b)) := fun _ _ _ H _ I h => Constant_bool ⟨.bl b, H, I, rfl, h⟩
theorem pe_str {x j pos} : PE X (.Constant (.str x) j pos) (tC (.str x)) := fun _ _ _ H _ I h => Calls.Constant_str ⟨.str x, H, I.tok _, ⟨_, rfl⟩, h⟩

/-- a global name of the def -/
def Gl (X : Cx) (x : Str) : Prop := X.env.kindOf x = some .globalImplicit
theorem ld_glob {E : Value → Shared → Prop} {pins : List (Addr × Obj)} {s : Shared} {σ : St} {H : Hp} {x : Str} {u : Value} {pos : Pos} {Q : Value → Shared → Prop} (I : Inv X pins σ H s) (hg : Gl X x) (hm : X.mg x = some u) (h : Q u s)
    (hd : (x == ("__debug__" : Str)) = false := by decide) : wpAny (model X.prog X.w) X.A (eval (.Name x pos) X.env) Q E s :=
  Calls.Name_function_global I.ok.kind hg (Calls.loadGlobal_global (by rw [I.ok.glob]; exact I.mod.glob.keeps I.bk) hm h) hd
theorem ld_blt {E : Value → Shared → Prop} {pins : List (Addr × Obj)} {s : Shared} {σ : St} {H : Hp} {x : Str} {u : Value} {pos : Pos} {Q : Value → Shared → Prop} (I : Inv X pins σ H s) (hg : Gl X x) (hm : X.mg x = none) (hv : bootBuiltins x = some u) (h : Q u s)
    (hn : x ≠ "__name__" := by decide) (hd : (x == ("__debug__" : Str)) = false := by decide) : wpAny (model X.prog X.w) X.A (eval (.Name x pos) X.env) Q E s := by
  obtain ⟨mb, h1, h2⟩ := I.mod.blt
  exact Calls.Name_function_global I.ok.kind hg (Calls.loadGlobal_builtin (by rw [I.ok.glob]; exact I.mod.glob.keeps I.bk) hm (by rw [I.ok.blt]; exact h1.keeps I.bk) ((h2 x hn).trans hv) h) hd
/-- a module's constant, a class, a function, as a value -/
theorem pe_glob {x : Str} {v : V} {u : Value} {pos : Pos} (hg : Gl X x) (hm : X.mg x = some u) (r : RelV v u) (hd : (x == ("__debug__" : Str)) = false := by decide) : PE X (.Name x pos) (tC v) :=
  fun _ _ _ H _ I h => ld_glob I hg hm ⟨v, H, I, r, h⟩ hd
theorem pe_bltn {x : Str} {v : V} {u : Value} {pos : Pos} (hg : Gl X x) (hm : X.mg x = none) (hv : bootBuiltins x = some u) (r : RelV v u) (hn : x ≠ "__name__" := by decide) (hd : (x == ("__debug__" : Str)) = false := by decide) : PE X (.Name x pos) (tC v) :=
  fun _ _ _ H _ I h => ld_blt I hg hm hv ⟨v, H, I, r, h⟩ hn hd

/-! ### arithmetic -/
/-- two ints -/
def t2I (ta tb : TE) (k : Int → Int → Hp → Prop) : St → Hp → Prop := fun σ H => ta σ H fun x H1 => tb σ H1 fun y H2 => ∃ i j, x = .int i ∧ y = .int j ∧ k i j H2
variable {a b : Expr} {ta tb : TE} {pos : Pos}
/-! ### comparisons -/
def PC (X : Cx) (op : CmpOp) (a b : Expr) (t : TE) : Prop :=
  ∀ (pins : List (Addr × Obj)) (s : Shared) (σ : St) (H : Hp) (Q : VK), Inv X pins σ H s → t σ H Q →
    wpAny (model X.prog X.w) X.A (eval a X.env) (fun v s₁ => wpAny (model X.prog X.w) X.A (eval b X.env) (fun u s₂ => wpAny (model X.prog X.w) X.A (compareOp op v u) (EP X pins σ Q) X.xe s₂) X.xe s₁) X.xe s
theorem nobehind (b : Expr) {op : CmpOp} (h : op ≠ .In) (h2 : op ≠ .NotIn) : behindInMarks op b = false := by
  have e1 : (op == CmpOp.In) = false := by cases op <;> first | rfl | exact absurd rfl h
  have e2 : (op == CmpOp.NotIn) = false := by cases op <;> first | rfl | exact absurd rfl h2
  cases b <;> simp [behindInMarks, e1, e2]
def tCmp (p : Int → Int → Bool) (ta tb : TE) : TE := fun σ H Q => t2I ta tb (fun i j H2 => Q (.bl (p i j)) H2) σ H
abbrev tLt : TE → TE → TE := tCmp fun i j => decide (i < j)
abbrev tLe : TE → TE → TE := tCmp fun i j => decide (i ≤ j)
abbrev tGt : TE → TE → TE := tCmp fun i j => decide (j < i)
abbrev tGe : TE → TE → TE := tCmp fun i j => decide (j ≤ i)
abbrev tEqI : TE → TE → TE := tCmp fun i j => decide (i = j)
abbrev tNeI : TE → TE → TE := tCmp fun i j => !decide (i = j)
/-- a comparison of two ints, by its rule -/
theorem pc_int {op : CmpOp} {p : Int → Int → Bool} (ha : PE X a ta) (hb : PE X b tb)
    (rule : ∀ (i j : Int) (t u : Tok) (Q : Value → Shared → Prop) (s : Shared), Q (.bool (p i j)) s → wpAny (model X.prog X.w) X.A (compareOp op (.int i t) (.int j u)) Q X.xe s) : PC X op a b (tCmp p ta tb) := by
  intro pins s σ H Q I h
  refine bin ha hb I h fun v u s2 x y H2 I2 rx ry q => ?_
  obtain ⟨i, j, rfl, rfl, q⟩ := q
  obtain ⟨t, rfl⟩ := rx
  obtain ⟨t', rfl⟩ := ry
  exact rule i j t t' _ s2 ⟨.bl _, H2, I2, rfl, q⟩
theorem pc_lt (ha : PE X a ta) (hb : PE X b tb) : PC X .Lt a b (tLt ta tb) := pc_int ha hb fun _ _ _ _ _ _ h => lt_int h
theorem pc_gt (ha : PE X a ta) (hb : PE X b tb) : PC X .Gt a b (tGt ta tb) := pc_int ha hb fun _ _ _ _ _ _ h => gt_int h
theorem pc_ge (ha : PE X a ta) (hb : PE X b tb) : PC X .GtE a b (tGe ta tb) := pc_int ha hb fun _ _ _ _ _ _ h => ge_int h
theorem pc_eqI (ha : PE X a ta) (hb : PE X b tb) : PC X .Eq a b (tEqI ta tb) := pc_int ha hb fun _ _ _ _ _ _ h => eq_int (by rw [Bool.beq_eq_decide_eq]; exact h)
theorem pc_neI (ha : PE X a ta) (hb : PE X b tb) : PC X .NotEq a b (tNeI ta tb) := pc_int ha hb fun _ _ _ _ _ _ h => ne_int (by rw [bne, Bool.beq_eq_decide_eq]; exact h)
def tNotN (ta : TE) : TE := fun σ H Q => ta σ H fun x H1 => Q (.bl (!decide (x = .non))) H1
theorem RelV.none_iff {x : V} {v : Value} (r : RelV x v) : (v == Value.none) = decide (x = .non) := by
  cases x with
  | non => cases r; rfl
  | bl _ => cases r; rfl
  | int _ => obtain ⟨t, rfl⟩ := r; rfl
  | str _ => obtain ⟨t, rfl⟩ := r; rfl
  | byt _ => obtain ⟨t, rfl⟩ := r; rfl
  | flt _ => obtain ⟨t, rfl⟩ := r; rfl
  | ref _ => cases r; rfl
  | ty _ => cases r; rfl
theorem pc_notN {j pos'} (ha : PE X a ta) : PC X .IsNot a (.Constant .none j pos') (tNotN ta) := by
  intro pins s σ H Q I h
  refine thn (ha pins s σ H _ I h) fun v s1 ⟨x, H1, I1, r1, q1⟩ => ?_
  exact Constant_none (isnot_none_gen ⟨.bl _, H1, I1, by rw [r1.none_iff]; rfl, q1⟩)
/-- a comparison as a value, as a test -/
def tB (t : TE) : TT := fun σ H Q => t σ H fun x H1 => ∃ c, x = .bl c ∧ Q c H1
theorem pt_cmp {op : CmpOp} {t : TE} (h : PC X op a b t) (h1 : behindInMarks op b = false := by first | exact nobehind _ (by decide) (by decide) | rfl) : PT X (.Compare a [op] [b] pos) (tB t) := by
  intro pins s σ H Q I hw
  refine wpAny_isTrue_Compare1 (thn (h pins s σ H _ I hw) fun v s1 h1 => thn h1 fun u s2 h2 => thn h2 fun c s3 ⟨x, H1, I1, r1, q1⟩ => ?_) h1
  obtain ⟨d, rfl, q⟩ := q1
  cases r1
  exact wpAny_truthy_bool ⟨H1, I1, q⟩
/-- an expression whose value is a bool, as a test -/
theorem pt_val {e : Expr} {t : TE} (h : PE X e t) (he : ∀ whole, isTrue e X.env whole = (do let v ← whole; standAt e.pos; holding [v] (truthy v)) := by intro _; rfl) : PT X e (tB t) := by
  intro pins s σ H Q I hw
  refine isTrue_plain (thn (h pins s σ H _ I hw) fun v s1 ⟨x, H1, I1, r1, q1⟩ => ?_) (he _)
  obtain ⟨d, rfl, q⟩ := q1
  cases r1
  exact wpAny_truthy_bool ⟨H1, I1, q⟩

/-! ### and, or, not -/
variable {tA tB' : TT} {rest : List Expr}
def tAnd (t u : TT) : TT := fun σ H Q => t σ H fun c H1 => if c = true then u σ H1 Q else Q false H1
def tOr (t u : TT) : TT := fun σ H Q => t σ H fun c H1 => if c = true then Q true H1 else u σ H1 Q
def tNot (t : TT) : TT := fun σ H Q => t σ H fun c H1 => Q (!c) H1
theorem pw_and1 (ha : PT X a tA) : PW X (.BoolOp .And [a] pos) tA := by
  intro wh pins s σ H Q I h
  refine isTrue_and (thn (ha pins s σ H Q I h) fun c s1 e => ?_)
  cases c with
  | true => exact isTrue_and_nil e
  | false => exact e
theorem pw_or1 (ha : PT X a tA) : PW X (.BoolOp .Or [a] pos) tA := by
  intro wh pins s σ H Q I h
  refine isTrue_or (thn (ha pins s σ H Q I h) fun c s1 e => ?_)
  cases c with
  | false => exact isTrue_or_nil e
  | true => exact e
theorem pw_and (ha : PT X a tA) (hb : PW X (.BoolOp .And (b :: rest) pos) tB') : PW X (.BoolOp .And (a :: b :: rest) pos) (tAnd tA tB') := by
  intro wh pins s σ H Q I h
  refine isTrue_and (thn (ha pins s σ H _ I h) fun c s1 ⟨H1, I1, q1⟩ => ?_)
  cases c with
  | true => exact hb wh pins s1 σ H1 Q I1 q1
  | false => exact ⟨H1, I1, q1⟩
theorem pw_or (ha : PT X a tA) (hb : PW X (.BoolOp .Or (b :: rest) pos) tB') : PW X (.BoolOp .Or (a :: b :: rest) pos) (tOr tA tB') := by
  intro wh pins s σ H Q I h
  refine isTrue_or (thn (ha pins s σ H _ I h) fun c s1 ⟨H1, I1, q1⟩ => ?_)
  cases c with
  | true => exact ⟨H1, I1, q1⟩
  | false => exact hb wh pins s1 σ H1 Q I1 q1
theorem pt_not (ha : PT X a tA) : PT X (.UnaryOp .Not a pos) (tNot tA) := by
  intro pins s σ H Q I h
  exact isTrue_not (ha pins s σ H (fun c H1 => Q (!c) H1) I h)
end
end L2

namespace L2
open PySem PySem.Spec PyProof.Rows

/-! ### a list, a tuple that is read: tracked, frozen, or an object of the module -/
def SqL (K : PySem.W.Frag) (H : Hp) (a : Addr) (xs : List V) : Prop :=
  Rd H a (.lst xs) ∨
    ∃ (o : Obj) (its : Array Value) (n : Nat), K.lookup a = some o ∧ o.cls = .type "list" ∧ o.dict = none ∧ o.data = .seq its n ∧ its.size ≤ sizeLine ∧ Vals xs its.toList
def SqT (K : PySem.W.Frag) (H : Hp) (a : Addr) (xs : List V) : Prop :=
  Rd H a (.tup xs) ∨
    ∃ (o : Obj) (its : Array Value) (n : Nat), K.lookup a = some o ∧ o.cls = .type "tuple" ∧ o.data = .seq its n ∧ its.size ≤ sizeLine ∧ Vals xs its.toList
def absV : Value → Option V
  | .none => some .non
  | .bool b => some (.bl b)
  | .int i _ => some (.int i)
  | .str x _ => some (.str x)
  | .bytes b _ => some (.byt b)
  | .float b _ => some (.flt b)
  | .ref a => some (.ref a)
  | .type n => some (.ty n)
  | _ => none
theorem RelV.abs {x : V} {u : Value} (r : RelV x u) : absV u = some x := by
  cases x with
  | non => cases r; rfl
  | bl _ => cases r; rfl
  | int _ => obtain ⟨t, rfl⟩ := r; rfl
  | str _ => obtain ⟨t, rfl⟩ := r; rfl
  | byt _ => obtain ⟨t, rfl⟩ := r; rfl
  | flt _ => obtain ⟨t, rfl⟩ := r; rfl
  | ref _ => cases r; rfl
  | ty _ => cases r; rfl
theorem RelV.inj {x y : V} {u : Value} (r : RelV x u) (q : RelV y u) : x = y := Option.some.inj (r.abs.symm.trans q.abs)
theorem Vals.inj : ∀ {xs ys : List V} {us : List Value}, Vals xs us → Vals ys us → xs = ys
  | _, _, _, .nil, .nil => rfl
  | _, _, _, .cons r t, .cons r' t' => by rw [r.inj r', Vals.inj t t']
section
variable {X : Cx} {pins : List (Addr × Obj)} {σ : St} {H : Hp} {s : Shared} {a : Addr} {xs ys : List V}
theorem SqL.of {K : PySem.W.Frag} (h : H a = some (.lst xs)) : SqL K H a xs := .inl (.inl h)
theorem SqT.of {K : PySem.W.Frag} (h : H a = some (.tup xs)) : SqT K H a xs := .inl (.inl h)
theorem Inv.list (I : Inv X pins σ H s) (h : SqL X.K H a xs) : ∃ its : List Value, Vals xs its ∧ PlainL s.heap a its.toArray ∧ xs.length ≤ sizeLine := by
  rcases h with h | ⟨o, its, n, hk, hc, hd, hs, hz, r⟩
  · obtain ⟨z, its, n, r, e⟩ := h.ok I.hok
    exact ⟨its, r, ⟨_, n, e, rfl, rfl, rfl⟩, z⟩
  · refine ⟨its.toList, r, ⟨o, n, I.kIn a o hk, hc, hd, by simpa using hs⟩, ?_⟩
    have e := r.length
    simp only [Array.length_toList] at e
    omega
theorem Inv.tuple (I : Inv X pins σ H s) (h : SqT X.K H a xs) : ∃ its : List Value, Vals xs its ∧ IsTup s.heap a its.toArray ∧ xs.length ≤ sizeLine := by
  rcases h with h | ⟨o, its, n, hk, hc, hs, hz, r⟩
  · obtain ⟨z, its, r, p⟩ := h.ok I.hok
    exact ⟨its, r, p, z⟩
  · refine ⟨its.toList, r, ⟨o, I.kIn a o hk, hc, n, by simpa using hs⟩, ?_⟩
    have e := r.length
    simp only [Array.length_toList] at e
    omega
theorem Inv.list_inj (I : Inv X pins σ H s) (h : SqL X.K H a xs) (h' : SqL X.K H a ys) : xs = ys := by
  obtain ⟨its, r, ⟨o, n, e, _, _, d⟩, _⟩ := I.list h
  obtain ⟨its', r', ⟨o', n', e', _, _, d'⟩, _⟩ := I.list h'
  rw [e] at e'; cases e'
  rw [d] at d'
  injection d' with d1 _
  have : its = its' := by simpa using congrArg Array.toList d1
  subst this
  exact r.inj r'
end

/-! ### another wish about exceptions -/
abbrev Cx.wish (X : Cx) (E : Value → Shared → Prop) : Cx := { X with xe := E }
/-- no exception leaves -/
abbrev Cx.nox (X : Cx) : Cx := X.wish fun _ _ => False
theorem Cx.Ok.wish {X : Cx} (ok : X.Ok) (E : Value → Shared → Prop) : (X.wish E).Ok :=
  ⟨ok.mod, ok.kind, ok.glob, ok.blt, ok.above, ok.inj, ok.has, ok.cab, ok.hd, ok.frames, ok.stk, ok.exf, ok.bs, ok.bsz, ok.noex, ok.exfs, ok.funs, ok.frf⟩
theorem Cx.Ok.unwish {X : Cx} {E : Value → Shared → Prop} (ok : (X.wish E).Ok) : X.Ok :=
  ⟨ok.mod, ok.kind, ok.glob, ok.blt, ok.above, ok.inj, ok.has, ok.cab, ok.hd, ok.frames, ok.stk, ok.exf, ok.bs, ok.bsz, ok.noex, ok.exfs, ok.funs, ok.frf⟩
section
variable {X : Cx} {pins : List (Addr × Obj)} {σ : St} {H : Hp} {s : Shared} {E : Value → Shared → Prop}
theorem Inv.wish (I : Inv X pins σ H s) (E : Value → Shared → Prop) : Inv (X.wish E) pins σ H s := ⟨I.ok.wish E, I.os, I.bare, I.base, I.loc, I.cell, I.free, I.freeC, I.pin, I.hok, I.len⟩
theorem Inv.unwish (I : Inv (X.wish E) pins σ H s) : Inv X pins σ H s := ⟨I.ok.unwish, I.os, I.bare, I.base, I.loc, I.cell, I.free, I.freeC, I.pin, I.hok, I.len⟩
theorem SP.unwish {D : Ends} {f : Flow} {s' : Shared} (h : SP (X.wish E) pins D f s') : SP X pins D f s' := by
  cases f with
  | next => obtain ⟨σ', H', I, q⟩ := h; exact ⟨σ', H', I.unwish, q⟩
  | brk => obtain ⟨σ', H', I, q⟩ := h; exact ⟨σ', H', I.unwish, q⟩
  | cont => obtain ⟨σ', H', I, q⟩ := h; exact ⟨σ', H', I.unwish, q⟩
  | ret u => obtain ⟨v, σ', H', I, r, q⟩ := h; exact ⟨v, σ', H', I.unwish, r, q⟩
theorem PSs.nox {st : List Stmt} {t : TS} (h : PSs X.nox st t) : PSs X st t := fun pins s σ H D I hw =>
  wpAny_mono (h pins s σ H D (I.wish _) hw) (fun _ _ q => q.unwish) fun _ _ z => False.elim z
end

/-! ### blocks and small statements -/
section
variable {X : Cx} {st : Stmt} {rest : List Stmt} {t u : TS} {e : Expr} {te : TE} {pos : Pos}
def tNext : TS := fun D σ H => D.nx σ H
def tSeq (t u : TS) : TS := fun D σ H => t { D with nx := u D } σ H
theorem pss_nil : PSs X [] tNext := fun _ _ σ H _ I h => wpAny_execs_nil ⟨σ, H, I, h⟩
theorem pss_cons (h1 : PS X st t) (h2 : PSs X rest u) : PSs X (st :: rest) (tSeq t u) := by
  intro pins s σ H D I h
  refine wpAny_execs_cons (thn (h1 pins s σ H { D with nx := u D } I h) fun f s1 q => ?_)
  cases f with
  | next =>
    obtain ⟨σ', H', I', q⟩ := q
    exact h2 pins s1 σ' H' D I' q
  | ret v => exact q
  | brk => exact q
  | cont => exact q
theorem pss_one (h1 : PS X st t) : PSs X [st] t := by
  intro pins s σ H D I h
  refine wpAny_execs_cons (thn (h1 pins s σ H D I h) fun f s1 q => ?_)
  cases f with
  | next => exact wpAny_execs_nil q
  | ret v => exact q
  | brk => exact q
  | cont => exact q
/-- in a def's body nothing is shown -/
theorem Inv.quiet {pins : List (Addr × Obj)} {σ : St} {H : Hp} {s : Shared} (I : Inv X pins σ H s) : interactive X.env = false := by simp [interactive, I.ok.kind]
/-- an expression whose value is dropped -/
def tDrop (te : TE) : TS := fun D σ H => te σ H fun _ H1 => D.nx σ H1
theorem ps_expr (he : PE X e te) (hs : swapsWith e none pos.line X.env = pure false := by rfl) : PS X (.Expr e pos) (tDrop te) := by
  intro pins s σ H D I h
  exact wpAny_Expr_any (thn (he pins s σ H _ I h) fun v s1 ⟨x, H1, I1, r1, q1⟩ => ⟨σ, H1, I1, q1⟩) I.quiet hs
def tRet (te : TE) : TS := fun D σ H => te σ H D.rt
theorem ps_ret (he : PE X e te) : PS X (.Return (some e) pos) (tRet te) := by
  intro pins s σ H D I h
  exact wpAny_Return_some (thn (he pins s σ H _ I h) fun v s1 ⟨x, H1, I1, r1, q1⟩ => ⟨x, σ, H1, I1, r1, q1⟩)
def tIfS (c : TT) (t u : TS) : TS := fun D σ H => c σ H fun b H1 => if b = true then t D σ H1 else u D σ H1
theorem ps_if {c : Expr} {a b : List Stmt} {tc : TT} (hc : PT X c tc) (ha : PSs X a t) (hb : PSs X b u) : PS X (.If c a b pos) (tIfS tc t u) := by
  intro pins s σ H D I h
  refine wpAny_If (thn (hc pins s σ H _ I h) fun d s1 ⟨H1, I1, q1⟩ => ?_)
  cases d with
  | true => exact ha pins s1 σ H1 D I1 q1
  | false => exact hb pins s1 σ H1 D I1 q1
end

/-! ### targets -/
abbrev TG := V → St → Hp → (St → Hp → Prop) → Prop
abbrev TGs := List V → St → Hp → (St → Hp → Prop) → Prop
def PG (X : Cx) (target : Expr) (t : TG) : Prop :=
  ∀ (pins : List (Addr × Obj)) (s : Shared) (σ : St) (H : Hp) (v : V) (u : Value) (Q : St → Hp → Prop), Inv X pins σ H s → RelV v u → t v σ H Q →
    wpAny (model X.prog X.w) X.A (assign target X.env u) (fun _ s' => ∃ σ' H', Inv X pins σ' H' s' ∧ Q σ' H') X.xe s
/-- several targets, one after another -/
def PGs (X : Cx) (ts : List Expr) (t : TGs) : Prop :=
  ∀ (pins : List (Addr × Obj)) (s : Shared) (σ : St) (H : Hp) (vs : List V) (us : List Value) (Q : St → Hp → Prop), Inv X pins σ H s → Vals vs us → t vs σ H Q →
    wpAny (model X.prog X.w) X.A (assignInOrder ((assignEach ts X.env).map (·.2)) us) (fun _ s' => ∃ σ' H', Inv X pins σ' H' s' ∧ Q σ' H') X.xe s
/-- o[i] = v, by values -/
abbrev TSet := V → V → V → Hp → (Hp → Prop) → Prop
/-- a op= b, by values -/
abbrev TIp := V → V → Hp → VK → Prop
def PIp (X : Cx) (op : Operator) (t : TIp) : Prop :=
  ∀ (pins : List (Addr × Obj)) (s : Shared) (σ : St) (H : Hp) (x y : V) (v u : Value) (Q : VK), Inv X pins σ H s → RelV x v → RelV y u → t x y H Q →
    wpAny (model X.prog X.w) X.A (inplaceOp op v u) (EP X pins σ Q) X.xe s
section
variable {X : Cx} {pos : Pos}
def gName (i : Nat) : TG := fun v σ H Q => Q (σ.set i (some v)) H
theorem pg_name {i : Nat} {x : Str} (hN : X.N.Nodup) (hi : X.N[i]? = some x) (hx : Loc X.env.scope x) (hf : X.fn x = true ∨ X.env.scope.names.lookup x = some .local := by first | exact .inl rfl | exact .inr rfl | assumption) : PG X (.Name x pos) (gName i) := by
  intro pins s σ H v u Q I r h
  exact wpAny_assign_Name (store_ok I hN hi hx r (fun s' I' => ⟨_, H, I', h⟩) hf)
def gNil : TGs := fun vs σ H Q => vs = [] ∧ Q σ H
def gCons (t : TG) (u : TGs) : TGs := fun vs σ H Q => ∃ v r, vs = v :: r ∧ t v σ H fun σ' H' => u r σ' H' Q
theorem pgs_nil : PGs X [] gNil := by
  intro pins s σ H vs us Q I r h
  obtain ⟨e, h⟩ := h
  subst e
  cases r
  exact assignInOrder_nil ⟨σ, H, I, h⟩
theorem pgs_cons {e : Expr} {es : List Expr} {t : TG} {u : TGs} (h1 : PG X e t) (h2 : PGs X es u)
    (hs : (assignEach (e :: es) X.env).map (·.2) = assign e X.env :: (assignEach es X.env).map (·.2) := by rfl) : PGs X (e :: es) (gCons t u) := by
  intro pins s σ H vs us Q I r h
  obtain ⟨v, vr, e1, h⟩ := h
  subst e1
  cases r with
  | cons r rr =>
    rw [hs]
    refine assignInOrder_cons (thn (h1 pins s σ H _ _ _ I r h) fun _ s1 ⟨σ1, H1, I1, q1⟩ => ?_)
    exact h2 pins s1 σ1 H1 _ _ Q I1 rr q1
/-- (a, b, ..) = a tuple of that length -/
def gTup (K : PySem.W.Frag) (n : Nat) (t : TGs) : TG := fun v σ H Q => ∃ a xs, v = .ref a ∧ SqT K H a xs ∧ xs.length = n ∧ t xs σ H Q
theorem pg_tup {es : List Expr} {k : Nat} {t : TGs} {n : Nat} (hc : X.calm = true) (h : PGs X es t)
    (hn : (assignEach es X.env).length = n := by rfl) (hst : (assignEach es X.env).findIdx? (·.1) = none := by rfl) : PG X (.Tuple es k pos) (gTup X.K n t) := by
  intro pins s σ H v u Q I r hw
  obtain ⟨a, xs, e1, hq, hl, hw⟩ := hw
  subst e1
  cases r
  obtain ⟨its, rv, ht, hz⟩ := I.tuple hq
  refine assign_Tuple_tuple (I.ok.hd hc) ht (by simp [hn, ← hl, rv.length]) hst fun h' hx => ?_
  have I1 : Inv X pins σ H { s with heap := h' } := I.kept (t' := s.toks) fun b o e => hx b o (Nat.ne_of_lt (Heap.lt_size e)) e
  exact h pins _ σ H xs _ Q I1 (by simpa using rv) hw
/-- target = value -/
def tAsg (te : TE) (g : TG) : TS := fun D σ H => te σ H fun x H1 => g x σ H1 D.nx
theorem ps_asg {tg e : Expr} {te : TE} {g : TG} (he : PE X e te) (hg : PG X tg g) (hs : swapsWithSole [tg] e pos.line X.env = pure false := by rfl) (hw : swappedStores [tg] e X.env = pure none := by rfl)
    (h1 : (assignEach [tg] X.env).map (·.2) = [assign tg X.env] := by rfl) : PS X (.Assign [tg] e pos) (tAsg te g) := by
  intro pins s σ H D I h
  refine wpAny_Assign_stores (thn (he pins s σ H _ I h) fun v s1 ⟨x, H1, I1, r1, q1⟩ => ?_) hs hw
  rw [h1]
  exact thn (hg pins s1 σ H1 x v _ I1 r1 q1) fun _ s2 q => q
/-- name = value -/
theorem ps_set {i : Nat} {x : Str} {e : Expr} {te : TE} {pos' : Pos} (hN : X.N.Nodup) (hi : X.N[i]? = some x) (hx : Loc X.env.scope x) (he : PE X e te) (hs : swapsWith e (some (.Name x pos')) pos.line X.env = pure false := by rfl) (hf : X.fn x = true ∨ X.env.scope.names.lookup x = some .local := by first | exact .inl rfl | exact .inr rfl | assumption) :
    PS X (.Assign [.Name x pos'] e pos) (tAsg te (gName i)) := by
  intro pins s σ H D I h
  refine wpAny_Assign_Name (thn (he pins s σ H _ I h) fun v s1 ⟨y, H1, I1, r1, q1⟩ => ?_) hs
  exact store_ok I1 hN hi hx r1 (fun s2 I2 => ⟨_, H1, I2, q1⟩) hf
/-- name op= e -/
def tAug (i : Nat) (te : TE) (ti : TIp) : TS := fun D σ H => ∃ x, σ[i]? = some (some x) ∧ te σ H fun y H1 => ti x y H1 fun z H2 => D.nx (σ.set i (some z)) H2
theorem ps_aug {i : Nat} {x : Str} {e : Expr} {te : TE} {op : Operator} {ti : TIp} {pos' : Pos} (hN : X.N.Nodup) (hi : X.N[i]? = some x) (hx : Loc X.env.scope x) (he : PE X e te) (ho : PIp X op ti) (hf : X.fn x = true ∨ X.env.scope.names.lookup x = some .local := by first | exact .inl rfl | exact .inr rfl | assumption) :
    PS X (.AugAssign (.Name x pos') op e pos) (tAug i te ti) := by
  intro pins s σ H D I h
  obtain ⟨v, e1, h⟩ := h
  obtain ⟨m, hn, hl⟩ := I.loc
  have vis : Vis X.env.scope x := by rcases hx with k | k; exact .inl k; exact .inr (.inl k)
  obtain ⟨u, r, l⟩ := hl i x v hi e1 vis
  refine wpAny_AugAssign_Name ?_
  have go : wpAny (model X.prog X.w) X.A (eval e X.env) (fun w s₂ => wpAny (model X.prog X.w) X.A (inplaceOp op u w) (fun r s₃ => wpAny (model X.prog X.w) X.A (storeName X.env x r) (fun _ => SP X pins D .next) X.xe s₃) X.xe s₂) X.xe s := by
    refine thn (he pins s σ H _ I h) fun w s1 ⟨y, H1, I1, r1, q1⟩ => ?_
    refine thn (ho pins s1 σ H1 v y u w _ I1 r r1 q1) fun z s2 ⟨zv, H2, I2, r2, q2⟩ => ?_
    exact store_ok I2 hN hi hx r2 (fun s3 I3 => ⟨_, H2, I3, q2⟩) hf
  rcases l with ⟨hk, hm⟩ | ⟨hk, c, hc, hcell⟩
  · exact wpAny_loadName_local I.ok.kind hk hn hm go
  · rcases hk with hk | hk
    · exact wpAny_loadName_cell I.ok.kind hk hc hcell go
    · rcases hx with k | k
      · have : X.env.scope.names.lookup x = some .free := hk
        rw [k] at this; cases this
      · have : X.env.scope.names.lookup x = some .free := hk
        rw [k] at this; cases this
end

/-! ### while -/
section
variable {X : Cx} {pos : Pos}
end

/-! ### what a loop or a comprehension walks -/
/-- at turn i: it yields x (the heap may grow), or it stops -/
structure It where
  go : Nat → Hp → Prop
  yld : Nat → Hp → V → Hp → Prop
  stop : Nat → Hp → Prop
/-- the iterator's own objects may turn: they are not the frame's, not pinned, younger than the entry (or a comprehension's own) -/
def FpOk (X : Cx) (pins : List (Addr × Obj)) (H : Hp) (b : Addr) : Prop :=
  H b = none ∧ b ≠ X.env.locals ∧ b ∉ X.fs ∧ (b ∈ X.ex ∨ X.s₀.heap.objs.size ≤ b) ∧ (∀ x c, X.env.cells.lookup x = some c → c ≠ b) ∧ ∀ p ∈ X.pn ++ pins, p.1 ≠ b
theorem Inv.fpOk {X : Cx} {pins : List (Addr × Obj)} {σ : St} {H H' : Hp} {s : Shared} {b : Addr} (I : Inv X pins σ H s) (hb : s.heap.objs.size ≤ b) (hn : H' b = none) : FpOk X pins H' b := by
  refine ⟨hn, Nat.ne_of_gt (Nat.lt_of_lt_of_le I.lt hb), I.nofs hb, .inr (Nat.le_trans I.sz hb), fun x c e z => ?_, fun p hp z => ?_⟩
  · obtain ⟨v, q⟩ := I.cell x c e
    exact absurd (Nat.lt_of_lt_of_le q.lt (by rw [z]; exact hb)) (Nat.lt_irrefl _)
  · exact absurd (Nat.lt_of_lt_of_le (Heap.lt_size (I.pin p hp).1) (by rw [z]; exact hb)) (Nat.lt_irrefl _)
structure Turn (P : Program) (w : World) (K : PySem.W.Frag) (tg : Expr) (J : It) (fp : List Addr) (it : Addr) (tn : Nat → Heap → Prop) : Prop where
  mem : it ∈ fp
  obj : ∀ i h, tn i h → ∀ b ∈ fp, ∃ o, h.get? b = some o ∧ ∀ v, o.data ≠ .cell v
  keep : ∀ i h h', tn i h → (∀ b ∈ fp, ∀ o, h.get? b = some o → h'.get? b = some o) → tn i h'
  item : ∀ (X : Cx), X.prog = P → X.w = w → X.K = K → X.calm = true → ∀ (i : Nat) (pins : List (Addr × Obj)) (s : Shared) (σ : St) (H : Hp) (E : Value → Shared → Prop), Inv X pins σ H s → (∀ b ∈ fp, FpOk X pins H b) → tn i s.heap → J.go i H →
    wpAny (model P w) X.A (pyNext (.ref it)) (fun r s1 => ∃ u, r = some u ∧
      wpAny (model P w) X.A (letOwnedTupleGo tg (.ref it) u) (fun _ s2 => ∃ x H', Inv X pins σ H' s2 ∧ RelV x u ∧ J.yld i H x H' ∧ tn (i + 1) s2.heap ∧ ∀ b ∈ fp, H' b = none) E s1) E s
  done : ∀ (X : Cx), X.prog = P → X.w = w → X.K = K → X.calm = true → ∀ (i : Nat) (pins : List (Addr × Obj)) (s : Shared) (σ : St) (H : Hp) (E : Value → Shared → Prop), Inv X pins σ H s → (∀ b ∈ fp, FpOk X pins H b) → tn i s.heap → J.stop i H →
    wpAny (model P w) X.A (pyNext (.ref it)) (fun r s1 => r = none ∧ Inv X pins σ H s1) E s
  self : ∀ (A : Around) (i : Nat) (s : Shared) (Q : Value → Shared → Prop) (E : Value → Shared → Prop), tn i s.heap → Q (.ref it) s → wpAny (model P w) A (pyIter (.ref it)) Q E s
abbrev TI := St → Hp → (It → Hp → Prop) → Prop
/-- an iterator has come -/
def PIE (X : Cx) (pins : List (Addr × Obj)) (σ : St) (tg : Expr) (R : It → Hp → Prop) (itv : Value) (s2 : Shared) : Prop :=
  ∃ (it : Addr) (fp : List Addr) (tn : Nat → Heap → Prop) (J : It) (H' : Hp), itv = .ref it ∧ Inv X pins σ H' s2 ∧ Turn X.prog X.w X.K tg J fp it tn ∧ tn 0 s2.heap ∧ (∀ b ∈ fp, FpOk X pins H' b) ∧ R J H'
def PI (X : Cx) (tg iter : Expr) (wi : TI) : Prop :=
  ∀ (pins : List (Addr × Obj)) (s : Shared) (σ : St) (H : Hp) (R : It → Hp → Prop), Inv X pins σ H s → wi σ H R →
    wpAny (model X.prog X.w) X.A (eval iter X.env) (fun v s1 => wpAny (model X.prog X.w) X.A (pyIter v) (PIE X pins σ tg R) X.xe s1) X.xe s

/-- the step ahead of the store is nothing for an iterator that keeps no tuple -/
theorem go_of {M : Model} {A : Around} {E : Value → Shared → Prop} {s : Shared} {tg : Expr} {it : Addr} {u : Value} {o : Obj} {n : String} {vs : Array Value} {Q : Unit → Shared → Prop} (ho : s.heap.get? it = some o) (hc : o.cls = .type n) (hd : o.data = .fields vs)
    (hn : ["enumerate", "zip", "dict_itemiterator", "dict_reverseitemiterator", "odict_iterator", "itertools.zip_longest", "itertools.pairwise"].contains n = false) (hQ : Q () s) : wpAny M A (letOwnedTupleGo tg (.ref it) u) Q E s := by
  unfold letOwnedTupleGo
  cases tg <;> first
    | exact wpAny_pure hQ
    | (cases u <;> first
        | exact wpAny_pure hQ
        | (refine wpAny_bind (wpAny_load ho ?_)
           rw [hc, hd]
           show wpAny M A (if (["enumerate", "zip", "dict_itemiterator", "dict_reverseitemiterator", "odict_iterator", "itertools.zip_longest", "itertools.pairwise"].contains n && vs[0]? == some (rawInt _)) = true then _ else _) Q E s
           rw [if_neg (by intro h; rw [hn, Bool.false_and] at h; cases h)]
           exact wpAny_pure hQ))

/-- the list at a, as it stands at each turn (a loop may append to it) -/
def Itl (K : PySem.W.Frag) (a : Addr) : It :=
  ⟨fun i H => ∃ xs x, SqL K H a xs ∧ xs[i]? = some x, fun i H x H' => H' = H ∧ ∀ xs, SqL K H a xs → xs[i]? = some x, fun i H => ∃ xs, SqL K H a xs ∧ xs.length ≤ i⟩
/-- lo, lo + 1, .. (n of them) -/
def Itr (lo : Int) (n : Nat) : It := ⟨fun i _ => i < n, fun i H x H' => H' = H ∧ x = .int (lo + i), fun i _ => n ≤ i⟩
theorem turn_list {P : Program} {w : World} {K : PySem.W.Frag} {tg : Expr} (a it : Addr) : Turn P w K tg (Itl K a) [it] it (fun i h => h.IsListIter it a i) where
  mem := by simp
  obj := fun i h st b hb => by
    have e : b = it := by simpa using hb
    subst e
    obtain ⟨o, e, c, d⟩ := st
    exact ⟨o, e, fun v z => by rw [d] at z; cases z⟩
  keep := fun i h h' st k => st.at fun o e => k it (by simp) o e
  item := by
    intro X hP hw hK hc i pins s σ H E I hf st hg
    subst hP hw hK
    obtain ⟨xs, x, hq, hx⟩ := hg
    obtain ⟨its, rv, p, hz⟩ := I.list hq
    obtain ⟨u, hu, ru⟩ := rv.get hx
    obtain ⟨f0, f1, f2, f3, f4, f5⟩ := hf it (by simp)
    refine wpAny_pyNext_list_item st p.isList (x := u) (by simpa using hu) fun h' st' sb => ?_
    have I1 : Inv X pins σ H { s with heap := h' } := I.turned (t' := s.toks) (fun b o hb e => (sb.2 b hb).trans e) f0 f1 f3 f4 f5
    obtain ⟨o, e, c, d⟩ := id st'
    exact ⟨u, rfl, go_of (s := { s with heap := h' }) e c d (by decide) ⟨x, H, I1, ru, ⟨rfl, fun ys hy => by rw [I.list_inj hy hq]; exact hx⟩, st', fun b hb => (hf b hb).1⟩⟩
  done := by
    intro X hP hw hK hc i pins s σ H E I hf st hg
    subst hP hw hK
    obtain ⟨xs, hq, hx⟩ := hg
    obtain ⟨its, rv, p, hz⟩ := I.list hq
    obtain ⟨f0, f1, f2, f3, f4, f5⟩ := hf it (by simp)
    have hl := rv.length
    exact wpAny_pyNext_list_end (I.ok.hd hc) st p.isList (by simp; omega) fun h' eb => ⟨rfl, I.turned (t' := s.toks) (fun b o hb e => eb b o hb e) f0 f1 f3 f4 f5⟩
  self := fun _ _ _ _ _ st h => wpAny_pyIter_listiter st h
theorem turn_range {P : Program} {w : World} {K : PySem.W.Frag} {tg : Expr} (it : Addr) (lo : Int) (n : Nat) : Turn P w K tg (Itr lo n) [it] it (fun i h => IsRangeIter h it (lo + (i : Nat) * 1) ((n : Int) - (i : Nat)) 1) where
  mem := by simp
  obj := fun i h st b hb => by
    have e : b = it := by simpa using hb
    subst e
    exact ⟨_, st, fun v z => by
      have z' : Data.fields _ = Data.cell v := z
      cases z'⟩
  keep := fun i h h' st k => k it (by simp) _ st
  item := by
    intro X hP hw hK hc i pins s σ H E I hf st hg
    subst hP hw hK
    obtain ⟨f0, f1, f2, f3, f4, f5⟩ := hf it (by simp)
    have W := Walks.range (prog := X.prog) (w := X.w) (I.ok.hd hc) it lo 1 n
    refine W.item i s _ _ hg st fun v h' tk hv st' kk => ?_
    obtain ⟨t, rfl⟩ := hv
    have I1 : Inv X pins σ H { s with heap := h', toks := tk } := I.turned (fun b o hb e => kk b o (by simpa using hb) e) f0 f1 f3 f4 f5
    refine ⟨_, rfl, go_of (s := { s with heap := h', toks := tk }) (n := "range_iterator") st' rfl rfl (by decide) ⟨.int (lo + i), H, I1, ⟨t, ?_⟩, ⟨rfl, rfl⟩, st', fun b hb => (hf b hb).1⟩⟩
    rw [Int.mul_one]
  done := by
    intro X hP hw hK hc i pins s σ H E I hf st hg
    subst hP hw hK
    obtain ⟨f0, f1, f2, f3, f4, f5⟩ := hf it (by simp)
    exact wpAny_pyNext_range_end (I.ok.hd hc) st (by have : n ≤ i := hg; omega) fun h' eb => ⟨rfl, I.turned (t' := s.toks) (fun b o hb e => eb b o hb e) f0 f1 f3 f4 f5⟩
  self := fun _ _ _ _ _ st h => wpAny_pyIter_rangeiter st h
end L2

namespace L2
open PySem PySem.Spec PyProof.Rows
section
variable {X : Cx} {tg : Expr}
def iList (K : PySem.W.Frag) (tl : TE) : TI := fun σ H R => tl σ H fun x H1 => ∃ a, x = .ref a ∧ (∃ xs, SqL K H1 a xs) ∧ R (Itl K a) H1
theorem pi_list {l : Expr} {tl : TE} (hl : PE X l tl) : PI X tg l (iList X.K tl) := by
  intro pins s σ H R I h
  refine thn (hl pins s σ H _ I h) fun v s1 ⟨x, H1, I1, r1, q1⟩ => ?_
  obtain ⟨a, e, ⟨xs, hq⟩, q⟩ := q1
  subst e
  cases r1
  obtain ⟨its, rv, p, hz⟩ := I1.list hq
  refine wpAny_pyIter_list p.isList ?_
  refine ⟨s1.heap.objs.size, [s1.heap.objs.size], _, _, H1, rfl, I1.kept (t' := s1.toks) fun b o e => Heap.get?_push_of_some _ e, turn_list a _, ⟨_, Heap.get?_push_size _ rfl, rfl, rfl⟩, fun b hb => ?_, q⟩
  have e : b = s1.heap.objs.size := by simpa using hb
  subst e
  exact I1.fpOk (Nat.le_refl _) (I1.hok.fresh (Nat.le_refl _))
/-- a range object just made, walked -/
theorem range_it {pins : List (Addr × Obj)} {σ : St} {H : Hp} {s : Shared} {R : It → Hp → Prop} {E : Value → Shared → Prop} {lo hi : Int} {t u v : Tok} {tk : Nat} (I : Inv X pins σ H s) (h1 : -(2 ^ 62) ≤ lo) (h2 : lo < 2 ^ 62) (h3 : -(2 ^ 62) ≤ hi) (h4 : hi < 2 ^ 62)
    (q : R (Itr lo (hi - lo).toNat) H) : wpAny (model X.prog X.w) X.A (pyIter (.ref s.heap.objs.size)) (PIE X pins σ tg R) E { s with heap := s.heap.push { cls := .type "range", data := .fields #[.int lo t, .int hi u, .int 1 v] }, toks := tk } := by
  refine wpAny_pyIter_range (IsRange.new ..) (small_one h1 h2 h3 h4) ?_
  have I1 : Inv X pins σ H { s with heap := s.heap.push { cls := .type "range", data := .fields #[.int lo t, .int hi u, .int 1 v] }, toks := tk } := I.kept fun b o e => Heap.get?_push_of_some _ e
  refine ⟨(s.heap.push { cls := .type "range", data := .fields #[.int lo t, .int hi u, .int 1 v] }).objs.size, [(s.heap.push { cls := .type "range", data := .fields #[.int lo t, .int hi u, .int 1 v] }).objs.size], _, _, H, rfl,
    I1.kept (t' := tk) fun b o e => Heap.get?_push_of_some _ e, turn_range _ lo (hi - lo).toNat, ?_, fun b hb => ?_, q⟩
  · have e1 : lo + ((0 : Nat) : Int) * 1 = lo := by simp
    have e2 : (((hi - lo).toNat : Nat) : Int) - ((0 : Nat) : Int) = Builtin.Range.rangeSize lo hi 1 := by rw [rangeSize_one]; split <;> omega
    show IsRangeIter _ _ (lo + ((0 : Nat) : Int) * 1) ((((hi - lo).toNat : Nat) : Int) - ((0 : Nat) : Int)) 1
    rw [e1, e2]
    exact Heap.get?_push_size _ rfl
  · have e : b = (s.heap.push { cls := .type "range", data := .fields #[.int lo t, .int hi u, .int 1 v] }).objs.size := by simpa using hb
    subst e
    exact I1.fpOk (Nat.le_refl _) (I1.hok.fresh (Nat.le_refl _))
def iRng1 (ta : TA) : TI := fun σ H R => ta σ H fun vs H1 => ∃ j : Int, vs = [.int j] ∧ -(2 ^ 62) ≤ j ∧ j < 2 ^ 62 ∧ R (Itr 0 j.toNat) H1
def iRng2 (ta : TA) : TI := fun σ H R => ta σ H fun vs H1 => ∃ i j : Int, vs = [.int i, .int j] ∧ (-(2 ^ 62) ≤ i ∧ i < 2 ^ 62 ∧ -(2 ^ 62) ≤ j ∧ j < 2 ^ 62) ∧ R (Itr i (j - i).toNat) H1
theorem pi_range1 {a : Expr} {ta : TA} {p pos : Pos} (hg : Gl X "range") (hm : X.mg "range" = none) (ha : PA X [a] ta) (hs : starEach [a] X.env = [(false, eval a X.env)] := by rfl) : PI X tg (.Call (.Name "range" p) [a] [] pos) (iRng1 ta) := by
  intro pins s σ H R I h
  refine Call_ (ld_blt I hg hm boot_range (PyProof.Rows.callWith_type1 (thn (ha pos pins s σ H _ I h) fun us s1 ⟨vs, H1, I1, r1, q1⟩ => ?_) hs rfl))
  obtain ⟨j, e, q1, q2, q⟩ := q1
  subst e
  cases r1 with
  | cons r rr =>
    cases rr
    obtain ⟨t, rfl⟩ := r
    exact call_range_1 (range_it I1 (by omega) (by omega) q1 q2 (by simpa using q))
theorem pi_range2 {a b : Expr} {ta : TA} {p pos : Pos} (hg : Gl X "range") (hm : X.mg "range" = none) (ha : PA X [a, b] ta) (hs : starEach [a, b] X.env = [(false, eval a X.env), (false, eval b X.env)] := by rfl) (hs2 : starEach [b] X.env = [(false, eval b X.env)] := by rfl) :
    PI X tg (.Call (.Name "range" p) [a, b] [] pos) (iRng2 ta) := by
  intro pins s σ H R I h
  refine Call_ (ld_blt I hg hm boot_range (PyProof.Rows.callWith_type1 (thn (ha pos pins s σ H _ I h) fun us s1 ⟨vs, H1, I1, r1, q1⟩ => ?_) (by rw [hs, hs2]) (by rw [hs2]; rfl)))
  obtain ⟨i, j, e, ⟨q1, q2, q3, q4⟩, q⟩ := q1
  subst e
  cases r1 with
  | cons r rr =>
    cases rr with
    | cons r' rr =>
      cases rr
      obtain ⟨t, rfl⟩ := r
      obtain ⟨t', rfl⟩ := r'
      exact call_range_2 (range_it I1 q1 q2 q3 q4 q)

/-! ### for -/
/-- W: the invariant by the turn and a measure; N: what the body is to reach -/
def tFor (wi : TI) (g : TG) (tb : TS) : TS := fun D σ H => wi σ H fun J H1 => ∃ W : Nat → Nat → St → Hp → Prop, (∃ m, W 0 m σ H1) ∧ ∀ i m σ H, W i m σ H →
  (J.stop i H ∧ D.nx σ H) ∨ (J.go i H ∧ ∃ N : St → Hp → Prop, (∀ σ' H', N σ' H' → ∃ m', m' < m ∧ W (i + 1) m' σ' H') ∧ ∀ x H', J.yld i H x H' → g x σ H' fun σ2 H2 => tb { D with nx := N, ct := N, bk := D.nx } σ2 H2)
/-- the records at fp as they stand -/
def pinsAt (fp : List Addr) (h : Heap) : List (Addr × Obj) := fp.filterMap fun b => (h.get? b).map fun o => (b, o)
theorem mem_pinsAt {fp : List Addr} {h : Heap} {b : Addr} {o : Obj} (hb : b ∈ fp) (e : h.get? b = some o) : (b, o) ∈ pinsAt fp h := List.mem_filterMap.mpr ⟨b, hb, by rw [e]; rfl⟩
theorem of_pinsAt {fp : List Addr} {h : Heap} {p : Addr × Obj} (hp : p ∈ pinsAt fp h) : p.1 ∈ fp ∧ h.get? p.1 = some p.2 := by
  obtain ⟨b, hb, e⟩ := List.mem_filterMap.mp hp
  cases q : h.get? b with
  | none => rw [q] at e; cases e
  | some o =>
    rw [q] at e
    have e' : (b, o) = p := Option.some.inj e
    subst e'
    exact ⟨hb, q⟩
theorem Inv.pinned {pins : List (Addr × Obj)} {σ : St} {H : Hp} {s : Shared} {fp : List Addr} (I : Inv X pins σ H s) (hf : ∀ b ∈ fp, FpOk X pins H b) (ho : ∀ b ∈ fp, ∃ o, s.heap.get? b = some o ∧ ∀ v, o.data ≠ .cell v) : Inv X (pins ++ pinsAt fp s.heap) σ H s :=
  I.pins_of fun p hp => (List.mem_append.mp hp).elim (fun z => I.pin p (List.mem_append_right _ z)) fun z => by
    obtain ⟨hb, e⟩ := of_pinsAt z
    obtain ⟨f0, f1, f2, _⟩ := hf p.1 hb
    obtain ⟨o, e', d⟩ := ho p.1 hb
    rw [e] at e'; cases e'
    exact ⟨e, f0, f1, f2, d⟩
theorem Inv.unpinned {pins pl : List (Addr × Obj)} {σ : St} {H : Hp} {s : Shared} (I : Inv X (pins ++ pl) σ H s) : Inv X pins σ H s := I.pins_of fun p hp => I.pin p (List.mem_append_right _ (List.mem_append_left _ hp))
theorem ps_for {iter : Expr} {body : List Stmt} {wi : TI} {g : TG} {tb : TS} {pos : Pos} (hp : PassesOwn (model X.prog X.w) X.A X.env X.xe) (hc : X.calm = true) (hi : PI X tg iter wi) (hg : PG X tg g) (hb : PSs X body tb)
    (hs : ∀ x, foldedSetIterable iter X.env x = pure x := by intro _; rfl) : PS X (.For tg iter body [] pos) (tFor wi g tb) := by
  intro pins s σ H D I h
  refine wpAny_For (thn (hi pins s σ H _ I h) fun v s1 h1 => thn h1 fun itv s2 h2 => ?_) hs
  obtain ⟨it, fp, tn, J, H2, e, I2, T, st2, f2, W, ⟨m0, w0⟩, turn⟩ := h2
  subst e
  -- what stays true of the iterator's objects through the loop
  have stat : ∀ {H' : Hp}, (∀ b ∈ fp, H' b = none) → ∀ b ∈ fp, FpOk X pins H' b := fun hn b hb => ⟨hn b hb, (f2 b hb).2⟩
  refine codeAny_forLoop_any (fun n s' => ∃ i σ' H', Inv X pins σ' H' s' ∧ tn i s'.heap ∧ (∀ b ∈ fp, H' b = none) ∧ W i n σ' H') ?_ m0 ⟨0, σ, H2, I2, st2, fun b hb => (f2 b hb).1, w0⟩
  rintro n s3 ⟨i, σ3, H3, I3, st3, fr3, w3⟩
  rcases turn i n σ3 H3 w3 with ⟨stop, qn⟩ | ⟨go, N, hN, step⟩
  · refine wpAny_passesOwn hp (thn (T.done X rfl rfl rfl hc i pins s3 σ3 H3 X.xe I3 (stat fr3) st3 stop) fun r s4 ⟨hr, I4⟩ => ?_)
    subst hr
    exact wpAny_execs_nil ⟨σ3, H3, I4, qn⟩
  · refine wpAny_passesOwn hp (thn (T.item X rfl rfl rfl hc i pins s3 σ3 H3 X.xe I3 (stat fr3) st3 go) fun r s4 ⟨u, hr, h4⟩ => ?_)
    subst hr
    refine wpAny_passesOwn hp (thn h4 fun _ s5 ⟨x, H5, I5, r5, y5, st5, fr5⟩ => ?_)
    have I5' := I5.pinned (stat fr5) (T.obj _ _ st5)
    refine wpAny_passesOwn hp (thn (hg _ s5 σ3 H5 x u _ I5' r5 (step x H5 y5)) fun _ s6 ⟨σ6, H6, I6, q6⟩ => ?_)
    refine wpAny_passesOwn hp (thn (hb _ s6 σ6 H6 _ I6 q6) fun f s7 q7 => ?_)
    have again : ∀ {σ7 : St} {H7 : Hp}, Inv X (pins ++ pinsAt fp s5.heap) σ7 H7 s7 → N σ7 H7 → ∃ m, m < n ∧ ∃ i σ' H', Inv X pins σ' H' s7 ∧ tn i s7.heap ∧ (∀ b ∈ fp, H' b = none) ∧ W i m σ' H' := fun {σ7 H7} I7 n7 => by
      obtain ⟨m', hm, w7⟩ := hN σ7 H7 n7
      refine ⟨m', hm, i + 1, σ7, H7, I7.unpinned, T.keep _ _ _ st5 fun b hb o e => (I7.pin (b, o) (List.mem_append_right _ (List.mem_append_right _ (mem_pinsAt hb e)))).1, fun b hb => ?_, w7⟩
      obtain ⟨o, e, d⟩ := T.obj _ _ st5 b hb
      exact (I7.pin (b, o) (List.mem_append_right _ (List.mem_append_right _ (mem_pinsAt hb e)))).2.1
    cases f with
    | next => obtain ⟨σ7, H7, I7, n7⟩ := q7; exact again I7 n7
    | cont => obtain ⟨σ7, H7, I7, n7⟩ := q7; exact again I7 n7
    | brk => obtain ⟨σ7, H7, I7, q7⟩ := q7; exact ⟨σ7, H7, I7.unpinned, q7⟩
    | ret v => obtain ⟨x7, σ7, H7, I7, r7, q7⟩ := q7; exact ⟨x7, σ7, H7, I7.unpinned, r7, q7⟩
end

/-! ### the forms one uses -/
/-- over a list that the body leaves as it is -/
theorem for_list {K : PySem.W.Frag} {a : Addr} {xs : List V} {g : TG} {tb : TS} {D : Ends} {σ : St} {H : Hp} (Pv : Nat → St → Hp → Prop) (h0 : Pv 0 σ H) (hl : ∀ i σ H, i ≤ xs.length → Pv i σ H → SqL K H a xs)
    (hs : ∀ i x σ H, xs[i]? = some x → Pv i σ H → g x σ H fun σ2 H2 => tb { D with nx := Pv (i + 1), ct := Pv (i + 1), bk := D.nx } σ2 H2) (hd : ∀ σ H, Pv xs.length σ H → D.nx σ H) :
    ∃ W : Nat → Nat → St → Hp → Prop, (∃ m, W 0 m σ H) ∧ ∀ i m σ H, W i m σ H →
      ((Itl K a).stop i H ∧ D.nx σ H) ∨ ((Itl K a).go i H ∧ ∃ N : St → Hp → Prop, (∀ σ' H', N σ' H' → ∃ m', m' < m ∧ W (i + 1) m' σ' H') ∧ ∀ x H', (Itl K a).yld i H x H' → g x σ H' fun σ2 H2 => tb { D with nx := N, ct := N, bk := D.nx } σ2 H2) := by
  refine ⟨fun i m σ H => m = xs.length - i ∧ i ≤ xs.length ∧ Pv i σ H, ⟨xs.length, by simp, Nat.zero_le _, h0⟩, ?_⟩
  rintro i m σ H ⟨rfl, hi, p⟩
  have q := hl i σ H hi p
  by_cases hlt : i < xs.length
  · refine .inr ⟨⟨xs, xs[i], q, by simp [hlt]⟩, Pv (i + 1), fun σ' H' p' => ⟨xs.length - (i + 1), by omega, rfl, hlt, p'⟩, fun x H' y => ?_⟩
    obtain ⟨e, y⟩ := y
    subst e
    exact hs i x σ _ (y xs q) p
  · have e : i = xs.length := by omega
    subst e
    exact .inl ⟨⟨xs, q, Nat.le_refl _⟩, hd σ H p⟩
theorem for_range {lo : Int} {n : Nat} {g : TG} {tb : TS} {D : Ends} {σ : St} {H : Hp} (Pv : Nat → St → Hp → Prop) (h0 : Pv 0 σ H)
    (hs : ∀ i σ H, i < n → Pv i σ H → g (.int (lo + i)) σ H fun σ2 H2 => tb { D with nx := Pv (i + 1), ct := Pv (i + 1), bk := D.nx } σ2 H2) (hd : ∀ σ H, Pv n σ H → D.nx σ H) :
    ∃ W : Nat → Nat → St → Hp → Prop, (∃ m, W 0 m σ H) ∧ ∀ i m σ H, W i m σ H →
      ((Itr lo n).stop i H ∧ D.nx σ H) ∨ ((Itr lo n).go i H ∧ ∃ N : St → Hp → Prop, (∀ σ' H', N σ' H' → ∃ m', m' < m ∧ W (i + 1) m' σ' H') ∧ ∀ x H', (Itr lo n).yld i H x H' → g x σ H' fun σ2 H2 => tb { D with nx := N, ct := N, bk := D.nx } σ2 H2) := by
  refine ⟨fun i m σ H => m = n - i ∧ i ≤ n ∧ Pv i σ H, ⟨n, by simp, Nat.zero_le _, h0⟩, ?_⟩
  rintro i m σ H ⟨rfl, hi, p⟩
  by_cases hlt : i < n
  · refine .inr ⟨hlt, Pv (i + 1), fun σ' H' p' => ⟨n - (i + 1), by omega, rfl, hlt, p'⟩, fun x H' y => ?_⟩
    obtain ⟨e, y⟩ := y
    subst e y
    exact hs i σ _ hlt p
  · have e : i = n := by omega
    subst e
    exact .inl ⟨Nat.le_refl _, hd σ H p⟩
end L2

namespace L2
open PySem PySem.Spec PyProof.Rows

abbrev R2 := V → V → Hp → VK → Prop
/-- a two-place operation on values: f is binaryOp op, inplaceOp op or compareOp op -/
def OpR (X : Cx) (f : Value → Value → Sem Value) (r : R2) : Prop :=
  ∀ (pins : List (Addr × Obj)) (s : Shared) (σ : St) (H : Hp) (x y : V) (v u : Value) (Q : VK), Inv X pins σ H s → RelV x v → RelV y u → r x y H Q →
    wpAny (model X.prog X.w) X.A (f v u) (EP X pins σ Q) X.xe s
/-- a one-place operation -/
def UnR (X : Cx) (f : Value → Sem Value) (r : V → Hp → VK → Prop) : Prop :=
  ∀ (pins : List (Addr × Obj)) (s : Shared) (σ : St) (H : Hp) (x : V) (v : Value) (Q : VK), Inv X pins σ H s → RelV x v → r x H Q →
    wpAny (model X.prog X.w) X.A (f v) (EP X pins σ Q) X.xe s
/-- a call of a value that is known (a builtin, a type) with values -/
def CallR (X : Cx) (f : Value) (r : List V → Hp → VK → Prop) : Prop :=
  ∀ (pins : List (Addr × Obj)) (s : Shared) (σ : St) (H : Hp) (xs : List V) (us : List Value) (Q : VK), Inv X pins σ H s → Vals xs us → r xs H Q →
    wpAny (model X.prog X.w) X.A (call f us) (EP X pins σ Q) X.xe s
/-- a value's truth -/
def TruR (X : Cx) (r : V → Hp → (Bool → Hp → Prop) → Prop) : Prop :=
  ∀ (pins : List (Addr × Obj)) (s : Shared) (σ : St) (H : Hp) (x : V) (v : Value) (Q : Bool → Hp → Prop), Inv X pins σ H s → RelV x v → r x H Q →
    wpAny (model X.prog X.w) X.A (truthy v) (TP X pins σ Q) X.xe s

def tOp (r : R2) (ta tb : TE) : TE := fun σ H Q => ta σ H fun x H1 => tb σ H1 fun y H2 => r x y H2 Q
def tUn (r : V → Hp → VK → Prop) (ta : TE) : TE := fun σ H Q => ta σ H fun x H1 => r x H1 Q
/-- ints in, under C, and a value out -/
def rI (C : Int → Int → Prop) (g : Int → Int → V) : R2 := fun x y H Q => ∃ i j, x = .int i ∧ y = .int j ∧ C i j ∧ Q (g i j) H
def rI0 (g : Int → Int → V) : R2 := fun x y H Q => ∃ i j, x = .int i ∧ y = .int j ∧ Q (g i j) H
def rU (g : Int → V) : V → Hp → VK → Prop := fun x H Q => ∃ i, x = .int i ∧ Q (g i) H

section
variable {X : Cx} {a b c : Expr} {ta tb tc : TE} {pos : Pos}

theorem binT (ha : PE X a ta) (hb : PE X b tb) {pins : List (Addr × Obj)} {s : Shared} {σ : St} {H : Hp} {R : V → V → Hp → Prop} (I : Inv X pins σ H s)
    (h : ta σ H fun x H1 => tb σ H1 fun y H2 => R x y H2) {Q : Value → Shared → Prop} {f : Value → Value → Sem Value}
    (hf : ∀ v u s2 x y H2, Inv X pins σ H2 s2 → RelV x v → RelV y u → R x y H2 → wpAny (model X.prog X.w) X.A (f v u) Q X.xe s2) :
    wpAny (model X.prog X.w) X.A (eval a X.env) (fun v s₁ => wpAny (model X.prog X.w) X.A (eval b X.env) (fun u s₂ => wpAny (model X.prog X.w) X.A (f v u) Q X.xe s₂) X.xe s₁) X.xe s := by
  refine thn (ha pins s σ H _ I h) fun v s1 ⟨x, H1, I1, r1, q1⟩ => ?_
  refine thn (hb pins s1 σ H1 _ I1 q1) fun u s2 ⟨y, H2, I2, r2, q2⟩ => ?_
  exact hf v u s2 x y H2 I2 r1 r2 q2

theorem pe_op {op : Operator} {r : R2} (ho : OpR X (binaryOp op) r) (ha : PE X a ta) (hb : PE X b tb) : PE X (.BinOp a op b pos) (tOp r ta tb) := by
  intro pins s σ H Q I h
  exact wpAny_BinOp (binT ha hb I h fun v u s2 x y H2 I2 rx ry q => ho pins s2 σ H2 x y v u Q I2 rx ry q)
theorem pe_un {op : UnaryOp} {r : V → Hp → VK → Prop} (ho : UnR X (unaryOp op) r) (ha : PE X a ta) : PE X (.UnaryOp op a pos) (tUn r ta) := by
  intro pins s σ H Q I h
  exact UnaryOp_ (thn (ha pins s σ H _ I h) fun v s1 ⟨x, H1, I1, r1, q1⟩ => ho pins s1 σ H1 x v Q I1 r1 q1)
/-! ### ints -/
theorem opI {f : Value → Value → Sem Value} {C : Int → Int → Prop} {g : Int → Int → Int}
    (rule : ∀ (i j : Int) (t u : Tok) (s : Shared) (Q : Value → Shared → Prop) (E : Value → Shared → Prop), C i j → Q (.int (g i j) s.toks) { s with toks := s.toks + 1 } → wpAny (model X.prog X.w) X.A (f (.int i t) (.int j u)) Q E s) :
    OpR X f (rI C fun i j => .int (g i j)) := by
  intro pins s σ H x y v u Q I rx ry h
  obtain ⟨i, j, rfl, rfl, hc, q⟩ := h
  obtain ⟨t, rfl⟩ := rx
  obtain ⟨t', rfl⟩ := ry
  exact rule i j t t' s _ _ hc ⟨.int (g i j), H, I.tok _, ⟨_, rfl⟩, q⟩
theorem opI0 {f : Value → Value → Sem Value} {g : Int → Int → Int}
    (rule : ∀ (i j : Int) (t u : Tok) (s : Shared) (Q : Value → Shared → Prop) (E : Value → Shared → Prop), Q (.int (g i j) s.toks) { s with toks := s.toks + 1 } → wpAny (model X.prog X.w) X.A (f (.int i t) (.int j u)) Q E s) :
    OpR X f (rI0 fun i j => .int (g i j)) := by
  intro pins s σ H x y v u Q I rx ry h
  obtain ⟨i, j, rfl, rfl, q⟩ := h
  obtain ⟨t, rfl⟩ := rx
  obtain ⟨t', rfl⟩ := ry
  exact rule i j t t' s _ _ ⟨.int (g i j), H, I.tok _, ⟨_, rfl⟩, q⟩
theorem opB0 {f : Value → Value → Sem Value} {g : Int → Int → Bool}
    (rule : ∀ (i j : Int) (t u : Tok) (s : Shared) (Q : Value → Shared → Prop) (E : Value → Shared → Prop), Q (.bool (g i j)) s → wpAny (model X.prog X.w) X.A (f (.int i t) (.int j u)) Q E s) :
    OpR X f (rI0 fun i j => .bl (g i j)) := by
  intro pins s σ H x y v u Q I rx ry h
  obtain ⟨i, j, rfl, rfl, q⟩ := h
  obtain ⟨t, rfl⟩ := rx
  obtain ⟨t', rfl⟩ := ry
  exact rule i j t t' s _ _ ⟨.bl (g i j), H, I, rfl, q⟩

def CDiv (i j : Int) : Prop := 0 < j ∧ j < 1073741824
def CPow (i j : Int) : Prop := 0 ≤ j ∧ j ≤ 1000000 ∧ i.natAbs < 2 ^ 64
def CMul (i j : Int) : Prop := (-(2 ^ 64) < i ∧ i < 2 ^ 64) ∨ (-(2 ^ 64) < j ∧ j < 2 ^ 64)
theorem CMul.ok {i j : Int} (h : CMul i j) : IntMulOk i j := by
  rcases h with ⟨h1, h2⟩ | ⟨h1, h2⟩
  · exact .of_left (intBits_le_64 h1 h2)
  · exact .of_right (intBits_le_64 h1 h2)
theorem op_add : OpR X (binaryOp .Add) (rI0 fun i j => .int (i + j)) := opI0 fun _ _ _ _ _ _ _ q => add_int q
theorem op_sub : OpR X (binaryOp .Sub) (rI0 fun i j => .int (i - j)) := opI0 fun _ _ _ _ _ _ _ q => sub_int q
theorem op_mul : OpR X (binaryOp .Mult) (rI CMul fun i j => .int (i * j)) := opI fun _ _ _ _ _ _ _ hc q => mul_int q hc.ok
/-- // by a positive divisor -/
theorem op_fdiv : OpR X (binaryOp .FloorDiv) (rI CDiv fun i j => .int (i / j)) := opI fun i j _ _ _ _ _ hc q => by
  have h1 : (0 : Int) < j := hc.1
  have h2 : j < 1073741824 := hc.2
  exact floordiv_int (by omega) (by rw [Int.fdiv_eq_ediv_of_nonneg i (by omega)]; exact q) (.inl (PyProof.noPylong_small (by omega)))
/-- % by a positive divisor of any size -/
theorem op_mod : OpR X (binaryOp .Mod) (rI (fun _ j => 0 < j) fun i j => .int (i % j)) := opI fun i j _ _ _ _ _ hc q => by
  have h1 : (0 : Int) < j := hc
  exact mod_int' (by omega) (by rw [Int.fmod_eq_emod_of_nonneg i (by omega)]; exact q)
theorem op_pow : OpR X (binaryOp .Pow) (rI CPow fun i j => .int (i ^ j.toNat)) := opI fun _ _ _ _ _ _ _ hc q => pow_int_small hc.1 hc.2.1 hc.2.2 q
theorem op_and : OpR X (binaryOp .BitAnd) (rI0 fun i j => .int (Builtin.bitAnd i j)) := opI0 fun _ _ _ _ _ _ _ q => and_int q
theorem op_xor : OpR X (binaryOp .BitXor) (rI0 fun i j => .int (Builtin.bitXor i j)) := opI0 fun _ _ _ _ _ _ _ q => xor_int q

theorem unI {f : Value → Sem Value} {g : Int → Int}
    (rule : ∀ (i : Int) (t : Tok) (s : Shared) (Q : Value → Shared → Prop) (E : Value → Shared → Prop), Q (.int (g i) s.toks) { s with toks := s.toks + 1 } → wpAny (model X.prog X.w) X.A (f (.int i t)) Q E s) :
    UnR X f (rU fun i => .int (g i)) := by
  intro pins s σ H x v Q I rx h
  obtain ⟨i, rfl, q⟩ := h
  obtain ⟨t, rfl⟩ := rx
  exact rule i t s _ _ ⟨.int (g i), H, I.tok _, ⟨_, rfl⟩, q⟩
theorem un_neg : UnR X (unaryOp .USub) (rU fun i => .int (-i)) := unI fun _ _ _ _ _ q => neg_int q
/-! ### bools among ints: n += (a < b) -/
end

/-! ### comparisons -/
section
variable {X : Cx} {a b c : Expr} {ta tb tc : TE} {pos : Pos}
theorem op_lt : OpR X (compareOp .Lt) (rI0 fun i j => .bl (decide (i < j))) := opB0 fun _ _ _ _ _ _ _ q => lt_int q
theorem op_le : OpR X (compareOp .LtE) (rI0 fun i j => .bl (decide (i ≤ j))) := opB0 fun _ _ _ _ _ _ _ q => le_int q
theorem nomark (b : Expr) {op : CmpOp} (h : op ≠ .In := by decide) (h2 : op ≠ .NotIn := by decide) : behindInMarks op b = false := by
  have e1 : (op == CmpOp.In) = false := by cases op <;> first | rfl | exact absurd rfl h
  have e2 : (op == CmpOp.NotIn) = false := by cases op <;> first | rfl | exact absurd rfl h2
  cases b <;> simp [behindInMarks, e1, e2]
/-- a comparison as a value; hm: nomark b, or (for in, not in) by with_unfolding_all rfl -/
theorem pe_cmpR {op : CmpOp} {r : R2} (ho : OpR X (compareOp op) r) (ha : PE X a ta) (hb : PE X b tb) (hm : behindInMarks op b = false) : PE X (.Compare a [op] [b] pos) (tOp r ta tb) := by
  intro pins s σ H Q I h
  exact wpAny_Compare1 (binT ha hb I h fun v u s2 x y H2 I2 rx ry q => ho pins s2 σ H2 x y v u Q I2 rx ry q) hm
/-- a reading of a value as a test -/
def tTest (t : TE) : TT := fun σ H Q => t σ H fun x H' => ∃ k, x = .bl k ∧ Q k H'
theorem pt_cmpR {op : CmpOp} {r : R2} (ho : OpR X (compareOp op) r) (ha : PE X a ta) (hb : PE X b tb) (hm : behindInMarks op b = false) : PT X (.Compare a [op] [b] pos) (tTest (tOp r ta tb)) := by
  intro pins s σ H Q I h
  refine wpAny_isTrue_Compare1 (thn (ha pins s σ H _ I h) fun v s1 ⟨x, H1, I1, r1, q1⟩ => thn (hb pins s1 σ H1 _ I1 q1) fun u s2 ⟨y, H2, I2, r2, q2⟩ =>
    thn (ho pins s2 σ H2 x y v u _ I2 r1 r2 q2) fun c s3 ⟨z, H3, I3, r3, k, e, q3⟩ => ?_) hm
  subst e
  cases r3
  exact wpAny_truthy_bool ⟨H3, I3, q3⟩
/-- a op1 b op2 c -/
def tChain (r r' : R2) (ta tb tc : TE) : TE := fun σ H Q => ta σ H fun x H1 => tb σ H1 fun y H2 => r x y H2 fun z H3 => ∃ k, z = .bl k ∧
  (if k = true then tc σ H3 fun w' H4 => r' y w' H4 Q else Q (.bl false) H3)
theorem pe_chain {op op' : CmpOp} {r r' : R2} (ho : OpR X (compareOp op) r) (ho' : OpR X (compareOp op') r') (ha : PE X a ta) (hb : PE X b tb) (hc : PE X c tc)
    (hm : lastMarks [op, op'] [b, c] = false := by with_unfolding_all rfl) : PE X (.Compare a [op, op'] [b, c] pos) (tChain r r' ta tb tc) := by
  intro pins s σ H Q I h
  refine Compare_chain (thn (ha pins s σ H _ I h) fun v s1 ⟨x, H1, I1, r1, q1⟩ => chain_link (thn (hb pins s1 σ H1 _ I1 q1) fun u s2 ⟨y, H2, I2, r2, q2⟩ =>
    thn (ho pins s2 σ H2 x y v u _ I2 r1 r2 q2) fun d s3 ⟨z, H3, I3, r3, k, e, q3⟩ => ?_)) hm
  subst e
  cases r3
  refine wpAny_truthy_bool ?_
  cases k with
  | false => exact ite_ff ⟨.bl false, H3, I3, rfl, q3⟩
  | true => exact ite_tt (chain_last (thn (hc pins s3 σ H3 _ I3 q3) fun w' s4 ⟨z', H4, I4, r4, q4⟩ => ho' pins s4 σ H4 y z' u w' Q I4 r2 r4 q4))
/-! ### truth -/
/-- a value's truth by the abstract heap -/
def TruV (K : PySem.W.Frag) (x : V) (H : Hp) (k : Bool) : Prop :=
  match x with
  | .non => k = false
  | .bl b => k = b
  | .int i => k = (i != 0)
  | .str y => y.length ≤ sizeLine ∧ k = ((y.length : Int) != 0)
  | .byt y => y.size ≤ sizeLine ∧ k = ((y.size : Int) != 0)
  | .ref p => (∃ xs, SqL K H p xs ∧ k = !xs.isEmpty) ∨ (∃ xs, SqT K H p xs ∧ k = !xs.isEmpty) ∨ ∃ kvs, H p = some (.dK kvs) ∧ k = !kvs.isEmpty
  | _ => False
theorem isEmpty_kv {κ : Type} {kvs : List (κ × V)} {vs : List (κ × Value)} (r : KV kvs vs) : (!vs.isEmpty) = !kvs.isEmpty := by
  cases r <;> rfl
theorem isEmpty_of {xs : List V} {its : List Value} (r : Vals xs its) : (!its.toArray.isEmpty) = !xs.isEmpty := by
  cases r <;> simp
theorem line63 : (sizeLine : Nat) < 2 ^ 63 := by rw [sizeLine_eq]; decide
theorem tru_ok : TruR X (fun x H Q => ∃ k, TruV X.K x H k ∧ Q k H) := by
  intro pins s σ H x v Q I rx h
  obtain ⟨k, e, q⟩ := h
  have hl := line63
  have hs : sizeLine = 16777216 := sizeLine_eq
  cases x with
  | non =>
    cases rx
    have e' : k = false := e
    subst e'
    exact truthy_none ⟨H, I, q⟩
  | bl b =>
    cases rx
    have e' : k = b := e
    subst e'
    exact wpAny_truthy_bool ⟨H, I, q⟩
  | int i =>
    obtain ⟨t, rfl⟩ := rx
    have e' : k = (i != 0) := e
    subst e'
    exact PySem.P.truthy_int ⟨H, I, q⟩
  | str y =>
    obtain ⟨t, rfl⟩ := rx
    obtain ⟨hy, e'⟩ : y.length ≤ sizeLine ∧ k = ((y.length : Int) != 0) := e
    subst e'
    exact PySem.P.truthy_str (by omega) ⟨H, I.tok _, q⟩
  | byt y =>
    obtain ⟨t, rfl⟩ := rx
    obtain ⟨hy, e'⟩ : y.size ≤ sizeLine ∧ k = ((y.size : Int) != 0) := e
    subst e'
    exact PySem.W.truthy_bytes (by omega) ⟨H, I.tok _, q⟩
  | ref p =>
    cases rx
    have e' : (∃ xs, SqL X.K H p xs ∧ k = !xs.isEmpty) ∨ (∃ xs, SqT X.K H p xs ∧ k = !xs.isEmpty) ∨ ∃ kvs, H p = some (.dK kvs) ∧ k = !kvs.isEmpty := e
    rcases e' with ⟨xs, hx, e'⟩ | ⟨xs, hx, e'⟩ | ⟨kvs, hx, e'⟩
    · subst e'
      obtain ⟨its, r, pl, hz⟩ := I.list hx
      have hlen := r.length
      exact wpAny_truthy_list pl.isList (by simp only [List.size_toArray]; omega) ⟨H, I.tok _, by rw [isEmpty_of r]; exact q⟩
    · subst e'
      obtain ⟨its, r, pl, hz⟩ := I.tuple hx
      have hlen := r.length
      exact truthy_tuple pl (by simp only [List.size_toArray]; omega) ⟨H, I.tok _, by rw [isEmpty_of r]; exact q⟩
    · subst e'
      obtain ⟨hz, hS, vs, r, m⟩ : kvs.length ≤ sizeLine ∧ (p == sysModules) = false ∧ ∃ vs, KV kvs vs ∧ s.heap.DictOf (mixKind X.prog X.w) p vs := I.hok p _ hx
      have hlen : kvs.length = vs.length := Paired.length r
      exact wpAny_truthy_dict hS m (by omega) ⟨H, I.tok _, by rw [isEmpty_kv r]; exact q⟩
  | _ => exact (show False from e).elim
/-- any expression whose test is its value's truth (a name, a call, a subscript, a field ..: he by fun _ => rfl) -/
theorem pt_truth (ha : PE X a ta) (he : ∀ whole, isTrue a X.env whole = (do let v ← whole; standAt a.pos; holding [v] (truthy v))) :
    PT X a (fun σ H Q => ta σ H fun x H' => ∃ k, TruV X.K x H' k ∧ Q k H') := by
  intro pins s σ H Q I h
  exact isTrue_plain (thn (ha pins s σ H _ I h) fun v s1 ⟨x, H1, I1, r1, q1⟩ => tru_ok pins s1 σ H1 x v Q I1 r1 q1) (he _)

/-! ### strs and bytes -/
/-! ### scalar builtins, by CallR -/
theorem vals1 {x : V} {us : List Value} (r : Vals [x] us) : ∃ u, us = [u] ∧ RelV x u := by
  cases r with
  | cons r1 r2 => cases r2; exact ⟨_, rfl, r1⟩
theorem vals2 {x y : V} {us : List Value} (r : Vals [x, y] us) : ∃ u w', us = [u, w'] ∧ RelV x u ∧ RelV y w' := by
  cases r with
  | cons r1 r2 =>
    cases r2 with
    | cons r3 r4 => cases r4; exact ⟨_, _, rfl, r1, r3⟩
theorem call_max2 (hc : X.calm = true) : CallR X (.builtin "max") (fun xs H Q => ∃ i j, xs = [.int i, .int j] ∧ Q (.int (if j > i then j else i)) H) := by
  intro pins s σ H xs us Q I r h
  obtain ⟨i, j, rfl, q⟩ := h
  obtain ⟨u, w', rfl, ⟨t, rfl⟩, ⟨t', rfl⟩⟩ := vals2 r
  refine max_two_ints (I.ok.hd hc) fun h' tk k => ⟨_, H, I.kept k, ?_, q⟩
  by_cases hj : j > i
  · rw [if_pos hj, if_pos hj]; exact ⟨_, rfl⟩
  · rw [if_neg hj, if_neg hj]; exact ⟨_, rfl⟩
theorem call_min2 (hc : X.calm = true) : CallR X (.builtin "min") (fun xs H Q => ∃ i j, xs = [.int i, .int j] ∧ Q (.int (if j < i then j else i)) H) := by
  intro pins s σ H xs us Q I r h
  obtain ⟨i, j, rfl, q⟩ := h
  obtain ⟨u, w', rfl, ⟨t, rfl⟩, ⟨t', rfl⟩⟩ := vals2 r
  refine min_two_ints (I.ok.hd hc) fun h' tk k => ⟨_, H, I.kept k, ?_, q⟩
  by_cases hj : j < i
  · rw [if_pos hj, if_pos hj]; exact ⟨_, rfl⟩
  · rw [if_neg hj, if_neg hj]; exact ⟨_, rfl⟩
end
end L2

namespace L2
open PySem PySem.Spec PyProof.Rows

/-! ### an instance, its attributes a map -/
structure ObjM (h : Heap) (x dx C : Addr) (mA : Str → Option Value) : Prop where
  obj : h.get? x = some (PySem.W.instObj C dx)
  ns : h.Ns1 dx mA
  ne : dx ≠ x

theorem lookIn_ns {h : Heap} {dx : Addr} {mA : Str → Option Value} (n : h.Ns1 dx mA) : ∃ od, h.get? dx = some od ∧ ∀ name, PySem.W.lookIn name od = some (mA name) := by
  obtain ⟨o, es, ep, ho, hd, hk, _, hm⟩ := n
  refine ⟨o, ho, fun name => ?_⟩
  have e := hm name
  unfold nsFind findBy at e
  rw [← Array.find?_toList] at e
  unfold PySem.W.lookIn
  rw [hd]
  dsimp only
  split
  · rename_i y q
    rw [q] at e
    exact congrArg some e
  · rename_i q
    rw [q] at e
    have a : es.toList.any (·.refKey) = false := by
      rw [List.any_eq_false]
      intro y hy
      obtain ⟨z, t, hkey⟩ := hk y (Array.mem_toList_iff.mp hy)
      simp [DictEntry.refKey, hkey]
    have a' : ¬ es.toList.any (·.refKey) = true := by rw [a]; exact Bool.false_ne_true
    rw [if_neg a']
    exact congrArg some e

theorem ObjM.look {h : Heap} {x dx C : Addr} {mA : Str → Option Value} (I : ObjM h x dx C mA) : ∃ od, PySem.W.InstAt h x (PySem.W.instObj C dx) C (some od) ∧ ∀ name, PySem.W.lookIn name od = some (mA name) :=
  let ⟨od, ho, hl⟩ := lookIn_ns I.ns
  ⟨od, ⟨I.obj, rfl, rfl, ho⟩, hl⟩

section
variable {prog : Program} {w : World} {A : Around} {E : Value → Shared → Prop} {s : Shared} {K : PySem.W.Frag} {x dx C f : Addr} {mA : Str → Option Value} {name : Str} {v : Value}

end

/-! ### the attributes as a list of pairs -/
section
variable {P : Program} {w : World} {H H' : Hp} {h h' : Heap} {a C dx : Addr} {fs fs' : List (Str × V)}
theorem ins_get (hok : HOk P w H h) (e : H a = some (.ins C dx fs)) : ∃ mA, ObjM h a dx C mA ∧ (∀ f, RelO (fs.lookup f) (mA f)) ∧ PySem.Within mA (fs.map (·.1)) ∧ fs.length ≤ 1000 ∧ H dx = some (.own a) := by
  obtain ⟨d, z, ne, ob, mA, n, r, q⟩ := (show ObjOk P w H h a (.ins C dx fs) from hok a _ e)
  exact ⟨mA, ⟨ob, n, ne⟩, r, q, z, d⟩
end

/-! ### what of the text a class must have -/
structure Cls (K : PySem.W.Frag) (C : Addr) : Prop where
  pg : PySem.W.plainGet K C Str.empty = true
  hd : PySem.W.hasDictIn K C = true
  po : PySem.W.plainOver K C = true
  sa : PySem.W.findIn K (.ref C) "__setattr__" = some (some (.builtin "object.__setattr__"))
theorem Cls.get {K : PySem.W.Frag} {C : Addr} (c : Cls K C) (f : Str) : PySem.W.plainGet K C f = true := c.pg
/-- a constant of the class -/
structure Con (K : PySem.W.Frag) (C : Addr) (f : Str) (v : V) (u : Value) : Prop where
  at_ : PySem.W.findIn K (.ref C) f = some (some u)
  rel : RelV v u
  get : PySem.W.specialIn K u "__get__" = some none
  cp : PySem.W.copiedNames.contains f = false
/-- a method: a plain def of the class or of one above it -/
structure Meth (K : PySem.W.Frag) (C : Addr) (m : Str) (f : Addr) : Prop where
  at_ : PySem.W.findIn K (.ref C) m = some (some (.ref f))
  fn : PySem.W.isFn K (.ref f) = true
  kp : PySem.W.keepIn K (.ref f) = true

section
variable {X : Cx} {pins : List (Addr × Obj)} {σ : St} {H : Hp} {s : Shared} {a C dx : Addr} {fs : List (Str × V)} {f : Str} {v : V} {A : Around} {E : Value → Shared → Prop}

end

/-! ### readings and rules -/
section
variable {X : Cx} {o e value : Expr} {f : Str} {pos pos' tpos : Pos} {ta tv : TE}
end

/-! ### isinstance -/
section
variable {X : Cx} {pins : List (Addr × Obj)} {σ : St} {H : Hp} {s : Shared} {A : Around} {E : Value → Shared → Prop} {Q : Value → Shared → Prop} {c : Value} {b : Bool}
/-- the type of a value, as the fragment's deciders take it; for an instance its class -/
inductive TyOf (K : PySem.W.Frag) (H : Hp) : V → Value → Prop where
  | non : TyOf K H .non (.type "NoneType")
  | bl (x : Bool) : TyOf K H (.bl x) (.type "bool")
  | int (i : Int) : TyOf K H (.int i) (.type "int")
  | str (x : Str) : TyOf K H (.str x) (.type "str")
  | flt (x : UInt64) : TyOf K H (.flt x) (.type "float")
  | lst {a : Addr} {xs : List V} (e : H a = some (.lst xs)) : TyOf K H (.ref a) (.type "list")
  | frz {a : Addr} {o : Obj} {xs : List V} (e : H a = some (.frz o (.lst xs))) : TyOf K H (.ref a) (.type "list")
  | tup {a : Addr} {xs : List V} (e : H a = some (.tup xs)) : TyOf K H (.ref a) (.type "tuple")
  | dK {a : Addr} {kvs : List (Key × V)} (e : H a = some (.dK kvs)) : TyOf K H (.ref a) (.type "dict")
  | dT {a : Addr} {kvs : List (List Key × V)} (e : H a = some (.dT kvs)) : TyOf K H (.ref a) (.type "dict")
  | ins {a C dx : Addr} {fs : List (Str × V)} (e : H a = some (.ins C dx fs)) (cl : Cls K C) (ha : PySem.W.findIn K (.ref C) "__class__" = some (some (.builtin "object.__class__")))
      (hn : PySem.W.specialIn K (.builtin "object.__class__") "__get__" = some (some (.builtin "getset_descriptor.__get__"))) (htk : PySem.W.takesIn K (.builtin "object.__class__") = some true)
      (hm : PySem.W.mroIn K C (.type "object") = some true) : TyOf K H (.ref a) (.ref C)
/-- isinstance(x, c) for one class c, a built-in or an own one: kitOne's answer -/
theorem isinst_ok {x : V} {u t : Value} (I : Inv X pins σ H s) (rx : RelV x u) (ty : TyOf X.K H x t) (e : PySem.W.kitOne X.K t c = some b) (h : ∀ tk, Q (.bool b) { s with toks := tk }) :
    wpAny (model X.prog X.w) A (call (.builtin "isinstance") [u, c]) Q E s := by
  cases ty with
  | non => cases (show u = Value.none from rx); exact PySem.W.kia_one PySem.W.kitx_none I.kIn True.intro e (fun z => nomatch z) h
  | bl y => cases (show u = Value.bool y from rx); exact PySem.W.kia_one PySem.W.kitx_bool I.kIn True.intro e (fun z => nomatch z) h
  | int i => obtain ⟨t, q⟩ := (show ∃ t, u = Value.int i t from rx); cases q; exact PySem.W.kia_one PySem.W.kitx_int I.kIn True.intro e (fun z => nomatch z) h
  | str y => obtain ⟨t, q⟩ := (show ∃ t, u = Value.str y t from rx); cases q; exact PySem.W.kia_one PySem.W.kitx_str I.kIn True.intro e (fun z => nomatch z) h
  | flt y => obtain ⟨t, q⟩ := (show ∃ t, u = Value.float y t from rx); cases q; exact PySem.W.kia_one PySem.W.kitx_float I.kIn True.intro e (fun z => nomatch z) h
  | @lst a xs ea =>
    cases (show u = Value.ref a from rx)
    obtain ⟨_, _, n, _, h1⟩ := (show ObjOk X.prog X.w H s.heap a (.lst xs) from I.hok a _ ea)
    exact PySem.W.kia_one PySem.W.kitx_list I.kIn ⟨_, h1, rfl⟩ e (fun z => nomatch z) h
  | @frz a ob xs ea =>
    cases (show u = Value.ref a from rx)
    obtain ⟨_, _, _, n, _, h1⟩ := (show ObjOk X.prog X.w H s.heap a (.frz ob (.lst xs)) from I.hok a _ ea)
    exact PySem.W.kia_one PySem.W.kitx_list I.kIn ⟨_, h1, rfl⟩ e (fun z => nomatch z) h
  | @tup a xs ea =>
    cases (show u = Value.ref a from rx)
    obtain ⟨_, _, _, p⟩ := (show ObjOk X.prog X.w H s.heap a (.tup xs) from I.hok a _ ea)
    obtain ⟨o, h1, h2, _⟩ := p
    exact PySem.W.kia_one PySem.W.kitx_tuple I.kIn ⟨o, h1, h2⟩ e (fun z => nomatch z) h
  | @dK a kvs ea =>
    cases (show u = Value.ref a from rx)
    obtain ⟨_, _, vs, _, p⟩ := (show ObjOk X.prog X.w H s.heap a (.dK kvs) from I.hok a _ ea)
    obtain ⟨o, es, ep, h1, h2, _⟩ := p
    exact PySem.W.kia_one PySem.W.kitx_dict I.kIn ⟨o, h1, h2.1⟩ e (fun z => nomatch z) h
  | @dT a kvs ea =>
    cases (show u = Value.ref a from rx)
    obtain ⟨_, _, xs, _, o, es, ep, h1, h2, _⟩ := (show ObjOk X.prog X.w H s.heap a (.dT kvs) from I.hok a _ ea)
    exact PySem.W.kia_one PySem.W.kitx_dict I.kIn ⟨o, h1, h2.1⟩ e (fun z => nomatch z) h
  | @ins a C dx fs ea cl ha hn htk hm =>
    cases (show u = Value.ref a from rx)
    obtain ⟨mA, O, _⟩ := ins_get I.hok ea
    obtain ⟨od, J, _⟩ := O.look
    exact PySem.W.kia_one (PySem.W.kitx_own (cl.get _) cl.hd ha hn htk hm) I.kIn J e (fun z => nomatch z) h
end
end L2

namespace L2
open PySem PySem.Spec PyProof.Rows

/-! ### room -/
structure Room (k : Nat) (A : Around) : Prop where
  hd : A.handled = none
  dp : A.depth + 3 * k + 5 < recursionLimit
  un : A.units + 16 * k + 200 < cLine
theorem Room.mono {j k : Nat} {A : Around} (r : Room k A) (h : j ≤ k) : Room j A := ⟨r.hd, by have := r.dp; omega, by have := r.un; omega⟩
theorem Room.deeper {k : Nat} {A : Around} (r : Room (k + 1) A) (env : Env) : Room k (A.deeper env) :=
  ⟨r.hd, by have := r.dp; show A.depth + 1 + 3 * k + 5 < _; omega, by have := r.un; show A.units + 3 + 16 * k + 200 < _; omega⟩
theorem Room.depth {k : Nat} {A : Around} (r : Room k A) : A.depth < recursionLimit := by have := r.dp; omega
theorem Room.units {k : Nat} {A : Around} (r : Room k A) : A.units + 64 < cLine := by have := r.un; omega
/-! ### argument lists and displays -/
def tNil : TA := fun _ H Q => Q [] H
def tCons (ta : TE) (tr : TA) : TA := fun σ H Q => ta σ H fun x H1 => tr σ H1 fun xs H2 => Q (x :: xs) H2
section
variable {X : Cx} {e : Expr} {es : List Expr} {te : TE} {t : TA} {pos : Pos}
theorem pa_nil : PA X [] tNil := fun _ _ _ _ H Q I h => Calls.spliced_nil ⟨[], H, I, .nil, h⟩
theorem pa_cons (ha : PE X e te) (hr : PA X es t) (hs : starEach (e :: es) X.env = (false, eval e X.env) :: starEach es X.env := by rfl) : PA X (e :: es) (tCons te t) := by
  intro pos pins s σ H Q I h
  rw [hs]
  show wpAny _ _ (spliced ((false, eval e X.env) :: backTo pos (starEach es X.env))) _ _ s
  refine Calls.spliced_cons (thn (ha pins s σ H _ I h) fun u s1 ⟨x, H1, I1, r1, q1⟩ => ?_)
  exact thn (hr pos pins s1 σ H1 _ I1 q1) fun us s2 ⟨xs, H2, I2, r2, q2⟩ => ⟨x :: xs, H2, I2, .cons r1 r2, q2⟩

/-- a tuple, a list of written items -/
def tTup (t : TA) : TE := fun σ H Q => t σ H fun xs H1 => xs.length ≤ sizeLine ∧ ∀ p, H1 p = none → Q (.ref p) (upd H1 p (.tup xs))
def tLst (t : TA) : TE := fun σ H Q => t σ H fun xs H1 => xs.length ≤ sizeLine ∧ ∀ p, H1 p = none → Q (.ref p) (upd H1 p (.lst xs))
theorem pe_tup {x1} (h : PA X es t) : PE X (.Tuple es x1 pos) (tTup t) := by
  intro pins s σ H Q I hq
  refine wpAny_Tuple_spliced (thn (h pos pins s σ H _ I hq) fun us s1 ⟨xs, H1, I1, r, z, q⟩ => ⟨by rw [← r.length]; exact z, ?_⟩)
  have hf : H1 s1.heap.objs.size = none := I1.hok.fresh (Nat.le_refl _)
  refine ⟨.ref s1.heap.objs.size, upd H1 s1.heap.objs.size (.tup xs), I1.laid (t' := s1.toks) (fun b u e => Heap.get?_push_of_some _ e) (Nat.le_refl _) ?_, rfl, q _ hf⟩
  exact ⟨z, us, r, ⟨_, Heap.get?_push_size _ rfl, rfl, _, rfl⟩⟩
theorem pe_lst (h : PA X es t) : PE X (.List es pos) (tLst t) := by
  intro pins s σ H Q I hq
  refine wpAny_List_spliced (thn (h pos pins s σ H _ I hq) fun us s1 ⟨xs, H1, I1, r, z, q⟩ => ⟨by rw [← r.length]; exact z, ?_⟩)
  have hf : H1 s1.heap.objs.size = none := I1.hok.fresh (Nat.le_refl _)
  refine ⟨.ref s1.heap.objs.size, upd H1 s1.heap.objs.size (.lst xs), I1.laid (t' := s1.toks) (fun b u e => Heap.get?_push_of_some _ e) (Nat.le_refl _) ?_, rfl, q _ hf⟩
  exact ⟨z, us, 0, r, Heap.get?_push_size _ rfl⟩
end

/-! ### what a def promises -/
/-- a def's promise: the bound arguments in the parameters' order, the heap, the wanted end, the wanted exception -/
abbrev Sp := List V → Hp → VK → XK → Prop
/-- how an exception lies behind a call (file 08 gives it): the callers' frames, abstract heap and state ahead of the call, the wish, the exception, the state -/
abbrev CXT := List Env → Hp → Shared → XK → Value → Shared → Prop

/-- the state at a call -/
structure Env0 (P : Program) (w : World) (K : PySem.W.Frag) (mg : Str → Option Value) (base : Heap) (A : Around) (outer : List Env) (s : Shared) (H : Hp) : Prop where
  frames : A.frames = some outer
  mod : Mod K mg base
  bs : ∀ b o, base.get? b = some o → s.heap.get? b = some o ∧ H b = none
  bsz : base.objs.size ≤ s.heap.objs.size
  funs : s.heap.FunFrames base outer
  frf : ∀ b ∈ frs outer, H b = none
  hok : HOk P w H s.heap
  bare : AllBare s.gens
/-- a call's end -/
def CE (outer : List Env) (P : Program) (w : World) (H : Hp) (s : Shared) (Q : VK) (u : Value) (s' : Shared) : Prop :=
  ∃ v H', s'.os = s.os ∧ AllBare s'.gens ∧ Un (frs outer) [] H H' s.heap s'.heap ∧ HOk P w H' s'.heap ∧ RelV v u ∧ Q v H'
def CR (CX : CXT) (outer : List Env) (P : Program) (w : World) (H : Hp) (s : Shared) (Q : VK) (E : XK) (r : Result) (s' : Shared) : Prop :=
  match r with
  | .ok (.ret u) => CE outer P w H s Q u s'
  | .ok _ => False
  | .error e => CX outer H s E e s'
structure FnOk (P : Program) (w : World) (K : PySem.W.Frag) (mg : Str → Option Value) (base : Heap) (CX : CXT) (k : Nat) (f : Addr) (fd : FuncData) (ps : List Str) (sp : Sp) : Prop where
  len : ∀ vs H Q E, sp vs H Q E → vs.length = ps.length
  run : ∀ (A : Around) (outer : List Env) (s : Shared) (H : Hp) (args : Args) (us : List Value) (vs : List V) (Q : VK) (E : XK), Room k A → Env0 P w K mg base A outer s H → BindsTo s fd args (ps.zip us) → Vals vs us → sp vs H Q E →
    codeAny (model P w) A (.call (.ref f) args) (CR CX outer P w H s Q E) s
section
variable {X : Cx} {pins : List (Addr × Obj)} {σ : St} {H : Hp} {s s' : Shared}
/-- from a body: what a callee wants -/
theorem Inv.env0 (I : Inv X pins σ H s) : Env0 X.prog X.w X.K X.mg X.base X.A X.stack s H :=
  ⟨I.ok.frames, I.ok.mod, I.bs, Nat.le_trans I.ok.bsz I.sz, I.stack, I.stkFree, I.hok, I.bare⟩
/-- behind a call -/
theorem Inv.after {Q : VK} {u : Value} (I : Inv X pins σ H s) (h : CE X.stack X.prog X.w H s Q u s') : EP X pins σ Q u s' := by
  obtain ⟨v, H', os, bare, un, hok, r, q⟩ := h
  obtain ⟨hh, g, d, t, os'⟩ := s'
  obtain rfl : os' = s.os := os
  exact ⟨v, H', I.call (h' := hh) (g' := g) (d' := d) (t' := t) (ch := []) un hok bare (fun b z => absurd z (by simp)), r, q⟩
end

/-! ### calls -/
/-- f(..): the written arguments, then the defaults dvs; E: what is wanted of an exception -/
def tCall (sp : Sp) (dvs : List V) (E : XK) (t : TA) : TE := fun σ H Q => t σ H fun vs H1 => sp (vs ++ dvs) H1 Q E
/-- how the parameters are bound: us the positional arguments, kw the keywords' values by name, ds the defaults that fill up -/
def Binds (K : PySem.W.Frag) (fd : FuncData) (ps : List Str) (ds : List Value) : Prop :=
  ∀ (s : Shared) (us : List Value), K.In s.heap → (us ++ ds).length = ps.length → BindsTo s fd ⟨us, []⟩ (ps.zip (us ++ ds))
/-- every parameter is given -/
theorem Binds.all {K : PySem.W.Frag} {fd : FuncData} {ps : List Str} (h : ∀ us : List Value, us.length = ps.length → bindArgs fd ⟨us, []⟩ = pure (ps.zip us)) : Binds K fd ps [] := fun s us _ hl => by
  rw [List.append_nil] at hl ⊢
  exact .of_eq (h us hl)

/-- an exception of a callee reaches what this body wants of exceptions -/
def Passes (CX : CXT) (X : Cx) (E : XK) : Prop := ∀ (pins : List (Addr × Obj)) (σ : St) (H : Hp) (s : Shared) (e : Value) (s' : Shared), Inv X pins σ H s → CX X.stack H s E e s' → X.xe e s'

section
variable {X : Cx} {CX : CXT} {k : Nat} {f C : Addr} {fd : FuncData} {ps : List Str} {sp : Sp} {dvs : List V} {ds : List Value} {E : XK} {x m : Str} {p pos apos : Pos} {e o : Expr} {es : List Expr} {ta : TE} {t : TA}

/-- the callee runs -/
theorem run_fn {pins : List (Addr × Obj)} {σ : St} {H : Hp} {s : Shared} {Q : VK} {us : List Value} {vs : List V} (F : FnOk X.prog X.w X.K X.mg X.base CX k f fd ps sp) (hr : Room k X.A) (hb : Binds X.K fd ps ds) (hd : Vals dvs ds) (hx : Passes CX X E)
    (I : Inv X pins σ H s) (r : Vals vs us) (h : sp (vs ++ dvs) H Q E) : wpAny (model X.prog X.w) X.A (call (.ref f) us) (EP X pins σ Q) X.xe s := by
  have r2 : Vals (vs ++ dvs) (us ++ ds) := r.append hd
  have hl : (us ++ ds).length = ps.length := by rw [← r2.length]; exact F.len _ _ _ _ h
  refine wpAny_call (codeAny_mono (F.run X.A X.stack s H ⟨us, []⟩ (us ++ ds) (vs ++ dvs) Q E hr I.env0 (hb s us I.kIn hl) r2 h) fun r s' hq => ?_)
  cases r with
  | error e => exact hx pins σ H s e s' I hq
  | ok fl =>
    cases fl with
    | ret u => exact I.after hq
    | next => exact False.elim hq
    | brk => exact False.elim hq
    | cont => exact False.elim hq

theorem pe_call (F : FnOk X.prog X.w X.K X.mg X.base CX k f fd ps sp) (hr : Room k X.A) (hg : Gl X x) (hm : X.mg x = some (.ref f)) (hk : PySem.W.keepIn X.K (.ref f) = true) (hb : Binds X.K fd ps ds) (hd : Vals dvs ds) (hx : Passes CX X E)
    (ha : PA X (e :: es) t) (hdb : (x == ("__debug__" : Str)) = false := by decide) (he : starEach (e :: es) X.env = (false, eval e X.env) :: starEach es X.env := by rfl) (hpl : (backTo pos (starEach es X.env)).any (·.1) = false := by rfl) :
    PE X (.Call (.Name x p) (e :: es) [] pos) (tCall sp dvs E t) := by
  intro pins s σ H Q I h
  refine wpAny_Call_Name_kw (ld_glob I hg hm ?_ hdb)
  refine PySem.W.callWith_K (h₀ := X.base) I.ok.mod.kin hk (thn (ha pos pins s σ H _ I h) fun us s1 ⟨vs, H1, I1, r, q⟩ => ⟨I1.kIn, ?_⟩) he hpl
  exact run_fn F hr hb hd hx I1 r q
/-- what a class must have to be made -/
structure Mk (K : PySem.W.Frag) (C f : Addr) : Prop where
  makes : PySem.W.makesIn K C = true
  init : PySem.W.findIn K (.ref C) "__init__" = some (some (.ref f))
  fn : PySem.W.isFn K (.ref f) = true
  kp : PySem.W.keepIn K (.ref C) = true

end

/-! ### keywords -/
section
variable {X : Cx} {CX : CXT} {k : Nat} {f C : Addr} {fd : FuncData} {ps ks : List Str} {sp : Sp} {E : XK} {x m : Str} {p pos apos kpos : Pos} {e o : Expr} {es : List Expr} {kws : List Keyword} {te ta : TE} {t tk : TA} {nm : Option Str}
/-- how a call with keywords binds: g puts the positional values us and the keywords' values ws (names ks) in the parameters' order, defaults among them -/
structure KBinds (K : PySem.W.Frag) (fd : FuncData) (ps ks : List Str) (g : List Value → List Value → List Value) (gV : List V → List V → List V) : Prop where
  to : ∀ (s : Shared) (us ws : List Value), K.In s.heap → (g us ws).length = ps.length → BindsTo s fd ⟨us, ks.zip ws⟩ (ps.zip (g us ws))
  rel : ∀ {vs : List V} {us : List Value} {zs : List V} {ws : List Value}, Vals vs us → Vals zs ws → Vals (gV vs zs) (g us ws)
variable {g : List Value → List Value → List Value} {gV : List V → List V → List V}
end

/-! ### a def's body keeps its promise -/
/-- names: the parameters first -/
structure FnScope (N P : List Str) (sc : Scope) : Prop where
  kind : sc.kind = .function
  co : sc.isCoroutine = false
  gen : sc.isGenerator = false
  nd : N.Nodup
  pre : N.take P.length = P
  par : ∀ x ∈ P, sc.names.lookup x = some .local ∨ sc.names.lookup x = some .cell
  nofree : ∀ y ∈ sc.names, y.2 ≠ .free

theorem bindL_out {kindOf : Str → Option NameKind} {x : Str} : ∀ {binds : List (Str × Value)} {m : Str → Option Value}, (∀ v, (x, v) ∉ binds) → bindL kindOf binds m x = m x
  | [], _, _ => rfl
  | (n, v) :: r, m, h => by
    unfold bindL
    rw [bindL_out fun w hw => h w (List.mem_cons_of_mem _ hw)]
    split
    · have : x ≠ n := by rintro rfl; exact h v List.mem_cons_self
      simp [this]
    · rfl
theorem bindC_out {kindOf : Str → Option NameKind} {x : Str} : ∀ {binds : List (Str × Value)} {m : Str → Option Value}, (∀ v, (x, v) ∉ binds) → bindC kindOf binds m x = m x
  | [], _, _ => rfl
  | (n, v) :: r, m, h => by
    unfold bindC
    rw [bindC_out fun w hw => h w (List.mem_cons_of_mem _ hw)]
    split
    · rfl
    · have : x ≠ n := by rintro rfl; exact h v List.mem_cons_self
      simp [this]
theorem bindL_get {kindOf : Str → Option NameKind} {x : Str} {v : Value} : ∀ {P : List Str} {vs : List Value} {i : Nat} {m : Str → Option Value}, P.Nodup → P[i]? = some x → vs[i]? = some v → kindOf x = some .local →
    bindL kindOf (P.zip vs) m x = some v
  | [], _, _, _, _, h, _, _ => by simp at h
  | _ :: _, [], _, _, _, _, h, _ => by simp at h
  | p :: P, w :: vs, 0, m, nd, h1, h2, hk => by
    simp at h1 h2; subst h1; subst h2
    show bindL kindOf ((p, w) :: P.zip vs) m p = _
    unfold bindL
    rw [bindL_out fun v hv => (List.nodup_cons.mp nd).1 (List.of_mem_zip hv).1, if_pos hk]
    simp
  | p :: P, w :: vs, i + 1, m, nd, h1, h2, hk => by
    show bindL kindOf ((p, w) :: P.zip vs) m x = _
    unfold bindL
    exact bindL_get (i := i) (List.nodup_cons.mp nd).2 (by simpa using h1) (by simpa using h2) hk
theorem bindC_get {kindOf : Str → Option NameKind} {x : Str} {v : Value} : ∀ {P : List Str} {vs : List Value} {i : Nat} {m : Str → Option Value}, P.Nodup → P[i]? = some x → vs[i]? = some v → kindOf x ≠ some .local →
    bindC kindOf (P.zip vs) m x = some v
  | [], _, _, _, _, h, _, _ => by simp at h
  | _ :: _, [], _, _, _, _, h, _ => by simp at h
  | p :: P, w :: vs, 0, m, nd, h1, h2, hk => by
    simp at h1 h2; subst h1; subst h2
    show bindC kindOf ((p, w) :: P.zip vs) m p = _
    unfold bindC
    rw [bindC_out fun v hv => (List.nodup_cons.mp nd).1 (List.of_mem_zip hv).1, if_neg hk]
    simp
  | p :: P, w :: vs, i + 1, m, nd, h1, h2, hk => by
    show bindC kindOf ((p, w) :: P.zip vs) m x = _
    unfold bindC
    exact bindC_get (i := i) (List.nodup_cons.mp nd).2 (by simpa using h1) (by simpa using h2) hk

/-- the names' values at the entry -/
def start (N : List Str) (vs : List V) : St := vs.map some ++ List.replicate (N.length - vs.length) none

/-- the context of a def's body, at its entry; an exception leaves the frame, then lies as CX says -/
def cxOf (CX : CXT) (P : Program) (w : World) (K : PySem.W.Frag) (mg : Str → Option Value) (base : Heap) (N : List Str) (qual : Str) (scope : Scope) (f : Addr) (cd : Value) (A : Around) (outer : List Env) (s : Shared) (H : Hp) (E : XK) : Cx where
  prog := P
  w := w
  K := K
  mg := mg
  base := base
  A := A.deeper (envOfC qual scope s.heap.objs.size f cd)
  N := N
  s₀ := s
  H₀ := H
  env := envOfC qual scope s.heap.objs.size f cd
  outer := outer
  stack := envOfC qual scope s.heap.objs.size f cd :: outer
  ex := []
  calm := true
  fn := fun _ => true
  pn := []
  xe := fun e s' => wpAny (model P w) (A.deeper (envOfC qual scope s.heap.objs.size f cd)) (leaving (envOfC qual scope s.heap.objs.size f cd) e) (fun _ s'' => CX outer H s E e s'') (fun e' s'' => CX outer H s E e' s'') s'

theorem cell_has {sc : Scope} {n : Nat} {x : Str} (h : sc.names.lookup x = some .cell) : ∃ c, (cellsFrom n sc.names []).lookup x = some c := by
  have q := PySem.W.cellsFrom_some sc.names n [] (.inl h)
  exact Option.isSome_iff_exists.mp q

theorem inv_start {CX : CXT} {P : Program} {w : World} {K : PySem.W.Frag} {mg : Str → Option Value} {base : Heap} {N ps : List Str} {qual : Str} {scope : Scope} {f : Addr} {cd : Value} {A : Around} {outer : List Env} {s s1 : Shared} {H : Hp} {E : XK} {us : List Value} {vs : List V}
    (S : FnScope N ps scope) (hd : A.handled = none) (e0 : Env0 P w K mg base A outer s H) (hl : vs.length = ps.length) (r : Vals vs us)
    (x : InCallC s s.heap.objs.size (bindL (envOfC qual scope s.heap.objs.size f cd).kindOf (ps.zip us) fun _ => none) (cellsFrom (s.heap.objs.size + 1) scope.names []) (bindC (envOfC qual scope s.heap.objs.size f cd).kindOf (ps.zip us) fun _ => none) s1) :
    Inv (cxOf CX P w K mg base N qual scope f cd A outer s H E) [] (start N vs) H s1 := by
  have hpl : ps.length ≤ N.length := by have := congrArg List.length S.pre; rw [List.length_take] at this; omega
  obtain ⟨h1, tk, rfl, hk⟩ := x.done
  have noA : ∀ b : Addr, b ∉ (cxOf CX P w K mg base N qual scope f cd A outer s H E).ex := fun b z => absurd (show b ∈ ([] : List Addr) from z) (by simp)
  refine ⟨⟨e0.mod, S.kind, rfl, rfl, Nat.le_refl _, fun y z c h1 h2 => ?_, fun y hy => ?_, fun y c _ h => ?_, fun _ => hd, Around.frames_deeper e0.frames, .inr ⟨rfl, rfl⟩, fun b z => absurd z (noA b), e0.bs, e0.bsz, fun b _ _ => noA b, fun b z => absurd z (noA b), e0.funs, e0.frf⟩,
    rfl, e0.bare, Un.kept hk, ⟨_, x.toInCall.ns, fun i y v h1 h2 h3 => ?_⟩, fun y c h => ⟨_, x.cell y c h⟩, e0.hok.fresh (Nat.le_refl _), fun y c h => ?_, fun p hp => absurd (show p ∈ ([] : List (Addr × Obj)) from hp) (by simp), e0.hok.kept hk, ?_⟩
  · exact name_of_addr x.apart (PySem.mem_of_lookup h1) (PySem.mem_of_lookup h2)
  · have hy : scope.names.lookup y = some .cell ∨ scope.names.lookup y = some .free := hy
    rcases hy with hy | hy
    · exact cell_has hy
    · exact absurd rfl (S.nofree _ (PySem.mem_of_lookup hy))
  · exact Nat.le_of_lt (x.above y c (PySem.mem_of_lookup h))
  · have hi : i < vs.length := by
      unfold start at h2
      by_cases hi : i < vs.length
      · exact hi
      · rw [List.getElem?_append_right (by simpa using hi)] at h2
        rw [List.getElem?_replicate] at h2
        split at h2 <;> cases h2
    have ha : vs[i]? = some v := by
      unfold start at h2
      rw [List.getElem?_append_left (by simpa using hi), List.getElem?_map] at h2
      cases e : vs[i]? with
      | none => rw [e] at h2; cases h2
      | some a => rw [e] at h2; cases h2; rfl
    obtain ⟨u, hu, rv⟩ := r.get ha
    have hp : ps[i]? = some y := by
      rw [← S.pre, List.getElem?_take_of_lt (by omega)]; exact h1
    have ndP : ps.Nodup := by rw [← S.pre]; exact S.nd.sublist (List.take_sublist _ _)
    refine ⟨u, rv, ?_⟩
    rcases S.par y (List.mem_of_getElem? hp) with k | k
    · exact .inl ⟨k, bindL_get ndP hp hu k⟩
    · obtain ⟨c, e⟩ := cell_has (n := s.heap.objs.size + 1) k
      refine .inr ⟨.inl k, c, e, ?_⟩
      have q := x.cell y c e
      rw [bindC_get ndP hp hu (by show scope.names.lookup y ≠ _; rw [k]; decide)] at q
      exact q
  · exact e0.hok.fresh (Nat.le_of_lt (x.above y c (PySem.mem_of_lookup h)))
  · unfold start
    show _ = N.length
    rw [List.length_append, List.length_map, List.length_replicate]
    omega

/-- THE RULE: a def (or a method) of the text, by its body. The body's reading t is chosen for each entry; it is run at the parameters' values -/
theorem fn_of {CX : CXT} {P : Program} {w : World} {K : PySem.W.Frag} {mg : Str → Option Value} {base : Heap} {k : Nat} {f : Addr} {name qual : Str} {params : Arguments} {body : List Stmt} {scope : Scope} {dV kV doc pm cdv ct oc : Value} {an od : Option Addr}
    {osl : Array (Option Value)} {N ps : List Str} {sp : Sp} (lk : K.lookup f = some ⟨oc, od, .func (PySem.W.fnOf name qual params body scope dV kV doc pm an cdv ct), osl⟩) (hcd : PySem.W.codeIn K cdv qual = true) (S : FnScope N ps scope)
    (len : ∀ vs H Q E, sp vs H Q E → vs.length = ps.length)
    (hbody : ∀ (A : Around) (outer : List Env) (s : Shared) (H : Hp) (vs : List V) (Q : VK) (E : XK), Room k (A.deeper (envOfC qual scope s.heap.objs.size f cdv)) → sp vs H Q E →
      ∃ t, PSs (cxOf CX P w K mg base N qual scope f cdv A outer s H E) body t ∧ t { nx := fun _ H' => Q .non H', rt := Q } (start N vs) H) :
    FnOk P w K mg base CX (k + 1) f (PySem.W.fnOf name qual params body scope dV kV doc pm an cdv ct) ps sp := by
  refine ⟨len, fun A outer s H args us vs Q E hr e0 hb r hsp => ?_⟩
  have hl := len _ _ _ _ hsp
  have KX : K.In s.heap := e0.mod.kin.keeps fun b o e => (e0.bs b o e).1
  have lim : s.heap.NoLimit := e0.mod.nolimit.keeps fun b o e => (e0.bs b o e).1
  have hkind : ∀ y ∈ ps.zip us, scope.names.lookup y.1 = some .local ∨ (scope.names.lookup y.1 = some .cell ∧ ((cellsFrom (s.heap.objs.size + 1) scope.names []).lookup y.1).isSome = true) := fun ⟨n, v⟩ hy => by
    rcases S.par n (List.of_mem_zip hy).1 with q | q
    · exact .inl q
    · exact .inr ⟨q, PySem.W.cellsFrom_some _ _ _ (.inl q)⟩
  refine codeAny_call_function hr.depth (KX _ _ lk) rfl S.co S.gen rfl (PySem.W.codeRec_of KX hcd) (hb _ _ _ _ ?_)
  refine wpAny_newFunctionEnv_cells S.kind hkind fun env he s1 x => ?_
  subst he
  refine ⟨lim.keeps x.toInCall.keep, codeAny_func ?_⟩
  obtain ⟨t, ht, hq⟩ := hbody A outer s H vs Q E (hr.deeper _) hsp
  have I : Inv (cxOf CX P w K mg base N qual scope f cdv A outer s H E) [] (start N vs) H s1 := inv_start S hr.hd e0 hl r x
  refine wpAny_mono (ht [] s1 (start N vs) H _ I hq) (fun fl s' hs => ?_) fun e s' hs => hs
  have fin : ∀ {σ' : St} {H' : Hp} {v : V} {u : Value}, Inv (cxOf CX P w K mg base N qual scope f cdv A outer s H E) [] σ' H' s' → RelV v u → Q v H' → CE outer P w H s Q u s' :=
    fun {σ' H' v u} J rv q => ⟨v, H', J.os, J.bare, J.base, J.hok, rv, q⟩
  cases fl with
  | ret u =>
    obtain ⟨v, σ', H', J, rv, q⟩ := hs
    exact fin J rv q
  | next =>
    obtain ⟨σ', H', J, q⟩ := hs
    exact fin (v := V.non) (u := Value.none) J rfl q
  | brk =>
    obtain ⟨_, _, _, q⟩ := hs
    exact False.elim q
  | cont =>
    obtain ⟨_, _, _, q⟩ := hs
    exact False.elim q
end L2

namespace L2
open PySem PySem.Spec PyProof.Rows
section
variable {X : Cx} {x : Str} {p pos : Pos} {e : Expr} {es : List Expr} {t : TA} {id T : String} {r : List V → Hp → VK → Prop}

def tCB (r : List V → Hp → VK → Prop) (t : TA) : TE := fun σ H Q => t σ H fun vs H1 => r vs H1 Q
/-- f(e, ..), f a built-in function -/
theorem pe_callB (hc : CallR X (.builtin id) r) (hg : Gl X x) (hm : X.mg x = none) (hv : bootBuiltins x = some (.builtin id)) (ha : PA X (e :: es) t) (hn : x ≠ "__name__" := by decide) (hdb : (x == ("__debug__" : Str)) = false := by decide)
    (he : starEach (e :: es) X.env = (false, eval e X.env) :: starEach es X.env := by rfl) (hpl : (backTo pos (starEach es X.env)).any (·.1) = false := by rfl) : PE X (.Call (.Name x p) (e :: es) [] pos) (tCB r t) := by
  intro pins s σ H Q I h
  refine wpAny_Call_Name_kw (ld_blt I hg hm hv ?_ hn hdb)
  exact PyProof.Rows.callWith_builtin1 (thn (ha pos pins s σ H _ I h) fun us s1 ⟨vs, H1, I1, r1, q1⟩ => hc pins s1 σ H1 vs us Q I1 r1 q1) he hpl
/-- T(e, ..), T a built-in type -/
theorem pe_callTy (hc : CallR X (.type T) r) (hg : Gl X x) (hm : X.mg x = none) (hv : bootBuiltins x = some (.type T)) (ha : PA X (e :: es) t) (hn : x ≠ "__name__" := by decide) (hdb : (x == ("__debug__" : Str)) = false := by decide)
    (he : starEach (e :: es) X.env = (false, eval e X.env) :: starEach es X.env := by rfl) (hpl : (backTo pos (starEach es X.env)).any (·.1) = false := by rfl) : PE X (.Call (.Name x p) (e :: es) [] pos) (tCB r t) := by
  intro pins s σ H Q I h
  refine wpAny_Call_Name_kw (ld_blt I hg hm hv ?_ hn hdb)
  exact PyProof.Rows.callWith_type1 (thn (ha pos pins s σ H _ I h) fun us s1 ⟨vs, H1, I1, r1, q1⟩ => hc pins s1 σ H1 vs us Q I1 r1 q1) he hpl
/-- T() -/
theorem pe_callTy0 (hc : CallR X (.type T) r) (hg : Gl X x) (hm : X.mg x = none) (hv : bootBuiltins x = some (.type T)) (hn : x ≠ "__name__" := by decide) (hdb : (x == ("__debug__" : Str)) = false := by decide) :
    PE X (.Call (.Name x p) [] [] pos) (tCB r tNil) := by
  intro pins s σ H Q I h
  refine wpAny_Call_Name_kw (ld_blt I hg hm hv ?_ hn hdb)
  exact PyProof.Rows.callWith_type0 (hc pins s σ H [] [] Q I .nil h)
end
end L2

namespace HT
open PySem PyProof.Rows

section
open PySem.SeqAt
open PySem.AutoSeq1 (wpAny_loadPart')
open PySem.MeetsSeq PySem.MeetsSeq2 PySem.MeetsSeq3

end

section
variable {prog : Program} {w : World} {A : Around} {E : Value → Shared → Prop} {s : Shared}

/-! ### t[a:b], not the whole -/
/-- a slice's bound as a place among n (d where it is left out) -/
def sIx (n d : Nat) : Option Int → Nat
  | none => d
  | some v => if v < 0 then (v + (n : Int)).toNat else min v.toNat n
theorem sIx_none (n d : Nat) : sIx n d none = d := rfl
theorem sIx_nat (n d k : Nat) : sIx n d (some (k : Int)) = min k n := by
  show (if (k : Int) < 0 then ((k : Int) + (n : Int)).toNat else min (k : Int).toNat n) = min k n
  rw [if_neg (by omega), Int.toNat_natCast]
end
end HT

namespace L2
open PySem PySem.Spec PyProof.Rows

/-! ### the parts of a slice -/
abbrev TO := St → Hp → (Option Int → Hp → Prop) → Prop
/-- a slice's part (left out, or an int) -/
def PO (X : Cx) (e : Option Expr) (t : TO) : Prop :=
  ∀ (pins : List (Addr × Obj)) (s : Shared) (σ : St) (H : Hp) (Q : Option Int → Hp → Prop), Inv X pins σ H s → t σ H Q →
    wpAny (model X.prog X.w) X.A (evalPart e X.env) (fun u s' => ∃ o H', Inv X pins σ H' s' ∧ IsPart u o ∧ Q o H') X.xe s
def tNoPart : TO := fun _ H Q => Q none H
def tPart (t : TE) : TO := fun σ H Q => t σ H fun x H1 => ∃ i, x = .int i ∧ Q (some i) H1

theorem intsAre_of {ns : List Int} : ∀ {us : List Value}, Vals (ns.map V.int) us → IntsAre us ns := by
  induction ns with
  | nil => intro us r; rw [List.map_nil] at r; cases r; exact .nil
  | cons n ns ih =>
    intro us r
    rw [List.map_cons] at r
    cases r with
    | cons r1 r2 =>
      obtain ⟨t, e⟩ := r1
      subst e
      exact .cons n t (ih r2)

section
variable {X : Cx} {e : Expr} {te : TE} {lo hi : Option Expr} {tl th : TO} {pos p2 : Pos}

theorem po_none : PO X none tNoPart := by
  intro pins s σ H Q I h
  rw [evalPart_none]
  exact wpAny_pure ⟨none, H, I, .none, h⟩
theorem po_some (h : PE X e te) : PO X (some e) (tPart te) := by
  intro pins s σ H Q I hw
  rw [evalPart_some]
  refine thn (h pins s σ H _ I hw) fun u s1 ⟨x, H1, I1, r1, q1⟩ => ?_
  obtain ⟨i, rfl, q⟩ := q1
  obtain ⟨t, rfl⟩ := r1
  exact ⟨some i, H1, I1, .int i t, q⟩

/-- what a slice of a value is, by values: the slice object stands at sl -/
def SlR (X : Cx) (r : V → Option Int → Option Int → Hp → VK → Prop) : Prop :=
  ∀ (pins : List (Addr × Obj)) (s : Shared) (σ : St) (H : Hp) (x : V) (v vl vu : Value) (lo hi : Option Int) (sl : Addr) (Q : VK), Inv X pins σ H s → RelV x v → s.heap.IsSliceOf sl vl vu .none → IsPart vl lo → IsPart vu hi → r x lo hi H Q →
    ∃ T id, typeLookup (.type T) "__getitem__" = pure (some (.builtin id)) ∧ s.TypeIs v T ∧ wpAny (model X.prog X.w) X.A (getItem v (.ref sl)) (EP X pins σ Q) X.xe s
def tSl (r : V → Option Int → Option Int → Hp → VK → Prop) (te : TE) (tl th : TO) : TE := fun σ H Q => te σ H fun x H1 => tl σ H1 fun l H2 => th σ H2 fun u H3 => r x l u H3 Q
/-- a[lo:hi], any a -/
theorem pe_slice {r : V → Option Int → Option Int → Hp → VK → Prop} (hr : SlR X r) (he : PE X e te) (hl : PO X lo tl) (hu : PO X hi th) : PE X (.Subscript e (.Slice lo hi none p2) pos) (tSl r te tl th) := by
  intro pins s σ H Q I h
  refine Subscript_ (thn (he pins s σ H _ I h) fun v s1 ⟨x, H1, I1, r1, q1⟩ => ?_)
  refine wpAny_Slice (thn (hl pins s1 σ H1 _ I1 q1) fun vl s2 ⟨l, H2, I2, pl, q2⟩ => thn (hu pins s2 σ H2 _ I2 q2) fun vu s3 ⟨u, H3, I3, pu, q3⟩ => ?_)
  rw [evalPart_none]
  refine wpAny_pure ?_
  have I4 : Inv X pins σ H3 { s3 with heap := s3.heap.push { cls := .type "slice", data := .fields #[vl, vu, .none] } } := I3.kept (t' := s3.toks) fun b ob q => Heap.get?_push_of_some _ q
  obtain ⟨T, id, hT, ht, hg⟩ := hr pins { s3 with heap := s3.heap.push { cls := .type "slice", data := .fields #[vl, vu, .none] } } σ H3 x v vl vu l u s3.heap.objs.size Q I4 r1 (Heap.IsSliceOf.new ..) pl pu q3
  show wpAny (model X.prog X.w) X.A (subscriptTail e (.Slice lo hi none p2) v (.ref s3.heap.objs.size)) (EP X pins σ Q) X.xe { s3 with heap := s3.heap.push { cls := .type "slice", data := .fields #[vl, vu, .none] } }
  exact tail_any (ops := [.ref s3.heap.objs.size, v]) ht hT hg (by with_unfolding_all rfl)

/-- the items of xs[lo:hi] -/
def cutV (xs : List V) (lo hi : Option Int) : List V := (xs.drop (HT.sIx xs.length 0 lo)).take (HT.sIx xs.length xs.length hi - HT.sIx xs.length 0 lo)
theorem cutV_length (xs : List V) (lo hi : Option Int) : (cutV xs lo hi).length ≤ xs.length := by
  unfold cutV
  rw [List.length_take, List.length_drop]
  omega
/-! ### t < u, t + u -/
end
end L2

namespace L2
open PySem PySem.Spec PyProof.Rows

/-! ### places -/
/-- the place that an index of any sign means -/
def ixN (n : Nat) (i : Int) : Option Nat := if 0 ≤ i then (if i < n then some i.toNat else none) else if -(n : Int) ≤ i then some (i + n).toNat else none
def atI {α : Type} (xs : List α) (i : Int) : Option α := (ixN xs.length i).bind fun j => xs[j]?
theorem ixN_seq {n : Nat} {i : Int} {j : Nat} (h : ixN n i = some j) : seqIndex? i n = some j ∧ j < n ∧ -(n : Int) ≤ i ∧ i < n := by
  unfold ixN at h
  by_cases h0 : 0 ≤ i
  · rw [if_pos h0] at h
    by_cases h1 : i < n
    · rw [if_pos h1] at h
      have e : i.toNat = j := Option.some.inj h
      exact ⟨by rw [seqIndex_of h0 h1, e], by omega, by omega, h1⟩
    · rw [if_neg h1] at h; cases h
  · rw [if_neg h0] at h
    by_cases h1 : -(n : Int) ≤ i
    · rw [if_pos h1] at h
      have e : (i + n).toNat = j := Option.some.inj h
      exact ⟨by rw [seqIndex_neg (by omega) h1, e], by omega, h1, by omega⟩
    · rw [if_neg h1] at h; cases h
theorem atI_get {α : Type} {xs : List α} {i : Int} {v : α} (h : atI xs i = some v) : ∃ j, seqIndex? i xs.length = some j ∧ xs[j]? = some v ∧ j < xs.length ∧ -(xs.length : Int) ≤ i ∧ i < xs.length := by
  unfold atI at h
  cases e : ixN xs.length i with
  | none => rw [e] at h; cases h
  | some j =>
    rw [e] at h
    obtain ⟨h1, h2, h3, h4⟩ := ixN_seq e
    exact ⟨j, h1, h, h2, h3, h4⟩
theorem atI_nat {α : Type} {xs : List α} {j : Nat} {v : α} (h : xs[j]? = some v) : atI xs (j : Int) = some v := by
  have hj : j < xs.length := (List.getElem?_eq_some_iff.mp h).1
  have e : ixN xs.length (j : Int) = some j := by
    unfold ixN
    rw [if_pos (by omega), if_pos (by omega)]; simp
  unfold atI; rw [e]; exact h
theorem atI_last {α : Type} (xs : List α) (v : α) : atI (xs ++ [v]) (-1) = some v := by
  have hl : (xs ++ [v]).length = xs.length + 1 := by simp
  have e : ixN (xs ++ [v]).length (-1) = some xs.length := by
    unfold ixN
    rw [hl, if_neg (by decide), if_pos (by omega)]
    congr 1
    omega
  unfold atI
  rw [e]
  show (xs ++ [v])[xs.length]? = some v
  simp

/-! ### what may be subscripted -/
/-- what stands as an index of a plain subscript -/
def PlainIx (b : Expr) : Prop := ∀ o i, subscripted b false o i = operate [o, i] (getItem o i)
/-- a subscript by values -/
def IxR (X : Cx) (r : R2) : Prop :=
  ∀ (value slice : Expr) (pins : List (Addr × Obj)) (s : Shared) (σ : St) (H : Hp) (x y : V) (v u : Value) (Q : VK), Inv X pins σ H s → RelV x v → RelV y u → r x y H Q →
    subscripted slice false v u = operate [v, u] (getItem v u) → wpAny (model X.prog X.w) X.A (subscriptTail value slice v u) (EP X pins σ Q) X.xe s
/-- a call of a builtin's method by values: the receiver, the arguments -/
def MtR (X : Cx) (id : String) (r : V → List V → Hp → VK → Prop) : Prop :=
  ∀ (pins : List (Addr × Obj)) (s : Shared) (σ : St) (H : Hp) (x : V) (xs : List V) (v : Value) (us : List Value) (Q : VK), Inv X pins σ H s → RelV x v → Vals xs us → r x xs H Q →
    wpAny (model X.prog X.w) X.A (call (.builtin id) (v :: us)) (EP X pins σ Q) X.xe s
section
variable {X : Cx} {a b : Expr} {ta tb : TE} {pos : Pos}
/-- a[b] -/
theorem pe_ix {r : R2} (hr : IxR X r) (ha : PE X a ta) (hb : PE X b tb) (hs : PlainIx b) : PE X (.Subscript a b pos) (tOp r ta tb) := by
  intro pins s σ H Q I h
  exact Subscript_ (binT ha hb I h fun v u s2 x y H2 I2 rx ry q => hr a b pins s2 σ H2 x y v u Q I2 rx ry q (hs _ _))

def rIxL (K : PySem.W.Frag) : R2 := fun x y H Q => ∃ p xs i v, x = .ref p ∧ y = .int i ∧ SqL K H p xs ∧ atI xs i = some v ∧ Q v H
def rIxT (K : PySem.W.Frag) : R2 := fun x y H Q => ∃ p xs i v, x = .ref p ∧ y = .int i ∧ SqT K H p xs ∧ atI xs i = some v ∧ Q v H
theorem ix_list : IxR X (rIxL X.K) := by
  intro value slice pins s σ H x y v u Q I rx ry h hs
  obtain ⟨p, xs, i, z, rfl, rfl, hq, he, q⟩ := h
  cases rx
  obtain ⟨t, rfl⟩ := ry
  obtain ⟨its, r, pl, hz⟩ := I.list hq
  obtain ⟨j, h1, h2, h3, h4, h5⟩ := atI_get he
  obtain ⟨w, ew, rw'⟩ := r.get h2
  have hl := r.length
  have hn := line63
  have fin : EP X pins σ Q w s := ⟨z, H, I, rw', q⟩
  by_cases h0 : 0 ≤ i
  · have hj : i.toNat = j := by
      rw [seqIndex_of h0 h5] at h1
      exact Option.some.inj h1
    exact item_listR pl.isList h0 (by omega) (by rw [hj]; simpa using ew) fin hs
  · have hj : (i + (its.toArray.size : Int)).toNat = j := by
      rw [seqIndex_neg (by omega) h4] at h1
      rw [List.size_toArray, ← hl]
      exact Option.some.inj h1
    exact subscriptTail_builtinR (x := w) pl.isList.typeIs slot_list_getitem.lookup
      (wpAny_getItem_list_neg (Q := fun r s' => r = w ∧ EP X pins σ Q r s') pl.isList (by omega) (by rw [List.size_toArray] <;> omega) (by omega) (by rw [hj]; simpa using ew) ⟨rfl, fin⟩) hs
theorem ix_tup : IxR X (rIxT X.K) := by
  intro value slice pins s σ H x y v u Q I rx ry h hs
  obtain ⟨p, xs, i, z, rfl, rfl, hq, he, q⟩ := h
  cases rx
  obtain ⟨t, rfl⟩ := ry
  obtain ⟨its, r, pl, hz⟩ := I.tuple hq
  obtain ⟨j, h1, h2, h3, h4, h5⟩ := atI_get he
  obtain ⟨w, ew, rw'⟩ := r.get h2
  have hl := r.length
  have hn := line63
  have fin : EP X pins σ Q w s := ⟨z, H, I, rw', q⟩
  exact subscriptTail_builtinR (x := w) pl.typeIs slot_tuple_getitem.lookup
    (getItem_tuple (j := j) (Q := fun r s' => r = w ∧ EP X pins σ Q r s') pl (by omega) (by omega) (by rw [List.size_toArray, ← hl]; exact h1) (by simpa using ew) ⟨rfl, fin⟩) hs
/-! ### xs[i] = v, any sign -/
/-! ### slices -/
theorem slice_bounds (lo hi : Option Int) (n : Nat) : (sliceBounds lo hi none n).1 = ((HT.sIx n 0 lo : Nat) : Int) ∧ (sliceBounds lo hi none n).2.1 = ((HT.sIx n n hi : Nat) : Int) ∧ (sliceBounds lo hi none n).2.2 = 1 := by
  refine ⟨?_, ?_, rfl⟩
  · cases lo with
    | none => simp [sliceBounds, HT.sIx]
    | some i =>
      simp only [sliceBounds, HT.sIx, Option.getD_none, show (1 : Int) > 0 by decide, if_true]
      by_cases h : i < 0
      · simp only [h, if_true] <;> omega
      · simp only [h, if_false] <;> omega
  · cases hi with
    | none => simp [sliceBounds, HT.sIx]
    | some i =>
      simp only [sliceBounds, HT.sIx, Option.getD_none, show (1 : Int) > 0 by decide, if_true]
      by_cases h : i < 0
      · simp only [h, if_true] <;> omega
      · simp only [h, if_false] <;> omega
theorem slicePick_cut (its : List Value) (lo hi : Option Int) : slicePick its.toArray lo hi none = ((its.drop (HT.sIx its.length 0 lo)).take (HT.sIx its.length its.length hi - HT.sIx its.length 0 lo)).toArray := by
  obtain ⟨h1, h2, h3⟩ := slice_bounds lo hi its.toArray.size
  unfold slicePick
  rw [h1, h2, h3]
  simp only [sliceRange_one, pick_run, List.size_toArray] <;> rfl
/-- xs[lo:hi] of a list: a new list -/
def rSlL (K : PySem.W.Frag) : V → Option Int → Option Int → Hp → VK → Prop := fun x lo hi H Q => ∃ a xs, x = .ref a ∧ SqL K H a xs ∧ ∀ p, H p = none → Q (.ref p) (upd H p (.lst (cutV xs lo hi)))
theorem sl_list : SlR X (rSlL X.K) := by
  intro pins s σ H x v vl vu lo hi sl Q I rx hs pl pu h
  obtain ⟨a, xs, rfl, hx, q⟩ := h
  cases rx
  obtain ⟨its, r, ht, hz⟩ := I.list hx
  have hlen := r.length
  refine ⟨"list", _, slot_list_getitem.lookup, ht.isList.typeIs, ?_⟩
  refine wpAny_getItem_list_slice ht.isList hs pl pu .none (by simp) ?_ (by rw [List.size_toArray] <;> omega)
  rw [slicePick_cut, ← hlen]
  refine ⟨.ref s.heap.objs.size, _, I.laid (t' := s.toks) (o := .lst (cutV xs lo hi)) (fun b ob q => Heap.get?_push_of_some _ q) (Nat.le_refl _) ?_, rfl, q _ (I.hok.fresh (Nat.le_refl _))⟩
  exact ⟨Nat.le_trans (cutV_length xs lo hi) hz, _, 0, (r.drop (HT.sIx xs.length 0 lo)).take (HT.sIx xs.length xs.length hi - HT.sIx xs.length 0 lo), Heap.get?_push_size _ rfl⟩

/-! ### in, not in: flat items -/
/-! ### len, list(x), tuple(x) of any list or tuple that is read -/
theorem call_len_seq : CallR X (.builtin "len") (fun xs H Q => ∃ p ys, xs = [.ref p] ∧ (SqL X.K H p ys ∨ SqT X.K H p ys) ∧ Q (.int ys.length) H) := by
  intro pins s σ H xs us Q I r h
  obtain ⟨p, ys, rfl, hq, q⟩ := h
  obtain ⟨u, rfl, rx⟩ := vals1 r
  cases rx
  have hn := line63
  rcases hq with hq | hq
  · obtain ⟨its, r', pl, hz⟩ := I.list hq
    have hlen := r'.length
    exact Calls.call_len_list pl.isList (by simp only [List.size_toArray] <;> omega) ⟨.int ys.length, H, I.tok _, ⟨s.toks + 1, by rw [List.size_toArray, hlen]⟩, q⟩
  · obtain ⟨its, r', pl, hz⟩ := I.tuple hq
    have hlen := r'.length
    exact len_tuple pl (by simp only [List.size_toArray] <;> omega) ⟨.int ys.length, H, I.tok _, ⟨s.toks + 1, by rw [List.size_toArray, hlen]⟩, q⟩
theorem call_list_of : CallR X (.type "list") (fun xs H Q => ∃ p ys, xs = [.ref p] ∧ (SqL X.K H p ys ∨ SqT X.K H p ys) ∧ ∀ l, H l = none → Q (.ref l) (upd H l (.lst ys))) := by
  intro pins s σ H xs us Q I r h
  obtain ⟨p, ys, rfl, hq, q⟩ := h
  obtain ⟨u, rfl, rx⟩ := vals1 r
  cases rx
  have fin : ∀ (its : List Value), Vals ys its → ys.length ≤ sizeLine → ∀ (h' : Heap) (c' : Nat), (∀ b o', s.heap.get? b = some o' → h'.get? b = some o') →
      h'.get? s.heap.objs.size = some { cls := .type "list", dict := none, data := .seq its.toArray c', slots := #[] } → EP X pins σ Q (.ref s.heap.objs.size) { s with heap := h' } := fun its r' hz h' c' kp e =>
    ⟨.ref s.heap.objs.size, _, I.laid (t' := s.toks) kp (Nat.le_refl _) (show ObjOk X.prog X.w _ h' _ (.lst ys) from ⟨hz, its, c', r', e⟩), rfl, q _ (I.hok.fresh (Nat.le_refl _))⟩
  rcases hq with hq | hq
  · obtain ⟨its, r', pl, hz⟩ := I.list hq
    have hlen := r'.length
    obtain ⟨o, ho, hc, n, hd⟩ := pl.isList
    exact call_list_seq p (.inl rfl) ho hc hd (fun h' c' kp e => fin its r' hz h' c' kp e) (by simp only [List.size_toArray] <;> omega)
  · obtain ⟨its, r', pl, hz⟩ := I.tuple hq
    have hlen := r'.length
    obtain ⟨o, ho, hc, n, hd⟩ := pl
    exact call_list_seq p (.inr rfl) ho hc hd (fun h' c' kp e => fin its r' hz h' c' kp e) (by simp only [List.size_toArray] <;> omega)
/-! ### the call of a builtin's method: o.m(..) -/
/-- the value is of that builtin type -/
def tyV (K : PySem.W.Frag) (T : String) (x : V) (H : Hp) : Prop := match x with
  | .str _ => T = "str"
  | .int _ => T = "int"
  | .ref p => (T = "list" ∧ ∃ xs, SqL K H p xs) ∨ (T = "tuple" ∧ ∃ o, K.lookup p = some o ∧ o.cls = .type "tuple" ∧ o.dict = none) ∨
      (T = "dict" ∧ ((∃ kvs, H p = some (.dK kvs)) ∨ ∃ kvs, H p = some (.dT kvs))) ∨ (T = "set" ∧ ∃ S n, H p = some (.set S n))
  | _ => False
theorem tyV_is {pins : List (Addr × Obj)} {σ : St} {H : Hp} {s : Shared} {T : String} {x : V} {v : Value} (I : Inv X pins σ H s) (r : RelV x v) (ty : tyV X.K T x H) :
    s.TypeIs v T ∧ ∀ a, v = .ref a → ∃ ob, s.heap.get? a = some ob ∧ ob.dict = none := by
  cases x with
  | str z =>
    obtain ⟨t, rfl⟩ := r
    cases (show T = "str" from ty)
    exact ⟨typeIs_str s z t, fun _ e => nomatch e⟩
  | int i =>
    obtain ⟨t, rfl⟩ := r
    cases (show T = "int" from ty)
    exact ⟨typeIs_int s i t, fun _ e => nomatch e⟩
  | ref p =>
    cases r
    rcases ty with ⟨rfl, xs, hq⟩ | ⟨rfl, o, hk, hc, hd⟩ | ⟨rfl, hk⟩ | ⟨rfl, S, n, hk⟩
    · obtain ⟨its, _, pl, _⟩ := I.list hq
      refine ⟨pl.isList.typeIs, fun a e => ?_⟩
      cases e
      obtain ⟨o, n, e, c, hd, _⟩ := pl
      exact ⟨o, e, hd⟩
    · refine ⟨⟨o, I.kIn p o hk, hc⟩, fun a e => ?_⟩
      cases e
      exact ⟨o, I.kIn _ o hk, hd⟩
    · have z : ∃ o, s.heap.get? p = some o ∧ o.ExactDict := by
        rcases hk with ⟨kvs, hk⟩ | ⟨kvs, hk⟩
        · obtain ⟨_, _, _, _, o, _, _, e, ex, _⟩ := I.hok p _ hk
          exact ⟨o, e, ex⟩
        · obtain ⟨_, _, _, _, o, _, _, e, ex, _⟩ := I.hok p _ hk
          exact ⟨o, e, ex⟩
      obtain ⟨o, e, ex⟩ := z
      refine ⟨⟨o, e, ex.1⟩, fun a e2 => ?_⟩
      cases e2
      exact ⟨o, e, ex.2.1⟩
    · obtain ⟨o, _, _, _, e, ex, _⟩ := I.hok p _ hk
      refine ⟨⟨o, e, ex.1⟩, fun a e2 => ?_⟩
      cases e2
      exact ⟨o, e, ex.2.1⟩
  | _ => exact False.elim ty
def tBM0 (K : PySem.W.Frag) (T : String) (r : V → List V → Hp → VK → Prop) (to : TE) : TE := fun σ H Q => to σ H fun x H1 => tyV K T x H1 ∧ r x [] H1 Q
def tBM (K : PySem.W.Frag) (T : String) (r : V → List V → Hp → VK → Prop) (to : TE) (t : TA) : TE := fun σ H Q => to σ H fun x H1 => tyV K T x H1 ∧ t σ H1 fun xs H2 => r x xs H2 Q
variable {o e : Expr} {es : List Expr} {to : TE} {t : TA} {name : Str} {apos cpos : Pos} {T id : String} {r : V → List V → Hp → VK → Prop}
theorem pe_bm0 (pa : PlainAttrs T) (slot : Slot T name id) (hty : typeOf (.builtin id) = pure (.type "method_descriptor")) (hm : MtR X id r) (ho : PE X o to)
    (hbase : attributeBase o name X.env (eval o X.env) = eval o X.env := by rfl) (hline : (apos.endLine == cpos.line) = true := by rfl) : PE X (.Call (.Attribute o name apos) [] [] cpos) (tBM0 X.K T r to) := by
  intro pins s σ H Q I h
  refine wpAny_Call_method0_late hbase hline (thn (ho pins s σ H _ I h) fun v s1 ⟨x, H1, I1, r1, ty, q1⟩ => ?_)
  obtain ⟨h1, h2⟩ := tyV_is I1 r1 ty
  exact ⟨T, id, pa, slot, hty, h1, h2, Calls.callWith_builtin rfl (PySem.evalArgs_none (hm pins s1 σ H1 x [] v [] Q I1 r1 .nil q1))⟩
theorem pe_bm (pa : PlainAttrs T) (slot : Slot T name id) (hty : typeOf (.builtin id) = pure (.type "method_descriptor")) (hm : MtR X id r) (ho : PE X o to) (ha : PA X (e :: es) t)
    (hbase : attributeBase o name X.env (eval o X.env) = eval o X.env := by rfl)
    (hfew : ((backTo cpos (starEach (e :: es) X.env)).all (fun x => !x.1) && (backToKw cpos (keywordEach [] X.env)).all (fun x => x.1.isSome)
      && decide ((e :: es).length + ([] : List Keyword).length + (if ([] : List Keyword).isEmpty then 0 else 1) < 30)) = true := by rfl)
    (hline : (apos.endLine == cpos.line) = true := by rfl) (hs : starEach (e :: es) X.env = (false, eval e X.env) :: starEach es X.env := by rfl) (hplain : (backTo cpos (starEach es X.env)).any (·.1) = false := by rfl) :
    PE X (.Call (.Attribute o name apos) (e :: es) [] cpos) (tBM X.K T r to t) := by
  intro pins s σ H Q I h
  refine wpAny_Call_method_late hbase hfew hline rfl (thn (ho pins s σ H _ I h) fun v s1 ⟨x, H1, I1, r1, ty, q1⟩ => ?_)
  obtain ⟨h1, h2⟩ := tyV_is I1 r1 ty
  refine ⟨T, id, pa, slot, hty, h1, h2, ?_⟩
  have hA := ha cpos pins s1 σ H1 _ I1 q1
  rw [hs] at hA ⊢
  refine Calls.callWith_builtin (by show (false || (backTo cpos (starEach es X.env)).any (·.1)) = false; rw [hplain] <;> rfl) (Calls.evalArgs_plain ?_)
  exact thn hA fun us s2 ⟨vs, H2, I2, r2, q2⟩ => hm pins s2 σ H2 x vs v us Q I2 r1 r2 q2
/- xs.append(e), list.index on a module's tuple .. are MtR facts of 06m -/
end
end L2

namespace L2
open PySem PySem.Spec PyProof.Rows

def MtM (X : Cx) (id : String) (r : V → List V → Hp → VK → Prop) : Prop :=
  ∀ (pins : List (Addr × Obj)) (s : Shared) (σ : St) (H : Hp) (x : V) (xs : List V) (v : Value) (us : List Value) (Q : VK), Inv X pins σ H s → RelV x v → Vals xs us → r x xs H Q →
    wpAny (model X.prog X.w) X.A (call (.builtin id) (v :: us)) (EP X pins σ Q) X.xe s

/-! ### lists of values -/
theorem Vals.one : ∀ {x : V} {us : List Value}, Vals [x] us → ∃ u, us = [u] ∧ RelV x u
  | _, _, .cons r .nil => ⟨_, rfl, r⟩
theorem Vals.two : ∀ {x y : V} {us : List Value}, Vals [x, y] us → ∃ u v, us = [u, v] ∧ RelV x u ∧ RelV y v
  | _, _, _, .cons r (.cons q .nil) => ⟨_, _, rfl, r, q⟩
theorem Vals.zero : ∀ {us : List Value}, Vals [] us → us = []
  | _, .nil => rfl
section
variable {X : Cx} {pins : List (Addr × Obj)} {σ : St} {H : Hp} {s : Shared} {l b : Addr} {xs ys zs : List V}

/-! ### the two steps: a tracked list is rewritten, a new list is laid -/
theorem Inv.lset {its its' : List Value} {n : Nat} {f : Array Value → Array Value} {t' : Nat} (I : Inv X pins σ H s) (hH : H l = some (.lst xs))
    (e : s.heap.get? l = some { cls := .type "list", data := .seq its.toArray n }) (hf : f its.toArray = its'.toArray) (hv : Vals ys its') (hz : ys.length ≤ sizeLine) :
    Inv X pins σ (upd H l (.lst ys)) { s with heap := s.heap.update l (Obj.mapSeq f), toks := t' } := by
  have q := PySem.IsL.update e f
  rw [hf] at q
  refine I.write (x := l) (e := l) (by rw [hH]; exact trivial) (.inl rfl) (fun b' u hb hu => (Heap.get?_update_other s.heap (Obj.mapSeq f) (Ne.symm hb)).trans hu) ⟨_, q⟩ ?_
  exact ⟨hz, its', _, hv, q⟩
theorem Inv.lnew {its : List Value} {t' : Nat} (I : Inv X pins σ H s) (hv : Vals ys its) (hz : ys.length ≤ sizeLine) :
    Inv X pins σ (upd H s.heap.objs.size (.lst ys)) { s with heap := s.heap.push { cls := .type "list", data := .seq its.toArray }, toks := t' } :=
  I.laid (fun _ _ q => Heap.get?_push_of_some _ q) (Nat.le_refl _) ⟨hz, its, 0, hv, Heap.get?_push_size _ rfl⟩
theorem Inv.fresh (I : Inv X pins σ H s) : H s.heap.objs.size = none := I.hok.fresh (Nat.le_refl _)
theorem Inv.lstM (I : Inv X pins σ H s) (hH : H l = some (.lst xs)) : xs.length ≤ sizeLine ∧ ∃ (its : List Value) (n : Nat), Vals xs its ∧ xs.length = its.length ∧ s.heap.get? l = some { cls := .type "list", data := .seq its.toArray n } := by
  obtain ⟨z, its, n, r, e⟩ := I.hok l _ hH
  exact ⟨z, its, n, r, r.length, e⟩

theorem notLongL {n : Nat} (h : n ≤ sizeLine) : Builtin.List.listTooLong n = false := by
  unfold Builtin.List.listTooLong
  exact decide_eq_false (by omega)
end

section
variable {X : Cx}

/-! ### methods -/
def rAppend : V → List V → Hp → VK → Prop := fun x vs H Q => ∃ l xs y, x = .ref l ∧ vs = [y] ∧ H l = some (.lst xs) ∧ xs.length < sizeLine ∧ Q .non (upd H l (.lst (xs ++ [y])))
theorem mt_append : MtM X "list.append" rAppend := by
  intro pins s σ H x vs v us Q I rx rv h
  obtain ⟨l, xs, y, rfl, rfl, hH, hz, q⟩ := h
  cases rx
  obtain ⟨u, rfl, ru⟩ := rv.one
  obtain ⟨z, its, n, r, hl, e⟩ := I.lstM hH
  refine call_meets F.slot_list_append ⟨_, e, rfl⟩ F.entry_list_append (F.args_list_append_2 _ _) (PySem.list_append l its.toArray n u (by rw [List.size_toArray]; omega)) ⟨e, ?_⟩
  refine ⟨.non, _, I.lset (its' := its ++ [u]) hH e (by simp) (r.append (.cons ru .nil)) ?_, rfl, q⟩
  rw [List.length_append, List.length_singleton]
  omega

def rClear : V → List V → Hp → VK → Prop := fun x vs H Q => ∃ l xs, x = .ref l ∧ vs = [] ∧ H l = some (.lst xs) ∧ Q .non (upd H l (.lst []))
theorem mt_clear : MtM X "list.clear" rClear := by
  intro pins s σ H x vs v us Q I rx rv h
  obtain ⟨l, xs, rfl, rfl, hH, q⟩ := h
  cases rx
  have hus := rv.zero
  subst hus
  obtain ⟨z, its, n, r, hl, e⟩ := I.lstM hH
  refine call_meets F.slot_list_clear ⟨_, e, rfl⟩ F.entry_list_clear (F.args_list_clear_1 _) (AutoSeq1.list_clear_list_0 l its.toArray n (by rw [List.size_toArray]; omega)) ⟨e, ?_⟩
  exact ⟨.non, _, I.lset (its' := []) (ys := []) hH e rfl .nil (Nat.zero_le _), rfl, q⟩

/-! ### list + list, list += list, list * int -/
def rCat : R2 := fun x y H Q => ∃ l b xs zs, x = .ref l ∧ y = .ref b ∧ H l = some (.lst xs) ∧ H b = some (.lst zs) ∧ xs.length + zs.length ≤ sizeLine ∧ ∀ p, H p = none → Q (.ref p) (upd H p (.lst (xs ++ zs)))
theorem op_cat : OpR X (binaryOp .Add) rCat := by
  intro pins s σ H x y v u Q I rx ry h
  obtain ⟨l, b, xs, zs, rfl, rfl, hH, hB, hz, q⟩ := h
  cases rx
  cases ry
  obtain ⟨z, its, n, r, hl, e⟩ := I.lstM hH
  obtain ⟨z2, its2, n2, r2, hl2, e2⟩ := I.lstM hB
  refine PySem.P.add_list e e2 ?_ (by rw [List.size_toArray, List.size_toArray]; omega)
  have ea : its.toArray ++ its2.toArray = (its ++ its2).toArray := by simp
  rw [ea]
  exact ⟨.ref _, _, I.lnew (t' := s.toks) (r.append r2) (by rw [List.length_append]; omega), rfl, q _ I.fresh⟩
/-! ### del xs[i] -/
end

/-! ### xs[a:b] = ys -/
section
variable {prog : Program} {w : World} {A : Around} {E : Value → Shared → Prop} {s : Shared}
end

section
variable {X : Cx}
end
end L2

namespace Att
open PySem PySem.W PySem.Calls PyProof.Rows

/-! ### the script -/
theorem ints_of_wellAll {P : Params} {h : Heap} : ∀ (ns : List Int) (vs : List Value), WellAll P h vs (ns.map WData.int) → IntsAre vs ns := by
  intro ns
  induction ns with
  | nil =>
    intro vs w
    rw [List.map_nil] at w
    cases w
    exact .nil
  | cons n ns ih =>
    intro vs w
    rw [List.map_cons] at w
    cases w with
    | cons a b =>
      cases a
      exact .cons _ _ (ih _ b)

theorem script_of {l : OpenLaw} {n : Nat} (hn : l.most = some n) {P : Params} {h : Heap} {args : List WData} {vals : List Value}
    (hpre : l.row.toRowW.claim.pre args = true) (hwl : WellAll P h vals args) :
    ∃ a vs ns, vals = [Value.ref a] ∧ args = [WData.list (ns.map WData.int)] ∧ h.get? a = some { cls := .type "list", data := .seq vs.toArray } ∧ IntsAre vs ns ∧ ns.length ≤ n := by
  have hsh : WShape.hasAll [] args [.list .int] = true := (pre_splitW hpre).1
  have hc : l.pre.holds [] { args := args } = true := (pre_splitW hpre).2
  obtain ⟨d, r, rfl, h1, h2⟩ := hasAllW_cons hsh
  obtain rfl := hasAllW_nil h2
  obtain ⟨xs, rfl, h3⟩ := hasW_list h1
  obtain ⟨ns, rfl⟩ := items_int h3
  have hlen : ns.length ≤ n := by
    unfold OpenLaw.pre at hc
    have h4 : (WTm.not (.lt (.lit (.int (n : Int))) (.len (.arg 0)))).holds [] { args := [.list (ns.map .int)] } = true := by
      have h4 := (holds_andW hc).1
      rw [hn] at h4
      exact h4
    have h5 := condW_of h4 (w_not (w_lt w_lit (w_len_list (w_arg rfl))))
    rw [List.length_map] at h5
    refine Nat.le_of_not_lt fun q => ?_
    have q' : (n : Int) < ((ns.length : Nat) : Int) := by omega
    first
      | (rw [decide_eq_true q'] at h5; exact absurd h5 (by decide))
      | (simp at h5; omega)
  cases hwl with
  | cons w1 w2 =>
    cases w2
    cases w1 with
    | list ho hall => exact ⟨_, _, ns, rfl, rfl, ho, ints_of_wellAll ns _ hall, hlen⟩

theorem post_true (l : OpenLaw) (args : List WData) : l.row.toRowW.claim.post args (.bool true) args = true :=
  postW_of (r := l.row.toRowW) (X := (true == true))
    (show WShape.has [] (.bool true) .bool = true by first | rfl | decide | simp [WShape.has, WShape.arms, WShape.armsAll])
    (show (WTm.eq .res (.lit (.bool true))).value [] { args := args, res := some (.bool true), after := args } = some (.bool (true == true)) from w_eq_bool (w_res rfl) w_lit) rfl

/-! ### the attachment: holds_open's last premise (the goal 'hc' behind k_head) from a wpAny of the law's body -/
/-- the same from a codeAny of the CALL (for a layer whose function contracts speak of calls) -/
theorem attach_call {l : OpenLaw} {n : Nat} {q : Program} {loose : List Str} {XP : (Str → Option Value) → Heap → Prop} {YP : World → Heap → Prop} {d : DefRec}
    (hn : l.most = some n) (hdf : d.params.defaults = [])
    (call : ∀ (w : World) (s₀ s₁ : Shared) (mg mb : Str → Option Value) (fa : Addr) (o : Obj) (pm cd doc : Value) (a : Addr) (vs : List Value) (ns : List Int),
      Ground q loose [] XP w s₀ mg mb s₁.heap → YP w s₁.heap →
      s₁.heap.get? fa = some o → o.data = .func (docDef d.name d.params d.body d.scope pm cd doc) → s₁.heap.CodeRec cd d.name → mg d.name = some (.ref fa) →
      s₁.heap.get? a = some { cls := .type "list", data := .seq vs.toArray } → IntsAre vs ns → ns.length ≤ n → s₁.gens = #[] →
      codeAny (model l.prog w) callerA (.call (.ref fa) ⟨[.ref a], []⟩) (fun r s' => r = .ok (.ret (.bool true)) ∧ OldK s₁.heap s'.heap ∧ s'.os = s₁.os ∧ AllBare s'.gens) s₁) :
    WalkO q loose XP YP l.row.toRowW d [] (fun f vs => PySem.call f vs) := by
  intro w s₀ s₁ mg mb G Y fa o pm cd doc dV kV ho hd hcd hD hmg hg args vals as hpre hlay hrd hwl hlo
  obtain rfl : dV = .none := Dflts.none hD hdf
  obtain rfl : kV = .none := Dflts.noKw hD
  obtain ⟨a, vs, ns, rfl, rfl, hobj, hints, hlen⟩ := script_of hn hpre hwl
  refine enter_call (codeAny_mono (call w s₀ s₁ mg mb fa o pm cd doc a vs ns G Y ho (fd_plain hd) hcd hmg hobj hints hlen hg) fun r s' hq => ?_)
  obtain ⟨rfl, h2, h3, h4⟩ := hq
  exact ⟨.inl ⟨.bool true, .bool true, [], rfl, fun _ => rfl, .bool true, post_true l _, fun _ => ⟨List.Pairwise.nil, fun _ hm => (nomatch hm)⟩⟩, h2, h3, h4⟩

/-! ### rules over ANY heap (no ledger) from facts about the written part K: the library's own take a ledger (News) for what they write -/
section
variable {prog : Program} {w : World} {A : Around} {E : Value → Shared → Prop} {s : Shared} {K : Frag}

/-! the whole heap as the ledger: makes every rule that writes through a ledger a rule over any heap -/
end
end Att

namespace L2
open PySem PySem.Spec PyProof.Rows

theorem vals_ints : ∀ {vs : List Value} {ns : List Int}, IntsAre vs ns → Vals (ns.map V.int) vs
  | _, _, .nil => .nil
  | _, _, .cons n t h => .cons ⟨t, rfl⟩ (vals_ints h)

/-- nothing is tracked but the script, known to the object (or it is an object of the module) -/
def Only (H : Hp) : Prop := ∀ b, H b = none ∨ ∃ o xs, H b = some (.frz o (.lst xs))

/-- THE HEAD: the law's promise, at the heap behind the top. F, the promise of the law's def, may use that base is part of the heap (so K.In base, base.Ns mainGlobals mg stand in Mod) -/
theorem law_call {P : Program} {w : World} {K : PySem.W.Frag} {mg mb : Str → Option Value} {CX : CXT} {k : Nat} {fa a : Addr} {fd : FuncData} {x : Str} {sp : Sp} {s₁ : Shared} {vs : List Value} {ns : List Int}
    (KX : K.In s₁.heap) (hns : s₁.heap.Ns mainGlobals mg) (hb : s₁.heap.Ns builtinsNs mb) (hbb : ∀ x : Str, x ≠ "__name__" → mb x = bootBuiltins x) (hlim : s₁.heap.NoLimit) (hg : s₁.gens = #[])
    (ha : s₁.heap.get? a = some { cls := .type "list", data := .seq vs.toArray }) (hi : IntsAre vs ns) (hl : ns.length ≤ sizeLine) (hr : Room k callerA)
    (F : ∀ base : Heap, K.In base → base.Ns mainGlobals mg → FnOk P w K mg base CX k fa fd [x] sp) (hbind : ∀ (s : Shared) (u : Value), BindsTo s fd ⟨[u], []⟩ [(x, u)])
    (hsp : ∀ H : Hp, Only H → SqL K H a (ns.map V.int) → sp [.ref a] H (fun v _ => v = .bl true) fun _ _ _ => False)
    (hCX : ∀ H e s', CX [] H s₁ (fun _ _ _ => False) e s' → False) :
    codeAny (model P w) callerA (.call (.ref fa) ⟨[.ref a], []⟩) (fun r s' => r = .ok (.ret (.bool true)) ∧ OldK s₁.heap s'.heap ∧ s'.os = s₁.os ∧ AllBare s'.gens) s₁ := by
  have rv := vals_ints hi
  have lenV := hi.length
  -- from an abstract heap in which nothing but the script may be tracked
  have core : ∀ H : Hp, Only H → SqL K H a (ns.map V.int) → HOk P w H s₁.heap → (∀ b, H b ≠ none → b = a) → (H a ≠ none → K.lookup a = none) →
      codeAny (model P w) callerA (.call (.ref fa) ⟨[.ref a], []⟩) (fun r s' => r = .ok (.ret (.bool true)) ∧ OldK s₁.heap s'.heap ∧ s'.os = s₁.os ∧ AllBare s'.gens) s₁ := by
    intro H hO hS hok hA hK
    have base_of : ∀ {b : Addr} {o : Obj}, s₁.heap.get? b = some o → H b = none → (hidT s₁.heap H).get? b = some o := fun e n => hidT_get e n
    have noA : ∀ {b : Addr} {o : Obj} {es : Array DictEntry} {ep : Nat}, s₁.heap.get? b = some o → o.data = .dict es ep → H b = none := fun {b o es ep} e d => by
      cases q : H b with
      | none => rfl
      | some u =>
        have e' : b = a := hA b (by rw [q]; simp)
        subst e'
        rw [ha] at e; cases e
        have d' : Data.seq vs.toArray _ = Data.dict es ep := d
        cases d'
    have nsK : ∀ {b : Addr} {m : Str → Option Value}, s₁.heap.Ns b m → (hidT s₁.heap H).Ns b m := fun {b m} ⟨o, es, ep, e, d, r⟩ => ⟨o, es, ep, base_of e (noA e d), d, r⟩
    have hKb : K.In (hidT s₁.heap H) := fun b o e => base_of (KX b o e) (by
      cases q : H b with
      | none => rfl
      | some u =>
        have e' : b = a := hA b (by rw [q]; simp)
        subst e'
        rw [hK (by rw [q]; simp)] at e; cases e)
    have hM : Mod K mg (hidT s₁.heap H) := ⟨hKb, nsK hns, ⟨mb, nsK hb, hbb⟩, let ⟨mc, h1, h2⟩ := hlim; ⟨mc, nsK h1, h2⟩⟩
    have e0 : Env0 P w K mg (hidT s₁.heap H) callerA [] s₁ H := ⟨rfl, hM, fun b o e => of_hidT e, Nat.le_of_eq (hidT_size _ _), trivial, fun b hb => absurd (show b ∈ ([] : List Addr) from hb) (by simp), hok, .of_eq hg⟩
    refine codeAny_mono ((F _ hKb (nsK hns)).run callerA [] s₁ H ⟨[.ref a], []⟩ [.ref a] [.ref a] _ _ hr e0 (hbind s₁ (.ref a)) (.cons rfl .nil) (hsp H hO hS)) fun r s' h => ?_
    cases r with
    | error e => exact (hCX H e s' h).elim
    | ok fl =>
      cases fl with
      | next => exact False.elim h
      | brk => exact False.elim h
      | cont => exact False.elim h
      | ret u =>
        obtain ⟨v, H', os, bare, un, hok', r', q⟩ := h
        have q' : v = .bl true := q
        subst q'
        obtain rfl : u = Value.bool true := r'
        refine ⟨rfl, OldK.of_keep fun b o e => ?_, os, bare⟩
        cases q : H b with
        | none => exact un.keep b o e q (by intro z; exact absurd (show b ∈ ([] : List Addr) from z) (by simp)) (by simp)
        | some u =>
          rcases hO b with z | ⟨ob, xs, z⟩
          · rw [q] at z; cases z
          · have z2 := un.frzs b ob _ z
            obtain ⟨e1, _⟩ := hok b _ z
            obtain ⟨e2, _⟩ := hok' b _ z2
            rw [e] at e1; cases e1
            exact e2
  cases hk : K.lookup a with
  | some o =>
    -- the script is one of the module's own objects
    have e := KX a o hk
    rw [ha] at e
    cases e
    refine core (fun _ => none) (fun _ => .inl rfl) (.inr ⟨_, vs.toArray, _, hk, rfl, rfl, rfl, by rw [List.size_toArray, lenV]; exact hl, by simpa using rv⟩) (fun b u z => by have z' : (none : Option HO) = some u := z; cases z') (fun b z => absurd rfl z) fun z => absurd rfl z
  | none =>
    refine core (fun b => if b = a then some (.frz { cls := .type "list", data := .seq vs.toArray } (.lst (ns.map V.int))) else none) (fun b => ?_) (.inl (.inr ⟨{ cls := .type "list", data := .seq vs.toArray }, if_pos rfl⟩)) (fun b u z => ?_) (fun b z => ?_) fun _ => hk
    · by_cases hb : b = a
      · exact .inr ⟨_, _, if_pos hb⟩
      · exact .inl (if_neg hb)
    · by_cases hb : b = a
      · have z' := (if_pos hb).symm.trans z
        cases z'
        subst hb
        exact ⟨ha, by rw [List.length_map]; exact hl, vs, _, rv, ha⟩
      · have z' := (if_neg hb).symm.trans z
        cases z'
    · by_cases hb : b = a
      · exact hb
      · exact absurd (if_neg hb) z
end L2

namespace L2
open PySem PySem.Spec PyProof.Rows

abbrev KOf {K : PySem.W.Frag} {h : Heap} (_ : K.In h) : PySem.W.Frag := K

/-- the goal that k_head leaves (case hc), from the law's promise. F gives the function object fd (K's own) once, then the promise over every base -/
theorem walk_of {l : PySem.W.OpenLaw} {n k : Nat} {q : Program} {loose : List Str} {XP : (Str → Option Value) → Heap → Prop} {YP : World → Heap → Prop} {d : DefRec} {K : Params → PySem.W.Frag} {CX : World → CXT} {sp : World → Sp} {x : Str}
    (hn : l.most = some n) (hn2 : n ≤ sizeLine) (hdf : d.params.defaults = []) (hr : Room k callerA)
    (hY : ∀ (w : World) (h : Heap), YP w h → (K w.params).In h)
    (F : ∀ (w : World) (mg : Str → Option Value) (fa : Addr) (h : Heap), (K w.params).In h → h.Ns mainGlobals mg → mg d.name = some (.ref fa) →
      ∃ fd : FuncData, (∀ (s : Shared) (u : Value), BindsTo s fd ⟨[u], []⟩ [(x, u)]) ∧
        ∀ base : Heap, (K w.params).In base → base.Ns mainGlobals mg → FnOk l.prog w (K w.params) mg base (CX w) k fa fd [x] (sp w))
    (hsp : ∀ (w : World) (H : Hp) (a : Addr) (ns : List Int), ns.length ≤ n → Only H → SqL (K w.params) H a (ns.map V.int) → sp w [.ref a] H (fun v _ => v = .bl true) fun _ _ _ => False)
    (hCX : ∀ (w : World) (H : Hp) (s : Shared) (e : Value) (s' : Shared), CX w [] H s (fun _ _ _ => False) e s' → False) :
    PySem.W.WalkO q loose XP YP l.row.toRowW d [] (fun f vs => PySem.call f vs) := by
  refine Att.attach_call hn hdf fun w s₀ s₁ mg mb fa o pm cd doc a vs ns G Y ho hd hcd hmg hobj hints hlen hg => ?_
  have KX := hY w _ Y
  obtain ⟨fd, hb, hF⟩ := F w mg fa _ KX G.T.g hmg
  exact law_call KX G.T.g G.T.b G.T.builtins G.T.nolimit hg hobj hints (Nat.le_trans hlen hn2) hr hF hb (fun H hO hS => hsp w H a ns hlen hO hS) fun H e s' => hCX w H s₁ e s'
end L2



/-! SHORT WORDS over the layer: a def of the text, its body, what a loop and a test want. -/
namespace L2
open PySem PySem.Spec PyProof.Rows

/-! ### the text by places -/
def defArgs (s : Stmt) : Arguments := match s with
  | .FunctionDef _ a _ _ _ _ _ _ _ _ => a
  | _ => { posonlyargs := [], args := [], vararg := none, kwonlyargs := [], kw_defaults := [], kwarg := none, defaults := [] }
def defBody (s : Stmt) : List Stmt := match s with
  | .FunctionDef _ _ b _ _ _ _ _ _ _ => b
  | _ => []
def defScope (s : Stmt) : Scope := match s with
  | .FunctionDef _ _ _ _ _ _ sc _ _ _ => sc
  | _ => { kind := .function, names := [], isGenerator := false, isCoroutine := false }

/-! ### no exception leaves a def -/
abbrev CX0 : CXT := fun _ _ _ _ _ _ => False
abbrev E0 : XK := fun _ _ _ => False
theorem pass0 {X : Cx} : Passes CX0 X E0 := fun _ _ _ _ _ _ _ h => h.elim

/-! ### a def (or method) of the text as it stands behind the top -/
structure Fun (K : PySem.W.Frag) (x qual : Str) (st : Stmt) (f : Addr) (fd : FuncData) : Prop where
  ex : ∃ (oc : Value) (od : Option Addr) (kV doc pm : Value) (an : Option Addr) (cdv ct : Value) (osl : Array (Option Value)),
    fd = PySem.W.fnOf x qual (defArgs st) (defBody st) (defScope st) .none kV doc pm an cdv ct ∧ K.lookup f = some ⟨oc, od, .func fd, osl⟩ ∧ PySem.W.codeIn K cdv qual = true
  kp : PySem.W.keepIn K (.ref f) = true
section
variable {P : Program} {w : World} {K : PySem.W.Frag} {mg : Str → Option Value} {base : Heap}
/-- THE RULE for a def: its body as a term of rules, and the reading of that term -/
theorem Fun.ok {x qual : Str} {st : Stmt} {f : Addr} {fd : FuncData} {N ps : List Str} {k : Nat} {sp : Sp} (F : Fun K x qual st f fd) (S : FnScope N ps (defScope st)) (len : ∀ vs H Q E, sp vs H Q E → vs.length = ps.length)
    (hbody : ∀ (cdv : Value) (A : Around) (outer : List Env) (s : Shared) (H : Hp) (vs : List V) (Q : VK) (E : XK), Room k (A.deeper (envOfC qual (defScope st) s.heap.objs.size f cdv)) → sp vs H Q E →
      ∃ t, PSs (cxOf CX0 P w K mg base N qual (defScope st) f cdv A outer s H E).nox (defBody st) t ∧ t { nx := fun _ H' => Q .non H', rt := Q } (start N vs) H) : FnOk P w K mg base CX0 (k + 1) f fd ps sp := by
  obtain ⟨oc, od, kV, doc, pm, an, cdv, ct, osl, rfl, lk, hcd⟩ := F.ex
  refine fn_of lk hcd S len fun A outer s H vs Q E hr hsp => ?_
  obtain ⟨t, h, q⟩ := hbody cdv A outer s H vs Q E hr hsp
  exact ⟨t, h.nox, q⟩
/-- how its arguments bind (no defaults): h is «fun _ _ _ _ _ _ us hl => match us, hl with | [_, _], _ => rfl», one _ a parameter -/
theorem Fun.binds {x qual : Str} {st : Stmt} {f : Addr} {fd : FuncData} {ps : List Str} (F : Fun K x qual st f fd)
    (h : ∀ (kV doc pm : Value) (an : Option Addr) (cdv ct : Value) (us : List Value), us.length = ps.length → bindArgs (PySem.W.fnOf x qual (defArgs st) (defBody st) (defScope st) .none kV doc pm an cdv ct) ⟨us, []⟩ = pure (ps.zip us)) : Binds K fd ps [] := by
  obtain ⟨oc, od, kV, doc, pm, an, cdv, ct, osl, rfl, lk, hcd⟩ := F.ex
  exact .all (h kV doc pm an cdv ct)
theorem fun_mk {x qual : Str} {st : Stmt} {f : Addr} {oc : Value} {od an : Option Addr} {osl : Array (Option Value)} {kV doc pm cdv ct : Value} (l : K.lookup f = some ⟨oc, od, .func (PySem.W.fnOf x qual (defArgs st) (defBody st) (defScope st) .none kV doc pm an cdv ct), osl⟩)
    (c : PySem.W.codeIn K cdv qual = true) (k : PySem.W.keepIn K (.ref f) = true) : Fun K x qual st f (PySem.W.fnOf x qual (defArgs st) (defBody st) (defScope st) .none kV doc pm an cdv ct) := ⟨⟨oc, od, kV, doc, pm, an, cdv, ct, osl, rfl, l, c⟩, k⟩
end
theorem hu_of {A : Around} {k : Nat} (hr : Room k A) : A.units + 1 < cLine := Nat.lt_of_le_of_lt (Nat.add_le_add_left (by decide : 1 ≤ 64) _) hr.units
/-! ### expressions in short: the name that stands in the i-th slot -/
section
variable {X : Cx}
theorem pv (i : Nat) {x : Str} {pos : Pos} (hN : X.N[i]? = some x := by rfl) (hv : Vis X.env.scope x := by first | exact Or.inl rfl | exact Or.inr (Or.inl rfl) | exact Or.inr (Or.inr rfl)) (hd : (x == ("__debug__" : Str)) = false := by decide)
    (hcd : (x == ("__classdict__" : Str)) = false := by decide) : PE X (.Name x pos) (tVar i) := pe_var hN hv hd hcd
end

/-! ### tests -/
theorem iteF {A B : Prop} (h : B) : if false = true then A else B := by
  rw [if_neg Bool.false_ne_true]
  exact h
theorem iteT {A B : Prop} (h : A) : if true = true then A else B := by
  rw [if_pos rfl]
  exact h
theorem ite2 {c A B : Prop} [Decidable c] (h1 : c → A) (h2 : ¬ c → B) : if c then A else B := by
  by_cases h : c
  · rw [if_pos h]
    exact h1 h
  · rw [if_neg h]
    exact h2 h
/-! ### heaps -/
/-- all that was tracked is as it was -/
def Same (H H' : Hp) : Prop := ∀ b o, H b = some o → H' b = some o
theorem Same.refl (H : Hp) : Same H H := fun _ _ h => h
theorem Same.trans {H H1 H2 : Hp} (a : Same H H1) (b : Same H1 H2) : Same H H2 := fun c o h => b c o (a c o h)
theorem Same.free {H H' : Hp} (e : Same H H') {l : Addr} (h : H' l = Option.none) : H l = Option.none := by
  cases q : H l with
  | none => rfl
  | some o =>
    rw [e l o q] at h
    cases h
theorem Same.seq {K : PySem.W.Frag} {H H' : Hp} {a : Addr} {xs : List V} (e : Same H H') (h : SqL K H a xs) : SqL K H' a xs := by
  rcases h with (h | ⟨o, h⟩) | h
  · exact .inl (.inl (e _ _ h))
  · exact .inl (.inr ⟨o, e _ _ h⟩)
  · exact .inr h

end L2
namespace L2
open PySem PySem.Spec PyProof.Rows

/-! ### lists of pairs as tables -/
section
variable {κ : Type} [DecidableEq κ]
end


/-! ### a tracked dict, its keys ints and texts or tuples of these -/
theorem kV_is {P : Program} {w : World} {k : Key} {u : Value} (r : RelV (kV k) u) : (mixKind P w).is k u = true := by
  cases k with
  | inl i => obtain ⟨t, e⟩ := (show ∃ t, u = Value.int i t from r); subst e; exact mixKind_int P w i t
  | inr x => obtain ⟨t, e⟩ := (show ∃ t, u = Value.str x t from r); subst e; exact mixKind_str P w x t
theorem items_are {P : Program} {w : World} : ∀ {ks : List Key} {us : List Value}, Vals (ks.map kV) us → ItemsAre (mixKind P w) ks us
  | [], _, r => by rw [List.map_nil] at r; cases r; exact .nil
  | k :: ks, _, r => by
    rw [List.map_cons] at r
    cases r with
    | cons h t => exact .cons (kV_is h) (items_are t)

/-- raw entries of a dict with tuple keys -/
abbrev KT (H : Hp) : List (List Key × V) → List (List Key × Addr × Value) → Prop := Paired fun p q => p.1 = q.1 ∧ H q.2.1 = some (.tup (p.1.map kV)) ∧ RelV p.2 q.2.2
section
variable {P : Program} {w : World} {H : Hp} {h : Heap} {a : Addr}
end

section
variable {X : Cx} {pins : List (Addr × Obj)} {σ : St} {H : Hp} {s : Shared} {a : Addr} {y v : V} {u r : Value} {o : Option V} {A : Around} {E : Value → Shared → Prop}

end

section
variable {X : Cx} {pins : List (Addr × Obj)} {σ : St} {H : Hp} {s : Shared} {a : Addr} {kvs : List (Key × V)} {k : Key} {u : Value} {A : Around} {E : Value → Shared → Prop}
end


/-! ### readings and rules -/
section
variable {X : Cx} {o i e value : Expr} {pos pos' tpos : Pos} {td ty tv : TE}
end


/-! ### displays -/
section
variable {X : Cx} {pos : Pos}
end

abbrev VV : List (V × V) → List (Value × Value) → Prop := Paired fun p q => RelV p.1 q.1 ∧ RelV p.2 q.2
/-! ### methods -/
/-- a method call o.m(e) of a built-in, with one argument: what must be seen of the text -/
structure M1 (X : Cx) (o : Expr) (m : Str) (apos : Pos) (e : Expr) (cpos : Pos) : Prop where
  base : attributeBase o m X.env (eval o X.env) = eval o X.env
  few : ((backTo cpos (starEach [e] X.env)).all (fun x => !x.1) && (backToKw cpos (keywordEach [] X.env)).all (fun x => x.1.isSome)
    && decide (([e] : List Expr).length + ([] : List Keyword).length + (if ([] : List Keyword).isEmpty then 0 else 1) < 30)) = true
  line : (apos.endLine == cpos.line) = true
  trees : backTo cpos (starEach [e] X.env) = [(false, eval e X.env)]
structure M2 (X : Cx) (o : Expr) (m : Str) (apos : Pos) (e f : Expr) (cpos : Pos) : Prop where
  base : attributeBase o m X.env (eval o X.env) = eval o X.env
  few : ((backTo cpos (starEach [e, f] X.env)).all (fun x => !x.1) && (backToKw cpos (keywordEach [] X.env)).all (fun x => x.1.isSome)
    && decide (([e, f] : List Expr).length + ([] : List Keyword).length + (if ([] : List Keyword).isEmpty then 0 else 1) < 30)) = true
  line : (apos.endLine == cpos.line) = true
  trees : backTo cpos (starEach [e, f] X.env) = [(false, eval e X.env), (false, eval f X.env)]

section
variable {X : Cx} {pins : List (Addr × Obj)} {σ : St} {H : Hp} {s : Shared} {a : Addr} {y d : V} {u r : Value} {o : Option V} {A : Around} {E : Value → Shared → Prop}
end

section
variable {X : Cx} {o e f : Expr} {apos cpos : Pos} {td ty tx : TE}
end

/-! ### dict(d): a copy -/
section
variable {X : Cx} {pins : List (Addr × Obj)} {σ : St} {H : Hp} {s : Shared} {a : Addr} {kvs : List (Key × V)} {A : Around} {E : Value → Shared → Prop}
end


section
variable {X : Cx} {pins : List (Addr × Obj)} {σ : St} {H : Hp} {s : Shared} {a : Addr} {y : V} {u : Value} {A : Around} {E : Value → Shared → Prop}
end
end L2
namespace TL
open PySem

theorem forIn_pure {α β : Type} {f : α → β → Sem (ForInStep β)} (P : List α → β → Prop)
    (step : ∀ x l c, P (x :: l) c → ∃ c', f x c = pure (.yield c') ∧ P l c') : ∀ (l : List α) (c : β), P l c → ∃ c', forIn l c f = pure c' ∧ P [] c'
  | [], c, h => ⟨c, rfl, h⟩
  | x :: l, c, h => by
    obtain ⟨c1, e, h1⟩ := step x l c h
    obtain ⟨c2, e2, h2⟩ := forIn_pure P step l c1 h1
    refine ⟨c2, ?_, h2⟩
    rw [List.forIn_cons, e, pure_bind]
    exact e2

theorem closure_ok {scope : Scope} {env : Env} (h : ∀ y ∈ scope.names, y.2 = .free → ∃ c, env.cells.lookup y.1 = some c) :
    ∃ cl, closureFor scope env = pure cl ∧ (∀ x c, cl.lookup x = some c → env.cells.lookup x = some c) ∧ (∀ y ∈ scope.names, y.2 = .free → ∃ c, cl.lookup y.1 = some c) := by
  let P : List (Str × NameKind) → List (Str × Addr) → Prop := fun l c => (∀ y ∈ l, y.2 = .free → ∃ c, env.cells.lookup y.1 = some c) ∧ (∀ x a, c.lookup x = some a → env.cells.lookup x = some a) ∧
    (∀ y ∈ scope.names, y.2 = .free → y ∈ l ∨ ∃ a, c.lookup y.1 = some a)
  simp only [closureFor]
  obtain ⟨cl, e, _, h2, h3⟩ := forIn_pure (f := fun (x : Str × NameKind) (r : List (Str × Addr)) => if (x.2 == NameKind.free) = true then cellOf env x.1 >>= fun c => pure (ForInStep.yield ((x.1, c) :: r)) else pure (ForInStep.yield r)) P (by
    rintro ⟨n, k⟩ l c ⟨p1, p2, p3⟩
    by_cases hk : k = .free
    · subst hk
      obtain ⟨a, ha⟩ := p1 _ List.mem_cons_self rfl
      refine ⟨(n, a) :: c, ?_, fun y hy => p1 y (List.mem_cons_of_mem _ hy), fun x b hb => ?_, fun y hy hf => ?_⟩
      · have ha' : env.cells.lookup n = some a := ha
        simp [cellOf, ha']
      · rw [List.lookup_cons] at hb
        by_cases hx : (x == n) = true
        · rw [hx] at hb
          have e1 : x = n := by simpa using hx
          subst e1
          cases hb
          exact ha
        · have hx' : (x == n) = false := by simpa using hx
          rw [hx'] at hb
          exact p2 x b hb
      · by_cases hx : (y.1 == n) = true
        · exact .inr ⟨a, by rw [List.lookup_cons, hx]⟩
        · have hx' : (y.1 == n) = false := by simpa using hx
          rcases p3 y hy hf with q | ⟨b, q⟩
          · rcases List.mem_cons.mp q with q | q
            · exact absurd (by rw [q]; simp) hx
            · exact .inl q
          · exact .inr ⟨b, by rw [List.lookup_cons, hx']; exact q⟩
    · refine ⟨c, ?_, fun y hy => p1 y (List.mem_cons_of_mem _ hy), p2, fun y hy hf => ?_⟩
      · have : (k == NameKind.free) = false := by simpa using hk
        simp [this]
      · rcases p3 y hy hf with q | q
        · rcases List.mem_cons.mp q with q | q
          · subst q; exact absurd hf hk
          · exact .inl q
        · exact .inr q) scope.names [] ⟨h, fun x a hx => by simp at hx, fun y hy _ => .inl hy⟩
  refine ⟨cl, ?_, h2, fun y hy hf => ?_⟩
  · refine Eq.trans ?_ (congrArg (fun t : Sem (List (Str × Addr)) => t >>= fun r => pure r) e)
    rfl
  · rcases h3 y hy hf with q | q
    · cases q
    · exact q

theorem lookup_relabel_free {env : Env} : ∀ {names : List (Str × NameKind)} {x : Str}, names.lookup x = some .free →
    (names.map fun (n, k) => if (k == NameKind.free && env.scope.kind == .function && env.kindOf n == some .cell) then (n, NameKind.cell) else (n, k)).lookup x = some .cell ∨
    (names.map fun (n, k) => if (k == NameKind.free && env.scope.kind == .function && env.kindOf n == some .cell) then (n, NameKind.cell) else (n, k)).lookup x = some .free
  | [], _, h => by simp at h
  | (n, k) :: r, x, h => by
    have ih := @lookup_relabel_free env r x
    show List.lookup x ((if (k == NameKind.free && env.scope.kind == .function && env.kindOf n == some .cell) = true then (n, NameKind.cell) else (n, k)) :: _) = _ ∨ List.lookup x ((if (k == NameKind.free && env.scope.kind == .function && env.kindOf n == some .cell) = true then (n, NameKind.cell) else (n, k)) :: _) = _
    cases hx : x == n with
    | true =>
      simp only [List.lookup_cons, hx] at h
      cases h
      by_cases hc : (NameKind.free == NameKind.free && env.scope.kind == .function && env.kindOf n == some .cell) = true
      · rw [if_pos hc]; left; simp [List.lookup_cons, hx]
      · rw [if_neg hc]; right; simp [List.lookup_cons, hx]
    | false =>
      simp only [List.lookup_cons, hx] at h
      by_cases hc : (k == NameKind.free && env.scope.kind == .function && env.kindOf n == some .cell) = true
      · rw [if_pos hc]; simp only [List.lookup_cons, hx]; exact ih h
      · rw [if_neg hc]; simp only [List.lookup_cons, hx]; exact ih h
/-- what is no local, global of the relabelled names was free -/
theorem relabel_cell_or_free {env : Env} : ∀ {names : List (Str × NameKind)} {x : Str}, (∀ y ∈ names, y.2 ≠ .cell) →
    ((names.map fun (n, k) => if (k == NameKind.free && env.scope.kind == .function && env.kindOf n == some .cell) then (n, NameKind.cell) else (n, k)).lookup x = some .cell ∨
    (names.map fun (n, k) => if (k == NameKind.free && env.scope.kind == .function && env.kindOf n == some .cell) then (n, NameKind.cell) else (n, k)).lookup x = some .free) → ∃ y ∈ names, y.1 = x ∧ y.2 = .free
  | [], _, _, h => by simp at h
  | (n, k) :: r, x, hn, h => by
    have ih := @relabel_cell_or_free env r x (fun y hy => hn y (List.mem_cons_of_mem _ hy))
    change List.lookup x ((if (k == NameKind.free && env.scope.kind == .function && env.kindOf n == some .cell) = true then (n, NameKind.cell) else (n, k)) :: _) = _ ∨ List.lookup x ((if (k == NameKind.free && env.scope.kind == .function && env.kindOf n == some .cell) = true then (n, NameKind.cell) else (n, k)) :: _) = _ at h
    cases hx : x == n with
    | true =>
      have e : x = n := by simpa using hx
      by_cases hc : (k == NameKind.free && env.scope.kind == .function && env.kindOf n == some .cell) = true
      · have hk : k = .free := by
          simp only [Bool.and_eq_true, beq_iff_eq] at hc
          exact hc.1.1
        exact ⟨(n, k), List.mem_cons_self, e.symm, hk⟩
      · rw [if_neg hc] at h
        simp only [List.lookup_cons, hx] at h
        rcases h with h | h
        · exact absurd (Option.some.inj h) (hn (n, k) List.mem_cons_self)
        · exact ⟨(n, k), List.mem_cons_self, e.symm, Option.some.inj h⟩
    | false =>
      have h' : (r.map fun (n, k) => if (k == NameKind.free && env.scope.kind == .function && env.kindOf n == some .cell) then (n, NameKind.cell) else (n, k)).lookup x = some .cell ∨
          (r.map fun (n, k) => if (k == NameKind.free && env.scope.kind == .function && env.kindOf n == some .cell) then (n, NameKind.cell) else (n, k)).lookup x = some .free := by
        by_cases hc : (k == NameKind.free && env.scope.kind == .function && env.kindOf n == some .cell) = true
        · rw [if_pos hc] at h; simpa only [List.lookup_cons, hx] using h
        · rw [if_neg hc] at h; simpa only [List.lookup_cons, hx] using h
      obtain ⟨y, hy, e⟩ := ih h'
      exact ⟨y, List.mem_cons_of_mem _ hy, e⟩
end TL
namespace TL
open PySem
section
variable {prog : Program} {w : World} {A : Around} {R : Result → Shared → Prop} {s : Shared}
abbrev testsOf (ifs : List Expr) (env : Env) : Sem Bool := forIn ifs true fun c r => if r = true then do let ok ← isTrue c env (eval c env); pure (ForInStep.yield ok) else pure (ForInStep.yield r)
theorem compLoop_go {elt target iter : Expr} {ifs : List Expr} {scope : Scope} {pos : Pos} {it acc : Value} {env : Env} (I : Nat → Shared → Prop)
    (turn : ∀ n s, I n s → wpAny (model prog w) A (pyNext it) (fun r s₁ => match r with
      | none => R (.ok .next) s₁
      | some v => wpAny (model prog w) A (letOwnedTupleGo target it v) (fun _ s₀ => wpAny (model prog w) A (assign target env v) (fun _ s₂ =>
          wpAny (model prog w) A (testsOf ifs env) (fun ok s₃ =>
            if ok = true then wpAny (model prog w) A (eval elt env) (fun x s₄ =>
              wpAny (model prog w) A (call (.builtin "list.append") [acc, x]) (fun _ s₅ => ∃ m, m < n ∧ I m s₅) (fun _ _ => False) s₄) (fun _ _ => False) s₃
            else ∃ m, m < n ∧ I m s₃) (fun _ _ => False) s₂) (fun _ _ => False) s₀) (fun _ _ => False) s₁) (fun _ _ => False) s)
    (n : Nat) (h : I n s) :
    codeAny (model prog w) A (.compLoop (.ListComp elt [⟨target, iter, ifs, 0⟩] scope pos) 0 it acc env) R s := by
  refine codeAny_loop rfl I (fun n s hI => ?_) n h
  show wpAny _ A ((compTurn (.ListComp elt [⟨target, iter, ifs, 0⟩] scope pos) 0 it acc env).onRaise (fun x => do noteFrame x env; theTreesLotGoes x)) _ _ s
  refine wpAny_noted ?_
  rw [compTurn_list]
  refine wpAny_bind (wpAny_standAt (wpAny_bind (wpAny_mono (turn n s hI) (fun r s₁ h₁ => ?_) fun _ _ h' => h'.elim)))
  cases r with
  | none => exact wpAny_pure h₁
  | some v =>
    refine wpAny_bind (wpAny_mono h₁ (fun _ s₀ h₀ => ?_) fun _ _ h' => h'.elim)
    refine wpAny_bind (wpAny_mono h₀ (fun _ s₂ h₂ => wpAny_bind (wpAny_mono h₂ (fun ok s₃ h₃ => ?_) fun _ _ h' => h'.elim)) fun _ _ h' => h'.elim)
    cases ok with
    | false => exact wpAny_pure ⟨rfl, h₃⟩
    | true =>
      exact wpAny_bind (wpAny_bind (wpAny_mono h₃ (fun x s₄ h₄ => wpAny_bind (wpAny_mono h₄ (fun _ s₅ h₅ => wpAny_pure (wpAny_pure ⟨rfl, h₅⟩)) fun _ _ h' => h'.elim)) fun _ _ h' => h'.elim))

theorem compTurn_set (elt target iter : Expr) (ifs : List Expr) (scope : Scope) (pos : Pos) (it acc : Value) (env : Env) :
    compTurn (.SetComp elt [⟨target, iter, ifs, 0⟩] scope pos) 0 it acc env = (do
      standAt iter.pos
      match ← pyNext it with
      | none => pure (.done .next)
      | some v =>
        letOwnedTupleGo target it v
        assign target env v
        let mut ok := true
        for c in ifs do
          if ok then ok ← isTrue c env (eval c env)
        if ok then
          (do let v ← eval elt env; standAt elt.pos; let _ ← call (.builtin "set.add") [acc, v])
        again (.compLoop (.SetComp elt [⟨target, iter, ifs, 0⟩] scope pos) 0 it acc env)) := by rfl
theorem compLoop_goS {elt target iter : Expr} {ifs : List Expr} {scope : Scope} {pos : Pos} {it acc : Value} {env : Env} (I : Nat → Shared → Prop)
    (turn : ∀ n s, I n s → wpAny (model prog w) A (pyNext it) (fun r s₁ => match r with
      | none => R (.ok .next) s₁
      | some v => wpAny (model prog w) A (letOwnedTupleGo target it v) (fun _ s₀ => wpAny (model prog w) A (assign target env v) (fun _ s₂ =>
          wpAny (model prog w) A (testsOf ifs env) (fun ok s₃ =>
            if ok = true then wpAny (model prog w) A (eval elt env) (fun x s₄ =>
              wpAny (model prog w) A (call (.builtin "set.add") [acc, x]) (fun _ s₅ => ∃ m, m < n ∧ I m s₅) (fun _ _ => False) s₄) (fun _ _ => False) s₃
            else ∃ m, m < n ∧ I m s₃) (fun _ _ => False) s₂) (fun _ _ => False) s₀) (fun _ _ => False) s₁) (fun _ _ => False) s)
    (n : Nat) (h : I n s) :
    codeAny (model prog w) A (.compLoop (.SetComp elt [⟨target, iter, ifs, 0⟩] scope pos) 0 it acc env) R s := by
  refine codeAny_loop rfl I (fun n s hI => ?_) n h
  show wpAny _ A ((compTurn (.SetComp elt [⟨target, iter, ifs, 0⟩] scope pos) 0 it acc env).onRaise (fun x => do noteFrame x env; theTreesLotGoes x)) _ _ s
  refine wpAny_noted ?_
  rw [compTurn_set]
  refine wpAny_bind (wpAny_standAt (wpAny_bind (wpAny_mono (turn n s hI) (fun r s₁ h₁ => ?_) fun _ _ h' => h'.elim)))
  cases r with
  | none => exact wpAny_pure h₁
  | some v =>
    refine wpAny_bind (wpAny_mono h₁ (fun _ s₀ h₀ => ?_) fun _ _ h' => h'.elim)
    refine wpAny_bind (wpAny_mono h₀ (fun _ s₂ h₂ => wpAny_bind (wpAny_mono h₂ (fun ok s₃ h₃ => ?_) fun _ _ h' => h'.elim)) fun _ _ h' => h'.elim)
    cases ok with
    | false => exact wpAny_pure ⟨rfl, h₃⟩
    | true =>
      exact wpAny_bind (wpAny_bind (wpAny_mono h₃ (fun x s₄ h₄ => wpAny_bind (wpAny_standAt (wpAny_bind (wpAny_mono h₄ (fun _ s₅ h₅ => wpAny_pure (wpAny_pure ⟨rfl, h₅⟩)) fun _ _ h' => h'.elim)))) fun _ _ h' => h'.elim))

theorem compStart_set {elt target iter ifs rest scope pos it acc env}
    (h0 : codeAny (model prog w) A (.compLoop (.SetComp elt (⟨target, iter, ifs, 0⟩ :: rest) scope pos) 0 it acc env) R s)
    (h : wpAny (model prog w) A (pyIter it) (fun it' s' => codeAny (model prog w) A (.compLoop (.SetComp elt (⟨target, iter, ifs, 0⟩ :: rest) scope pos) 0 it' acc env) R s')
      (notedBy (model prog w) A env fun x s' => R (.error x) s') s) :
    codeAny (model prog w) A (.compStart (.SetComp elt (⟨target, iter, ifs, 0⟩ :: rest) scope pos) 0 it acc env) R s := by
  refine codeAny_of_tree ?_
  show wpAny _ _ ((compStart (.SetComp elt (⟨target, iter, ifs, 0⟩ :: rest) scope pos) 0 it acc env).onRaise (fun x => do noteFrame x env; standAt theWindowsPlace)) _ _ s
  refine wpAny_notedAt ?_
  unfold compStart
  show wpAny _ _ (ask >>= _) _ _ s
  refine wpAny_bind (wpAny_askSetting (wpAny_ite ?_))
  split
  · first
      | exact wpAny_bind (wpAny_pure (wpAny_pure (And.intro rfl h0)))
      | exact wpAny_pure (And.intro rfl h0)
  · first
      | exact wpAny_bind (wpAny_rule (wpAny_bind (wpAny_standAt (wpAny_bind (wpAny_mono h (fun it' s' h' => wpAny_pure (And.intro rfl h')) fun _ _ x => x)))))
      | (refine wpAny_bind (wpAny_rule ?_); show wpAny _ _ (standAt iter.pos >>= _) _ _ s; exact wpAny_bind (wpAny_standAt (wpAny_bind (wpAny_mono h (fun it' s' h' => wpAny_pure (And.intro rfl h')) fun _ _ x => x))))
end
end TL
namespace TL
open PySem PyProof.Rows
def oth (e : Int) : Int := e + 1 - 2 * (e % 2)
theorem xor_one (x : Int) : Builtin.bitXor x 1 = oth x := by
  rw [bitXor_and, bitAnd_m1]; unfold oth; omega
theorem oth_oth (e : Int) : oth (oth e) = e := by unfold oth; omega
theorem oth_nonneg {e : Int} (h : 0 ≤ e) : 0 ≤ oth e := by unfold oth; omega
end TL
set_option Elab.async false
set_option linter.all false
set_option maxRecDepth 100000
set_option maxHeartbeats 4000000
namespace TL
open PySem PySem.Spec PyProof.Rows L2
abbrev St := L2.St

/-! ### a comprehension's block -/
def cxComp (X : Cx) (scope : Scope) (cl : List (Str × Addr)) (N : List Str) (fp : List Addr) (s3 : Shared) (H3 : Hp) : Cx where
  prog := X.prog
  w := X.w
  K := X.K
  mg := X.mg
  base := X.base
  A := X.A
  N := N
  s₀ := s3
  H₀ := H3
  env := compEnvC scope cl s3.heap.objs.size X.env
  outer := X.stack
  stack := X.stack
  ex := fp
  fn := fun _ => false
  calm := X.calm
  pn := []
  xe := fun _ _ => False

def capOk (NX : List Str) (scope : Scope) (N : List Str) (cap : List (Option Nat)) : Bool :=
  (N.zip cap).all fun p => match p.2 with
    | none => true
    | some j => decide (NX[j]? = some p.1) && decide (scope.names.lookup p.1 = some .free)
/-- closed facts about a comprehension's scope: its own names stand first (own of them), then the captured ones -/
structure CompOk (scX : Scope) (NX : List Str) (scope : Scope) (N : List Str) (own : Nat) (cap : List (Option Nat)) : Prop where
  kind : scope.kind = .function
  nocell : ∀ y ∈ scope.names, y.2 ≠ .cell
  loc : ∀ y ∈ scope.names, y.2 = .local → scope.names.lookup y.1 = some .local
  fre : ∀ y ∈ scope.names, y.2 = .free → scX.names.lookup y.1 = some .cell ∨ scX.names.lookup y.1 = some .free
  len : cap.length = N.length
  capd : capOk NX scope N cap = true
  ownd : (cap.take own).all (·.isNone) = true
  nd : N.Nodup

def capSt (cap : List (Option Nat)) (σ : St) : St := cap.map fun o => o.bind fun j => (σ[j]?).bind id
theorem capSt_len {cap : List (Option Nat)} {σ : St} : (capSt cap σ).length = cap.length := by simp [capSt]
theorem capSt_get {cap : List (Option Nat)} {σ : St} {i : Nat} {v : V} (h : (capSt cap σ)[i]? = some (some v)) : ∃ j, cap[i]? = some (some j) ∧ σ[j]? = some (some v) := by
  unfold capSt at h
  rw [List.getElem?_map] at h
  cases e : cap[i]? with
  | none => rw [e] at h; cases h
  | some o =>
    rw [e] at h
    cases o with
    | none => cases h
    | some j =>
      refine ⟨j, rfl, ?_⟩
      have h' : (σ[j]?).bind id = some v := by simpa using h
      cases q : σ[j]? with
      | none => rw [q] at h'; cases h'
      | some z => rw [q] at h'; exact congrArg some h'
theorem CompOk.at {scX : Scope} {NX : List Str} {scope : Scope} {N : List Str} {own : Nat} {cap : List (Option Nat)} (C : CompOk scX NX scope N own cap) {i j : Nat} {x : Str} (h1 : N[i]? = some x) (h2 : cap[i]? = some (some j)) :
    NX[j]? = some x ∧ scope.names.lookup x = some .free := by
  have h := C.capd
  unfold capOk at h
  have hm : (x, some j) ∈ N.zip cap := by
    refine List.mem_iff_getElem?.mpr ⟨i, ?_⟩
    rw [List.getElem?_zip_eq_some]
    exact ⟨h1, h2⟩
  have := List.all_eq_true.mp h _ hm
  simpa using this
theorem CompOk.own_none {scX : Scope} {NX : List Str} {scope : Scope} {N : List Str} {own : Nat} {cap : List (Option Nat)} (C : CompOk scX NX scope N own cap) {i j : Nat} (hi : i < own) (h : cap[i]? = some (some j)) : False := by
  have hm : some j ∈ cap.take own := by
    refine List.mem_iff_getElem?.mpr ⟨i, ?_⟩
    rw [List.getElem?_take_of_lt hi]
    exact h
  have := List.all_eq_true.mp C.ownd _ hm
  cases this

section
variable {X : Cx} {pins : List (Addr × Obj)} {σ : St} {H H3 : Hp} {s s3 : Shared} {scope : Scope} {N : List Str} {own : Nat} {cap : List (Option Nat)} {cl : List (Str × Addr)} {fp : List Addr}

theorem inv_comp (I3 : Inv X pins σ H3 s3) (C : CompOk X.env.scope X.N scope N own cap) (hcl1 : ∀ x c, cl.lookup x = some c → X.env.cells.lookup x = some c) (hcl2 : ∀ y ∈ scope.names, y.2 = .free → ∃ c, cl.lookup y.1 = some c)
    (hf : ∀ b ∈ fp, FpOk X pins H3 b ∧ b < s3.heap.objs.size) {h4 : Heap} {tk : Nat} {m4 : Str → Option Value} (hn : h4.Ns s3.heap.objs.size m4) (hk : ∀ b u, s3.heap.get? b = some u → h4.get? b = some u) :
    Inv (cxComp X scope cl N fp s3 H3) [] (capSt cap σ) H3 { s3 with heap := h4, toks := tk } := by
  refine ⟨⟨I3.ok.mod, C.kind, I3.ok.glob, I3.ok.blt, Nat.le_refl _, fun x y c e1 e2 => I3.ok.inj x y c (hcl1 _ _ e1) (hcl1 _ _ e2), fun x hx => ?_, fun x c h => ?_, I3.ok.hd, I3.ok.frames, .inl rfl, fun b hb => ?_,
    I3.bs, Nat.le_trans I3.ok.bsz I3.sz, fun b o e hb => ?_, fun b hb hz => ?_, I3.stack, I3.stkFree⟩, rfl, I3.bare, Un.kept hk, ⟨m4, hn, fun i x v e1 e2 e3 => ?_⟩, fun x c e => ?_, I3.hok.fresh (Nat.le_refl _), fun x c e => I3.freeC x c (hcl1 x c e),
    fun p hp => absurd (show p ∈ ([] : List (Addr × Obj)) from hp) (by simp), I3.hok.kept hk, ?_⟩
  · obtain ⟨y, hy, e, f⟩ := relabel_cell_or_free (env := X.env) C.nocell hx
    obtain ⟨c, q⟩ := hcl2 y hy f
    exact ⟨c, by rw [← e]; exact q⟩
  · exact absurd (show false = true from h) Bool.false_ne_true
  · obtain ⟨⟨f0, f1, f2, f3, f4, f5⟩, hlt⟩ := hf b hb
    exact ⟨Nat.ne_of_lt hlt, fun x c e => f4 x c (hcl1 x c e)⟩
  · obtain ⟨⟨f0, f1, f2, f3, f4, f5⟩, hlt⟩ := hf b hb
    rcases f3 with z | z
    · exact I3.ok.noex b o e z
    · exact absurd (Nat.lt_of_lt_of_le (Heap.lt_size e) (Nat.le_trans I3.ok.bsz z)) (Nat.lt_irrefl _)
  · obtain ⟨⟨f0, f1, f2, f3, f4, f5⟩, hlt⟩ := hf b hb
    rcases List.mem_cons.mp (I3.stkSub b hz) with z | z
    · exact f1 z
    · exact f2 z
  · obtain ⟨j, c1, c2⟩ := capSt_get e2
    obtain ⟨d1, d2⟩ := C.at e1 c1
    have hk2 := C.fre (x, .free) (PySem.mem_of_lookup d2) rfl
    obtain ⟨mX, hnX, hl⟩ := I3.loc
    obtain ⟨u, r, l⟩ := hl j x v d1 c2 (.inr hk2)
    refine ⟨u, r, ?_⟩
    rcases l with ⟨k, _⟩ | ⟨k, c, e, z⟩
    · exfalso
      have k' : X.env.scope.names.lookup x = some .local := k
      rcases hk2 with q | q
      · rw [k'] at q; cases q
      · rw [k'] at q; cases q
    · obtain ⟨c', q⟩ := hcl2 (x, .free) (PySem.mem_of_lookup d2) rfl
      have e' := hcl1 x c' q
      rw [e] at e'
      cases e'
      obtain ⟨o, ho, hd⟩ := z
      exact .inr ⟨lookup_relabel_free (env := X.env) d2, c, q, o, hk _ _ ho, hd⟩
  · obtain ⟨v, o, ho, hd⟩ := I3.cell x c (hcl1 x c e)
    exact ⟨v, o, hk _ _ ho, hd⟩
  · rw [capSt_len]; exact C.len

/-- behind the block -/
theorem comp_back {pins' : List (Addr × Obj)} {σ' : St} {H' : Hp} {s' : Shared} (I3 : Inv X pins σ H3 s3) (hf : ∀ b ∈ fp, FpOk X pins H3 b) (I' : Inv (cxComp X scope cl N fp s3 H3) pins' σ' H' s') : Inv X pins σ H' s' :=
  I3.call' (ch := fp) I'.os I'.base I'.hok I'.bare fun b hb => by
    obtain ⟨f0, f1, f2, f3, f4, f5⟩ := hf b hb
    exact ⟨f3, f1, f4, f5⟩
/-- an address of the block's own namespace -/
structure Apart (X : Cx) (pins : List (Addr × Obj)) (C : Addr) : Prop where
  loc : C ≠ X.env.locals
  new : X.s₀.heap.objs.size ≤ C
  cel : ∀ x c, X.env.cells.lookup x = some c → c ≠ C
  pin : ∀ p ∈ X.pn ++ pins, p.1 ≠ C
theorem Inv.apart (I3 : Inv X pins σ H3 s3) : Apart X pins s3.heap.objs.size :=
  ⟨Nat.ne_of_gt I3.lt, I3.sz, fun x c e => by obtain ⟨v, o, ho, _⟩ := I3.cell x c e; exact Nat.ne_of_lt (Heap.lt_size ho), fun p hp => Nat.ne_of_lt (Heap.lt_size (I3.pin p hp).1)⟩
theorem comp_gone {C : Addr} {h' : Heap} (I : Inv X pins σ H s) (P : Apart X pins C) (hn : H C = none) (hs : Heap.SameBut C s.heap h') : Inv X pins σ H { s with heap := h' } :=
  I.turned (t' := s.toks) (fun b o hb e => (hs.2 b hb).trans e) hn P.loc (.inr P.new) P.cel P.pin
end

/-! ### targets that store into a comprehension's own names -/
structure GOwn (own : Nat) (g : TG) : Prop where
  mono : ∀ v σ H Q Q', (∀ σ' H', Q σ' H' → Q' σ' H') → g v σ H Q → g v σ H Q'
  own : ∀ v σ H Q, g v σ H Q → g v σ H fun σ' H' => Q σ' H' ∧ σ'.length = σ.length ∧ ∀ i, own ≤ i → σ'[i]? = σ[i]?
structure GsOwn (own : Nat) (g : TGs) : Prop where
  mono : ∀ v σ H Q Q', (∀ σ' H', Q σ' H' → Q' σ' H') → g v σ H Q → g v σ H Q'
  own : ∀ v σ H Q, g v σ H Q → g v σ H fun σ' H' => Q σ' H' ∧ σ'.length = σ.length ∧ ∀ i, own ≤ i → σ'[i]? = σ[i]?
theorem GOwn.name {own i : Nat} (h : i < own) : GOwn own (gName i) :=
  ⟨fun v σ H Q Q' f q => f _ _ q, fun v σ H Q q => ⟨q, List.length_set, fun j hj => List.getElem?_set_ne (by omega)⟩⟩
theorem GsOwn.nil {own : Nat} : GsOwn own gNil := ⟨fun v σ H Q Q' f q => ⟨q.1, f _ _ q.2⟩, fun v σ H Q q => ⟨q.1, q.2, rfl, fun _ _ => rfl⟩⟩
theorem GsOwn.cons {own : Nat} {t : TG} {u : TGs} (h1 : GOwn own t) (h2 : GsOwn own u) : GsOwn own (gCons t u) where
  mono := fun v σ H Q Q' f ⟨x, r, e, q⟩ => ⟨x, r, e, h1.mono _ _ _ _ _ (fun σ' H' q => h2.mono _ _ _ _ _ f q) q⟩
  own := fun v σ H Q ⟨x, r, e, q⟩ => ⟨x, r, e, h1.mono _ _ _ _ _ (fun σ1 H1 ⟨q, l1, o1⟩ => h2.mono _ _ _ _ _ (fun σ2 H2 ⟨q, l2, o2⟩ => ⟨q, l2.trans l1, fun i hi => (o2 i hi).trans (o1 i hi)⟩) (h2.own _ _ _ _ q)) (h1.own _ _ _ _ q)⟩
theorem GOwn.tup {own n : Nat} {K : PySem.W.Frag} {t : TGs} (h : GsOwn own t) : GOwn own (gTup K n t) where
  mono := fun v σ H Q Q' f ⟨a, xs, e, q1, q2, q⟩ => ⟨a, xs, e, q1, q2, h.mono _ _ _ _ _ f q⟩
  own := fun v σ H Q ⟨a, xs, e, q1, q2, q⟩ => ⟨a, xs, e, q1, q2, h.own _ _ _ _ q⟩

/-! ### the tests of a comprehension -/
def PIfs (X : Cx) (ifs : List Expr) (t : TT) : Prop :=
  ∀ (pins : List (Addr × Obj)) (s : Shared) (σ : St) (H : Hp) (Q : Bool → Hp → Prop), Inv X pins σ H s → t σ H Q → wpAny (model X.prog X.w) X.A (testsOf ifs X.env) (TP X pins σ Q) X.xe s
def tYes : TT := fun _ H Q => Q true H
theorem pifs_nil {X : Cx} : PIfs X [] tYes := fun _ _ _ H _ I h => wpAny_tests_nil ⟨H, I, h⟩
theorem pifs_one {X : Cx} {c : Expr} {t : TT} (h : PT X c t) : PIfs X [c] t := fun pins s σ H Q I q => wpAny_tests_one (h pins s σ H Q I q)

/-! ### a list comprehension -/
/-- one turn and all behind it: W speaks of the turn, a measure, the items so far, the heap; l: the new list -/
def LcW (J : It) (g : TG) (tt : TT) (te : TE) (cap : List (Option Nat)) (σ : St) (Q : VK) (l : Addr) (H1 : Hp) : Prop :=
  ∃ W : Nat → Nat → List V → Hp → Prop, (∃ m, W 0 m [] (upd H1 l (.lst []))) ∧ ∀ i m acc H, W i m acc H →
    (J.stop i H ∧ Q (.ref l) H) ∨ (J.go i H ∧ ∃ N : List V → Hp → Prop, (∀ acc' H', N acc' H' → ∃ m', m' < m ∧ W (i + 1) m' acc' H') ∧
      ∀ x H', J.yld i H x H' → g x (capSt cap σ) H' fun σ2 H2 => tt σ2 H2 fun b H3 =>
        if b = true then te σ2 H3 fun y H4 => H4 l = some (.lst acc) ∧ acc.length < sizeLine ∧ N (acc ++ [y]) (upd H4 l (.lst (acc ++ [y])))
        else N acc H3)
def tLC (wi : TI) (cap : List (Option Nat)) (g : TG) (tt : TT) (te : TE) : TE := fun σ H Q => wi σ H fun J H1 => ∀ l, H1 l = none →
  LcW J g tt te cap σ Q l H1

section
variable {X : Cx} {pins : List (Addr × Obj)} {σ : St} {H1 : Hp} {s2 : Shared} {scope : Scope} {N : List Str} {own : Nat} {cap : List (Option Nat)} {cl : List (Str × Addr)} {fp : List Addr}
  {tg iter elt : Expr} {ifs : List Expr} {pos : Pos} {g : TG} {tt : TT} {te : TE} {wi : TI}

theorem comp_run {it : Addr} {tn : Nat → Heap → Prop} {J : It} {Q : VK} {RR : Value → Addr → Result → Shared → Prop} {E : Value → Shared → Prop} (I : Inv X pins σ H1 s2) (T : Turn X.prog X.w X.K tg J fp it tn) (t0 : tn 0 s2.heap)
    (f : ∀ b ∈ fp, FpOk X pins H1 b) (hc : X.calm = true) (C : CompOk X.env.scope X.N scope N own cap) (ho : GOwn own g)
    (hcl1 : ∀ x c, cl.lookup x = some c → X.env.cells.lookup x = some c) (hcl2 : ∀ y ∈ scope.names, y.2 = .free → ∃ c, cl.lookup y.1 = some c)
    (hg : ∀ s3 H3, PG (cxComp X scope cl N fp s3 H3) tg g) (ht : ∀ s3 H3, PIfs (cxComp X scope cl N fp s3 H3) ifs tt) (he : ∀ s3 H3, PE (cxComp X scope cl N fp s3 H3) elt te)
    (hw : ∀ l, H1 l = none → LcW J g tt te cap σ Q l H1)
    (fin : ∀ l C s' H' m', Inv X pins σ H' s' → s'.heap.Ns C m' → H' C = none → Apart X pins C → Q (.ref l) H' → RR (.ref l) C (.ok .next) s') :
    wpAny (model X.prog X.w) X.A (newList []) (fun acc s₃ => wpAny (model X.prog X.w) X.A (newFunctionEnv scope X.env.globals cl [] X.env.qual none .none (some X.env)) (fun cenv s₄ =>
      codeAny (model X.prog X.w) X.A (.compStart (.ListComp elt [⟨tg, iter, ifs, 0⟩] scope pos) 0 (.ref it) acc { cenv with scope := relabel scope X.env }) (RR acc cenv.locals) s₄) E s₃) E s2 := by
  refine wpAny_newObj_type (wpAny_newFunctionEnv C.nocell (by intro y hy; simp at hy) (fun h₁ hns₁ hsb₁ => ?_) C.kind)
  dsimp only at hns₁ hsb₁ ⊢
  obtain ⟨W, ⟨m0, w0⟩, turn⟩ := hw s2.heap.objs.size I.fresh
  have I3 : Inv X pins σ (upd H1 s2.heap.objs.size (.lst [])) { s2 with heap := s2.heap.push { cls := .type "list", dict := none, data := .seq ([] : List Value).toArray } } := I.lnew (ys := []) (its := []) (t' := s2.toks) .nil (Nat.zero_le _)
  generalize hs3 : ({ s2 with heap := s2.heap.push { cls := .type "list", dict := none, data := .seq ([] : List Value).toArray } } : Shared) = s3 at I3
  have hh3 : s3.heap = s2.heap.push { cls := .type "list", dict := none, data := .seq ([] : List Value).toArray } := by rw [← hs3]
  rw [← hh3] at hns₁ hsb₁ ⊢
  have e4 : ({ s2 with heap := h₁, toks := s2.toks + ([] : List (Str × Value)).length } : Shared) = { s3 with heap := h₁, toks := s2.toks } := by rw [← hs3]; rfl
  rw [e4]
  have k4 : ∀ b u, s3.heap.get? b = some u → h₁.get? b = some u := fun b u e => hsb₁.extBut b u (Nat.ne_of_lt (Heap.lt_size e)) (Heap.get?_push_of_some _ e)
  have k3 : ∀ b u, s2.heap.get? b = some u → s3.heap.get? b = some u := fun b u e => by rw [hh3]; exact Heap.get?_push_of_some _ e
  have hb2 : ∀ b ∈ fp, b < s2.heap.objs.size := fun b hb => by obtain ⟨o, e, _⟩ := T.obj _ _ t0 b hb; exact Heap.lt_size e
  have f3 : ∀ b ∈ fp, FpOk X pins (upd H1 s2.heap.objs.size (.lst [])) b := fun b hb => by
    obtain ⟨f0, fr⟩ := f b hb
    exact ⟨by rw [upd_ne (Nat.ne_of_lt (hb2 b hb))]; exact f0, fr⟩
  have hb3 : ∀ b ∈ fp, b < s3.heap.objs.size := fun b hb => by obtain ⟨o, e, _⟩ := T.obj _ _ t0 b hb; exact Heap.lt_size (k3 b o e)
  have I4 := inv_comp (tk := s2.toks) I3 C hcl1 hcl2 (fun b hb => ⟨f3 b hb, hb3 b hb⟩) hns₁ k4
  generalize hH3 : upd H1 s2.heap.objs.size (.lst []) = H3 at *
  have st4 : tn 0 h₁ := T.keep _ _ _ t0 fun b hb o e => k4 b o (k3 b o e)
  have fpX : ∀ {H' : Hp}, (∀ b ∈ fp, H' b = none) → ∀ b ∈ fp, FpOk (cxComp X scope cl N fp s3 H3) [] H' b := fun {H'} hn b hb => by
    obtain ⟨f0, f1, f2, f3', f4, f5⟩ := f3 b hb
    refine ⟨hn b hb, Nat.ne_of_lt (hb3 b hb), fun hz => ?_, .inl hb, fun x c e => f4 x c (hcl1 x c e), fun p hp => absurd (show p ∈ ([] : List (Addr × Obj)) from hp) (by simp)⟩
    rcases List.mem_cons.mp (I3.stkSub b hz) with z | z
    · exact f1 z
    · exact f2 z
  have loop : codeAny (model X.prog X.w) X.A (.compLoop (.ListComp elt [⟨tg, iter, ifs, 0⟩] scope pos) 0 (.ref it) (.ref s2.heap.objs.size) (compEnvC scope cl s3.heap.objs.size X.env)) (RR (.ref s2.heap.objs.size) s3.heap.objs.size) { s3 with heap := h₁, toks := s2.toks } := by
    refine compLoop_go (fun n s' => ∃ i acc H', Inv (cxComp X scope cl N fp s3 H3) [] (capSt cap σ) H' s' ∧ tn i s'.heap ∧ (∀ b ∈ fp, H' b = none) ∧ W i n acc H') ?_ m0 ⟨0, [], H3, I4, st4, fun b hb => (f3 b hb).1, w0⟩
    rintro n s' ⟨i, acc, H', I', st, fr, w⟩
    rcases turn i n acc H' w with ⟨stop, q⟩ | ⟨go, NN, hNN, step⟩
    · refine thn (T.done (cxComp X scope cl N fp s3 H3) rfl rfl rfl hc i [] s' _ H' (fun _ _ => False) I' (fpX fr) st stop) fun r s5 ⟨hr, I5⟩ => ?_
      subst hr
      obtain ⟨m5, hn5, _⟩ := id I5.loc
      exact fin _ _ s5 H' m5 (comp_back I3 f3 I5) hn5 I5.free (TL.Inv.apart I3) q
    · refine thn (T.item (cxComp X scope cl N fp s3 H3) rfl rfl rfl hc i [] s' _ H' (fun _ _ => False) I' (fpX fr) st go) fun r s5 ⟨u, hr, h5⟩ => ?_
      subst hr
      refine thn h5 fun _ s6 ⟨x, H6, I6, r6, y6, st6, fr6⟩ => ?_
      have I6' := I6.pinned (fpX fr6) (T.obj _ _ st6)
      refine thn (hg s3 H3 _ s6 _ H6 x u _ I6' r6 (ho.own _ _ _ _ (step x H6 y6))) fun _ s7 ⟨σ7, H7, I7, q7, l7, o7⟩ => ?_
      have cov : ∀ (i : Nat) v, (capSt cap σ)[i]? = some (some v) → σ7[i]? = some (some v) := fun i v e => by
        obtain ⟨j, c1, c2⟩ := capSt_get e
        by_cases hi : i < own
        · exact (C.own_none hi c1).elim
        · rw [o7 i (by omega)]; exact e
      have back : ∀ {H8 : Hp} {s8 : Shared}, Inv (cxComp X scope cl N fp s3 H3) ([] ++ pinsAt fp s6.heap) σ7 H8 s8 → Inv (cxComp X scope cl N fp s3 H3) [] (capSt cap σ) H8 s8 ∧ tn (i + 1) s8.heap ∧ ∀ b ∈ fp, H8 b = none := fun {H8 s8} I8 => by
        refine ⟨(Inv.unpinned (pins := []) I8).weak l7.symm cov, T.keep _ _ _ st6 fun b hb o e => (I8.pin (b, o) (List.mem_append_right _ (List.mem_append_right _ (mem_pinsAt hb e)))).1, fun b hb => ?_⟩
        obtain ⟨o, e, d⟩ := T.obj _ _ st6 b hb
        exact (I8.pin (b, o) (List.mem_append_right _ (List.mem_append_right _ (mem_pinsAt hb e)))).2.1
      refine thn (ht s3 H3 _ s7 σ7 H7 _ I7 q7) fun b s8 ⟨H8, I8, q8⟩ => ?_
      cases b with
      | false =>
        rw [if_neg Bool.false_ne_true] at q8 ⊢
        obtain ⟨m', hm, w8⟩ := hNN _ _ q8
        obtain ⟨J1, J2, J3⟩ := back I8
        exact ⟨m', hm, i + 1, acc, H8, J1, J2, J3, w8⟩
      | true =>
        rw [if_pos rfl] at q8 ⊢
        refine thn (he s3 H3 _ s8 σ7 H8 _ I8 q8) fun v s9 ⟨y, H9, I9, r9, ha, hz, n9⟩ => ?_
        obtain ⟨m', hm, w9⟩ := hNN _ _ n9
        refine thn (mt_append _ s9 σ7 H9 (.ref s2.heap.objs.size) [y] (.ref s2.heap.objs.size) [v] (fun _ H10 => W (i + 1) m' (acc ++ [y]) H10) I9 rfl (.cons r9 .nil) ⟨_, acc, y, rfl, rfl, ha, hz, w9⟩) fun _ s10 ⟨_, H10, I10, _, w10⟩ => ?_
        obtain ⟨J1, J2, J3⟩ := back I10
        exact ⟨m', hm, i + 1, acc ++ [y], H10, J1, J2, J3, w10⟩
  exact codeAny_compStart_list loop (T.self X.A 0 _ _ _ st4 loop)

theorem pe_lc (hi : PI X tg iter wi) (hc : X.calm = true) (C : CompOk X.env.scope X.N scope N own cap) (ho : GOwn own g)
    (hg : ∀ cl fp s3 H3, PG (cxComp X scope cl N fp s3 H3) tg g) (ht : ∀ cl fp s3 H3, PIfs (cxComp X scope cl N fp s3 H3) ifs tt) (he : ∀ cl fp s3 H3, PE (cxComp X scope cl N fp s3 H3) elt te)
    (hs : ∀ x, foldedSetIterable iter X.env x = pure x := by intro _; rfl) : PE X (.ListComp elt [⟨tg, iter, ifs, 0⟩] scope pos) (tLC wi cap g tt te) := by
  intro pins s σ H Q I h
  obtain ⟨cl, ecl, hcl1, hcl2⟩ := closure_ok (scope := scope) (env := X.env) fun y hy hf => I.ok.has y.1 (C.fre y hy hf)
  rw [eval_ListComp]
  refine wpAny_comprehension_free (use := none) rfl hs ecl C.kind C.loc (thn (hi pins s σ H _ I h) fun xv s1 h1 => thn h1 fun itv s2 h2 => ?_)
  obtain ⟨it, fp, tn, J, H2, e, I2, T, st2, f2, hw⟩ := h2
  subst e
  refine comp_run (RR := fun acc C => compPost (model X.prog X.w) X.A X.xe none (EP X pins σ Q) acc C) I2 T st2 f2 hc C ho hcl1 hcl2 (hg cl fp) (ht cl fp) (he cl fp) hw fun l Ca s' H' m' I' hn hfree hP q => ?_
  exact ⟨m', hn, fun h'' hs'' => ⟨.ref l, H', comp_gone I' hP hfree hs'', rfl, q⟩⟩

/-- name = [..], a plain local name on the comprehension's own row: the store comes ahead of the block's end -/
theorem ps_lc {i : Nat} {x : Str} {pos' spos : Pos} (hN : X.N.Nodup) (hi' : X.N[i]? = some x) (hx : X.env.scope.names.lookup x = some .local) (hi : PI X tg iter wi) (hc : X.calm = true) (C : CompOk X.env.scope X.N scope N own cap) (ho : GOwn own g)
    (hg : ∀ cl fp s3 H3, PG (cxComp X scope cl N fp s3 H3) tg g) (ht : ∀ cl fp s3 H3, PIfs (cxComp X scope cl N fp s3 H3) ifs tt) (he : ∀ cl fp s3 H3, PE (cxComp X scope cl N fp s3 H3) elt te)
    (hsw : swapsWith (.ListComp elt [⟨tg, iter, ifs, 0⟩] scope pos) (some (.Name x pos')) spos.line X.env = pure true := by rfl)
    (hs : ∀ x, foldedSetIterable iter X.env x = pure x := by intro _; rfl) : PS X (.Assign [.Name x pos'] (.ListComp elt [⟨tg, iter, ifs, 0⟩] scope pos) spos) (tAsg (tLC wi cap g tt te) (gName i)) := by
  intro pins s σ H D I h
  obtain ⟨cl, ecl, hcl1, hcl2⟩ := closure_ok (scope := scope) (env := X.env) fun y hy hf => I.ok.has y.1 (C.fre y hy hf)
  rw [exec_Assign_Name_used _ _ _ _ hsw]
  refine wpAny_bind (wpAny_standAt (wpAny_bind ?_))
  show wpAny _ X.A (do let _ ← comprehension (.ListComp elt [⟨tg, iter, ifs, 0⟩] scope pos) scope X.env _ (newList []) false (eval iter X.env) (some (assign (.Name x pos') X.env))) _ _ s
  refine wpAny_bind (wpAny_mono (wpAny_comprehension_free (use := some (assign (.Name x pos') X.env)) (Q := fun _ s' => SP X pins D .next s') rfl hs ecl C.kind C.loc
    (thn (hi pins s σ H _ I h) fun xv s1 h1 => thn h1 fun itv s2 h2 => ?_)) (fun _ s' hq => wpAny_pure (wpAny_pure hq)) fun _ _ e => e)
  obtain ⟨it, fp, tn, J, H2, e, I2, T, st2, f2, hw⟩ := h2
  subst e
  refine comp_run (RR := fun acc C => compPost (model X.prog X.w) X.A X.xe (some (assign (.Name x pos') X.env)) (fun _ s' => SP X pins D .next s') acc C) I2 T st2 f2 hc C ho hcl1 hcl2 (hg cl fp) (ht cl fp) (he cl fp) hw fun l Ca s' H' m' I' hn hfree hP q => ?_
  show wpAny _ X.A (assign (.Name x pos') X.env (.ref l)) _ _ _
  refine wpAny_assign_Name (store_ok2 I' hN hi' (.inl hx) (v := .ref l) rfl (fun s5 I5 ⟨a, sb, ha⟩ => ?_) (.inr hx))
  have hne : Ca ≠ a := by
    rcases ha with z | z
    · rw [z]; exact hP.loc
    · exact fun e => hP.cel x a z e.symm
  refine ⟨m', hn.sameBut sb hne, fun h'' hs'' => ⟨_, H', comp_gone I5 hP hfree hs'', q⟩⟩
end

/-! ### the forms one uses -/
section
variable {K : PySem.W.Frag} {a l : Addr} {xs : List V} {g : TG} {tt : TT} {te : TE} {cap : List (Option Nat)} {σ : St} {Q : VK} {H1 : Hp}
theorem lc_list (Pv : Nat → List V → Hp → Prop) (h0 : Pv 0 [] (upd H1 l (.lst []))) (hl : ∀ i acc H, i ≤ xs.length → Pv i acc H → SqL K H a xs)
    (hs : ∀ i x acc H, xs[i]? = some x → Pv i acc H → g x (capSt cap σ) H fun σ2 H2 => tt σ2 H2 fun b H3 =>
        if b = true then te σ2 H3 fun y H4 => H4 l = some (.lst acc) ∧ acc.length < sizeLine ∧ Pv (i + 1) (acc ++ [y]) (upd H4 l (.lst (acc ++ [y])))
        else Pv (i + 1) acc H3) (hd : ∀ acc H, Pv xs.length acc H → Q (.ref l) H) : LcW (Itl K a) g tt te cap σ Q l H1 := by
  refine ⟨fun i m acc H => m = xs.length - i ∧ i ≤ xs.length ∧ Pv i acc H, ⟨xs.length, by simp, Nat.zero_le _, h0⟩, ?_⟩
  rintro i m acc H ⟨rfl, hi, p⟩
  have q := hl i acc H hi p
  by_cases hlt : i < xs.length
  · refine .inr ⟨⟨xs, xs[i], q, by simp [hlt]⟩, Pv (i + 1), fun acc' H' p' => ⟨xs.length - (i + 1), by omega, rfl, hlt, p'⟩, fun x H' y => ?_⟩
    obtain ⟨e, y⟩ := y
    subst e
    exact hs i x acc _ (y xs q) p
  · have e : i = xs.length := by omega
    subst e
    exact .inl ⟨⟨xs, q, Nat.le_refl _⟩, hd acc H p⟩
theorem same_upd {H : Hp} {l : Addr} {o : HO} (hn : H l = none) : Same H (upd H l o) := fun b u e => by rw [upd_ne (ne_of_none e hn)]; exact e
/-- each turn tests and reckons by pure functions of the data ds, and makes nothing that is kept -/
theorem lc_pure {α : Type} (ds : List α) (p : α → Bool) (f : α → V) (hn : H1 l = none) (hx : SqL K H1 a xs) (hlen : xs.length = ds.length) (hz : xs.length < sizeLine)
    (hs : ∀ (i : Nat) x d H, xs[i]? = some x → ds[i]? = some d → Same H1 H → ∀ (P1 : VK) (P0 : Hp → Prop), (p d = true → P1 (f d) H) → (p d = false → P0 H) →
      g x (capSt cap σ) H fun σ2 H2 => tt σ2 H2 fun b H3 => if b = true then te σ2 H3 P1 else P0 H3)
    (hq : Q (.ref l) (upd H1 l (.lst ((ds.filter p).map f)))) : LcW (Itl K a) g tt te cap σ Q l H1 := by
  refine lc_list (fun i acc H => acc = ((ds.take i).filter p).map f ∧ H = upd H1 l (.lst acc)) ⟨rfl, rfl⟩ (fun i acc H _ ⟨_, e⟩ => by rw [e]; exact (same_upd hn).seq hx) ?_ ?_
  · rintro i x acc H hi ⟨e1, e2⟩
    have hlt : i < xs.length := (List.getElem?_eq_some_iff.mp hi).1
    have hd : ds[i]? = some (ds[i]'(by omega)) := by simp
    generalize ds[i]'(by omega) = d at hd
    have step : ((ds.take (i + 1)).filter p).map f = acc ++ (if p d = true then [f d] else []) := by
      rw [take_succ_filter p ds i d hd, List.map_append, e1]
      cases p d <;> rfl
    refine hs i x d H hi hd (by rw [e2]; exact same_upd hn) _ _ (fun hp => ?_) (fun hp => ?_)
    · refine ⟨by rw [e2, upd_same], ?_, ?_, ?_⟩
      · have h1 : acc.length ≤ i := by
          rw [e1, List.length_map]
          exact Nat.le_trans (List.length_filter_le _ _) (by rw [List.length_take]; omega)
        omega
      · rw [step, hp]; rfl
      · rw [e2, upd_upd]
    · refine ⟨?_, e2⟩
      rw [step, hp, if_neg Bool.false_ne_true, List.append_nil]
  · rintro acc H ⟨e1, e2⟩
    rw [hlen, List.take_length] at e1
    rw [e2, e1]
    exact hq
end
end TL
set_option Elab.async false
set_option linter.all false
set_option maxRecDepth 100000
set_option maxHeartbeats 4000000
namespace TL
open PySem PySem.Spec PyProof.Rows L2

/-! ### data in the heap: L says how a list stands at an address, T how a tuple does -/
mutual
def Dg (L T : Addr → List V → Prop) : PyData → V → Prop
  | .none, v => v = .non
  | .bool b, v => v = .bl b
  | .int i, v => v = .int i
  | .str x, v => v = .str x
  | .list ds, v => ∃ a vs, v = .ref a ∧ L a vs ∧ Dgs L T ds vs
  | .tuple ds, v => ∃ a vs, v = .ref a ∧ T a vs ∧ Dgs L T ds vs
  | .dict _, _ => False
def Dgs (L T : Addr → List V → Prop) : List PyData → List V → Prop
  | [], vs => vs = []
  | d :: ds, vs => ∃ v r, vs = v :: r ∧ Dg L T d v ∧ Dgs L T ds r
end
mutual
theorem Dg.mono {L T L' T' : Addr → List V → Prop} (hL : ∀ a vs, L a vs → L' a vs) (hT : ∀ a vs, T a vs → T' a vs) : ∀ {d : PyData} {v : V}, Dg L T d v → Dg L' T' d v
  | .none, _, h => by simpa only [Dg] using h
  | .bool _, _, h => by simpa only [Dg] using h
  | .int _, _, h => by simpa only [Dg] using h
  | .str _, _, h => by simpa only [Dg] using h
  | .list ds, _, h => by
    simp only [Dg] at h ⊢
    obtain ⟨a, vs, e, l, q⟩ := h
    exact ⟨a, vs, e, hL a vs l, Dgs.mono hL hT q⟩
  | .tuple ds, _, h => by
    simp only [Dg] at h ⊢
    obtain ⟨a, vs, e, l, q⟩ := h
    exact ⟨a, vs, e, hT a vs l, Dgs.mono hL hT q⟩
  | .dict _, _, h => by simp only [Dg] at h
theorem Dgs.mono {L T L' T' : Addr → List V → Prop} (hL : ∀ a vs, L a vs → L' a vs) (hT : ∀ a vs, T a vs → T' a vs) : ∀ {ds : List PyData} {vs : List V}, Dgs L T ds vs → Dgs L' T' ds vs
  | [], _, h => by simpa only [Dgs] using h
  | d :: ds, _, h => by
    simp only [Dgs] at h ⊢
    obtain ⟨v, r, e, l, q⟩ := h
    exact ⟨v, r, e, Dg.mono hL hT l, Dgs.mono hL hT q⟩
end
section
variable {L T : Addr → List V → Prop}
theorem dg_int {i : Int} {v : V} : Dg L T (.int i) v ↔ v = .int i := by simp only [Dg]
theorem dg_list {ds : List PyData} {v : V} : Dg L T (.list ds) v ↔ ∃ a vs, v = .ref a ∧ L a vs ∧ Dgs L T ds vs := by simp only [Dg]
theorem dg_tuple {ds : List PyData} {v : V} : Dg L T (.tuple ds) v ↔ ∃ a vs, v = .ref a ∧ T a vs ∧ Dgs L T ds vs := by simp only [Dg]
theorem dgs_nil {vs : List V} : Dgs L T [] vs ↔ vs = [] := by simp only [Dgs]
theorem dgs_cons {d : PyData} {ds : List PyData} {vs : List V} : Dgs L T (d :: ds) vs ↔ ∃ v r, vs = v :: r ∧ Dg L T d v ∧ Dgs L T ds r := by simp only [Dgs]
theorem Dgs.length : ∀ {ds : List PyData} {vs : List V}, Dgs L T ds vs → vs.length = ds.length
  | [], _, h => by rw [dgs_nil.mp h]; rfl
  | d :: ds, _, h => by
    obtain ⟨v, r, rfl, _, q⟩ := dgs_cons.mp h
    rw [List.length_cons, List.length_cons, Dgs.length q]
theorem dgs_ints : ∀ {ns : List Int} {vs : List V}, Dgs L T (ns.map .int) vs ↔ vs = ns.map V.int
  | [], vs => dgs_nil
  | n :: ns, vs => by
    rw [List.map_cons, dgs_cons]
    constructor
    · rintro ⟨v, r, rfl, h1, h2⟩
      rw [dg_int.mp h1, dgs_ints.mp h2]; rfl
    · rintro rfl
      exact ⟨_, _, rfl, dg_int.mpr rfl, dgs_ints.mpr rfl⟩
theorem Dgs.append : ∀ {ds es : List PyData} {vs us : List V}, Dgs L T ds vs → Dgs L T es us → Dgs L T (ds ++ es) (vs ++ us)
  | [], _, _, _, h, k => by rw [dgs_nil.mp h]; exact k
  | d :: ds, _, _, _, h, k => by
    obtain ⟨v, r, rfl, h1, q⟩ := dgs_cons.mp h
    exact dgs_cons.mpr ⟨v, _, rfl, h1, Dgs.append q k⟩
theorem Dgs.one {d : PyData} {v : V} (h : Dg L T d v) : Dgs L T [d] [v] := dgs_cons.mpr ⟨v, [], rfl, h, dgs_nil.mpr rfl⟩
theorem Dgs.two {d e : PyData} {v u : V} (h : Dg L T d v) (k : Dg L T e u) : Dgs L T [d, e] [v, u] := dgs_cons.mpr ⟨v, [u], rfl, h, .one k⟩
theorem Dgs.get : ∀ {ds : List PyData} {vs : List V} {i : Nat} {v : V}, Dgs L T ds vs → vs[i]? = some v → ∃ d, ds[i]? = some d ∧ Dg L T d v
  | [], _, _, _, h, e => by rw [dgs_nil.mp h] at e; simp at e
  | d :: ds, _, 0, v, h, e => by
    obtain ⟨x, r, rfl, h1, q⟩ := dgs_cons.mp h
    simp at e; subst e
    exact ⟨d, rfl, h1⟩
  | d :: ds, _, i + 1, v, h, e => by
    obtain ⟨x, r, rfl, h1, q⟩ := dgs_cons.mp h
    obtain ⟨d', e1, e2⟩ := Dgs.get (i := i) (v := v) q (by simpa using e)
    exact ⟨d', by simpa using e1, e2⟩
theorem Dgs.insert : ∀ {ds : List PyData} {vs : List V} (i : Nat) {d : PyData} {v : V}, Dgs L T ds vs → Dg L T d v → Dgs L T (ds.take i ++ d :: ds.drop i) (vs.take i ++ v :: vs.drop i)
  | ds, vs, 0, d, v, h, k => dgs_cons.mpr ⟨v, vs, by simp, k, by simpa using h⟩
  | [], vs, i + 1, d, v, h, k => by rw [dgs_nil.mp h]; simpa using Dgs.one k
  | x :: ds, vs, i + 1, d, v, h, k => by
    obtain ⟨y, r, rfl, h1, q⟩ := dgs_cons.mp h
    exact dgs_cons.mpr ⟨y, _, rfl, h1, Dgs.insert i q k⟩
end

/-- data as it may be read -/
abbrev Da (K : PySem.W.Frag) (H : Hp) : PyData → V → Prop := Dg (SqL K H) (SqT K H)
abbrev Das (K : PySem.W.Frag) (H : Hp) : List PyData → List V → Prop := Dgs (SqL K H) (SqT K H)
theorem same_tseq {K : PySem.W.Frag} {H H' : Hp} {a : Addr} {xs : List V} (e : Same H H') (h : SqT K H a xs) : SqT K H' a xs := by
  rcases h with (h | ⟨o, h⟩) | h
  · exact .inl (.inl (e _ _ h))
  · exact .inl (.inr ⟨o, e _ _ h⟩)
  · exact .inr h
theorem Da.same {K : PySem.W.Frag} {H H' : Hp} (e : Same H H') {d : PyData} {v : V} (h : Da K H d v) : Da K H' d v := Dg.mono (fun _ _ q => e.seq q) (fun _ _ q => same_tseq e q) h
theorem Das.same {K : PySem.W.Frag} {H H' : Hp} (e : Same H H') {d : List PyData} {v : List V} (h : Das K H d v) : Das K H' d v := Dgs.mono (fun _ _ q => e.seq q) (fun _ _ q => same_tseq e q) h

section
variable {X : Cx} {pins : List (Addr × Obj)} {σ : St} {H : Hp} {s : Shared}
mutual
theorem Da.reads (I : Inv X pins σ H s) : ∀ {d : PyData} {v : V} {u : Value}, Da X.K H d v → RelV v u → ∃ as, Reads s.heap u d as
  | .none, v, u, h, r => by
    have e : v = .non := by simpa only [Dg] using h
    subst e; cases r; exact ⟨_, .none⟩
  | .bool b, v, u, h, r => by
    have e : v = .bl b := by simpa only [Dg] using h
    subst e; cases r; exact ⟨_, .bool b⟩
  | .int i, v, u, h, r => by
    have e : v = .int i := by simpa only [Dg] using h
    subst e; obtain ⟨t, rfl⟩ := r; exact ⟨_, .int i t⟩
  | .str i, v, u, h, r => by
    have e : v = .str i := by simpa only [Dg] using h
    subst e; obtain ⟨t, rfl⟩ := r; exact ⟨_, .str i t⟩
  | .list ds, v, u, h, r => by
    obtain ⟨a, vs, rfl, l, q⟩ := dg_list.mp h
    cases r
    obtain ⟨its, rv, p, hz⟩ := I.list l
    obtain ⟨as, rs⟩ := Das.reads I q rv
    obtain ⟨o, ho, hc, n, hd⟩ := p.isList
    exact ⟨_, .list ho hc hd (by simpa using rs)⟩
  | .tuple ds, v, u, h, r => by
    obtain ⟨a, vs, rfl, l, q⟩ := dg_tuple.mp h
    cases r
    obtain ⟨its, rv, p, hz⟩ := I.tuple l
    obtain ⟨as, rs⟩ := Das.reads I q rv
    obtain ⟨o, ho, hc, n, hd⟩ := p
    exact ⟨_, .tuple ho hc hd (by simpa using rs)⟩
  | .dict _, v, u, h, r => by simp only [Dg] at h
theorem Das.reads (I : Inv X pins σ H s) : ∀ {ds : List PyData} {vs : List V} {us : List Value}, Das X.K H ds vs → Vals vs us → ∃ as, ReadsAll s.heap us ds as
  | [], vs, us, h, r => by
    rw [dgs_nil.mp h] at r; cases r; exact ⟨_, .nil⟩
  | d :: ds, vs, us, h, r => by
    obtain ⟨v, w, rfl, h1, q⟩ := dgs_cons.mp h
    cases r with
    | cons r1 r2 =>
      obtain ⟨as, e1⟩ := Da.reads I h1 r1
      obtain ⟨bs, e2⟩ := Das.reads I q r2
      exact ⟨_, .cons e1 e2⟩
end
end

/-! ### ==, !=, in, not in over data -/
section
variable {X : Cx}
def OkD (d : PyData) : Prop := d.canLay0 = true ∧ d.depth ≤ 20
def rEqD (K : PySem.W.Frag) : R2 := fun x y H Q => ∃ d e, Da K H d x ∧ Da K H e y ∧ OkD d ∧ OkD e ∧ Q (.bl (PyData.eqv d e)) H
def rNeD (K : PySem.W.Frag) : R2 := fun x y H Q => ∃ d e, Da K H d x ∧ Da K H e y ∧ OkD d ∧ OkD e ∧ Q (.bl (!PyData.eqv d e)) H
theorem op_eqD (hu : X.A.units + 64 < cLine) : OpR X (compareOp .Eq) (rEqD X.K) := by
  intro pins s σ H x y v u Q I rx ry h
  obtain ⟨d, e, h1, h2, o1, o2, q⟩ := h
  obtain ⟨as, r1⟩ := Da.reads I h1 rx
  obtain ⟨bs, r2⟩ := Da.reads I h2 ry
  exact SeqAt.compareEq_reads r1 r2 o1.1 o2.1 (by have := o1.2; have := o2.2; omega) ⟨.bl _, H, I, rfl, q⟩
theorem op_neD (hu : X.A.units + 64 < cLine) : OpR X (compareOp .NotEq) (rNeD X.K) := by
  intro pins s σ H x y v u Q I rx ry h
  obtain ⟨d, e, h1, h2, o1, o2, q⟩ := h
  obtain ⟨as, r1⟩ := Da.reads I h1 rx
  obtain ⟨bs, r2⟩ := Da.reads I h2 ry
  exact SeqAt.compareNe_reads r1 r2 o1.1 o2.1 (by have := o1.2; have := o2.2; omega) ⟨.bl _, H, I, rfl, q⟩
def OkDs (ds : List PyData) : Prop := PyData.canLayAll0 ds = true ∧ PyData.depthAll ds ≤ 20
def rInD (K : PySem.W.Frag) (neg : Bool) : R2 := fun x y H Q => ∃ ds d, Da K H (.list ds) y ∧ Da K H d x ∧ OkDs ds ∧ OkD d ∧ Q (.bl (if neg then !(ds.any fun z => PyData.eqv z d) else ds.any fun z => PyData.eqv z d)) H
theorem op_notInD (hu : X.A.units + 64 < cLine) : OpR X (compareOp .NotIn) (rInD X.K true) := by
  intro pins s σ H x y v u Q I rx ry h
  obtain ⟨ds, d, h1, h2, o1, o2, q⟩ := h
  obtain ⟨as, r1⟩ := Da.reads I h1 ry
  obtain ⟨bs, r2⟩ := Da.reads I h2 rx
  exact SeqAt.notIn_list_reads r1 r2 o1.1 o2.1 (by have := o1.2; have := o2.2; omega) ⟨.bl _, H, I, rfl, q⟩
end

/-! ### shapes -/
theorem canLayAll0_map {α : Type} {f : α → PyData} (h : ∀ x, (f x).canLay0 = true) : ∀ l : List α, PyData.canLayAll0 (l.map f) = true
  | [] => by simp [PyData.canLayAll0]
  | x :: l => by simp [PyData.canLayAll0, h x, canLayAll0_map h l]
theorem depthAll_map {α : Type} {f : α → PyData} {k : Nat} (h : ∀ x, (f x).depth ≤ k) : ∀ l : List α, PyData.depthAll (l.map f) ≤ k
  | [] => by simp [PyData.depthAll]
  | x :: l => by
    simp only [List.map_cons, PyData.depthAll]
    exact Nat.max_le.mpr ⟨h x, depthAll_map h l⟩
def dI (ns : List Int) : PyData := .list (ns.map .int)
def dP (p : Int × Int) : PyData := .tuple [.int p.1, .int p.2]
def dJ (js : List (Int × Int)) : PyData := .list (js.map dP)
def dL (l : Int × List (Int × Int)) : PyData := .tuple [.int l.1, dJ l.2]
theorem okD_int (i : Int) : OkD (.int i) := ⟨rfl, by simp [PyData.depth]⟩
theorem okD_ints (ns : List Int) : OkD (dI ns) := ⟨by simp only [dI, PyData.canLay0]; exact canLayAll0_map (fun _ => rfl) ns, by
  simp only [dI, PyData.depth]
  have := depthAll_map (f := PyData.int) (k := 0) (fun _ => by simp [PyData.depth]) ns
  omega⟩
theorem canLay_P (p : Int × Int) : (dP p).canLay0 = true := by simp [dP, PyData.canLay0, PyData.canLayAll0]
theorem depth_P (p : Int × Int) : (dP p).depth ≤ 1 := by simp [dP, PyData.depth, PyData.depthAll]
theorem okD_P (p : Int × Int) : OkD (dP p) := ⟨canLay_P p, by have := depth_P p; omega⟩
theorem okDs_P (js : List (Int × Int)) : OkDs (js.map dP) := ⟨canLayAll0_map canLay_P js, by have := depthAll_map depth_P js; omega⟩
theorem depth_J (js : List (Int × Int)) : (dJ js).depth ≤ 2 := by simp only [dJ, PyData.depth]; have := depthAll_map depth_P js; omega
theorem okD_J (js : List (Int × Int)) : OkD (dJ js) := ⟨by simp only [dJ, PyData.canLay0]; exact canLayAll0_map canLay_P js, by have := depth_J js; omega⟩
theorem depth_L (l : Int × List (Int × Int)) : (dL l).depth ≤ 3 := by
  simp only [dL, PyData.depth, PyData.depthAll]
  have := depth_J l.2
  omega
theorem okD_L (l : Int × List (Int × Int)) : OkD (dL l) := ⟨by simp only [dL, PyData.canLay0, PyData.canLayAll0, Bool.and_true, Bool.true_and]; exact (okD_J l.2).1, by have := depth_L l; omega⟩
theorem eqv_same {d : PyData} (h : OkD d) : PyData.eqv d d = true := SeqAt.eqv_refl d h.1
theorem eqv_P (p q : Int × Int) : PyData.eqv (dP p) (dP q) = decide (p = q) := by
  obtain ⟨a, b⟩ := p
  obtain ⟨c, d⟩ := q
  simp only [dP, PyData.eqv, PyData.eqvAll, Bool.and_true]
  rw [Bool.eq_iff_iff]
  simp
theorem any_P (js : List (Int × Int)) (p : Int × Int) : ((js.map dP).any fun z => PyData.eqv z (dP p)) = decide (p ∈ js) := by
  rw [List.any_map, Bool.eq_iff_iff, List.any_eq_true, decide_eq_true_iff]
  constructor
  · rintro ⟨x, hx, e⟩
    have e' : PyData.eqv (dP x) (dP p) = true := e
    rw [eqv_P, decide_eq_true_iff] at e'
    rw [← e']; exact hx
  · intro h
    exact ⟨p, h, by show PyData.eqv (dP p) (dP p) = true; rw [eqv_P]; simp⟩
theorem eqv_list_nil (ds : List PyData) : PyData.eqv (.list ds) (.list []) = ds.isEmpty := by
  cases ds <;> simp [PyData.eqv, PyData.eqvAll]
theorem okD_nil : OkD (.list []) := okD_ints []
end TL
set_option Elab.async false
set_option linter.all false
set_option maxRecDepth 100000
set_option maxHeartbeats 4000000
namespace TL
open PySem PySem.Spec PyProof.Rows L2

/-! ### xs.insert(i, y), 0 ≤ i -/
section
variable {X : Cx}
theorem ins_arr (its : List Value) (k : Nat) (y : Value) : (its.toArray.extract 0 k).push y ++ its.toArray.extract k = (its.take k ++ y :: its.drop k).toArray := PySem.W.kl_ins_eq its k y
def rInsert : V → List V → Hp → VK → Prop := fun x vs H Q => ∃ l xs i y, x = .ref l ∧ vs = [.int i, y] ∧ H l = some (.lst xs) ∧ 0 ≤ i ∧ i ≤ xs.length ∧ xs.length < sizeLine ∧ Q .non (upd H l (.lst (xs.take i.toNat ++ y :: xs.drop i.toNat)))
theorem mt_insert : MtM X "list.insert" rInsert := by
  intro pins s σ H x vs v us Q I rx rv h
  obtain ⟨l, xs, i, y, rfl, rfl, hH, h0, h1, hz, q⟩ := h
  cases rx
  obtain ⟨ui, u, rfl, ri, ru⟩ := rv.two
  obtain ⟨t, rfl⟩ := ri
  obtain ⟨z, its, n, r, hl, e⟩ := I.lstM hH
  have hs : its.toArray.size ≤ sizeLine := by rw [List.size_toArray]; omega
  have hf : Builtin.List.listFitsIndex i = true := by
    unfold Builtin.List.listFitsIndex
    have h63 : (sizeLine : Nat) < 2 ^ 62 := by rw [sizeLine_eq]; decide
    simp only [Bool.and_eq_true, decide_eq_true_eq]
    constructor <;> omega
  refine call_meets PySem.F.slot_list_insert ⟨_, e, rfl⟩ PySem.F.entry_list_insert (PySem.F.args_list_insert_3 _ _ _) (PySem.AutoSeq1.list_insert_list_int_val_1 l its.toArray n i t u (by simp [hf]) hs) ⟨e, ?_⟩
  refine ⟨.non, _, I.lset (its' := its.take i.toNat ++ u :: its.drop i.toNat) (ys := xs.take i.toNat ++ y :: xs.drop i.toNat) hH e ?_ ((r.take i.toNat).append (.cons ru (r.drop i.toNat))) ?_, rfl, q⟩
  · have hk : (if i < 0 then (i + (its.toArray.size : Int)).toNat else min i.toNat its.toArray.size) = i.toNat := by
      rw [if_neg (by omega), List.size_toArray]
      omega
    show (its.toArray.extract 0 (if i < 0 then (i + (its.toArray.size : Int)).toNat else min i.toNat its.toArray.size)).push u ++ its.toArray.extract (if i < 0 then (i + (its.toArray.size : Int)).toNat else min i.toNat its.toArray.size) = _
    rw [hk, ins_arr]
  · rw [List.length_append, List.length_cons, List.length_take, List.length_drop]
    omega
end

/-! ### sorted(list of ints) -/
def srt (ns : List Int) : List Int := ns.mergeSort (fun a b => decide (a ≤ b))
theorem srt_perm (ns : List Int) : (srt ns).Perm ns := List.mergeSort_perm ns _
theorem srt_pair (ns : List Int) : (srt ns).Pairwise (· ≤ ·) := by
  have h := List.pairwise_mergeSort (le := fun a b : Int => decide (a ≤ b)) (by intro a b c h1 h2; simp only [decide_eq_true_eq] at *; omega) (by intro a b; simp only [Bool.or_eq_true, decide_eq_true_eq]; omega) ns
  exact h.imp (by intro a b h; simpa using h)
theorem srt_unique {a b : List Int} (hp : a.Perm b) (ha : a.Pairwise (· ≤ ·)) (hb : b.Pairwise (· ≤ ·)) : a = b := PySem.W.ksm_same hp ha hb
theorem srt_eq {a ns : List Int} (hp : a.Perm ns) (ha : a.Pairwise (· ≤ ·)) : a = srt ns := srt_unique (hp.trans (srt_perm ns).symm) ha (srt_pair ns)
theorem srt_congr {a b : List Int} (hp : a.Perm b) : srt a = srt b := srt_eq ((srt_perm a).trans hp) (srt_pair a)
theorem srt_mem {ns : List Int} {x : Int} : x ∈ srt ns ↔ x ∈ ns := (srt_perm ns).mem_iff
theorem srt_length (ns : List Int) : (srt ns).length = ns.length := (srt_perm ns).length_eq
section
variable {X : Cx}
theorem call_sorted : CallR X (.builtin "sorted") (fun xs H Q => ∃ a ns, xs = [.ref a] ∧ SqL X.K H a (ns.map V.int) ∧ ns.length < 64 ∧ ∀ p, H p = none → Q (.ref p) (upd H p (.lst ((srt ns).map V.int)))) := by
  intro pins s σ H xs us Q I r h
  obtain ⟨a, ns, rfl, hx, h64, q⟩ := h
  obtain ⟨u, rfl, ru⟩ := vals1 r
  cases ru
  obtain ⟨its, rv, p, hz⟩ := I.list hx
  have hlen := rv.length
  rw [List.length_map] at hlen
  refine sorted_ints p.isList (intsAre_of rv) (by omega) fun out ns' h1 h2 h3 => ?_
  obtain ⟨e, he⟩ := sortedAll_at s.heap its out
  have e' : ns' = srt ns := srt_eq h2 h3
  subst e'
  have vo : Vals ((srt ns).map V.int) out.toList := vals_ints h1
  refine ⟨.ref (s.heap.objs.size + 1), _, I.laid (t' := s.toks) (o := .lst ((srt ns).map V.int)) (fun b ob q => sortedAll_old q) (Nat.le_succ _) ⟨?_, out.toList, e, vo, ?_⟩, rfl, q _ (I.hok.fresh (Nat.le_succ _))⟩
  · rw [List.length_map, srt_length]
    rw [List.length_map] at hz
    exact hz
  · rw [he, Array.toArray_toList]
end

/-! ### an iterator has turned and handed out a new tuple -/
theorem Inv.turnedTup {X : Cx} {pins : List (Addr × Obj)} {σ : St} {H : Hp} {s : Shared} {h' : Heap} {t' : Nat} {ch : List Addr} {xs : List V} {us : List Value} (I : Inv X pins σ H s) (hf : ∀ b ∈ ch, FpOk X pins H b)
    (keep : ∀ b o, b ∉ ch → s.heap.get? b = some o → h'.get? b = some o) (r : Vals xs us) (hz : xs.length ≤ sizeLine) (ht : h'.get? s.heap.objs.size = some { cls := .type "tuple", data := .seq us.toArray }) :
    Inv X pins σ (upd H s.heap.objs.size (.tup xs)) { s with heap := h', toks := t' } := by
  have hn : H s.heap.objs.size = none := I.fresh
  have nch : ∀ b u, H b = some u → b ∉ ch := fun b u q z => by rw [(hf b z).1] at q; cases q
  refine I.step (g' := s.gens) (d' := s.drawn) (ch := ch) (fun b hb => ?_) (fun b o _ _ hc q _ => keep b o hc q) (fun b o _ _ hc q _ => ⟨o.slots, keep b o hc q⟩) (fun b o _ q n => ?_)
    (fun b o hc q => ⟨o, keep b o hc q⟩) (fun b ys q => by rw [upd_ne (ne_of_none q hn)]; exact q) (fun b o ys q => by rw [upd_ne (ne_of_none q hn)]; exact q) (fun b ps q => ⟨#[], by rw [upd_ne (ne_of_none q hn), q]; simp⟩) (fun m hm => ?_) (fun b u q => ?_) I.bare
  · obtain ⟨f0, f1, f2, f3, f4, f5⟩ := hf b hb
    exact ⟨f3, f1, f4, f5⟩
  · rw [upd_ne (Nat.ne_of_lt (Heap.lt_size q))]; exact n
  · obtain ⟨o, es, ep, ho, r⟩ := hm
    exact ⟨o, es, ep, keep _ o (fun z => (hf _ z).2.1 rfl) ho, r⟩
  · by_cases hb : b = s.heap.objs.size
    · subst hb
      rw [upd_same] at q
      cases q
      exact ⟨hz, us, r, ⟨_, ht, rfl, _, rfl⟩⟩
    · rw [upd_ne hb] at q
      refine (I.hok b u q).stay (fun c v hc q' => keep c v ?_ q') (fun c z => by rw [upd_ne (ne_of_none z hn)]; exact z) fun c ys z => by rw [upd_ne (ne_of_none z hn)]; exact z
      rcases hc with z | z
      · rw [z]; exact nch b u q
      · exact nch c _ z

/-! ### enumerate(list), a tuple as target -/
def Ite (K : PySem.W.Frag) (a : Addr) : It :=
  ⟨fun i H => ∃ xs x, SqL K H a xs ∧ xs[i]? = some x, fun i H x H' => ∃ p, H p = none ∧ x = .ref p ∧ ∀ xs y, SqL K H a xs → xs[i]? = some y → H' = upd H p (.tup [.int i, y]), fun i H => ∃ xs, SqL K H a xs ∧ xs.length ≤ i⟩
theorem turn_enum {P : Program} {w : World} {K : PySem.W.Frag} {es : List Expr} {x1 : Nat} {pt : Pos} (a e it : Addr) (hne : e ≠ it) :
    Turn P w K (.Tuple es x1 pt) (Ite K a) [e, it] e (fun i h => ∃ old, IsEnum h e it i old ∧ h.IsListIter it a i) where
  mem := by simp
  obj := fun i h st b hb => by
    obtain ⟨old, h1, h2⟩ := st
    rcases List.mem_cons.mp hb with z | z
    · subst z; exact ⟨_, h1, fun v z => by cases z⟩
    · have z : b = it := by simpa using z
      subst z
      obtain ⟨o, ho, c, d⟩ := h2
      exact ⟨o, ho, fun v z => by rw [d] at z; cases z⟩
  keep := fun i h h' ⟨old, h1, h2⟩ k => ⟨old, k e (by simp) _ h1, h2.at fun o q => k it (by simp) o q⟩
  item := by
    intro X hP hw hK hc i pins s σ H E I hf st hg
    subst hP hw hK
    obtain ⟨old, h1, h2⟩ := st
    obtain ⟨xs, x, hq, hx⟩ := hg
    obtain ⟨its, rv, p, hz⟩ := I.list hq
    obtain ⟨u, hu, ru⟩ := rv.get hx
    have lt1 : e < s.heap.objs.size := Heap.lt_size h1
    refine wpAny_pyNext_enum_item h1 h2 p.isList (x := u) (by simpa using hu) hne fun h' k1 k2 k3 k4 k5 => ?_
    refine ⟨_, rfl, ?_⟩
    refine wpAny_letOwnedTupleGo_enum (s := { s with heap := h', toks := s.toks + 1 }) k1 fun h'' m1 m2 => ?_
    have keep : ∀ b o, b ∉ [e, it] → s.heap.get? b = some o → h''.get? b = some o := fun b o hb q => m2.extBut b o (fun z => hb (by simp [z])) (k5 b o (fun z => hb (by simp [z])) (fun z => hb (by simp [z])) q)
    have ht : h''.get? s.heap.objs.size = some { cls := .type "tuple", data := .seq [Value.int i s.toks, u].toArray } := m2.extBut _ _ (Nat.ne_of_gt lt1) k3
    have J1 : Inv X pins σ (upd H s.heap.objs.size (.tup [.int i, x])) { s with heap := h'', toks := s.toks + 1 } := Inv.turnedTup I hf keep (.cons ⟨_, rfl⟩ (.cons ru .nil)) (by show 2 ≤ sizeLine; decide) ht
    have hn : H s.heap.objs.size = none := I.fresh
    refine ⟨.ref s.heap.objs.size, _, J1, rfl, ⟨_, hn, rfl, fun ys y hy h => ?_⟩, ⟨u, ?_, ?_⟩, fun b hb => ?_⟩
    · have e1 := I.list_inj hy hq
      subst e1
      rw [hx] at h
      cases h
      rfl
    · have e1 : ((i + 1 : Nat) : Int) = (i : Int) + 1 := by omega
      rw [e1]; exact m1
    · exact k2.extBut m2.extBut (Ne.symm hne)
    · obtain ⟨o, q, _⟩ : ∃ o, s.heap.get? b = some o ∧ True := by
        rcases List.mem_cons.mp hb with z | z
        · subst z; exact ⟨_, h1, trivial⟩
        · have z : b = it := by simpa using z
          subst z
          obtain ⟨o, ho, _⟩ := h2
          exact ⟨o, ho, trivial⟩
      rw [upd_ne (Nat.ne_of_lt (Heap.lt_size q))]
      exact (hf b hb).1
  done := by
    intro X hP hw hK hc i pins s σ H E I hf st hg
    subst hP hw hK
    obtain ⟨old, h1, h2⟩ := st
    obtain ⟨xs, hq, hx⟩ := hg
    obtain ⟨its, rv, p, hz⟩ := I.list hq
    obtain ⟨g0, g1, g2, g3, g4, g5⟩ := hf it (by simp)
    have hl := rv.length
    exact wpAny_pyNext_enum_end (I.ok.hd hc) h1 h2 p.isList (by simp; omega) fun h' eb => ⟨rfl, I.turned (t' := s.toks) (fun b o hb e => eb b o hb e) g0 g1 g3 g4 g5⟩
  self := fun _ _ _ _ _ ⟨old, h1, h2⟩ h => wpAny_pyIter_enum h1 h
section
variable {X : Cx}
def iEnum (K : PySem.W.Frag) (ta : TA) : TI := fun σ H R => ta σ H fun vs H1 => ∃ a, vs = [.ref a] ∧ (∃ xs, SqL K H1 a xs) ∧ R (Ite K a) H1
theorem pi_enum {a : Expr} {ta : TA} {p pos : Pos} {es : List Expr} {x1 : Nat} {pt : Pos} (hg : Gl X "enumerate") (hm : X.mg "enumerate" = none) (ha : PA X [a] ta) (hs : starEach [a] X.env = [(false, eval a X.env)] := by rfl) : PI X (.Tuple es x1 pt) (.Call (.Name "enumerate" p) [a] [] pos) (iEnum X.K ta) := by
  intro pins s σ H R I h
  refine Call_ (ld_blt I hg hm boot_enumerate (PyProof.Rows.callWith_type1 (thn (ha pos pins s σ H _ I h) fun us s1 ⟨vs, H1, I1, r1, q1⟩ => ?_) hs rfl))
  obtain ⟨a, e, ⟨xs, hq⟩, q⟩ := q1
  subst e
  obtain ⟨u, rfl, ru⟩ := vals1 r1
  cases ru
  obtain ⟨its, rv, pl, hz⟩ := I1.list hq
  refine call_enumerate_list pl.isList fun h' k1 k2 k3 k4 => ?_
  refine wpAny_pyIter_enum (s := { s1 with heap := h' }) k1 ?_
  refine ⟨s1.heap.objs.size + 1, [s1.heap.objs.size + 1, s1.heap.objs.size], _, _, H1, rfl, I1.kept (t' := s1.toks) k4, turn_enum a _ _ (Nat.succ_ne_self _), ⟨.none, k1, k2⟩, fun b hb => ?_, q⟩
  have hb' : s1.heap.objs.size ≤ b := by
    rcases List.mem_cons.mp hb with z | z
    · rw [z]; exact Nat.le_succ _
    · have z : b = s1.heap.objs.size := by simpa using z
      rw [z]; exact Nat.le_refl _
  exact I1.fpOk hb' (I1.hok.fresh hb')
end
/-- over enumerate of a list that the body leaves as it is -/
theorem for_enum {K : PySem.W.Frag} {a : Addr} {xs : List V} {g : TG} {tb : TS} {D : Ends} {σ : St} {H : Hp} (Pv : Nat → St → Hp → Prop) (h0 : Pv 0 σ H) (hl : ∀ i σ H, i ≤ xs.length → Pv i σ H → SqL K H a xs)
    (hs : ∀ i x σ H p, xs[i]? = some x → Pv i σ H → H p = none → g (.ref p) σ (upd H p (.tup [.int i, x])) fun σ2 H2 => tb { D with nx := Pv (i + 1), ct := Pv (i + 1), bk := D.nx } σ2 H2) (hd : ∀ σ H, Pv xs.length σ H → D.nx σ H) :
    ∃ W : Nat → Nat → St → Hp → Prop, (∃ m, W 0 m σ H) ∧ ∀ i m σ H, W i m σ H →
      ((Ite K a).stop i H ∧ D.nx σ H) ∨ ((Ite K a).go i H ∧ ∃ N : St → Hp → Prop, (∀ σ' H', N σ' H' → ∃ m', m' < m ∧ W (i + 1) m' σ' H') ∧ ∀ x H', (Ite K a).yld i H x H' → g x σ H' fun σ2 H2 => tb { D with nx := N, ct := N, bk := D.nx } σ2 H2) := by
  refine ⟨fun i m σ H => m = xs.length - i ∧ i ≤ xs.length ∧ Pv i σ H, ⟨xs.length, by simp, Nat.zero_le _, h0⟩, ?_⟩
  rintro i m σ H ⟨rfl, hi, p⟩
  have q := hl i σ H hi p
  by_cases hlt : i < xs.length
  · refine .inr ⟨⟨xs, xs[i], q, by simp [hlt]⟩, Pv (i + 1), fun σ' H' p' => ⟨xs.length - (i + 1), by omega, rfl, hlt, p'⟩, fun x H' y => ?_⟩
    obtain ⟨pa, hp, e, y⟩ := y
    subst e
    have hx : xs[i]? = some xs[i] := by simp [hlt]
    rw [y xs _ q hx]
    exact hs i _ σ H pa hx p hp
  · have e : i = xs.length := by omega
    subst e
    exact .inl ⟨⟨xs, q, Nat.le_refl _⟩, hd σ H p⟩

/-! ### reversed(list) -/
section
variable {X : Cx} {tg : Expr}
end

/-! ### xs[::-1] -/
section
variable {X : Cx} {e : Expr} {te : TE} {pos p2 : Pos}
end
end TL
set_option Elab.async false
set_option linter.all false
set_option maxRecDepth 100000
set_option maxHeartbeats 4000000
namespace TL
open PySem PySem.Spec PyProof.Rows L2

/-! ### isinstance(x, T), T a built-in type -/
theorem call_isinst {X : Cx} : CallR X (.builtin "isinstance") (fun xs H Q => ∃ x c t b, xs = [x, .ty c] ∧ TyOf X.K H x t ∧ PySem.W.kitOne X.K t (.type c) = some b ∧ Q (.bl b) H) := by
  intro pins s σ H xs us Q I r h
  obtain ⟨x, c, t, b, rfl, ty, e, q⟩ := h
  obtain ⟨u, u2, rfl, ru, rc⟩ := vals2 r
  cases rc
  exact isinst_ok I ru ty e fun tk => ⟨.bl b, H, I.tok tk, rfl, q⟩
theorem kit_same {K : PySem.W.Frag} {t : Value} : PySem.W.kitOne K t t = some true := by unfold PySem.W.kitOne; rw [if_pos (by simp)]

/-! ### names of the module that are the builtins' own -/
structure Bl (mg : Str → Option Value) : Prop where
  len : mg "len" = none
  range : mg "range" = none
  sorted : mg "sorted" = none
  enumerate : mg "enumerate" = none
  reversed : mg "reversed" = none
  min : mg "min" = none
  max : mg "max" = none
  list : mg "list" = none
  int : mg "int" = none
  isinstance : mg "isinstance" = none
/-- a def of the module -/
structure Fn (K : PySem.W.Frag) (mg : Str → Option Value) (x : Str) (st : Stmt) (ps : List Str) (f : Addr) (fd : FuncData) : Prop where
  F : Fun K x x st f fd
  m : mg x = some (.ref f)
  b : Binds K fd ps []

/-! ### the mathematics of a line -/
def below (js : List (Int × Int)) (e : Int) : List Int := (js.filter fun p => decide (p.2 = e)).map (·.1)
def above (js : List (Int × Int)) (e : Int) : List Int := (js.filter fun p => decide (p.1 = e)).map (·.2)
def inc (js : List (Int × Int)) (e : Int) : Nat := (below js e).length + (above js e).length
def jn (js : List (Int × Int)) (e : Int) : List Int := srt (below js e ++ above js e)
theorem jn_eq (js : List (Int × Int)) (e : Int) : srt (above js e ++ below js e) = jn js e := srt_congr List.perm_append_comm
/-- what the makers of lines keep -/
structure LineOk (l : Int × List (Int × Int)) : Prop where
  one : 1 ≤ l.1
  most : l.1 ≤ 40
  len : l.2.length ≤ 80
  inc : ∀ e, inc l.2 e ≤ 60
  ends : ∀ p ∈ l.2, 0 ≤ p.1 ∧ p.1 ≤ p.2 ∧ p.2 < 2 * l.1
theorem inc_le (js : List (Int × Int)) (e : Int) : inc js e ≤ 2 * js.length := by
  unfold inc below above
  rw [List.length_map, List.length_map]
  have h1 := List.length_filter_le (fun p : Int × Int => decide (p.2 = e)) js
  have h2 := List.length_filter_le (fun p : Int × Int => decide (p.1 = e)) js
  omega
/-! ### new lists of ints -/
/-- a new list of these ints has come, nothing else is changed -/
def NewInts (H : Hp) (ns : List Int) (Q : VK) : Prop := ∀ (p : Addr) (H' : Hp), Same H H' → H p = none → H' p = some (.lst (ns.map V.int)) → Q (.ref p) H'
theorem Same.upd {H H' : Hp} {l : Addr} {o : HO} (s : Same H H') (hn : H l = none) : Same H (upd H' l o) := fun b u e => by rw [upd_ne (ne_of_none e hn)]; exact s b u e
theorem da_ints {K : PySem.W.Frag} {H : Hp} {ns : List Int} {v : V} : Da K H (dI ns) v ↔ ∃ a, v = .ref a ∧ SqL K H a (ns.map V.int) := by
  unfold dI
  refine Iff.trans dg_list ?_
  constructor
  · rintro ⟨a, vs, rfl, h, q⟩
    rw [dgs_ints.mp q] at h
    exact ⟨a, rfl, h⟩
  · rintro ⟨a, rfl, h⟩
    exact ⟨a, _, rfl, h, dgs_ints.mpr rfl⟩
theorem da_new {K : PySem.W.Frag} {H : Hp} {ns : List Int} {p : Addr} (h : H p = some (.lst (ns.map V.int))) : Da K H (dI ns) (.ref p) := da_ints.mpr ⟨p, rfl, SqL.of h⟩
/-- the joints of a line, pair by pair -/
theorem da_line {K : PySem.W.Frag} {H : Hp} {l : Int × List (Int × Int)} {v : V} (h : Da K H (dL l) v) : ∃ a b, v = .ref a ∧ SqT K H a [.int l.1, .ref b] ∧ ∃ vs, SqL K H b vs ∧ Das K H (l.2.map dP) vs := by
  unfold dL at h
  obtain ⟨a, vs, rfl, ht, q⟩ := dg_tuple.mp h
  obtain ⟨v1, r, rfl, h1, q⟩ := dgs_cons.mp q
  obtain ⟨v2, r, rfl, h2, q⟩ := dgs_cons.mp q
  cases dgs_nil.mp q
  cases dg_int.mp h1
  unfold dJ at h2
  obtain ⟨b, us, rfl, hl, q⟩ := dg_list.mp h2
  exact ⟨a, b, rfl, ht, us, hl, q⟩
theorem das_pair {K : PySem.W.Frag} {H : Hp} {js : List (Int × Int)} {vs : List V} {i : Nat} {x : V} (h : Das K H (js.map dP) vs) (e : vs[i]? = some x) : ∃ a p, js[i]? = some p ∧ x = .ref a ∧ SqT K H a [.int p.1, .int p.2] := by
  obtain ⟨d, e1, hd⟩ := Dgs.get h e
  rw [List.getElem?_map] at e1
  cases q : js[i]? with
  | none => rw [q] at e1; cases e1
  | some p =>
    rw [q] at e1
    cases e1
    unfold dP at hd
    obtain ⟨a, us, rfl, ht, q⟩ := dg_tuple.mp hd
    obtain ⟨v1, r, rfl, h1, q⟩ := dgs_cons.mp q
    obtain ⟨v2, r, rfl, h2, q⟩ := dgs_cons.mp q
    cases dgs_nil.mp q
    cases dg_int.mp h1
    cases dg_int.mp h2
    exact ⟨a, p, rfl, rfl, ht⟩
theorem okDs_I (ms : List Int) : OkDs (ms.map PyData.int) := ⟨canLayAll0_map (fun _ => rfl) ms, by have := depthAll_map (f := PyData.int) (k := 0) (fun _ => by simp [PyData.depth]) ms; omega⟩
theorem any_I (ms : List Int) (x : Int) : ((ms.map PyData.int).any fun z => PyData.eqv z (.int x)) = decide (x ∈ ms) := by
  rw [List.any_map, Bool.eq_iff_iff, List.any_eq_true, decide_eq_true_iff]
  constructor
  · rintro ⟨y, hy, e⟩
    have e' : PyData.eqv (.int y) (.int x) = true := e
    simp only [PyData.eqv, beq_iff_eq] at e'
    rw [← e']; exact hy
  · intro h
    exact ⟨x, h, by show PyData.eqv (.int x) (.int x) = true; simp [PyData.eqv]⟩

theorem yes_if {σ : St} {H : Hp} {A B : Hp → Prop} (h : A H) : tYes σ H (fun b H3 => if b = true then A H3 else B H3) := iteT (A := A H) (B := B H) h
theorem name_yes {i : Nat} {x : V} {σ : St} {H : Hp} {te : TE} {P1 : VK} {P0 : Hp → Prop} (h : te (σ.set i (some x)) H P1) : gName i x σ H (fun σ2 H2 => tYes σ2 H2 fun b H3 => if b = true then te σ2 H3 P1 else P0 H3) := iteT (A := te (σ.set i (some x)) H P1) (B := P0 H) h
theorem filt_true {α : Type} (xs : List α) : (xs.filter fun _ => true) = xs := by simp
/-! ### the rules that name K, for a comprehension's block (K := K) rfl -/
section
variable {X : Cx} {K : PySem.W.Frag}
theorem op_notInDk (hK : X.K = K) (hu : X.A.units + 64 < cLine) : OpR X (compareOp .NotIn) (rInD K true) := hK ▸ op_notInD hu
theorem ix_listk (hK : X.K = K) : IxR X (rIxL K) := hK ▸ ix_list
end

/-! ### a comprehension over any iterator that leaves the heap as it is -/
structure JS (J : It) (n : Nat) (H1 : Hp) (it : Nat → V → Prop) : Prop where
  go : ∀ i H, Same H1 H → i < n → J.go i H
  yld : ∀ i H x H', Same H1 H → i < n → J.yld i H x H' → H' = H ∧ it i x
  stop : ∀ H, Same H1 H → J.stop n H
theorem js_list {K : PySem.W.Frag} {a : Addr} {xs : List V} {H1 : Hp} (hx : SqL K H1 a xs) : JS (Itl K a) xs.length H1 (fun i x => xs[i]? = some x) :=
  ⟨fun i H s hi => ⟨xs, xs[i], s.seq hx, by simp⟩, fun i H x H' s hi y => ⟨y.1, y.2 xs (s.seq hx)⟩, fun H s => ⟨xs, s.seq hx, Nat.le_refl _⟩⟩
theorem js_range {lo : Int} {n : Nat} {H1 : Hp} : JS (Itr lo n) n H1 (fun i x => x = .int (lo + i)) :=
  ⟨fun i H s hi => hi, fun i H x H' s hi y => y, fun H s => Nat.le_refl _⟩
end TL
set_option Elab.async false
set_option linter.all false
set_option maxRecDepth 100000
set_option maxHeartbeats 4000000
namespace TL
open PySem PySem.Spec PyProof.Rows L2

/-! ### moves -/
abbrev Mv := (Str × Int) × List Int
theorem sqt_upd {K : PySem.W.Frag} {H : Hp} {t b : Addr} {vs xs : List V} {o : HO} (ht : H t = some (.lst vs)) (h : SqT K H b xs) : SqT K (upd H t o) b xs := by
  rcases h with (h | ⟨o, h⟩) | h
  · exact .inl (.inl (by rw [upd_ne (ne_of h ht (by intro z; cases z))]; exact h))
  · exact .inl (.inr ⟨o, by rw [upd_ne (ne_of h ht (by intro z; cases z))]; exact h⟩)
  · exact .inr h
/-! ### slices and places -/
theorem cut_tail (ns : List Int) : cutV (ns.map V.int) (some 1) none = (ns.drop 1).map V.int := by
  unfold cutV
  rw [HT.sIx_none]
  have e : HT.sIx (ns.map V.int).length 0 (some 1) = min 1 (ns.map V.int).length := HT.sIx_nat _ _ 1
  rw [e, List.length_map, List.map_drop]
  cases ns with
  | nil => rfl
  | cons a r =>
    have e1 : min 1 (a :: r).length = 1 := by simp
    rw [e1]
    simp
    exact List.take_of_length_le (by simp)
theorem at_last {ns : List Int} (h : ns ≠ []) : atI (ns.map V.int) (-1) = some (V.int (ns.getLastD 0)) := by
  obtain ⟨r, x, rfl⟩ : ∃ r x, ns = r ++ [x] := ⟨ns.dropLast, ns.getLast h, (List.dropLast_concat_getLast h).symm⟩
  rw [List.map_append]
  show atI (r.map V.int ++ [V.int x]) (-1) = _
  rw [atI_last]
  have e : (r ++ [x]).getLastD 0 = x := by simp [List.getLastD_eq_getLast?]
  rw [e]
end TL
set_option Elab.async false
set_option linter.all false
set_option maxRecDepth 100000
set_option maxHeartbeats 4000000
namespace TL
open PySem PySem.Spec PyProof.Rows L2
/-! ### lists of pairs that are being built: no list stands within -/
abbrev NoL : Addr → List V → Prop := fun _ _ => False
abbrev Ps (K : PySem.W.Frag) (H : Hp) (js : List (Int × Int)) (vs : List V) : Prop := Dgs NoL (SqT K H) (js.map dP) vs
theorem Ps.same {K : PySem.W.Frag} {H H' : Hp} {js : List (Int × Int)} {vs : List V} (D : Ps K H js vs) (S : Same H H') : Ps K H' js vs := Dgs.mono (fun _ _ h => h) (fun _ _ h => same_tseq S h) D
theorem Ps.updt {K : PySem.W.Frag} {H : Hp} {js : List (Int × Int)} {vs us : List V} {t : Addr} {o : HO} (D : Ps K H js vs) (ht : H t = some (.lst us)) : Ps K (upd H t o) js vs := Dgs.mono (fun _ _ h => h) (fun _ _ h => sqt_upd ht h) D
theorem Ps.das {K : PySem.W.Frag} {H : Hp} {js : List (Int × Int)} {vs : List V} (D : Ps K H js vs) : Das K H (js.map dP) vs := Dgs.mono (fun _ _ h => h.elim) (fun _ _ h => h) D
theorem Ps.da {K : PySem.W.Frag} {H : Hp} {js : List (Int × Int)} {vs : List V} {t : Addr} (D : Ps K H js vs) (ht : H t = some (.lst vs)) : Da K H (dJ js) (.ref t) := dg_list.mpr ⟨t, vs, rfl, SqL.of ht, D.das⟩
theorem Ps.len {K : PySem.W.Frag} {H : Hp} {js : List (Int × Int)} {vs : List V} (D : Ps K H js vs) : vs.length = js.length := by rw [D.length, List.length_map]
theorem pair_dg {K : PySem.W.Frag} {H : Hp} {p : Addr} {x : Int × Int} (h : H p = some (.tup [.int x.1, .int x.2])) : Dg NoL (SqT K H) (dP x) (.ref p) := dg_tuple.mpr ⟨p, _, rfl, SqT.of h, Dgs.two (dg_int.mpr rfl) (dg_int.mpr rfl)⟩
theorem Ps.push {K : PySem.W.Frag} {H : Hp} {js : List (Int × Int)} {vs : List V} {t p : Addr} {x : Int × Int} {o : HO} (D : Ps K H js vs) (ht : H t = some (.lst vs)) (hp : H p = some (.tup [.int x.1, .int x.2])) : Ps K (upd H t o) (js ++ [x]) (vs ++ [.ref p]) := by
  show Dgs _ _ ((js ++ [x]).map dP) _
  rw [List.map_append]
  exact (D.updt ht).append (.one (Dg.mono (fun _ _ h => h) (fun _ _ h => sqt_upd ht h) (pair_dg hp)))
theorem Ps.ins {K : PySem.W.Frag} {H : Hp} {js : List (Int × Int)} {vs : List V} {t p : Addr} {x : Int × Int} {o : HO} (i : Nat) (D : Ps K H js vs) (ht : H t = some (.lst vs)) (hp : H p = some (.tup [.int x.1, .int x.2])) : Ps K (upd H t o) (js.take i ++ x :: js.drop i) (vs.take i ++ .ref p :: vs.drop i) := by
  show Dgs _ _ ((js.take i ++ x :: js.drop i).map dP) _
  rw [List.map_append, List.map_cons, List.map_take, List.map_drop]
  exact Dgs.insert i (D.updt ht) (Dg.mono (fun _ _ h => h) (fun _ _ h => sqt_upd ht h) (pair_dg hp))
theorem da_mkline {K : PySem.W.Frag} {H : Hp} {l : Int × List (Int × Int)} {p t : Addr} (h : H p = some (.tup [.int l.1, .ref t])) (hd : Da K H (dJ l.2) (.ref t)) : Da K H (dL l) (.ref p) := dg_tuple.mpr ⟨p, _, rfl, SqT.of h, Dgs.two (dg_int.mpr rfl) hd⟩
theorem perm_ins {α : Type} (l : List α) (i : Nat) (x : α) : (l.take i ++ x :: l.drop i).Perm (x :: l) := by
  have h := List.perm_middle (a := x) (l₁ := l.take i) (l₂ := l.drop i)
  rw [List.take_append_drop] at h
  exact h
theorem min_if (i j : Int) : (if j < i then j else i) = min i j := by omega
theorem max_if (i j : Int) : (if j > i then j else i) = max i j := by omega
theorem at_int {ns : List Int} {i : Int} (h0 : 0 ≤ i) (h1 : i < ns.length) : ∃ x, ns[i.toNat]? = some x ∧ x ∈ ns ∧ atI (ns.map V.int) i = some (V.int x) := by
  have hlt : i.toNat < ns.length := by omega
  refine ⟨ns[i.toNat], by simp, List.getElem_mem _, ?_⟩
  have h := atI_nat (xs := ns.map V.int) (j := i.toNat) (v := V.int ns[i.toNat]) (by rw [List.getElem?_map]; simp)
  have e1 : ((i.toNat : Nat) : Int) = i := by omega
  rw [e1] at h
  exact h
end TL
set_option maxRecDepth 100000
namespace L2
open PySem PySem.Spec PySem.Calls PyProof.Rows PySem.W

section
variable {prog : Program} {w : World} {A : Around} {E : Value → Shared → Prop} {s : Shared} {K : Frag} {a C : Addr} {o : Obj}

/-- the facts of an own exception's class -/
structure ExC (K : Frag) (C : Addr) : Prop where
  obj : mroIn K C (.type "object") = some true
  bex : mroIn K C (.type "BaseException") = some true
  cls : findIn K (.ref C) "__class__" = some (some (.builtin "object.__class__"))
  ga : findIn K (.ref C) "__getattribute__" = some (some (.builtin "BaseException.__getattribute__"))
  gn : findIn K (.ref C) "__getattr__" = some none
  isc : (clsIn K C).isSome = true

end
end L2
set_option maxRecDepth 100000
set_option linter.all false
namespace L2
open PySem PySem.Spec PySem.Calls PyProof.Rows PySem.W

/-! ### exceptions: how one lies behind a call -/
section
variable {P : Program} {w : World} {H H1 : Hp} {h : Heap} {a : Addr} {o : HO}
theorem ObjOk.some (x : ObjOk P w H h a o) : ∃ u, h.get? a = Option.some u := by
  cases o with
  | lst xs => obtain ⟨_, _, _, _, e⟩ := x; exact ⟨_, e⟩
  | tup xs => obtain ⟨_, _, _, p⟩ := x; obtain ⟨u, e, _⟩ := p; exact ⟨u, e⟩
  | dK kvs => obtain ⟨_, _, _, _, o, _, _, e, _⟩ := x; exact ⟨_, e⟩
  | dT kvs => obtain ⟨_, _, _, _, o, _, _, e, _⟩ := x; exact ⟨_, e⟩
  | set S n => obtain ⟨o, _, _, _, e, _⟩ := x; exact ⟨_, e⟩
  | ins C dx fs => obtain ⟨_, _, _, e, _⟩ := x; exact ⟨_, e⟩
  | own y => obtain ⟨_, e⟩ := x; exact ⟨_, e⟩
  | xd fs => obtain ⟨_, ⟨_, _, _, e, _⟩, _⟩ := x; exact ⟨_, e⟩
  | rng lo hi => obtain ⟨_, _, _, e⟩ := x; exact ⟨_, e⟩
  | frz ob u => obtain ⟨e, _⟩ := x; exact ⟨_, e⟩
  | tbl ps => exact ⟨_, (show h.get? a = Option.some _ from x)⟩
  | met f y => exact ⟨_, (show h.get? a = Option.some _ from x)⟩
  | ext φ => obtain ⟨_, ⟨_, e⟩, _⟩ := x; exact ⟨_, e⟩
theorem HOk.none_of (x : HOk P w H h) (e : h.get? a = Option.none) : H a = Option.none := by
  cases q : H a with
  | none => rfl
  | some u => obtain ⟨v, z⟩ := (x a u q).some; rw [e] at z; cases z
end

/-- what is kept by an exception that flies: B holds all but the frames and what is made for the exception -/
structure Fl0 (P : Program) (w : World) (base : Heap) (l : List Env) (H H1 : Hp) (h0 B h : Heap) : Prop where
  bas : base.StaysIn B
  hok : HOk P w H1 B
  kp : ∀ b o, h0.get? b = some o → H b = none → b ∉ frs l → B.get? b = some o
  thr : ∀ b o, h0.get? b = some o → b ∉ frs l → ∃ o', B.get? b = some o'
  un : Un (frs l) [] H H1 h0 h
theorem Fl0.step {P : Program} {w : World} {base : Heap} {l : List Env} {H H1 : Hp} {h0 B h h' : Heap} (x : Fl0 P w base l H H1 h0 B h) (st : B.StaysIn h') (ff : h.FunFrames B l) (ff' : h'.FunFrames B l) (sm : h.UpToSlots h') :
    Fl0 P w base l H H1 h0 B h' := by
  refine ⟨x.bas, x.hok, x.kp, x.thr, ⟨fun b o q n hb _ => st b o (x.kp b o q n hb), fun b o q n hb _ => ?_, x.un.free, fun b o q _ => ?_, x.un.tups, x.un.frzs, x.un.tbls⟩⟩
  · obtain ⟨sl, e⟩ := x.un.slot b o q n hb (by simp)
    obtain ⟨_, o2, e2, nf⟩ := ff.mem hb
    rw [e] at e2; cases e2
    obtain ⟨sl', e'⟩ := sm b _ e nf
    exact ⟨sl', e'⟩
  · by_cases hb : b ∈ frs l
    · obtain ⟨_, o2, e2, _⟩ := ff'.mem hb
      exact ⟨o2, e2⟩
    · obtain ⟨o', e⟩ := x.thr b o q hb
      exact ⟨o', st b o' e⟩

structure Fl (P : Program) (w : World) (base : Heap) (l : List Env) (H H1 : Hp) (h0 : Heap) (e C : Addr) (B h : Heap) : Prop extends Fl0 P w base l H H1 h0 B h where
  fly : ∃ a0, Heap.FlyingW B l e (.ref C) a0 h

def CXr (P : Program) (w : World) (base : Heap) : CXT := fun l H s E ev s' =>
  ∃ e C H1 B, ev = .ref e ∧ s'.os = s.os ∧ AllBare s'.gens ∧ Fl P w base l H H1 s.heap e C B s'.heap ∧ E (.ref C) (some e) H1

section
variable {X : Cx} {pins : List (Addr × Obj)} {σ : St} {H H1 : Hp} {s s' : Shared} {e C : Addr} {B : Heap}

theorem Fl.inv (x : Fl X.prog X.w X.base X.stack H H1 s.heap e C B s'.heap) (I : Inv X pins σ H s) (ho : s'.os = s.os) (hg : AllBare s'.gens) : Inv X pins σ H1 s' := by
  obtain ⟨a0, f⟩ := x.fly
  exact I.call' (ch := []) ho x.un (x.hok.kept f.1) hg (fun b z => absurd z (by simp))

/-- a def's own exception -/
theorem raise_fl {M : Model} {E : Value → Shared → Prop} {Q : Unit → Shared → Prop} {h' : Heap} {vs : List Value} (I : Inv X pins σ H s) (hst : X.stack = X.env :: X.outer) (hf : X.env.frame = some X.env.locals) (hex : X.ex = [])
    (hx : Heap.MadeExcOf s.heap h' e (.ref C) vs) (hQ : ∀ B h'', Fl X.prog X.w X.base X.outer X.H₀ H X.s₀.heap e C B h'' → Q () { s with heap := h'' }) :
    wpAny M X.A (leaving X.env (.ref e)) Q E { s with heap := h' } := by
  have hfr := I.ok.frames
  rw [hst] at hfr
  have hstk := I.stack
  rw [hst] at hstk
  have hin : ∀ env ∈ (X.env :: X.outer), ∀ b, env.frame = some b → b ∈ frs (X.env :: X.outer) := fun env he b hb => List.mem_filterMap.mpr ⟨env, he, hb⟩
  have nb : ∀ b, b ≠ X.env.locals → b ∉ X.fs → b ∉ frs (X.env :: X.outer) := fun b h1 h2 hb => by
    unfold frs at hb
    rw [List.filterMap_cons, hf] at hb
    rcases List.mem_cons.mp hb with z | z
    · exact h1 z
    · exact h2 z
  have neL : ∀ b o, X.s₀.heap.get? b = some o → b ≠ X.env.locals := fun b o e => Nat.ne_of_lt (Nat.lt_of_lt_of_le (Heap.lt_size e) I.ok.above)
  refine wpAny_leaves_madeW (base := hideAll s.heap (frs (X.env :: X.outer))) hfr hf (fun b o q => of_hideAll _ q) (funFrames_hide hstk hin) hx fun h'' t x1 x2 x3 x4 => ?_
  have hok : HOk X.prog X.w H (hideAll s.heap (frs (X.env :: X.outer))) := fun b u q => by
    refine (I.hok b u q).stay (fun c v hc z => hideAll_get _ z fun hm => ?_) (fun _ z => z) fun _ _ z => z
    have hn : H c = none := I.stkFree c (by rw [hst]; exact hm)
    rcases hc with rfl | hc
    · rw [hn] at q; cases q
    · rw [hn] at hc; cases hc
  have z0 : Fl0 X.prog X.w X.base X.outer X.H₀ H X.s₀.heap (hideAll s.heap (frs (X.env :: X.outer))) h' := by
    have ub : Un X.fs [] X.H₀ H X.s₀.heap s.heap := by have := I.base; rw [hex] at this; exact this
    refine ⟨fun b o q => hideAll_get _ (I.bk b o q) fun hm => ?_, hok, fun b o q n hb => hideAll_get _ (ub.keep b o q n hb (by simp)) (nb b (neL b o q) hb), fun b o q hb => ?_, ub.trans (Un.kept hx.keeps)⟩
    · have := (hstk.mem hm).1
      rw [q] at this; cases this
    · obtain ⟨o', e1⟩ := ub.there b o q (by simp)
      exact ⟨o', hideAll_get _ e1 (nb b (neL b o q) hb)⟩
  have ff : h'.FunFrames (hideAll s.heap (frs (X.env :: X.outer))) X.outer := by
    obtain ⟨_, _, z⟩ := (funFrames_hide hstk hin).of_keeps fun b o hb _ => ⟨o, hx.keeps b o hb, rfl⟩
    exact z
  exact hQ _ h'' ⟨z0.step x1.1 ff x1.2.2.1 x4, _, x1⟩

/-- a callee's exception leaves this def -/
theorem pass_fl {M : Model} {E : Value → Shared → Prop} {Q : Unit → Shared → Prop} (I : Inv X pins σ H s) (hst : X.stack = X.env :: X.outer) (hf : X.env.frame = some X.env.locals) (hex : X.ex = [])
    (ho : s'.os = s.os) (hg : AllBare s'.gens) (x : Fl X.prog X.w X.base X.stack H H1 s.heap e C B s'.heap) (hQ : ∀ B h'', Fl X.prog X.w X.base X.outer X.H₀ H1 X.s₀.heap e C B h'' → Q () { s' with heap := h'' }) :
    wpAny M X.A (leaving X.env (.ref e)) Q E s' := by
  have J := x.inv I ho hg
  have hfr := I.ok.frames
  obtain ⟨a0, f⟩ := x.fly
  have nb : ∀ b, b ≠ X.env.locals → b ∉ X.fs → b ∉ frs X.stack := fun b h1 h2 hb => (List.mem_cons.mp (I.stkSub b hb)).elim h1 h2
  have neL : ∀ b o, X.s₀.heap.get? b = some o → b ≠ X.env.locals := fun b o e => Nat.ne_of_lt (Nat.lt_of_lt_of_le (Heap.lt_size e) I.ok.above)
  rw [hst] at hfr f
  have ub : Un X.fs [] X.H₀ H X.s₀.heap s.heap := by have := I.base; rw [hex] at this; exact this
  have uj : Un X.fs [] X.H₀ H1 X.s₀.heap s'.heap := by have := J.base; rw [hex] at this; exact this
  have z0 : Fl0 X.prog X.w X.base X.outer X.H₀ H1 X.s₀.heap B s'.heap := by
    refine ⟨x.bas, x.hok, fun b o q n hb => x.kp b o (ub.keep b o q n hb (by simp)) (ub.free b o q n (by simp)) (nb b (neL b o q) hb), fun b o q hb => ?_, uj⟩
    obtain ⟨o', e1⟩ := ub.there b o q (by simp)
    exact x.thr b o' e1 (nb b (neL b o q) hb)
  have ff : s'.heap.FunFrames B X.outer := f.2.2.1.2.2
  exact wpAny_leaves_onW hfr hf f fun h'' x1 x2 => hQ B h'' ⟨z0.step x1.1 ff x1.2.2.1 x2, a0, x1⟩
end

section
variable {P : Program} {w : World} {K : PySem.W.Frag} {mg : Str → Option Value} {base : Heap} {N : List Str} {qual : Str} {scope : Scope} {f : Addr} {cd : Value} {A : Around} {outer : List Env} {s₀ : Shared} {H₀ : Hp} {E : XK}

/-- what a def wants of a raise -/
def Raises (X : Cx) (E : XK) : Prop := ∀ (pins : List (Addr × Obj)) (σ : St) (H : Hp) (s : Shared) (h' : Heap) (e C : Addr) (vs : List Value), Inv X pins σ H s → Heap.MadeExcOf s.heap h' e (.ref C) vs → E (.ref C) (some e) H → X.xe (.ref e) { s with heap := h' }

theorem raises_cx : Raises (cxOf (CXr P w base) P w K mg base N qual scope f cd A outer s₀ H₀ E) E := fun pins σ H s h' e C vs I hx q =>
  raise_fl I rfl rfl rfl hx fun B h'' z => ⟨e, C, H, B, rfl, I.os, I.bare, z, q⟩
theorem passes_cx : Passes (CXr P w base) (cxOf (CXr P w base) P w K mg base N qual scope f cd A outer s₀ H₀ E) E := fun pins σ H s e s' I hx => by
  obtain ⟨a, C, H1, B, rfl, ho, hg, z, q⟩ := hx
  exact pass_fl I rfl rfl rfl ho hg z fun B' h'' z' => ⟨a, C, H1, B', rfl, ho.trans I.os, hg, z', q⟩
end
end L2
set_option maxRecDepth 100000
set_option linter.all false
namespace L2
open PySem PySem.Spec PySem.Calls PyProof.Rows PySem.W

/-- an own exception's class, by the fragment -/
theorem exc_obj {K : Frag} {h : Heap} {C : Addr} {bmB : List Value} {newId : String} (X : K.In h) (q : excIn K C bmB newId = true) :
    ∃ bm N nm qn bs hdct sn sub ab col dd k0 k1 k2 k3 k5 mN, h.get? C = some (excClassObj nm qn C N bs bm hdct sn sub ab col dd k0 k1 k2 k3 k5 newId) ∧ h.Ns N mN ∧ mN "__init__" = none ∧ OwnTail h bmB bm := by
  unfold excIn at q
  split at q
  · rename_i d1 c1 l1 lk
    split at q
    · rename_i D1 tl j0 j1 j2 j3 nn j5 e1 e2
      simp only [Bool.and_eq_true, beq_iff_eq, Bool.not_eq_true'] at q
      obtain ⟨⟨⟨⟨⟨q1, q2⟩, q3⟩, q4⟩, q5⟩, q6⟩ := q
      subst q1 q2
      cases c1
      dsimp only at e1 q3 q5 q6
      subst e1 q3
      cases l1
      dsimp only at e2
      subst e2
      exact ⟨tl, _, _, _, _, _, _, _, _, _, d1, j0, j1, j2, j3, j5, _, X _ _ lk, .of_isNs (isNs_of_in X q5), nsMap_none_of_in X q5 q6, tail_of_in X q4⟩
    · cases q
  · cases q

section
variable {X : Cx} {E : XK} {x : Str} {np cpos pos : Pos} {C : Addr} {bmB : List Value} {Bn newId initId : String} {e₀ : Expr} {rest : List Expr} {ta : TA}
/-- raise C(..) -/
def tRaise (C : Addr) (E : XK) (ta : TA) : TS := fun _ σ H => ta σ H fun vs H1 => vs.length ≤ sizeLine ∧ ∀ e, H1 e = none → E (.ref C) (some e) H1
theorem ps_raise (hR : Raises X E) (hc : X.calm = true) (hg : Gl X x) (hm : X.mg x = some (.ref C)) (q : excIn X.K C bmB newId = true) (FB : ExcBaseFacts Bn newId initId bmB) (ha : PA X (e₀ :: rest) ta)
    (he : starEach (e₀ :: rest) X.env = (false, eval e₀ X.env) :: starEach rest X.env := by rfl) (hpl : (backTo cpos (starEach rest X.env)).any (·.1) = false := by rfl) (hd : (x == ("__debug__" : Str)) = false := by decide) :
    PS X (.Raise (some (.Call (.Name x np) (e₀ :: rest) [] cpos)) none pos) (tRaise C E ta) := by
  intro pins s σ H D I h
  obtain ⟨tl, N, nm, qn, bs, hdct, sn, sub, ab, col, dd, k0, k1, k2, k3, k5, mN, hC, hN, hni, T⟩ := exc_obj I.mod.kin q
  refine wpAny_Raise_call_subT (C := C) (nm := nm) (q := qn) (N := N) (bs := bs) (bm := tl) (hdct := hdct) (sn := sn) (sub := sub) (ab := ab) (col := col) (dd := dd) (k0 := k0) (k1 := k1) (k2 := k2) (k3 := k3) (k5 := k5)
    FB (mN := mN) (T.hasType FB.hasBase) (I.ok.hd hc) (by rw [he]; show (false || (backTo cpos (starEach rest X.env)).any (·.1)) = false; rw [hpl]; rfl) hni (ld_glob I hg hm ⟨rfl, ?_⟩ hd)
  have h2 := ha cpos pins s σ H _ I h
  rw [he] at h2 ⊢
  exact Calls.evalArgs_plain (wpAny_mono h2 (fun us s1 ⟨vs, H1, I1, r, z1, z2⟩ => ⟨rfl, r.length ▸ z1, I1.bk _ _ hC, hN.keeps I1.bk, T.keeps I1.bk, fun h' e hx => hR pins σ H1 s1 h' e C us I1 hx (z2 e (I1.hok.none_of hx.new))⟩) fun _ _ y => y)
end

/-! ### an exception that is kept -/
section
variable {X : Cx} {pins : List (Addr × Obj)} {σ : St} {H H1 : Hp} {s s' : Shared} {e C : Addr} {B : Heap}
/-- within an except suite -/
abbrev Cx.caught (X : Cx) (e : Addr) : Cx := { X with A := X.A.mark (some (.ref e)), calm := false, xe := fun _ _ => False }
end

end L2
set_option maxRecDepth 100000
set_option linter.all false
namespace L2
open PySem PySem.Spec PySem.Calls PyProof.Rows PySem.W

/-! ### calls within try: the wish about exceptions may look at the names -/
section
variable {X : Cx} {CX : CXT} {k : Nat} {f : Addr} {fd : FuncData} {ps : List Str} {sp : Sp} {dvs : List V} {ds : List Value} {E : St → XK} {x : Str} {p pos : Pos} {e : Expr} {es : List Expr} {t : TA}
end

/-! ### try: .. except T as n: .. -/
/-- the try's body: pins are borne by the context -/
abbrev Cx.trying (X : Cx) (pn : List (Addr × Obj)) (W : Value → Shared → Prop) : Cx := { X with pn := X.pn ++ pn, xe := W }
section
variable {X : Cx} {pins pn : List (Addr × Obj)} {σ : St} {H : Hp} {s : Shared} {W : Value → Shared → Prop}
end

/-- T catches C -/
structure Catches (K : Frag) (D C : Addr) : Prop where
  ty : typeIn K (.ref D) = some (.type "type")
  isc : (clsIn K D).isSome = true
  bex : mroIn K D (.type "BaseException") = some true
  mro : mroIn K C (.ref D) = some true

/-- the ends of an except suite: the name goes -/
abbrev Ends.gone (D : Ends) (j : Nat) : Ends := { nx := fun σ H => D.nx (σ.set j none) H, rt := D.rt, bk := fun σ H => D.bk (σ.set j none) H, ct := fun σ H => D.ct (σ.set j none) H }
section
variable {X : Cx} {body suite : List Stmt} {b₀ : Stmt} {x n : Str} {np hpos pos : Pos} {D : Addr} {j : Nat} {tb : (St → XK) → TS} {th : TS}
end

/-! ### isinstance of a kept exception -/
end L2
set_option maxRecDepth 100000
set_option linter.all false
namespace L2
open PySem PySem.Spec PySem.Calls PyProof.Rows PySem.W TL

/-! ### a def that may raise -/
section
variable {P : Program} {w : World} {K : PySem.W.Frag} {mg : Str → Option Value} {base : Heap}
theorem Fun.okX {x qual : Str} {st : Stmt} {f : Addr} {fd : FuncData} {N ps : List Str} {k : Nat} {sp : Sp} (F : Fun K x qual st f fd) (S : FnScope N ps (defScope st)) (len : ∀ vs H Q E, sp vs H Q E → vs.length = ps.length)
    (hbody : ∀ (cdv : Value) (A : Around) (outer : List Env) (s : Shared) (H : Hp) (vs : List V) (Q : VK) (E : XK), Room k (A.deeper (envOfC qual (defScope st) s.heap.objs.size f cdv)) → sp vs H Q E →
      ∃ t, PSs (cxOf (CXr P w base) P w K mg base N qual (defScope st) f cdv A outer s H E) (defBody st) t ∧ t { nx := fun _ H' => Q .non H', rt := Q } (start N vs) H) : FnOk P w K mg base (CXr P w base) (k + 1) f fd ps sp := by
  obtain ⟨oc, od, kV, doc, pm, an, cdv, ct, osl, rfl, lk, hcd⟩ := F.ex
  exact fn_of lk hcd S len fun A outer s H vs Q E hr hsp => hbody cdv A outer s H vs Q E hr hsp
end

/-- an own exception's class -/
abbrev bmV : List Value := [.type "ValueError", .type "Exception", .type "BaseException", .type "object"]
structure Xc (K : Frag) (mg : Str → Option Value) (x : Str) (C : Addr) : Prop where
  m : mg x = some (.ref C)
  q : excIn K C bmV "ValueError.__new__" = true
  e : ExC K C
/-- all that a law asks of the refusals -/
structure Xs (K : Frag) (mg : Str → Option Value) (D c1 c2 c3 c4 c5 c6 c7 : Addr) : Prop where
  VE : mg "ValueError" = none
  TurnError : Xc K mg "TurnError" D
  NoLine : Xc K mg "NoLine" c1
  NoTrain : Xc K mg "NoTrain" c2
  NoMove : Xc K mg "NoMove" c3
  NoPiece : Xc K mg "NoPiece" c4
  TooMany : Xc K mg "TooMany" c5
  NoText : Xc K mg "NoText" c6
  NoRow : Xc K mg "NoRow" c7
  cat : ∀ c ∈ [c1, c2, c3, c4, c5, c6, c7], Catches K D c
  val : ∀ c ∈ [c1, c2, c3, c4, c5, c6, c7], kitOne K (.ref c) (.type "ValueError") = some true
  eq : ∀ c ∈ [c1, c2, c3, c4, c5, c6, c7], ∀ d ∈ [c1, c2, c3, c4, c5, c6, c7], kitOne K (.ref c) (.ref d) = some (decide (c = d))
  nd : [c1, c2, c3, c4, c5, c6, c7].Nodup
/-! ### count and index of truths -/
section
variable {X : Cx}
end
end L2
set_option maxRecDepth 100000
set_option linter.all false
namespace L2
open PySem PySem.Spec PySem.Calls PyProof.Rows PySem.W TL

/-- the refusals' classes, by the fragment's deciders -/
structure XcIn (K : Frag) (x : Str) (C : Addr) : Prop where
  b : nsIn K mainGlobals x = some (some (.ref C))
  q : excIn K C bmV "ValueError.__new__" = true
  o : mroIn K C (.type "object") = some true
  p : mroIn K C (.type "BaseException") = some true
  r : findIn K (.ref C) "__class__" = some (some (.builtin "object.__class__"))
  g : findIn K (.ref C) "__getattribute__" = some (some (.builtin "BaseException.__getattribute__"))
  h : findIn K (.ref C) "__getattr__" = some none
  i : isClsIn K C = true
  t : typeIn K (.ref C) = some (.type "type")
structure XdIn (K : Frag) (D C : Addr) : Prop where
  m : mroIn K C (.ref D) = some true
  v : subIn K (.ref C) (.type "ValueError") = some true
structure XeIn (K : Frag) (c d1 d2 d3 d4 d5 d6 : Addr) : Prop where
  e1 : subIn K (.ref c) (.ref d1) = some false
  e2 : subIn K (.ref c) (.ref d2) = some false
  e3 : subIn K (.ref c) (.ref d3) = some false
  e4 : subIn K (.ref c) (.ref d4) = some false
  e5 : subIn K (.ref c) (.ref d5) = some false
  e6 : subIn K (.ref c) (.ref d6) = some false
section
variable {K : Frag} {h : Heap} {mg : Str → Option Value} {x : Str} {C D : Addr}
theorem XcIn.isc (a : XcIn K x C) : (clsIn K C).isSome = true := by
  have := a.i
  unfold isClsIn at this
  exact this
theorem XcIn.ex (a : XcIn K x C) : ExC K C := ⟨a.o, a.p, a.r, a.g, a.h, a.isc⟩
theorem XcIn.xc (a : XcIn K x C) (X : K.In h) (G : h.Ns mainGlobals mg) : Xc K mg x C := ⟨mg_of X G a.b, a.q, a.ex⟩
variable {c1 c2 c3 c4 c5 c6 c7 : Addr}
end
end L2
set_option Elab.async false
set_option linter.all false
set_option maxRecDepth 100000
set_option maxHeartbeats 4000000
namespace TL
open PySem PySem.Spec PyProof.Rows L2

/-- more of the built-in names -/
structure Bm (mg : Str → Option Value) : Prop extends Bl mg where
  zip : mg "zip" = none
  sum : mg "sum" = none
  all : mg "all" = none
  set : mg "set" = none
  tuple : mg "tuple" = none
  abs : mg "abs" = none
  bool : mg "bool" = none
  dict : mg "dict" = none
  str : mg "str" = none

/-! ### an iterator has turned: some of its own objects are changed -/
theorem Inv.turnedN {X : Cx} {pins : List (Addr × Obj)} {σ : St} {H : Hp} {s : Shared} {h' : Heap} {t' : Nat} {ch : List Addr} (I : Inv X pins σ H s) (hf : ∀ b ∈ ch, FpOk X pins H b)
    (keep : ∀ b o, b ∉ ch → s.heap.get? b = some o → h'.get? b = some o) : Inv X pins σ H { s with heap := h', toks := t' } := by
  have nch : ∀ b u, H b = some u → b ∉ ch := fun b u q z => by rw [(hf b z).1] at q; cases q
  refine I.step (g' := s.gens) (d' := s.drawn) (ch := ch) (fun b hb => ?_) (fun b o _ _ hc q _ => keep b o hc q) (fun b o _ _ hc q _ => ⟨o.slots, keep b o hc q⟩) (fun _ _ _ _ n => n)
    (fun b o hc q => ⟨o, keep b o hc q⟩) (fun _ _ e => e) (fun _ _ _ e => e) (fun b ps e => ⟨#[], by rw [e]; simp⟩) (fun m hm => ?_) (fun b u q => ?_) I.bare
  · obtain ⟨f0, f1, f2, f3, f4, f5⟩ := hf b hb
    exact ⟨f3, f1, f4, f5⟩
  · obtain ⟨o, es, ep, ho, r⟩ := hm
    exact ⟨o, es, ep, keep _ o (fun z => (hf _ z).2.1 rfl) ho, r⟩
  · refine (I.hok b u q).stay (fun c v hc q' => keep c v ?_ q') (fun c z => z) fun c ys z => z
    rcases hc with z | z
    · rw [z]; exact nch b u q
    · exact nch c _ z

/-! ### zip(list, list), a tuple as target -/
def Itz (K : PySem.W.Frag) (a b : Addr) : It :=
  ⟨fun i H => ∃ xs ys x y, SqL K H a xs ∧ SqL K H b ys ∧ xs[i]? = some x ∧ ys[i]? = some y,
   fun i H v H' => ∃ p, H p = none ∧ v = .ref p ∧ ∀ xs ys x y, SqL K H a xs → SqL K H b ys → xs[i]? = some x → ys[i]? = some y → H' = upd H p (.tup [x, y]),
   fun i H => ∃ xs ys, SqL K H a xs ∧ SqL K H b ys ∧ (xs.length ≤ i ∨ ys.length ≤ i)⟩
theorem turn_zip {P : Program} {w : World} {K : PySem.W.Frag} {es : List Expr} {x1 : Nat} {pt : Pos} {a b z TI TO i1 i2 : Addr} (D : ZipApart z TI TO i1 i2 a b) :
    Turn P w K (.Tuple es x1 pt) (Itz K a b) [z, TI, TO, i1, i2] z (fun i h => IsZip h z TI TO .none ∧ IsPair h TI (.ref i1) (.ref i2) ∧ (∃ u v, IsPair h TO u v) ∧ h.IsListIter i1 a i ∧ h.IsListIter i2 b i) where
  mem := by simp
  obj := fun i h st c hc => by
    obtain ⟨hz, h1, ⟨u, v, h2⟩, h3, h4⟩ := st
    obtain ⟨o3, q3, _, d3⟩ := h3
    obtain ⟨o4, q4, _, d4⟩ := h4
    simp only [List.mem_cons, List.not_mem_nil, or_false] at hc
    rcases hc with rfl | rfl | rfl | rfl | rfl
    · exact ⟨_, hz, fun v z => by cases z⟩
    · exact ⟨_, h1, fun v z => by cases z⟩
    · exact ⟨_, h2, fun v z => by cases z⟩
    · exact ⟨_, q3, fun v z => by rw [d3] at z; cases z⟩
    · exact ⟨_, q4, fun v z => by rw [d4] at z; cases z⟩
  keep := fun i h h' ⟨hz, h1, ⟨u, v, h2⟩, h3, h4⟩ k => ⟨k z (by simp) _ hz, k TI (by simp) _ h1, ⟨u, v, k TO (by simp) _ h2⟩, h3.at fun o q => k i1 (by simp) o q, h4.at fun o q => k i2 (by simp) o q⟩
  item := by
    intro X hP hw hK hc i pins s σ H E I hf st hg
    subst hP hw hK
    obtain ⟨hz, h1, ⟨u0, v0, h2⟩, h3, h4⟩ := st
    obtain ⟨xs, ys, x, y, hx, hy, ex, ey⟩ := hg
    obtain ⟨its, rv, p, hzx⟩ := I.list hx
    obtain ⟨jts, rw', p', hzy⟩ := I.list hy
    obtain ⟨u, hu, ru⟩ := rv.get ex
    obtain ⟨v, hv, rv'⟩ := rw'.get ey
    refine wpAny_pyNext_zip_item D hz h1 h2 h3 h4 p.isList p'.isList (x := u) (y := v) (by simpa using hu) (by simpa using hv) fun h' a1 a2 a3 a4 a5 a6 hk => ?_
    refine ⟨_, rfl, ?_⟩
    refine wpAny_letOwnedTupleGo_zip (s := { s with heap := h' }) a1 fun h'' m1 m2 => ?_
    have lt : ∀ {c o}, s.heap.get? c = some o → s.heap.objs.size ≠ c := fun e => Nat.ne_of_gt (Heap.lt_size e)
    have keep : ∀ b o, b ∉ [z, TI, TO, i1, i2] → s.heap.get? b = some o → h''.get? b = some o := fun b o hb q => m2.extBut b o (fun z => hb (by simp [z])) (hk b o (fun z => hb (by simp [z])) (fun z => hb (by simp [z])) (fun z => hb (by simp [z])) (fun z => hb (by simp [z])) q)
    have ht : h''.get? s.heap.objs.size = some { cls := .type "tuple", data := .seq [u, v].toArray } := m2.extBut _ _ (lt hz) a5
    have J1 : Inv X pins σ (upd H s.heap.objs.size (.tup [x, y])) { s with heap := h'', toks := s.toks } := Inv.turnedTup I hf keep (.cons ru (.cons rv' .nil)) (by show 2 ≤ sizeLine; decide) ht
    have hn : H s.heap.objs.size = none := I.fresh
    refine ⟨.ref s.heap.objs.size, _, J1, rfl, ⟨_, hn, rfl, fun xs' ys' x' y' q1 q2 q3 q4 => ?_⟩, ⟨m1, ?_, ⟨_, _, m2.extBut _ _ D.TOz a2⟩, a3.extBut m2.extBut D.i1z, a4.extBut m2.extBut D.i2z⟩, fun c hb => ?_⟩
    · have e1 := I.list_inj q1 hx
      have e2 := I.list_inj q2 hy
      subst e1 e2
      rw [ex] at q3
      rw [ey] at q4
      cases q3
      cases q4
      rfl
    · exact m2.extBut _ _ D.TIz (hk _ _ D.TIz D.TITO D.TIi1 D.TIi2 h1)
    · have q : ∃ o, s.heap.get? c = some o := by
        obtain ⟨o3, q3, _, d3⟩ := h3
        obtain ⟨o4, q4, _, d4⟩ := h4
        have hb' := hb
        simp only [List.mem_cons, List.not_mem_nil, or_false] at hb'
        rcases hb' with rfl | rfl | rfl | rfl | rfl
        · exact ⟨_, hz⟩
        · exact ⟨_, h1⟩
        · exact ⟨_, h2⟩
        · exact ⟨_, q3⟩
        · exact ⟨_, q4⟩
      obtain ⟨o, q⟩ := q
      rw [upd_ne (Nat.ne_of_lt (Heap.lt_size q))]
      exact (hf c hb).1
  done := by
    intro X hP hw hK hc i pins s σ H E I hf st hg
    subst hP hw hK
    obtain ⟨hz, h1, ⟨u0, v0, h2⟩, h3, h4⟩ := st
    obtain ⟨xs, ys, hx, hy, e⟩ := hg
    obtain ⟨its, rv, p, hzx⟩ := I.list hx
    obtain ⟨jts, rw', p', hzy⟩ := I.list hy
    have l1 := rv.length
    have l2 := rw'.length
    refine wpAny_pyNext_zip_end (I.ok.hd hc) D hz h1 h2 h3 h4 p.isList p'.isList ?_ fun h' hk => ⟨rfl, Inv.turnedN (t' := s.toks) I hf fun b o hb q => hk b o (fun z => hb (by simp [z])) (fun z => hb (by simp [z])) (fun z => hb (by simp [z])) (fun z => hb (by simp [z])) q⟩
    rcases e with e | e
    · left; simp; omega
    · right; simp; omega
  self := fun _ _ _ _ _ ⟨hz, _⟩ h => wpAny_pyIter_zip hz h
section
variable {X : Cx}
def iZip (K : PySem.W.Frag) (ta : TA) : TI := fun σ H R => ta σ H fun vs H1 => ∃ a b, vs = [.ref a, .ref b] ∧ (∃ xs, SqL K H1 a xs) ∧ (∃ ys, SqL K H1 b ys) ∧ R (Itz K a b) H1
theorem pi_zip {a b : Expr} {ta : TA} {p pos : Pos} {es : List Expr} {x1 : Nat} {pt : Pos} (hg : Gl X "zip") (hm : X.mg "zip" = none) (ha : PA X [a, b] ta) (hs : starEach [a, b] X.env = [(false, eval a X.env), (false, eval b X.env)] := by rfl) (hs2 : starEach [b] X.env = [(false, eval b X.env)] := by rfl) :
    PI X (.Tuple es x1 pt) (.Call (.Name "zip" p) [a, b] [] pos) (iZip X.K ta) := by
  intro pins s σ H R I h
  refine Call_ (ld_blt I hg hm boot_zip (PyProof.Rows.callWith_type1 (thn (ha pos pins s σ H _ I h) fun us s1 ⟨vs, H1, I1, r1, q1⟩ => ?_) (by rw [hs, hs2]) (by rw [hs2]; rfl)))
  obtain ⟨a, b, e, ⟨xs, hx⟩, ⟨ys, hy⟩, q⟩ := q1
  subst e
  obtain ⟨u, v, rfl, ru, rv⟩ := vals2 r1
  cases ru
  cases rv
  obtain ⟨its, rv, p, hzx⟩ := I1.list hx
  obtain ⟨jts, rw', p', hzy⟩ := I1.list hy
  have la : a < s1.heap.objs.size := by obtain ⟨o, n, e, _⟩ := p; exact Heap.lt_size e
  have lb : b < s1.heap.objs.size := by obtain ⟨o, n, e, _⟩ := p'; exact Heap.lt_size e
  refine call_zip_2 p.isList p'.isList fun h' k1 k2 k3 k4 k5 k6 k7 => ?_
  refine wpAny_pyIter_zip (s := { s1 with heap := h' }) k1 ?_
  have D : ZipApart (s1.heap.objs.size + 4) (s1.heap.objs.size + 2) (s1.heap.objs.size + 3) s1.heap.objs.size (s1.heap.objs.size + 1) a b := by
    generalize s1.heap.objs.size = z at la lb
    have la' : @LT.lt Nat _ a z := la
    have lb' : @LT.lt Nat _ b z := lb
    constructor <;> first | exact (show @Ne Nat _ _ by omega)
  refine ⟨s1.heap.objs.size + 4, [s1.heap.objs.size + 4, s1.heap.objs.size + 2, s1.heap.objs.size + 3, s1.heap.objs.size, s1.heap.objs.size + 1], _, _, H1, rfl, I1.kept (t' := s1.toks) k7, turn_zip D, ⟨k1, k2, ⟨_, _, k3⟩, k4, k5⟩, fun c hc => ?_, q⟩
  have hb' : s1.heap.objs.size ≤ c := by
    simp only [List.mem_cons, List.not_mem_nil, or_false] at hc
    rcases hc with rfl | rfl | rfl | rfl | rfl
    · exact Nat.le_add_right _ _
    · exact Nat.le_add_right _ _
    · exact Nat.le_add_right _ _
    · exact Nat.le_refl _
    · exact Nat.le_add_right _ _
  exact I1.fpOk hb' (I1.hok.fresh hb')
theorem for_zip {K : PySem.W.Frag} {a b : Addr} {xs ys : List V} {g : TG} {tb : TS} {D : Ends} {σ : St} {H : Hp} (n : Nat) (hn : n = min xs.length ys.length) (Pv : Nat → St → Hp → Prop) (h0 : Pv 0 σ H) (hl : ∀ i σ H, i ≤ n → Pv i σ H → SqL K H a xs ∧ SqL K H b ys)
    (hs : ∀ i x y σ H p, xs[i]? = some x → ys[i]? = some y → Pv i σ H → H p = none → g (.ref p) σ (upd H p (.tup [x, y])) fun σ2 H2 => tb { D with nx := Pv (i + 1), ct := Pv (i + 1), bk := D.nx } σ2 H2) (hd : ∀ σ H, Pv n σ H → D.nx σ H) :
    ∃ W : Nat → Nat → St → Hp → Prop, (∃ m, W 0 m σ H) ∧ ∀ i m σ H, W i m σ H →
      ((Itz K a b).stop i H ∧ D.nx σ H) ∨ ((Itz K a b).go i H ∧ ∃ N : St → Hp → Prop, (∀ σ' H', N σ' H' → ∃ m', m' < m ∧ W (i + 1) m' σ' H') ∧ ∀ x H', (Itz K a b).yld i H x H' → g x σ H' fun σ2 H2 => tb { D with nx := N, ct := N, bk := D.nx } σ2 H2) := by
  refine ⟨fun i m σ H => m = n - i ∧ i ≤ n ∧ Pv i σ H, ⟨n, by simp, Nat.zero_le _, h0⟩, ?_⟩
  rintro i m σ H ⟨rfl, hi, p⟩
  obtain ⟨q1, q2⟩ := hl i σ H hi p
  by_cases hlt : i < n
  · have h1 : i < xs.length := by omega
    have h2 : i < ys.length := by omega
    refine .inr ⟨⟨xs, ys, xs[i], ys[i], q1, q2, by simp [h1], by simp [h2]⟩, Pv (i + 1), fun σ' H' p' => ⟨n - (i + 1), by omega, rfl, hlt, p'⟩, fun x H' y => ?_⟩
    obtain ⟨pa, hp, e, y⟩ := y
    subst e
    have hx : xs[i]? = some xs[i] := by simp [h1]
    have hy : ys[i]? = some ys[i] := by simp [h2]
    rw [y xs ys _ _ q1 q2 hx hy]
    exact hs i _ _ σ H pa hx hy p hp
  · have e : i = n := by omega
    subst e
    exact .inl ⟨⟨xs, ys, q1, q2, by omega⟩, hd σ H p⟩

/-! ### sum, all of a list -/
end

/-! ### a comprehension by an invariant, any iterator -/
section
variable {K : PySem.W.Frag} {l : Addr} {g : TG} {tt : TT} {te : TE} {cap : List (Option Nat)} {σ : St} {Q : VK} {H1 : Hp} {J : It}
theorem lc_any (n : Nat) (Pv : Nat → List V → Hp → Prop) (h0 : Pv 0 [] (upd H1 l (.lst []))) (go : ∀ i acc H, i < n → Pv i acc H → J.go i H) (st : ∀ acc H, Pv n acc H → J.stop n H)
    (hs : ∀ i x acc H H', i < n → Pv i acc H → J.yld i H x H' → g x (capSt cap σ) H' fun σ2 H2 => tt σ2 H2 fun b H3 =>
        if b = true then te σ2 H3 fun y H4 => H4 l = some (.lst acc) ∧ acc.length < sizeLine ∧ Pv (i + 1) (acc ++ [y]) (upd H4 l (.lst (acc ++ [y])))
        else Pv (i + 1) acc H3) (hd : ∀ acc H, Pv n acc H → Q (.ref l) H) : LcW J g tt te cap σ Q l H1 := by
  refine ⟨fun i m acc H => m = n - i ∧ i ≤ n ∧ Pv i acc H, ⟨n, by simp, Nat.zero_le _, h0⟩, ?_⟩
  rintro i m acc H ⟨rfl, hi, p⟩
  by_cases hlt : i < n
  · exact .inr ⟨go i acc H hlt p, fun acc' H' => Pv (i + 1) acc' H', fun acc' H' p' => ⟨n - (i + 1), by omega, rfl, hlt, p'⟩, fun x H' y => hs i x acc H H' hlt p y⟩
  · have e : i = n := by omega
    subst e
    exact .inl ⟨st acc H p, hd acc H p⟩
end
end TL
set_option Elab.async false
set_option linter.all false
set_option maxRecDepth 100000
set_option maxHeartbeats 4000000
namespace TL
open PySem PySem.Spec PyProof.Rows L2

/-! ### sets of ints -/
def sPut (S : Int → Bool) (k : Int) : Int → Bool := fun k' => S k' || decide (k' = k)
def nPut (S : Int → Bool) (n : Nat) (k : Int) : Nat := if S k = true then n else n + 1
section
variable {X : Cx} {pins : List (Addr × Obj)} {σ : St} {H : Hp} {s : Shared}
theorem Inv.setM {l : Addr} {S : Int → Bool} {n : Nat} (I : Inv X pins σ H s) (h : H l = some (.set S n)) : s.heap.SetOf (intKind X.prog X.w) l S n := I.hok l _ h
theorem isInt_self (k : Int) (t : Tok) : Value.isInt k (.int k t) = true := by simp [Value.isInt]
def rSAdd : V → List V → Hp → VK → Prop := fun x vs H Q => ∃ l S n k, x = .ref l ∧ vs = [.int k] ∧ H l = some (.set S n) ∧ n + 1 < scanBound ∧ Q .non (upd H l (.set (sPut S k) (nPut S n k)))
theorem mt_sadd : MtR X "set.add" rSAdd := by
  intro pins s σ H x vs v us Q I rx rv h
  obtain ⟨l, S, n, k, rfl, rfl, hH, hb, q⟩ := h
  cases rx
  obtain ⟨u, rfl, t, rfl⟩ := rv.one
  have hS := Inv.setM I hH
  refine call_set_add (knd := intKind X.prog X.w) (k := k) (isInt_self k t) rfl hS hb fun h' sb hS' => ?_
  refine ⟨.non, _, I.write (t' := s.toks + 1) (o := .set (sPut S k) (nPut S n k)) (x := l) (e := l) (by rw [hH]; exact trivial) (.inl rfl) (fun b u hb e => sb.extBut b u hb e) ?_ ?_, rfl, q⟩
  · obtain ⟨o, _, _, _, e, _⟩ := hS'; exact ⟨o, e⟩
  · exact hS'
theorem call_lenS : CallR X (.builtin "len") (fun xs H Q => ∃ p S n, xs = [.ref p] ∧ H p = some (.set S n) ∧ Q (.int n) H) := by
  intro pins s σ H xs us Q I r h
  obtain ⟨p, S, n, rfl, hH, q⟩ := h
  obtain ⟨u, rfl, rx⟩ := vals1 r
  cases rx
  obtain ⟨o, es, ep, t, e, hex, hd, hel, hm, hb, hf, hn⟩ := Inv.setM I hH
  refine call_len_set e hex hd hf ?_ ⟨.int n, H, I.tok _, ⟨_, by rw [hn]⟩, q⟩
  have : scanBound = 4096 := rfl
  omega
end

section
variable {X : Cx} {pins : List (Addr × Obj)} {σ : St} {H1 : Hp} {s2 : Shared} {scope : Scope} {N : List Str} {own : Nat} {cap : List (Option Nat)} {cl : List (Str × Addr)} {fp : List Addr}
  {tg iter elt : Expr} {ifs : List Expr} {pos : Pos} {g : TG} {tt : TT} {te : TE} {wi : TI}
/-- a set comprehension of ints -/
def ScW (J : It) (g : TG) (tt : TT) (te : TE) (cap : List (Option Nat)) (σ : St) (Q : VK) (l : Addr) (H1 : Hp) : Prop :=
  ∃ W : Nat → Nat → Hp → Prop, (∃ m, W 0 m (upd H1 l (.set (fun _ => false) 0))) ∧ ∀ i m H, W i m H →
    (J.stop i H ∧ Q (.ref l) H) ∨ (J.go i H ∧ ∃ N : Hp → Prop, (∀ H', N H' → ∃ m', m' < m ∧ W (i + 1) m' H') ∧
      ∀ x H', J.yld i H x H' → g x (capSt cap σ) H' fun σ2 H2 => tt σ2 H2 fun b H3 =>
        if b = true then te σ2 H3 fun y H4 => ∃ S n k, y = .int k ∧ H4 l = some (.set S n) ∧ n + 1 < scanBound ∧ N (upd H4 l (.set (sPut S k) (nPut S n k)))
        else N H3)
def tSC (wi : TI) (cap : List (Option Nat)) (g : TG) (tt : TT) (te : TE) : TE := fun σ H Q => wi σ H fun J H1 => ∀ l, H1 l = none →
  ScW J g tt te cap σ Q l H1
theorem comp_runS {it : Addr} {tn : Nat → Heap → Prop} {J : It} {Q : VK} {RR : Value → Addr → Result → Shared → Prop} {E : Value → Shared → Prop} (I : Inv X pins σ H1 s2) (T : Turn X.prog X.w X.K tg J fp it tn) (t0 : tn 0 s2.heap)
    (f : ∀ b ∈ fp, FpOk X pins H1 b) (hc : X.calm = true) (C : CompOk X.env.scope X.N scope N own cap) (ho : GOwn own g)
    (hcl1 : ∀ x c, cl.lookup x = some c → X.env.cells.lookup x = some c) (hcl2 : ∀ y ∈ scope.names, y.2 = .free → ∃ c, cl.lookup y.1 = some c)
    (hg : ∀ s3 H3, PG (cxComp X scope cl N fp s3 H3) tg g) (ht : ∀ s3 H3, PIfs (cxComp X scope cl N fp s3 H3) ifs tt) (he : ∀ s3 H3, PE (cxComp X scope cl N fp s3 H3) elt te)
    (hw : ∀ l, H1 l = none → ScW J g tt te cap σ Q l H1)
    (fin : ∀ l C s' H' m', Inv X pins σ H' s' → s'.heap.Ns C m' → H' C = none → Apart X pins C → Q (.ref l) H' → RR (.ref l) C (.ok .next) s') :
    wpAny (model X.prog X.w) X.A (newSet (.type "set")) (fun acc s₃ => wpAny (model X.prog X.w) X.A (newFunctionEnv scope X.env.globals cl [] X.env.qual none .none (some X.env)) (fun cenv s₄ =>
      codeAny (model X.prog X.w) X.A (.compStart (.SetComp elt [⟨tg, iter, ifs, 0⟩] scope pos) 0 (.ref it) acc { cenv with scope := relabel scope X.env }) (RR acc cenv.locals) s₄) E s₃) E s2 := by
  refine wpAny_newSet_of (knd := intKind X.prog X.w) fun led hset => ?_
  refine wpAny_newFunctionEnv C.nocell (by intro y hy; simp at hy) (fun h₁ hns₁ hsb₁ => ?_) C.kind
  dsimp only at hns₁ hsb₁ ⊢
  obtain ⟨W, ⟨m0, w0⟩, turn⟩ := hw s2.heap.objs.size I.fresh
  have I3 : Inv X pins σ (upd H1 s2.heap.objs.size (.set (fun _ => false) 0)) { s2 with heap := s2.heap.push { cls := .type "set", dict := none, data := .set #[] 0 (.fresh 0 0 led) } } :=
    I.laid (t' := s2.toks) (fun b u e => Heap.get?_push_of_some _ e) (Nat.le_refl _) hset
  generalize hs3 : ({ s2 with heap := s2.heap.push { cls := .type "set", dict := none, data := .set #[] 0 (.fresh 0 0 led) } } : Shared) = s3 at I3
  have hh3 : s3.heap = s2.heap.push { cls := .type "set", dict := none, data := .set #[] 0 (.fresh 0 0 led) } := by rw [← hs3]
  rw [← hh3] at hns₁ hsb₁ ⊢
  have e4 : ({ s2 with heap := h₁, toks := s2.toks + ([] : List (Str × Value)).length } : Shared) = { s3 with heap := h₁, toks := s2.toks } := by rw [← hs3]; rfl
  rw [e4]
  have k4 : ∀ b u, s3.heap.get? b = some u → h₁.get? b = some u := fun b u e => hsb₁.extBut b u (Nat.ne_of_lt (Heap.lt_size e)) (Heap.get?_push_of_some _ e)
  have k3 : ∀ b u, s2.heap.get? b = some u → s3.heap.get? b = some u := fun b u e => by rw [hh3]; exact Heap.get?_push_of_some _ e
  have hb2 : ∀ b ∈ fp, b < s2.heap.objs.size := fun b hb => by obtain ⟨o, e, _⟩ := T.obj _ _ t0 b hb; exact Heap.lt_size e
  have f3 : ∀ b ∈ fp, FpOk X pins (upd H1 s2.heap.objs.size (.set (fun _ => false) 0)) b := fun b hb => by
    obtain ⟨f0, fr⟩ := f b hb
    exact ⟨by rw [upd_ne (Nat.ne_of_lt (hb2 b hb))]; exact f0, fr⟩
  have hb3 : ∀ b ∈ fp, b < s3.heap.objs.size := fun b hb => by obtain ⟨o, e, _⟩ := T.obj _ _ t0 b hb; exact Heap.lt_size (k3 b o e)
  have I4 := inv_comp (tk := s2.toks) I3 C hcl1 hcl2 (fun b hb => ⟨f3 b hb, hb3 b hb⟩) hns₁ k4
  generalize hH3 : upd H1 s2.heap.objs.size (.set (fun _ => false) 0) = H3 at *
  have st4 : tn 0 h₁ := T.keep _ _ _ t0 fun b hb o e => k4 b o (k3 b o e)
  have fpX : ∀ {H' : Hp}, (∀ b ∈ fp, H' b = none) → ∀ b ∈ fp, FpOk (cxComp X scope cl N fp s3 H3) [] H' b := fun {H'} hn b hb => by
    obtain ⟨f0, f1, f2, f3', f4, f5⟩ := f3 b hb
    refine ⟨hn b hb, Nat.ne_of_lt (hb3 b hb), fun hz => ?_, .inl hb, fun x c e => f4 x c (hcl1 x c e), fun p hp => absurd (show p ∈ ([] : List (Addr × Obj)) from hp) (by simp)⟩
    rcases List.mem_cons.mp (I3.stkSub b hz) with z | z
    · exact f1 z
    · exact f2 z
  have loop : codeAny (model X.prog X.w) X.A (.compLoop (.SetComp elt [⟨tg, iter, ifs, 0⟩] scope pos) 0 (.ref it) (.ref s2.heap.objs.size) (compEnvC scope cl s3.heap.objs.size X.env)) (RR (.ref s2.heap.objs.size) s3.heap.objs.size) { s3 with heap := h₁, toks := s2.toks } := by
    refine compLoop_goS (fun n s' => ∃ i H', Inv (cxComp X scope cl N fp s3 H3) [] (capSt cap σ) H' s' ∧ tn i s'.heap ∧ (∀ b ∈ fp, H' b = none) ∧ W i n H') ?_ m0 ⟨0, H3, I4, st4, fun b hb => (f3 b hb).1, w0⟩
    rintro n s' ⟨i, H', I', st, fr, w⟩
    rcases turn i n H' w with ⟨stop, q⟩ | ⟨go, NN, hNN, step⟩
    · refine thn (T.done (cxComp X scope cl N fp s3 H3) rfl rfl rfl hc i [] s' _ H' (fun _ _ => False) I' (fpX fr) st stop) fun r s5 ⟨hr, I5⟩ => ?_
      subst hr
      obtain ⟨m5, hn5, _⟩ := id I5.loc
      exact fin _ _ s5 H' m5 (comp_back I3 f3 I5) hn5 I5.free (TL.Inv.apart I3) q
    · refine thn (T.item (cxComp X scope cl N fp s3 H3) rfl rfl rfl hc i [] s' _ H' (fun _ _ => False) I' (fpX fr) st go) fun r s5 ⟨u, hr, h5⟩ => ?_
      subst hr
      refine thn h5 fun _ s6 ⟨x, H6, I6, r6, y6, st6, fr6⟩ => ?_
      have I6' := I6.pinned (fpX fr6) (T.obj _ _ st6)
      refine thn (hg s3 H3 _ s6 _ H6 x u _ I6' r6 (ho.own _ _ _ _ (step x H6 y6))) fun _ s7 ⟨σ7, H7, I7, q7, l7, o7⟩ => ?_
      have cov : ∀ (i : Nat) v, (capSt cap σ)[i]? = some (some v) → σ7[i]? = some (some v) := fun i v e => by
        obtain ⟨j, c1, c2⟩ := capSt_get e
        by_cases hi : i < own
        · exact (C.own_none hi c1).elim
        · rw [o7 i (by omega)]; exact e
      have back : ∀ {H8 : Hp} {s8 : Shared}, Inv (cxComp X scope cl N fp s3 H3) ([] ++ pinsAt fp s6.heap) σ7 H8 s8 → Inv (cxComp X scope cl N fp s3 H3) [] (capSt cap σ) H8 s8 ∧ tn (i + 1) s8.heap ∧ ∀ b ∈ fp, H8 b = none := fun {H8 s8} I8 => by
        refine ⟨(Inv.unpinned (pins := []) I8).weak l7.symm cov, T.keep _ _ _ st6 fun b hb o e => (I8.pin (b, o) (List.mem_append_right _ (List.mem_append_right _ (mem_pinsAt hb e)))).1, fun b hb => ?_⟩
        obtain ⟨o, e, d⟩ := T.obj _ _ st6 b hb
        exact (I8.pin (b, o) (List.mem_append_right _ (List.mem_append_right _ (mem_pinsAt hb e)))).2.1
      refine thn (ht s3 H3 _ s7 σ7 H7 _ I7 q7) fun b s8 ⟨H8, I8, q8⟩ => ?_
      cases b with
      | false =>
        rw [if_neg Bool.false_ne_true] at q8 ⊢
        obtain ⟨m', hm, w8⟩ := hNN _ q8
        obtain ⟨J1, J2, J3⟩ := back I8
        exact ⟨m', hm, i + 1, H8, J1, J2, J3, w8⟩
      | true =>
        rw [if_pos rfl] at q8 ⊢
        refine thn (he s3 H3 _ s8 σ7 H8 _ I8 q8) fun v s9 ⟨y, H9, I9, r9, S, nn, k, ey, ha, hz, n9⟩ => ?_
        obtain ⟨m', hm, w9⟩ := hNN _ n9
        subst ey
        refine thn (mt_sadd _ s9 σ7 H9 (.ref s2.heap.objs.size) [.int k] (.ref s2.heap.objs.size) [v] (fun _ H10 => W (i + 1) m' H10) I9 rfl (.cons r9 .nil) ⟨_, S, nn, k, rfl, rfl, ha, hz, w9⟩) fun _ s10 ⟨_, H10, I10, _, w10⟩ => ?_
        obtain ⟨J1, J2, J3⟩ := back I10
        exact ⟨m', hm, i + 1, H10, J1, J2, J3, w10⟩
  exact compStart_set loop (T.self X.A 0 _ _ _ st4 loop)
theorem pe_sc (hi : PI X tg iter wi) (hc : X.calm = true) (C : CompOk X.env.scope X.N scope N own cap) (ho : GOwn own g)
    (hg : ∀ cl fp s3 H3, PG (cxComp X scope cl N fp s3 H3) tg g) (ht : ∀ cl fp s3 H3, PIfs (cxComp X scope cl N fp s3 H3) ifs tt) (he : ∀ cl fp s3 H3, PE (cxComp X scope cl N fp s3 H3) elt te)
    (hs : ∀ x, foldedSetIterable iter X.env x = pure x := by intro _; rfl) : PE X (.SetComp elt [⟨tg, iter, ifs, 0⟩] scope pos) (tSC wi cap g tt te) := by
  intro pins s σ H Q I h
  obtain ⟨cl, ecl, hcl1, hcl2⟩ := closure_ok (scope := scope) (env := X.env) fun y hy hf => I.ok.has y.1 (C.fre y hy hf)
  rw [arm_eval_SetComp]
  refine wpAny_comprehension_free (use := none) rfl hs ecl C.kind C.loc (thn (hi pins s σ H _ I h) fun xv s1 h1 => thn h1 fun itv s2 h2 => ?_)
  obtain ⟨it, fp, tn, J, H2, e, I2, T, st2, f2, hw⟩ := h2
  subst e
  refine comp_runS (RR := fun acc C => compPost (model X.prog X.w) X.A X.xe none (EP X pins σ Q) acc C) I2 T st2 f2 hc C ho hcl1 hcl2 (hg cl fp) (ht cl fp) (he cl fp) hw fun l Ca s' H' m' I' hn hfree hP q => ?_
  exact ⟨m', hn, fun h'' hs'' => ⟨.ref l, H', comp_gone I' hP hfree hs'', rfl, q⟩⟩
end

/-! ### how many unlike ones -/
def dn (ks : List Int) : Nat → Nat
  | 0 => 0
  | i + 1 => if ks.getD i 0 ∈ ks.take i then dn ks i else dn ks i + 1
theorem dn_le (ks : List Int) : ∀ i, dn ks i ≤ i
  | 0 => Nat.le_refl _
  | i + 1 => by
    have := dn_le ks i
    unfold dn
    split <;> omega
theorem dn_eq {ks : List Int} : ∀ {i}, dn ks i = i ↔ ∀ j, j < i → ks.getD j 0 ∉ ks.take j
  | 0 => ⟨fun _ j h => absurd h (Nat.not_lt_zero j), fun _ => rfl⟩
  | i + 1 => by
    have h1 := dn_le ks i
    have h2 := @dn_eq ks i
    unfold dn
    constructor
    · intro h j hj
      split at h
      · omega
      · rcases Nat.lt_succ_iff_lt_or_eq.mp hj with z | z
        · exact h2.mp (by omega) j z
        · subst z; assumption
    · intro h
      rw [if_neg (h i (by omega)), h2.mpr fun j hj => h j (by omega)]
theorem nodup_take (ks : List Int) : ks.Nodup ↔ ∀ j, j < ks.length → ks.getD j 0 ∉ ks.take j := by
  constructor
  · intro h j hj hm
    obtain ⟨i, hi, e⟩ := List.mem_iff_getElem.mp hm
    rw [List.length_take] at hi
    rw [List.getElem_take] at e
    have e2 : ks.getD j 0 = ks[j] := by rw [List.getD_eq_getElem?_getD, List.getElem?_eq_getElem hj]; rfl
    rw [e2] at e
    have := (List.getElem_inj h).mp e
    omega
  · intro h
    rw [List.Nodup, List.pairwise_iff_getElem]
    intro i j hi hj hij e
    refine h j hj ?_
    have e2 : ks.getD j 0 = ks[j] := by rw [List.getD_eq_getElem?_getD, List.getElem?_eq_getElem hj]; rfl
    rw [e2, ← e]
    exact List.mem_iff_getElem.mpr ⟨i, by rw [List.length_take]; omega, by rw [List.getElem_take]⟩
theorem dn_nodup (ks : List Int) : dn ks ks.length = ks.length ↔ ks.Nodup := dn_eq.trans (nodup_take ks).symm
theorem dn_lt (ks : List Int) : dn ks ks.length < ks.length ↔ ¬ ks.Nodup := by
  rw [← dn_nodup]
  have := dn_le ks ks.length
  omega
theorem take_snoc {ks : List Int} {i : Nat} (hi : i < ks.length) : ks.take (i + 1) = ks.take i ++ [ks.getD i 0] := by
  rw [List.take_add_one, List.getD_eq_getElem?_getD, List.getElem?_eq_getElem hi]; rfl
theorem sPut_take {ks : List Int} {i : Nat} (hi : i < ks.length) : sPut (fun k => decide (k ∈ ks.take i)) (ks.getD i 0) = fun k => decide (k ∈ ks.take (i + 1)) := by
  funext k
  rw [take_snoc hi]
  simp [sPut]
theorem nPut_take (ks : List Int) (i : Nat) : nPut (fun k => decide (k ∈ ks.take i)) (dn ks i) (ks.getD i 0) = dn ks (i + 1) := by
  unfold nPut
  rw [dn]
  by_cases h : ks.getD i 0 ∈ ks.take i
  · rw [if_pos h, if_pos (by simpa using h)]
  · rw [if_neg h, if_neg (by simpa using h)]
section
variable {X : Cx}
end
section
variable {l : Addr} {g : TG} {tt : TT} {te : TE} {cap : List (Option Nat)} {σ : St} {Q : VK} {H1 : Hp} {J : It}
theorem sc_pureJ {α : Type} {n : Nat} {it : Nat → V → Prop} (S : JS J n H1 it) (ds : List α) (f : α → Int) (hn : H1 l = none) (hlen : n = ds.length) (hz : n + 1 < scanBound)
    (hs : ∀ (i : Nat) x d H, it i x → ds[i]? = some d → Same H1 H → ∀ (P1 : VK) (P0 : Hp → Prop), P1 (.int (f d)) H →
      g x (capSt cap σ) H fun σ2 H2 => tt σ2 H2 fun b H3 => if b = true then te σ2 H3 P1 else P0 H3)
    (hq : Q (.ref l) (upd H1 l (.set (fun k => decide (k ∈ ds.map f)) (dn (ds.map f) n)))) : ScW J g tt te cap σ Q l H1 := by
  refine ⟨fun i m H => m = n - i ∧ i ≤ n ∧ H = upd H1 l (.set (fun k => decide (k ∈ (ds.map f).take i)) (dn (ds.map f) i)), ⟨n, by simp, Nat.zero_le _, ?_⟩, ?_⟩
  · congr 2
  rintro i m H ⟨rfl, hi, e2⟩
  have sm : Same H1 H := by rw [e2]; exact same_upd hn
  by_cases hlt : i < n
  · refine .inr ⟨S.go i H sm hlt, fun H' => H' = upd H1 l (.set (fun k => decide (k ∈ (ds.map f).take (i + 1))) (dn (ds.map f) (i + 1))), fun H' p2 => ⟨n - (i + 1), by omega, rfl, hlt, p2⟩, fun x H' y0 => ?_⟩
    obtain ⟨e, y⟩ := S.yld i H x H' sm hlt y0
    clear y0
    subst e
    have hd : ds[i]? = some (ds[i]'(by omega)) := by simp
    generalize ds[i]'(by omega) = d at hd
    refine hs i x d H' y hd sm _ _ ⟨_, _, f d, rfl, by rw [e2]; exact upd_same, ?_, ?_⟩
    · have := dn_le (ds.map f) i
      omega
    · have e3 : (ds.map f).getD i 0 = f d := by rw [List.getD_eq_getElem?_getD, List.getElem?_map, hd]; rfl
      have h1 := sPut_take (ks := ds.map f) (i := i) (by rw [List.length_map]; omega)
      have h2 := nPut_take (ds.map f) i
      rw [e3] at h1 h2
      rw [h1, h2, e2, upd_upd]
  · have e : i = n := by omega
    subst e
    refine .inl ⟨S.stop H sm, ?_⟩
    rw [e2, List.take_of_length_le (by rw [List.length_map]; omega)]
    exact hq
end
end TL
set_option Elab.async false
set_option linter.all false
set_option maxRecDepth 100000
set_option maxHeartbeats 4000000
namespace TL
open PySem PySem.Spec PyProof.Rows L2

/-! ### the heap but for one address -/
def hid (p : Addr) (H : Hp) : Hp := fun b => if b = p then none else H b
theorem hid_same {p : Addr} {H : Hp} : Same (hid p H) H := fun b o h => by
  unfold hid at h
  by_cases e : b = p
  · rw [if_pos e] at h; cases h
  · rw [if_neg e] at h; exact h
theorem hid_ne {p b : Addr} {H : Hp} (h : b ≠ p) : hid p H b = H b := by unfold hid; rw [if_neg h]
theorem hid_self {p : Addr} {H : Hp} : hid p H p = none := by unfold hid; rw [if_pos rfl]
theorem hid_mono {p : Addr} {H H' : Hp} (s : Same H H') : Same (hid p H) (hid p H') := fun b o h => by
  by_cases e : b = p
  · subst e; rw [hid_self] at h; cases h
  · rw [hid_ne e] at h ⊢; exact s _ _ h
theorem hid_upd {p : Addr} {H : Hp} {o : HO} : hid p (upd H p o) = hid p H := by
  funext b
  by_cases e : b = p
  · subst e; rw [hid_self, hid_self]
  · rw [hid_ne e, hid_ne e, upd_ne e]
/-! ### slices by nats -/
section
variable {L T : Addr → List V → Prop}
end
theorem at_nat {xs : List V} {v : V} {i : Int} (h0 : 0 ≤ i) (h : xs[i.toNat]? = some v) : atI xs i = some v := by
  have := atI_nat h
  rw [show ((i.toNat : Nat) : Int) = i by omega] at this
  exact this

/-! ### a comprehension that yields data -/
section
variable {K : PySem.W.Frag} {l : Addr} {g : TG} {tt : TT} {te : TE} {cap : List (Option Nat)} {σ : St} {Q : VK} {H1 : Hp} {J : It}
theorem lc_data {α : Type} (n : Nat) (ds : List α) (d' : α → PyData) (hn : H1 l = none) (hlen : n = ds.length) (hz : n < sizeLine) (go : ∀ i H, Same H1 H → i < n → J.go i H) (st : ∀ H, Same H1 H → J.stop n H)
    (hs : ∀ i x d H H', Same H1 H → (∃ us, H l = some (.lst us)) → J.yld i H x H' → ds[i]? = some d → ∀ (P1 : VK) (P0 : Hp → Prop), (∀ v H2, Same H H2 → Da K (hid l H2) (d' d) v → P1 v H2) →
      g x (capSt cap σ) H' fun σ2 H2 => tt σ2 H2 fun b H3 => if b = true then te σ2 H3 P1 else P0 H3)
    (hq : ∀ vs H', Same H1 H' → H' l = some (.lst vs) → Das K (hid l H') (ds.map d') vs → Q (.ref l) H') : LcW J g tt te cap σ Q l H1 := by
  refine lc_any n (fun i acc H => Das K (hid l H) ((ds.take i).map d') acc ∧ Same H1 H ∧ H l = some (.lst acc)) ⟨dgs_nil.mpr rfl, same_upd hn, upd_same⟩ (fun i acc H hi ⟨_, s, _⟩ => go i H s hi) (fun acc H ⟨_, s, _⟩ => st H s) ?_ ?_
  · rintro i x acc H H' hi ⟨e1, s, hl⟩ y
    have hd : ds[i]? = some (ds[i]'(by omega)) := by simp
    generalize ds[i]'(by omega) = d at hd
    refine hs i x d H H' s ⟨_, hl⟩ y hd _ _ (fun v H2 s2 dv => ?_)
    have la := Dgs.length e1
    rw [List.length_map, List.length_take] at la
    refine ⟨s2 _ _ hl, by omega, ?_, Same.upd (s.trans s2) hn, upd_same⟩
    rw [hid_upd, List.take_add_one, hd, List.map_append]
    exact Dgs.append (Das.same (hid_mono s2) e1) (Dgs.one dv)
  · rintro acc H ⟨e1, s, hl⟩
    rw [List.take_of_length_le (by omega)] at e1
    exact hq acc H s hl e1
end
end TL
set_option Elab.async false
set_option linter.all false
set_option maxRecDepth 100000
set_option maxHeartbeats 4000000
namespace TL
open PySem PySem.Spec PyProof.Rows L2

/-! ### a call that could raise, but doesn't -/
theorem passes_no {P : Program} {w : World} {base : Heap} {X : Cx} : Passes (CXr P w base) X E0 := fun _ _ _ _ _ _ _ hx => by
  obtain ⟨_, _, _, _, _, _, _, _, q⟩ := hx
  exact q.elim

/-! ### a dict is known while it is walked -/
section
variable {X : Cx} {pins : List (Addr × Obj)} {σ : St} {H : Hp} {s : Shared} {a : Addr} {kvs : List (List Key × V)}
end

/-! ### the keys of a dict, whatever they are -/
section
variable {prog : Program} {w : World} {A : Around} {E : Value → Shared → Prop} {s : Shared} {d it : Addr} {o : Obj} {es : Array DictEntry} {ep i : Nat}
end
section
variable {X : Cx}
end
end TL
set_option Elab.async false
set_option linter.all false
set_option maxRecDepth 100000
set_option maxHeartbeats 4000000
namespace TL
open PySem PySem.Spec PyProof.Rows L2
section
variable {X : Cx} {pins : List (Addr × Obj)} {σ : St} {H : Hp} {s : Shared} {a b : Addr} {kvs : List (List Key × V)} {k : List Key} {v : V} {r : Value} {A : Around} {E : Value → Shared → Prop}
/-- f"..{name}..", the name an int of the module -/
theorem pe_fstr3 {x y n : Str} {i : Int} {u : Value} {k1 k2 : Nat} {p1 p2 p3 p4 pos : Pos} (hg : Gl X n) (hm : X.mg n = some u) (r : RelV (.int i) u) (hi : i.natAbs.log2 < 1920) (hz : x.length ≤ 1000 ∧ y.length ≤ 1000 ∧ (Str.ofString (toString i)).length ≤ 1000)
    (hd : (n == ("__debug__" : Str)) = false := by decide) : PE X (.JoinedStr [.Constant (.str x) k1 p1, .FormattedValue (.Name n p2) (-1) none p3, .Constant (.str y) k2 p4] pos) (fun _ H Q => ∀ z, Q (.str z) H) := by
  intro pins s σ H Q I q
  obtain ⟨t, rfl⟩ := r
  have hl : ∀ a b : Str, (a ++ b).length = a.length + b.length := strLen_append
  have he : Str.empty.length = 0 := rfl
  refine wpAny_JoinedStr ?_
  refine PySem.wpAny_Constant_str ⟨x, _, rfl, by rw [hl, he, sizeLine_eq]; omega, ?_⟩
  refine wpAny_FormattedValue_plain (ld_glob (I.tok _) hg hm (wpAny_formatField_int hi ⟨_, _, rfl, by rw [hl, hl, he, sizeLine_eq]; omega, ?_⟩) hd)
  refine PySem.wpAny_Constant_str ⟨y, _, rfl, by rw [hl, hl, hl, he, sizeLine_eq]; omega, ?_⟩
  refine ⟨by rw [hl, hl, hl, he, sizeLine_eq]; omega, ⟨.str _, H, ?_, ⟨_, rfl⟩, q _⟩⟩
  exact I.tok _
end

/-! ### the rules that name K, once more -/
section
variable {X : Cx} {K : PySem.W.Frag}
end
end TL
set_option Elab.async false
set_option linter.all false
set_option maxRecDepth 100000
set_option maxHeartbeats 4000000
namespace TL
open PySem PySem.Spec PyProof.Rows L2
abbrev Ln := Int × List (Int × Int)
/-! ### trains, as lists -/
structure TrOk (l : Ln) (ns : List Int) : Prop where
  ends : ∀ e ∈ ns, 0 ≤ e ∧ e < 2 * l.1
  nd : (ns.map (· / 2)).Nodup
  ch : ∀ (i : Nat) x y, ns[i]? = some x → ns[i + 1]? = some y → y ∈ jn l.2 (oth x)
theorem jn_iff {l : Ln} (ok : LineOk l) {e x : Int} : x ∈ jn l.2 e ↔ (min e x, max e x) ∈ l.2 := by
  unfold jn
  rw [srt_mem, List.mem_append]
  constructor
  · rintro (z | z)
    · obtain ⟨p, hp, rfl⟩ := List.mem_map.mp z
      obtain ⟨h1, h2⟩ := List.mem_filter.mp hp
      have h2 : p.2 = e := by simpa using h2
      have := ok.ends p h1
      have e1 : (min e p.1, max e p.1) = p := Prod.ext (by show min e p.1 = p.1; omega) (by show max e p.1 = p.2; omega)
      rw [e1]; exact h1
    · obtain ⟨p, hp, rfl⟩ := List.mem_map.mp z
      obtain ⟨h1, h2⟩ := List.mem_filter.mp hp
      have h2 : p.1 = e := by simpa using h2
      have := ok.ends p h1
      have e1 : (min e p.2, max e p.2) = p := Prod.ext (by show min e p.2 = p.1; omega) (by show max e p.2 = p.2; omega)
      rw [e1]; exact h1
  · intro h
    by_cases hx : e ≤ x
    · have e1 : (min e x, max e x) = (e, x) := Prod.ext (by show min e x = e; omega) (by show max e x = x; omega)
      rw [e1] at h
      exact .inr (List.mem_map.mpr ⟨(e, x), List.mem_filter.mpr ⟨h, by simp⟩, rfl⟩)
    · have e1 : (min e x, max e x) = (x, e) := Prod.ext (by show min e x = x; omega) (by show max e x = e; omega)
      rw [e1] at h
      exact .inl (List.mem_map.mpr ⟨(x, e), List.mem_filter.mpr ⟨h, by simp⟩, rfl⟩)
/-! ### how many there can be -/
end TL
namespace TL
open PySem PySem.Spec PyProof.Rows L2
/-! ### the standings, in order -/
abbrev Ent := List Int × Option (List Int × (Str × Int))
/-- what each listed one is -/
structure EntOk (l : Ln) (ns : List Int) (es : List Ent) : Prop where
  tr : ∀ e ∈ es, TrOk l e.1 ∧ e.1.length = ns.length ∧ e.1 ≠ []
  nd : (es.map (·.1)).Nodup
  ne : es ≠ []
end TL
set_option Elab.async false
set_option linter.all false
set_option maxRecDepth 100000
set_option maxHeartbeats 4000000
namespace TL
open PySem PySem.Spec PyProof.Rows L2

/-! ### true lines -/
def okJ (m : Int) (p : Int × Int) : Prop := (0 ≤ p.1 ∧ p.1 < 2 * m) ∧ (0 ≤ p.2 ∧ p.2 < 2 * m) ∧ p.1 ≤ p.2 ∧ p.1 / 2 ≠ p.2 / 2
def isLine (l : Ln) : Prop := 1 ≤ l.1 ∧ l.1 ≤ 40 ∧ l.2.length ≤ 80 ∧ (∀ p ∈ l.2, okJ l.1 p) ∧ l.2.Nodup
structure GLine (l : Ln) : Prop where
  one : 1 ≤ l.1
  most : l.1 ≤ 14
  len : l.2.length ≤ 24
  ok : ∀ p ∈ l.2, okJ l.1 p
  nd : l.2.Nodup
theorem GLine.lineOk {l : Ln} (G : GLine l) : LineOk l := by
  have h1 := G.len
  refine ⟨G.one, by have := G.most; omega, by omega, fun e => ?_, fun p hp => ?_⟩
  · have := inc_le l.2 e; omega
  · obtain ⟨a, b, c, _⟩ := G.ok p hp
    exact ⟨a.1, c, b.2⟩
/-! ### pieces renamed and turned about -/
structure Ren (m : Int) (nm es : List Int) : Prop where
  len : (nm.length : Int) = m
  nb : ∀ x ∈ nm, 0 ≤ x ∧ x < m
  nd : nm.Nodup
  elen : es.length = 2 * nm.length
  at_ : ∀ j, j < nm.length → ∃ f : Int, (f = 0 ∨ f = 1) ∧ es[2 * j]? = some (2 * nm.getD j 0 + f) ∧ es[2 * j + 1]? = some (2 * nm.getD j 0 + 1 - f)
def rho (es : List Int) (e : Int) : Int := es.getD e.toNat 0
def rj (es : List Int) (p : Int × Int) : Int × Int := (min (rho es p.1) (rho es p.2), max (rho es p.1) (rho es p.2))
theorem Ren.rho {m : Int} {nm es : List Int} (R : Ren m nm es) {e : Int} (h0 : 0 ≤ e) (h1 : e < 2 * m) :
    ∃ f : Int, (f = 0 ∨ f = 1) ∧ TL.rho es e = 2 * nm.getD (e / 2).toNat 0 + (if e % 2 = 0 then f else 1 - f) ∧
      ∀ e', 0 ≤ e' → e' / 2 = e / 2 → TL.rho es e' = 2 * nm.getD (e / 2).toNat 0 + (if e' % 2 = 0 then f else 1 - f) := by
  have hl := R.len
  obtain ⟨f, hf, e1, e2⟩ := R.at_ (e / 2).toNat (by omega)
  have key : ∀ e', 0 ≤ e' → e' / 2 = e / 2 → TL.rho es e' = 2 * nm.getD (e / 2).toNat 0 + (if e' % 2 = 0 then f else 1 - f) := fun e' h2 h3 => by
    unfold TL.rho
    by_cases c : e' % 2 = 0
    · rw [if_pos c, List.getD_eq_getElem?_getD, show e'.toNat = 2 * (e / 2).toNat by omega, e1]; rfl
    · rw [if_neg c, List.getD_eq_getElem?_getD, show e'.toNat = 2 * (e / 2).toNat + 1 by omega, e2]
      show 2 * nm.getD (e / 2).toNat 0 + 1 - f = _
      omega
  exact ⟨f, hf, key e h0 rfl, key⟩
theorem Ren.piece {m : Int} {nm es : List Int} (R : Ren m nm es) {e : Int} (h0 : 0 ≤ e) (h1 : e < 2 * m) : TL.rho es e / 2 = nm.getD (e / 2).toNat 0 := by
  obtain ⟨f, hf, e1, _⟩ := R.rho h0 h1
  rw [e1]
  split <;> omega
theorem Ren.nm_in {m : Int} {nm es : List Int} (R : Ren m nm es) {p : Int} (h0 : 0 ≤ p) (h1 : p < m) : 0 ≤ nm.getD p.toNat 0 ∧ nm.getD p.toNat 0 < m := by
  have hl := R.len
  have h2 : p.toNat < nm.length := by omega
  have : nm.getD p.toNat 0 = nm[p.toNat] := by rw [List.getD_eq_getElem?_getD, List.getElem?_eq_getElem h2]; rfl
  rw [this]
  exact R.nb _ (List.getElem_mem h2)
theorem Ren.nm_inj {m : Int} {nm es : List Int} (R : Ren m nm es) {p q : Int} (h0 : 0 ≤ p) (h1 : p < m) (g0 : 0 ≤ q) (g1 : q < m) (e : nm.getD p.toNat 0 = nm.getD q.toNat 0) : p = q := by
  have hl := R.len
  have h2 : p.toNat < nm.length := by omega
  have h3 : q.toNat < nm.length := by omega
  have e1 : nm.getD p.toNat 0 = nm[p.toNat] := by rw [List.getD_eq_getElem?_getD, List.getElem?_eq_getElem h2]; rfl
  have e2 : nm.getD q.toNat 0 = nm[q.toNat] := by rw [List.getD_eq_getElem?_getD, List.getElem?_eq_getElem h3]; rfl
  rw [e1, e2] at e
  have := (List.getElem_inj R.nd).mp e
  omega
theorem Ren.rho_in {m : Int} {nm es : List Int} (R : Ren m nm es) {e : Int} (h0 : 0 ≤ e) (h1 : e < 2 * m) : 0 ≤ TL.rho es e ∧ TL.rho es e < 2 * m := by
  obtain ⟨f, hf, e1, _⟩ := R.rho h0 h1
  have := R.nm_in (p := e / 2) (by omega) (by omega)
  rw [e1]
  split <;> omega
theorem Ren.inj {m : Int} {nm es : List Int} (R : Ren m nm es) {e e' : Int} (h0 : 0 ≤ e) (h1 : e < 2 * m) (g0 : 0 ≤ e') (g1 : e' < 2 * m) (h : TL.rho es e = TL.rho es e') : e = e' := by
  have hp : e / 2 = e' / 2 := by
    have a := R.piece h0 h1
    have b := R.piece g0 g1
    rw [h, b] at a
    exact (R.nm_inj (by omega) (by omega) (by omega) (by omega) a).symm
  obtain ⟨f, hf, e1, e2⟩ := R.rho h0 h1
  rw [e1, e2 e' g0 hp.symm] at h
  by_cases c : e % 2 = 0 <;> by_cases d : e' % 2 = 0
  · omega
  · rw [if_pos c, if_neg d] at h; omega
  · rw [if_neg c, if_pos d] at h; omega
  · omega
theorem Ren.okJ {m : Int} {nm es : List Int} (R : Ren m nm es) {p : Int × Int} (h : TL.okJ m p) : TL.okJ m (rj es p) := by
  obtain ⟨⟨a0, a1⟩, ⟨b0, b1⟩, le, ne⟩ := h
  have ha := R.rho_in a0 a1
  have hb := R.rho_in b0 b1
  have pa := R.piece a0 a1
  have pb := R.piece b0 b1
  have hne : TL.rho es p.1 / 2 ≠ TL.rho es p.2 / 2 := fun z => by
    rw [pa, pb] at z
    exact ne (R.nm_inj (by omega) (by omega) (by omega) (by omega) z)
  unfold TL.okJ rj
  dsimp only
  generalize TL.rho es p.1 = x at *
  generalize TL.rho es p.2 = y at *
  refine ⟨by omega, by omega, by omega, fun z => ?_⟩
  by_cases c : x ≤ y
  · rw [Int.min_eq_left c, Int.max_eq_right c] at z; exact hne z
  · rw [Int.min_eq_right (by omega), Int.max_eq_left (by omega)] at z; exact hne z.symm
theorem okJ.lt {m : Int} {p : Int × Int} (h : okJ m p) : p.1 < p.2 := by
  obtain ⟨_, _, le, ne⟩ := h
  by_cases c : p.1 = p.2
  · rw [c] at ne; exact absurd rfl ne
  · omega
theorem Ren.rj_inj {m : Int} {nm es : List Int} (R : Ren m nm es) {p q : Int × Int} (hp : TL.okJ m p) (hq : TL.okJ m q) (e : rj es p = rj es q) : p = q := by
  obtain ⟨⟨a0, a1⟩, ⟨b0, b1⟩, le, ne⟩ := id hp
  obtain ⟨⟨c0, c1⟩, ⟨d0, d1⟩, le', ne'⟩ := id hq
  have l1 := hp.lt
  have l2 := hq.lt
  unfold rj at e
  rw [Prod.mk.injEq] at e
  obtain ⟨e1, e2⟩ := e
  obtain ⟨pa, pb⟩ := p
  obtain ⟨qa, qb⟩ := q
  dsimp only at *
  have hor : (TL.rho es pa = TL.rho es qa ∧ TL.rho es pb = TL.rho es qb) ∨ (TL.rho es pa = TL.rho es qb ∧ TL.rho es pb = TL.rho es qa) := by omega
  rcases hor with ⟨x, y⟩ | ⟨x, y⟩
  · rw [R.inj a0 a1 c0 c1 x, R.inj b0 b1 d0 d1 y]
  · have := R.inj a0 a1 d0 d1 x
    have := R.inj b0 b1 c0 c1 y
    omega
theorem Ren.line {m : Int} {nm es : List Int} (R : Ren m nm es) {js js' : List (Int × Int)} (G : GLine (m, js)) (hp : js'.Perm (js.map (rj es))) : GLine (m, js') := by
  refine ⟨G.one, G.most, ?_, fun p h => ?_, ?_⟩
  · have := hp.length_eq
    rw [List.length_map] at this
    show js'.length ≤ 24
    have := G.len
    dsimp only at this
    omega
  · obtain ⟨q, hq, rfl⟩ := List.mem_map.mp (hp.mem_iff.mp h)
    exact R.okJ (G.ok q hq)
  · refine hp.nodup_iff.mpr ?_
    rw [List.Nodup, List.pairwise_map]
    exact List.Pairwise.imp_of_mem (fun {a b} ha hb hab z => hab (R.rj_inj (G.ok a ha) (G.ok b hb) z)) G.nd
/-- a new true line has come -/
def NewG (K : PySem.W.Frag) (H : Hp) (Q : VK) : Prop := ∀ (v : V) (l : Ln) (H' : Hp), Same H H' → Da K H' (dL l) v → GLine l → Q v H'
end TL
namespace TL
theorem gline_push {m : Int} {js : List (Int × Int)} {a b : Int} (G : GLine (m, js)) (ne : a / 2 ≠ b / 2) (a0 : 0 ≤ a) (a1 : a < 2 * m) (b0 : 0 ≤ b) (b1 : b < 2 * m) (hn : (min a b, max a b) ∉ js) (hl : js.length < 24) : GLine (m, js ++ [(min a b, max a b)]) := by
  refine ⟨G.one, G.most, ?_, fun p hp => ?_, ?_⟩
  · show (js ++ [(min a b, max a b)]).length ≤ 24
    rw [List.length_append]; show js.length + 1 ≤ 24; omega
  · rcases List.mem_append.mp hp with z | z
    · exact G.ok p z
    · have z : p = (min a b, max a b) := by simpa using z
      subst z
      unfold okJ
      dsimp only
      refine ⟨by omega, by omega, by omega, fun z => ?_⟩
      by_cases c : a ≤ b
      · rw [Int.min_eq_left c, Int.max_eq_right c] at z; exact ne z
      · rw [Int.min_eq_right (by omega), Int.max_eq_left (by omega)] at z; exact ne z.symm
  · refine List.nodup_append.mpr ⟨G.nd, by simp, fun x hx y hy => ?_⟩
    have hy : y = (min a b, max a b) := by simpa using hy
    rw [hy]
    exact fun z => hn (z ▸ hx)
end TL
set_option Elab.async false
set_option linter.all false
set_option maxRecDepth 100000
set_option maxHeartbeats 4000000
namespace TL
open PySem PySem.Spec PyProof.Rows L2
/-! ### xs += ys -/
theorem seq_list_iadd : seqSlot? (.type "list") (dunderI "add") = pure (some (.builtin "list.__iadd__"))   := PySem.seqSlot_of PySem.F.slot_list_iadd.lookup (by decide +kernel)
theorem fills_list_iadd : fillsInplaceSlot (.type "list") "add" (Operator.Add == .Add) = pure false := by
  unfold fillsInplaceSlot
  show (typeLookup (.type "list") (dunderI "add") >>= fun fi => pure (fi.isSome && !isSeqSlot fi)) = pure false
  rw [PySem.F.slot_list_iadd.lookup]
  show (pure (true && !isSeqSlot (some (.builtin "list.__iadd__"))) : Sem Bool) = _
  rw [show isSeqSlot (some (.builtin "list.__iadd__")) = true by decide +kernel]
  rfl
section
variable {prog : Program} {w : World} {A : Around} {E : Value → Shared → Prop} {s : Shared} {l b : Addr} {items items2 : Array Value} {n n2 : Nat}
theorem iadd_list {Q : Value → Shared → Prop} (hl : IsL s.heap l items n) (hb : IsL s.heap b items2 n2) (hs0 : ¬(!items.isEmpty && Builtin.List.listTooLong (items.size + items2.size)) = true)
    (h : Q (.ref l) { s with heap := s.heap.update l (Obj.mapSeq fun x => x ++ items2) }) (hsz : items.size + items2.size ≤ sizeLine) : wpAny (model prog w) A (inplaceOp .Add (.ref l) (.ref b)) Q E s := by
  have ha : s.TypeIs (.ref l) "list" := ⟨_, hl, rfl⟩
  have hb' : s.TypeIs (.ref b) "list" := ⟨_, hb, rfl⟩
  unfold inplaceOp
  refine wpAny_holding ?_
  refine wpAny_bind (wpAny_typeOf ha (wpAny_bind (wpAny_of_eq fills_list_iadd ?_)))
  show wpAny _ A (if false = true then _ else _) Q E s
  rw [if_neg Bool.false_ne_true]
  refine wpAny_bind (wpAny_binaryOp1_none (nm := "add") ha hb' noFill_list_add ?_)
  refine wpAny_bind (wpAny_of_eq seq_list_iadd ?_)
  refine wpAny_bind (wpAny_rule ?_)
  refine call_meets PySem.F.slot_list_iadd ha PySem.F.entry_list_iadd (PySem.F.args_list_iadd_2 _ _) (AutoSeq1.list___iadd___list_list_0 l items n b items2 n2 hs0 (by omega) (by omega)) ⟨hl, hb, ?_⟩
  exact h
end
section
variable {X : Cx}
def ipL : TIp := fun x y H Q => ∃ l b xs zs, x = .ref l ∧ y = .ref b ∧ H l = some (.lst xs) ∧ H b = some (.lst zs) ∧ xs.length + zs.length ≤ sizeLine ∧ Q (.ref l) (upd H l (.lst (xs ++ zs)))
theorem ip_addL : PIp X .Add ipL := by
  intro pins s σ H x y v u Q I r1 r2 h
  obtain ⟨l, b, xs, zs, rfl, rfl, hH, hB, hz, q⟩ := h
  cases r1
  cases r2
  obtain ⟨z, its, n, r, hl, e⟩ := I.lstM hH
  obtain ⟨z2, its2, n2, r2, hl2, e2⟩ := I.lstM hB
  have hsz : its.toArray.size + its2.toArray.size ≤ sizeLine := by rw [List.size_toArray, List.size_toArray]; omega
  have hlong : ¬ (!its.toArray.isEmpty && Builtin.List.listTooLong (its.toArray.size + its2.toArray.size)) = true := by
    rw [notLongL hsz, Bool.and_false]
    exact Bool.false_ne_true
  refine iadd_list e e2 hlong ?_ hsz
  refine ⟨.ref l, _, I.lset (t' := s.toks) (its' := its ++ its2) hH e (by simp) (r.append r2) ?_, rfl, q⟩
  rw [List.length_append]
  omega
end
theorem and_one (e : Int) : Builtin.bitAnd e 1 = e % 2 := bitAnd_m1 e
end TL
set_option Elab.async false
set_option linter.all false
set_option maxRecDepth 100000
set_option maxHeartbeats 4000000
namespace TS
open PySem

/-! ### the walk over a table's slots comes by all of them -/
def lcg : Nat → Nat → Nat
  | 0, x => x
  | d + 1, x => 5 * lcg d x + 1
theorem lcg_add (d : Nat) : ∀ e x, lcg (e + d) x = lcg e (lcg d x)
  | 0, x => by rw [Nat.zero_add]; rfl
  | e + 1, x => by rw [Nat.add_right_comm]; show 5 * lcg (e + d) x + 1 = 5 * lcg e (lcg d x) + 1; rw [lcg_add d e x]
theorem lcg_pow : ∀ k, ∃ q, q % 2 = 1 ∧ ∀ x, lcg (2 ^ k) x = x + 2 ^ k * q * (4 * x + 1)
  | 0 => ⟨1, rfl, fun x => by show 5 * x + 1 = _; omega⟩
  | k + 1 => by
    obtain ⟨q, hq, h⟩ := lcg_pow k
    refine ⟨q * (1 + 2 * 2 ^ k * q), ?_, fun x => ?_⟩
    · have e : q * (1 + 2 * 2 ^ k * q) = q + 2 * (q * 2 ^ k * q) := by
        rw [Nat.mul_add, Nat.mul_one, Nat.mul_assoc 2, Nat.mul_left_comm q 2, Nat.mul_assoc q]
      rw [e, Nat.add_mul_mod_self_left]; exact hq
    · rw [Nat.pow_succ, Nat.mul_two, lcg_add, h x, h]
      generalize 2 ^ k = p
      have e : ∀ y, p * q * (4 * (x + y) + 1) = p * q * (4 * x + 1) + 4 * (p * q * y) := fun y => by
        rw [show 4 * (x + y) + 1 = (4 * x + 1) + 4 * y by omega, Nat.mul_add, Nat.mul_left_comm (p * q) 4 y]
      rw [e]
      have e2 : (p + p) * (q * (1 + 2 * p * q)) * (4 * x + 1) = 2 * (p * q * (4 * x + 1)) + 4 * (p * q * (p * q * (4 * x + 1))) := by
        have a1 : (p + p) * (q * (1 + 2 * p * q)) = 2 * (p * q) + 4 * (p * q * (p * q)) := by
          rw [← Nat.two_mul, Nat.mul_assoc, ← Nat.mul_assoc p q, Nat.mul_add, Nat.mul_one, Nat.mul_add]
          congr 1
          rw [Nat.mul_assoc 2 p q, Nat.mul_left_comm (p * q) 2, ← Nat.mul_assoc]
        rw [a1, Nat.add_mul, Nat.mul_assoc 2, Nat.mul_assoc 4, Nat.mul_assoc (p * q)]
      rw [e2]
      omega
theorem lcg_all : ∀ k x y, ∃ d, d < 2 ^ k ∧ lcg d x % 2 ^ k = y % 2 ^ k
  | 0, x, y => ⟨0, Nat.one_pos, by simp [Nat.mod_one]⟩
  | k + 1, x, y => by
    obtain ⟨d, hd, e⟩ := lcg_all k x y
    have hp : 0 < 2 ^ k := Nat.two_pow_pos k
    have h2 : 2 ^ (k + 1) = 2 ^ k * 2 := Nat.pow_succ ..
    obtain ⟨q, hq, h⟩ := lcg_pow k
    have split : ∀ a, a % (2 ^ k * 2) = a % 2 ^ k + 2 ^ k * (a / 2 ^ k % 2) := fun a => Nat.mod_mul
    by_cases c : lcg d x / 2 ^ k % 2 = y / 2 ^ k % 2
    · exact ⟨d, by omega, by rw [h2, split, split, e, c]⟩
    · refine ⟨2 ^ k + d, by omega, ?_⟩
      rw [lcg_add, h, h2, split, split]
      generalize hz : lcg d x = z at *
      have h4 : (q * (4 * z + 1)) % 2 = 1 := by
        rw [Nat.mul_mod, hq, show (4 * z + 1) % 2 = 1 by omega]
      have e1 : (z + 2 ^ k * q * (4 * z + 1)) % 2 ^ k = z % 2 ^ k := by rw [Nat.mul_assoc, Nat.add_mul_mod_self_left]
      have e2 : (z + 2 ^ k * q * (4 * z + 1)) / 2 ^ k = z / 2 ^ k + q * (4 * z + 1) := by rw [Nat.mul_assoc, Nat.add_mul_div_left _ _ hp]
      rw [e1, e2, e]
      congr 2
      have := Nat.mod_two_eq_zero_or_one (z / 2 ^ k)
      have := Nat.mod_two_eq_zero_or_one (y / 2 ^ k)
      omega

/-! ### the places that are looked at, one behind the other -/
open SetTable
def adv (mask : Nat) (p : Probe) : Probe :=
  if p.more > 0 then { p with j := p.j + 1, more := p.more - 1 } else
  { p with j := (leap mask p.i p.perturb).1, more := runEnd mask (leap mask p.i p.perturb).1 - (leap mask p.i p.perturb).1, i := (leap mask p.i p.perturb).1, perturb := (leap mask p.i p.perturb).2 }
theorem adv_eq (t : SetTable) (p : Probe) : t.advance p = adv t.mask p := by unfold advance adv; split <;> rfl
def pAt (mask : Nat) (h : Int) : Nat → Probe
  | 0 => { j := bits h % (mask + 1), more := runEnd mask (bits h % (mask + 1)) - bits h % (mask + 1), i := bits h % (mask + 1), perturb := bits h, dummy := none }
  | n + 1 => adv mask (pAt mask h n)
theorem pAt_dummy (mask : Nat) (h : Int) : ∀ n, (pAt mask h n).dummy = none
  | 0 => rfl
  | n + 1 => by
    show (adv mask (pAt mask h n)).dummy = none
    unfold adv
    split <;> exact pAt_dummy mask h n
/-- the r-th leap -/
def lpI (mask : Nat) (h : Int) : Nat → Nat × Nat
  | 0 => (bits h % (mask + 1), bits h)
  | r + 1 => leap mask (lpI mask h r).1 (lpI mask h r).2
def lpT (mask : Nat) (h : Int) : Nat → Nat
  | 0 => 0
  | r + 1 => lpT mask h r + (runEnd mask (lpI mask h r).1 - (lpI mask h r).1) + 1
theorem runEnd_ge (mask i : Nat) : i ≤ runEnd mask i := by unfold runEnd; split <;> omega
theorem runEnd_le (mask i : Nat) : runEnd mask i ≤ i + 9 := by unfold runEnd; split <;> omega
theorem runEnd_mask {mask i : Nat} (h : i ≤ mask) : runEnd mask i ≤ mask := by unfold runEnd; split <;> omega
theorem pAt_leap (mask : Nat) (h : Int) : ∀ r d, d ≤ runEnd mask (lpI mask h r).1 - (lpI mask h r).1 →
    pAt mask h (lpT mask h r + d) = { j := (lpI mask h r).1 + d, more := runEnd mask (lpI mask h r).1 - (lpI mask h r).1 - d, i := (lpI mask h r).1, perturb := (lpI mask h r).2, dummy := none }
  | 0, 0, _ => rfl
  | r + 1, 0, _ => by
    have ih := pAt_leap mask h r _ (Nat.le_refl _)
    show pAt mask h (lpT mask h r + (runEnd mask (lpI mask h r).1 - (lpI mask h r).1) + 1) = _
    show adv mask (pAt mask h (lpT mask h r + (runEnd mask (lpI mask h r).1 - (lpI mask h r).1))) = _
    rw [ih]
    unfold adv
    simp only [Nat.sub_self, gt_iff_lt, Nat.lt_irrefl, if_false]
    rfl
  | r, d + 1, hd => by
    have ih := pAt_leap mask h r d (by omega)
    show adv mask (pAt mask h (lpT mask h r + d)) = _
    rw [ih]
    unfold adv
    rw [if_pos (by show _ > 0; simp only; omega)]
    simp only [Probe.mk.injEq, and_true, true_and]
    omega
theorem lpI_le (mask : Nat) (h : Int) : ∀ r, (lpI mask h r).1 ≤ mask
  | 0 => Nat.le_of_lt_succ (Nat.mod_lt (bits h) (Nat.succ_pos mask))
  | r + 1 => Nat.le_of_lt_succ (Nat.mod_lt ((lpI mask h r).1 * 5 + 1 + (lpI mask h r).2 / 32) (Nat.succ_pos mask))
theorem bits_lt (h : Int) : bits h < 2 ^ 64 := by unfold bits; omega
theorem lpI_pert (mask : Nat) (h : Int) : ∀ r, (lpI mask h r).2 = bits h / 32 ^ r
  | 0 => by simp [lpI]
  | r + 1 => by
    show (lpI mask h r).2 / 32 = _
    rw [lpI_pert mask h r, Nat.div_div_eq_div_mul, Nat.pow_succ]
theorem lpI_zero (mask : Nat) (h : Int) {r : Nat} (hr : 13 ≤ r) : (lpI mask h r).2 = 0 := by
  rw [lpI_pert]
  have h1 := bits_lt h
  have h2 : 32 ^ 13 ≤ 32 ^ r := Nat.pow_le_pow_right (by decide) hr
  exact Nat.div_eq_of_lt (Nat.lt_of_lt_of_le h1 (Nat.le_trans (by decide) h2))
theorem lpI_lcg (mask : Nat) (h : Int) {s : Nat} (hs : 13 ≤ s) : ∀ d, (lpI mask h (s + d)).1 = lcg d (lpI mask h s).1 % (mask + 1)
  | 0 => by show (lpI mask h s).1 = (lpI mask h s).1 % (mask + 1); rw [Nat.mod_eq_of_lt (Nat.lt_succ_of_le (lpI_le mask h s))]
  | d + 1 => by
    have ih := lpI_lcg mask h hs d
    show ((lpI mask h (s + d)).1 * 5 + 1 + (lpI mask h (s + d)).2 / 32) % (mask + 1) = (5 * lcg d (lpI mask h s).1 + 1) % (mask + 1)
    rw [lpI_zero mask h (by omega), ih, Nat.zero_div, Nat.add_zero, Nat.mul_comm _ 5, Nat.add_mod, Nat.mul_mod_mod, ← Nat.add_mod]
theorem lpI_all {mask k : Nat} (hk : mask + 1 = 2 ^ k) (h : Int) (r0 : Nat) {j : Nat} (hj : j ≤ mask) : ∃ r, r0 + 1 ≤ r ∧ r ≤ r0 + mask + 14 ∧ (lpI mask h r).1 = j := by
  obtain ⟨s, h1, h2, h3⟩ : ∃ s, 13 ≤ s ∧ r0 + 1 ≤ s ∧ s ≤ r0 + 14 := by
    by_cases c : 13 ≤ r0 + 1
    · exact ⟨r0 + 1, c, by omega, by omega⟩
    · exact ⟨13, by omega, by omega, by omega⟩
  obtain ⟨d, hd, e⟩ := lcg_all k (lpI mask h s).1 j
  refine ⟨s + d, by omega, by omega, ?_⟩
  rw [lpI_lcg mask h h1, hk, e, Nat.mod_eq_of_lt (by omega)]
theorem lpT_le (mask : Nat) (h : Int) (r : Nat) : ∀ e, lpT mask h (r + e) ≤ lpT mask h r + 10 * e
  | 0 => Nat.le_refl _
  | e + 1 => by
    have := lpT_le mask h r e
    have h2 := runEnd_le mask (lpI mask h (r + e)).1
    show lpT mask h (r + e) + (runEnd mask (lpI mask h (r + e)).1 - (lpI mask h (r + e)).1) + 1 ≤ _
    omega
theorem lpT_lt (mask : Nat) (h : Int) (r : Nat) : lpT mask h r < lpT mask h (r + 1) := by
  show _ < lpT mask h r + (runEnd mask (lpI mask h r).1 - (lpI mask h r).1) + 1
  omega
theorem lpT_mono (mask : Nat) (h : Int) (r : Nat) : ∀ e, lpT mask h r ≤ lpT mask h (r + e)
  | 0 => Nat.le_refl _
  | e + 1 => Nat.le_trans (lpT_mono mask h r e) (Nat.le_of_lt (lpT_lt mask h (r + e)))
theorem lpT_find (mask : Nat) (h : Int) : ∀ n, ∃ r, lpT mask h r ≤ n ∧ n < lpT mask h (r + 1)
  | 0 => ⟨0, Nat.le_refl _, lpT_lt mask h 0⟩
  | n + 1 => by
    obtain ⟨r, h1, h2⟩ := lpT_find mask h n
    by_cases c : n + 1 < lpT mask h (r + 1)
    · exact ⟨r, by omega, c⟩
    · exact ⟨r + 1, by omega, by have := lpT_lt mask h (r + 1); omega⟩
/-- from any place on all slots are come by -/
theorem pAt_all {mask k : Nat} (hk : mask + 1 = 2 ^ k) (h : Int) (n : Nat) {j : Nat} (hj : j ≤ mask) : ∃ m, n ≤ m ∧ m < n + 10 * turns mask ∧ (pAt mask h m).j = j := by
  obtain ⟨r0, h1, h2⟩ := lpT_find mask h n
  obtain ⟨r, h3, h4, e⟩ := lpI_all hk h r0 hj
  refine ⟨lpT mask h r, ?_, ?_, ?_⟩
  · obtain ⟨x, rfl⟩ : ∃ x, r = r0 + 1 + x := ⟨r - (r0 + 1), by omega⟩
    have := lpT_mono mask h (r0 + 1) x
    omega
  · obtain ⟨x, rfl⟩ : ∃ x, r = r0 + x := ⟨r - r0, by omega⟩
    have := lpT_le mask h r0 x
    unfold turns
    omega
  · have := pAt_leap mask h r 0 (Nat.zero_le _)
    rw [Nat.add_zero] at this
    rw [this]
    simpa using e
theorem pAt_le (mask : Nat) (h : Int) (n : Nat) : (pAt mask h n).j ≤ mask := by
  obtain ⟨r, h1, h2⟩ := lpT_find mask h n
  have h3 := runEnd_mask (lpI_le mask h r)
  have h4 := pAt_leap mask h r (n - lpT mask h r) (by
    have : n < lpT mask h r + (runEnd mask (lpI mask h r).1 - (lpI mask h r).1) + 1 := h2
    omega)
  rw [show lpT mask h r + (n - lpT mask h r) = n by omega] at h4
  rw [h4]
  have : n < lpT mask h r + (runEnd mask (lpI mask h r).1 - (lpI mask h r).1) + 1 := h2
  have h5 := runEnd_ge mask (lpI mask h r).1
  show (lpI mask h r).1 + (n - lpT mask h r) ≤ mask
  omega
end TS
set_option Elab.async false
set_option linter.all false
set_option maxRecDepth 100000
set_option maxHeartbeats 4000000
namespace TS
open PySem
open SetTable

/-! ### where a slot stands among the taken ones -/
theorem below_go {xs : Array Nat} {j : Nat} (hs : xs.toList.Pairwise (· < ·)) : ∀ fuel lo hi, hi - lo ≤ fuel → lo ≤ hi → hi ≤ xs.size → (∀ i (h : i < xs.size), i < lo → xs[i] < j) → (∀ i (h : i < xs.size), hi ≤ i → j ≤ xs[i]) →
    below.go xs j fuel lo hi ≤ xs.size ∧ (∀ i (h : i < xs.size), i < below.go xs j fuel lo hi → xs[i] < j) ∧ (∀ i (h : i < xs.size), below.go xs j fuel lo hi ≤ i → j ≤ xs[i])
  | 0, lo, hi, h1, h2, h3, h4, h5 => by
    have : lo = hi := by omega
    subst this
    exact ⟨h3, h4, h5⟩
  | fuel + 1, lo, hi, h1, h2, h3, h4, h5 => by
    unfold below.go
    by_cases c : lo < hi
    · rw [if_pos c]
      dsimp only
      have hm : (lo + hi) / 2 < xs.size := by omega
      have e : xs.getD ((lo + hi) / 2) j = xs[(lo + hi) / 2] := by simp [Array.getD, hm]
      have mono : ∀ a b (ha : a < xs.size) (hb : b < xs.size), a < b → xs[a] < xs[b] := fun a b ha hb hab => by
        have := List.pairwise_iff_getElem.mp hs a b (by simpa using ha) (by simpa using hb) hab
        simpa using this
      rw [e]
      by_cases d : xs[(lo + hi) / 2] < j
      · rw [if_pos d]
        refine below_go hs fuel _ _ (by omega) (by omega) h3 (fun i h hi' => ?_) h5
        by_cases q : i = (lo + hi) / 2
        · subst q; exact d
        · exact Nat.lt_trans (mono i _ h hm (by omega)) d
      · rw [if_neg d]
        refine below_go hs fuel _ _ (by omega) (by omega) (by omega) h4 (fun i h hi' => ?_)
        by_cases q : i = (lo + hi) / 2
        · subst q; omega
        · have := mono _ i hm h (by omega); omega
    · rw [if_neg c]
      have : lo = hi := by omega
      subst this
      exact ⟨h3, h4, h5⟩
theorem below_spec {xs : Array Nat} (hs : xs.toList.Pairwise (· < ·)) (j : Nat) :
    below xs j ≤ xs.size ∧ (∀ i (h : i < xs.size), i < below xs j → xs[i] < j) ∧ (∀ i (h : i < xs.size), below xs j ≤ i → j ≤ xs[i]) :=
  below_go hs xs.size 0 xs.size (by omega) (by omega) (Nat.le_refl _) (fun i h c => by omega) fun i h c => by omega
theorem below_at {xs : Array Nat} (hs : xs.toList.Pairwise (· < ·)) {i j : Nat} (h : xs[i]? = some j) : below xs j = i := by
  obtain ⟨h1, h2, h3⟩ := below_spec hs j
  obtain ⟨hi, e⟩ := Array.getElem?_eq_some_iff.mp h
  have mono : ∀ a b (ha : a < xs.size) (hb : b < xs.size), a < b → xs[a] < xs[b] := fun a b ha hb hab => by
    have := List.pairwise_iff_getElem.mp hs a b (by simpa using ha) (by simpa using hb) hab
    simpa using this
  rcases Nat.lt_trichotomy (below xs j) i with c | c | c
  · have := h3 (below xs j) (by omega) (Nat.le_refl _)
    have := mono _ _ (by omega) hi c
    omega
  · exact c
  · have := h2 i hi c
    omega
/-- put in its place -/
theorem insert_sorted {xs : Array Nat} (hs : xs.toList.Pairwise (· < ·)) {j : Nat} (hj : j ∉ xs.toList) : (insertAt xs (below xs j) j).toList.Pairwise (· < ·) := by
  obtain ⟨h1, h2, h3⟩ := below_spec hs j
  rw [SetTable.toList_insertAt]
  have a : ∀ y ∈ xs.toList.take (below xs j), y < j := fun y hy => by
    obtain ⟨i, hi, e⟩ := List.mem_iff_getElem.mp hy
    rw [List.length_take] at hi
    rw [List.getElem_take] at e
    rw [← e]
    exact h2 i (by simpa using (show i < xs.toList.length by omega)) (by omega)
  have b : ∀ y ∈ xs.toList.drop (below xs j), j < y := fun y hy => by
    obtain ⟨i, hi, e⟩ := List.mem_iff_getElem.mp hy
    rw [List.length_drop] at hi
    rw [List.getElem_drop] at e
    have hm : y ∈ xs.toList := List.mem_of_mem_drop hy
    have : j ≠ y := fun z => hj (z ▸ hm)
    have := h3 (below xs j + i) (by simpa using (show below xs j + i < xs.toList.length by omega)) (by omega)
    rw [← e] at *
    simp at *
    omega
  refine List.pairwise_append.mpr ⟨hs.sublist (List.take_sublist _ _), List.pairwise_cons.mpr ⟨b, hs.sublist (List.drop_sublist _ _)⟩, fun x hx y hy => ?_⟩
  rcases List.mem_cons.mp hy with rfl | hy
  · exact a x hx
  · exact Nat.lt_trans (a x hx) (b y hy)
theorem slot_live {t : SetTable} (hs : t.place.toList.Pairwise (· < ·)) {i j : Nat} (h : t.place[i]? = some j) : t.slot j = .live i := by
  unfold slot
  dsimp only
  rw [below_at hs h, h]
  simp
theorem slot_empty {t : SetTable} (hd : t.dummies = #[]) {j : Nat} (h : j ∉ t.place.toList) : t.slot j = .empty := by
  unfold slot
  dsimp only
  rw [if_neg, hd, if_neg]
  · simp [has]
  · intro z
    have z' : t.place[below t.place j]? = some j := by simpa using z
    exact h (by rw [Array.mem_toList_iff]; exact Array.mem_of_getElem? z')

/-! ### a table that is well laid -/
theorem sub_len : ∀ {l m : List Nat}, l.Nodup → (∀ x ∈ l, x ∈ m) → l.length ≤ m.length
  | [], m, _, _ => Nat.zero_le _
  | x :: l, m, hn, hs => by
    rw [List.nodup_cons] at hn
    have hx := hs x List.mem_cons_self
    have := @sub_len l (m.erase x) hn.2 fun y hy => by
      refine (List.mem_erase_of_ne ?_).mpr (hs y (List.mem_cons_of_mem _ hy))
      rintro rfl
      exact hn.1 hy
    have h2 := List.length_erase_of_mem hx
    have h3 : 0 < m.length := List.length_pos_of_mem hx
    rw [List.length_cons]
    omega
theorem some_free {l : List Nat} {mask : Nat} (h : l.length ≤ mask) : ∃ j, j ≤ mask ∧ j ∉ l := by
  refine Classical.byContradiction fun c => ?_
  have := @sub_len (List.range (mask + 1)) l List.nodup_range fun x hx => Classical.byContradiction fun q => c ⟨x, by have := List.mem_range.mp hx; omega, q⟩
  rw [List.length_range] at this
  omega
/-- j is the n-th place of h, and all ahead of it are taken -/
def ReachAt (mask : Nat) (taken : List Nat) (h : Int) (j : Nat) : Prop := ∃ n, (pAt mask h n).j = j ∧ ∀ m, m < n → (pAt mask h m).j ∈ taken
structure WFT (t : SetTable) (hs : List Int) : Prop where
  pow : ∃ k, 3 ≤ k ∧ t.mask + 1 = 2 ^ k
  small : t.mask ≤ 8191
  dum : t.dummies = #[]
  rise : t.place.toList.Pairwise (· < ·)
  all : ∀ j ∈ t.place.toList, j ≤ t.mask
  len : t.place.size = hs.length
  room : hs.length * 5 < t.mask * 3
  reach : ∀ i (h : i < hs.length) j, t.place[i]? = some j → ReachAt t.mask t.place.toList hs[i] j
theorem WFT.fits {t : SetTable} {hs : List Int} (W : WFT t hs) : t.fits hs.length = true := by
  have := W.room
  simp only [SetTable.fits, SetTable.fill, W.len, W.dum, beq_self_eq_true, Bool.true_and, decide_eq_true_eq]
  show hs.length + 0 ≤ t.mask
  omega
theorem WFT.gave {t : SetTable} {hs : List Int} (W : WFT t hs) : t.gaveWay = false := by
  obtain ⟨k, hk, e⟩ := W.pow
  obtain ⟨k, rfl⟩ : ∃ q, k = q + 1 := ⟨k - 1, by omega⟩
  rw [Nat.pow_succ] at e
  unfold gaveWay
  have : t.mask % 2 = 1 := by omega
  rw [this]; rfl
theorem WFT.fresh (a b : Nat) (led : Bool) : WFT (SetTable.fresh a b led) [] :=
  ⟨⟨3, by decide, rfl⟩, (by show 7 ≤ 8191; decide), rfl, List.Pairwise.nil, fun j hj => by simp [SetTable.fresh] at hj, rfl, (by show 0 * 5 < 7 * 3; decide), fun i h => by simp at h⟩
/-- what stops the walk: an empty slot, or one with the same hash -/
def Hit (t : SetTable) (hs : List Int) (h : Int) (n : Nat) : Prop := (pAt t.mask h n).j ∉ t.place.toList ∨ ∃ i, t.place[i]? = some (pAt t.mask h n).j ∧ hs.getD i 0 = h
def hitRes (t : SetTable) (h : Int) (n : Nat) : SetTable.Met := match t.slot (pAt t.mask h n).j with
  | .live i => .candidate (pAt t.mask h n).j i (pAt t.mask h (n + 1))
  | _ => .empty (pAt t.mask h n).j none
theorem probe_go {t : SetTable} {hs : List Int} (W : WFT t hs) {ha : Nat → Int} {h : Int} (hh : ∀ i, i < hs.length → ha i = hs.getD i 0) : ∀ (d fuel n : Nat), d < fuel → Hit t hs h (n + d) → (∀ m, n ≤ m → m < n + d → ¬ Hit t hs h m) →
    SetTable.probe.go t ha h fuel (pAt t.mask h n) = some (hitRes t h (n + d)) := by
  intro d
  induction d with
  | zero =>
    intro fuel n hf hit _
    obtain ⟨f, rfl⟩ : ∃ f, fuel = f + 1 := ⟨fuel - 1, by omega⟩
    unfold SetTable.probe.go hitRes
    rw [Nat.add_zero] at hit ⊢
    rcases hit with z | ⟨i, z, e⟩
    · rw [slot_empty W.dum z, pAt_dummy]
    · rw [slot_live W.rise z]
      have hi : i < hs.length := by rw [← W.len]; exact (Array.getElem?_eq_some_iff.mp z).1
      dsimp only
      rw [hh i hi, e, beq_self_eq_true, if_pos rfl, adv_eq]
      rfl
  | succ d ih =>
    intro fuel n hf hit hno
    obtain ⟨f, rfl⟩ : ∃ f, fuel = f + 1 := ⟨fuel - 1, by omega⟩
    have hn := hno n (Nat.le_refl _) (by omega)
    unfold Hit at hn
    rw [not_or, Classical.not_not] at hn
    obtain ⟨n1, n2⟩ := hn
    obtain ⟨i, hi⟩ := Array.mem_iff_getElem?.mp (Array.mem_toList_iff.mp n1)
    have hi' : i < hs.length := by rw [← W.len]; exact (Array.getElem?_eq_some_iff.mp hi).1
    unfold SetTable.probe.go
    rw [slot_live W.rise hi]
    dsimp only
    rw [hh i hi', if_neg (by intro z; exact n2 ⟨i, hi, by simpa using z⟩), adv_eq]
    have := ih f (n + 1) (by omega) (by rw [show n + 1 + d = n + (d + 1) by omega]; exact hit) fun m h1 h2 => hno m (by omega) (by omega)
    rw [show n + (d + 1) = n + 1 + d by omega]
    exact this
theorem first_hit {P : Nat → Prop} : ∀ d n, P (n + d) → ∃ e, e ≤ d ∧ P (n + e) ∧ ∀ m, n ≤ m → m < n + e → ¬ P m
  | 0, n, h => ⟨0, Nat.le_refl _, h, fun m h1 h2 => by omega⟩
  | d + 1, n, h => by
    by_cases c : P n
    · exact ⟨0, Nat.zero_le _, c, fun m h1 h2 => by omega⟩
    · obtain ⟨e, h1, h2, h3⟩ := first_hit (P := P) d (n + 1) (by rw [show n + 1 + d = n + (d + 1) by omega]; exact h)
      refine ⟨e + 1, by omega, by rw [show n + (e + 1) = n + 1 + e by omega]; exact h2, fun m h4 h5 => ?_⟩
      by_cases q : m = n
      · subst q; exact c
      · exact h3 m (by omega) (by omega)
/-- the walk from n on stops, at the first that stops it -/
theorem probe_ends {t : SetTable} {hs : List Int} (W : WFT t hs) {ha : Nat → Int} {h : Int} (hh : ∀ i, i < hs.length → ha i = hs.getD i 0) (n : Nat) :
    ∃ m, n ≤ m ∧ Hit t hs h m ∧ (∀ q, n ≤ q → q < m → ¬ Hit t hs h q) ∧ t.probe ha h (pAt t.mask h n) = some (hitRes t h m) := by
  obtain ⟨k, _, hk⟩ := W.pow
  obtain ⟨j, hj, hf⟩ := @some_free t.place.toList t.mask (by
    have := W.room; have h1 := W.len
    rw [Array.length_toList]; omega)
  obtain ⟨m, h1, h2, e⟩ := pAt_all hk h n hj
  obtain ⟨d, rfl⟩ : ∃ d, m = n + d := ⟨m - n, by omega⟩
  obtain ⟨e', h3, h4, h5⟩ := first_hit (P := Hit t hs h) d n (.inl (by rw [e]; exact hf))
  exact ⟨n + e', by omega, h4, h5, probe_go W hh e' _ n (by omega) h4 h5⟩
/-- put into an empty slot -/
theorem WFT.put {t : SetTable} {hs : List Int} (W : WFT t hs) {h : Int} {n : Nat} (he : (pAt t.mask h n).j ∉ t.place.toList) (hn : ∀ m, m < n → (pAt t.mask h m).j ∈ t.place.toList) (b : Bool)
    (hr : (hs.length + 1) * 5 < t.mask * 3) : WFT { (t.put (pAt t.mask h n).j).1 with plain := b } (hs.take (t.put (pAt t.mask h n).j).2 ++ h :: hs.drop (t.put (pAt t.mask h n).j).2) := by
  generalize hj : (pAt t.mask h n).j = j at he
  have hp : (t.put j).2 = below t.place j := rfl
  have hpl : (t.put j).1.place = insertAt t.place (below t.place j) j := rfl
  have hle := (below_spec W.rise j).1
  have hL : (insertAt t.place (below t.place j) j).toList = t.place.toList.take (below t.place j) ++ j :: t.place.toList.drop (below t.place j) := SetTable.toList_insertAt ..
  have hmem : ∀ x, x ∈ t.place.toList → x ∈ (insertAt t.place (below t.place j) j).toList := fun x hx => by
    rw [hL]
    rw [← List.take_append_drop (below t.place j) t.place.toList] at hx
    rcases List.mem_append.mp hx with z | z
    · exact List.mem_append_left _ z
    · exact List.mem_append_right _ (List.mem_cons_of_mem _ z)
  have len : (hs.take (below t.place j) ++ h :: hs.drop (below t.place j)).length = hs.length + 1 := by
    rw [List.length_append, List.length_cons, List.length_take, List.length_drop]
    have := W.len
    omega
  refine ⟨W.pow, W.small, ?_, insert_sorted W.rise he, fun x hx => ?_, ?_, ?_, fun i hi x hx => ?_⟩
  · show (if has t.dummies j then eraseAt t.dummies (below t.dummies j) else t.dummies) = #[]
    rw [W.dum]
    simp [has]
  · have hx : x ∈ (insertAt t.place (below t.place j) j).toList := hx
    show x ≤ t.mask
    rw [hL] at hx
    rcases List.mem_append.mp hx with z | z
    · exact W.all x (List.mem_of_mem_take z)
    · rcases List.mem_cons.mp z with rfl | z
      · rw [← hj]; exact pAt_le t.mask h n
      · exact W.all x (List.mem_of_mem_drop z)
  · rw [hp, len]
    show (insertAt t.place (below t.place j) j).size = _
    rw [← Array.length_toList, hL, List.length_append, List.length_cons, List.length_take, List.length_drop, Array.length_toList, W.len]
    have := W.len
    omega
  · rw [hp, len]; exact hr
  · rw [hp] at hi
    have hx : (insertAt t.place (below t.place j) j)[i]? = some x := hx
    rw [← Array.getElem?_toList, hL] at hx
    have hg : ∀ (y : Int), (hs.take (below t.place j) ++ h :: hs.drop (below t.place j))[i]? = some y → ReachAt t.mask (insertAt t.place (below t.place j) j).toList y x := by
      intro y hy
      have up : ∀ {y x}, ReachAt t.mask t.place.toList y x → ReachAt t.mask (insertAt t.place (below t.place j) j).toList y x := fun {y x} ⟨n, a, b⟩ => ⟨n, a, fun m hm => hmem _ (b m hm)⟩
      have hlt : (hs.take (below t.place j)).length = below t.place j := by rw [List.length_take]; have := W.len; omega
      have hlt2 : (t.place.toList.take (below t.place j)).length = below t.place j := by rw [List.length_take, Array.length_toList]; omega
      rcases Nat.lt_trichotomy i (below t.place j) with c | c | c
      · rw [List.getElem?_append_left (by omega), List.getElem?_take_of_lt c] at hx hy
        obtain ⟨hl, e⟩ := List.getElem?_eq_some_iff.mp hy
        have := W.reach i hl x (by rw [← Array.getElem?_toList]; exact hx)
        rw [e] at this
        exact up this
      · subst c
        rw [List.getElem?_append_right (by omega), hlt, Nat.sub_self] at hy
        rw [List.getElem?_append_right (by omega), hlt2, Nat.sub_self] at hx
        simp at hx hy
        subst hx hy
        exact ⟨n, hj, fun m hm => hmem _ (hn m hm)⟩
      · obtain ⟨i, rfl⟩ : ∃ q, i = q + 1 := ⟨i - 1, by omega⟩
        rw [List.getElem?_append_right (by omega), hlt, show i + 1 - below t.place j = (i - below t.place j) + 1 by omega, List.getElem?_cons_succ, List.getElem?_drop, show below t.place j + (i - below t.place j) = i by omega] at hy
        rw [List.getElem?_append_right (by omega), hlt2, show i + 1 - below t.place j = (i - below t.place j) + 1 by omega, List.getElem?_cons_succ, List.getElem?_drop, show below t.place j + (i - below t.place j) = i by omega] at hx
        obtain ⟨hl, e⟩ := List.getElem?_eq_some_iff.mp hy
        have := W.reach i hl x (by rw [← Array.getElem?_toList]; exact hx)
        rw [e] at this
        exact up this
    exact hg _ (List.getElem?_eq_getElem hi)
end TS
set_option Elab.async false
set_option linter.all false
set_option maxRecDepth 100000
set_option maxHeartbeats 4000000
namespace TS
open PySem
open SetTable

/-! ### all are laid anew -/
def takenIn (owner : Array (Option Nat)) (j : Nat) : Prop := ∃ i, owner[j]? = some (some i)
theorem free_spec {mask : Nat} {owner : Array (Option Nat)} (hz : owner.size = mask + 1) (h : Int) : ∀ fuel r, (∃ r', r ≤ r' ∧ r' < r + fuel ∧ owner[(lpI mask h r').1]? = some none) →
    ∃ n j, layClean.free mask owner fuel (lpI mask h r).1 (lpI mask h r).2 = some j ∧ lpT mask h r ≤ n ∧ (pAt mask h n).j = j ∧ owner[j]? = some none ∧ ∀ m, lpT mask h r ≤ m → m < n → takenIn owner (pAt mask h m).j := by
  intro fuel
  induction fuel with
  | zero => rintro r ⟨r', h1, h2, _⟩; omega
  | succ fuel ih =>
    rintro r ⟨r', h1, h2, h3⟩
    have hrm := runEnd_mask (lpI_le mask h r)
    have hrg := runEnd_ge mask (lpI mask h r).1
    have hget : ∀ k, k < runEnd mask (lpI mask h r).1 + 1 - (lpI mask h r).1 → ∃ o, owner[(lpI mask h r).1 + k]? = some o ∧ owner.getD ((lpI mask h r).1 + k) (some 0) = o := fun k hk => by
      have hl : (lpI mask h r).1 + k < owner.size := by omega
      exact ⟨owner[(lpI mask h r).1 + k], Array.getElem?_eq_getElem hl, by simp [Array.getD, hl]⟩
    have hj : ∀ k, k < runEnd mask (lpI mask h r).1 + 1 - (lpI mask h r).1 → (pAt mask h (lpT mask h r + k)).j = (lpI mask h r).1 + k := fun k hk => by
      rw [pAt_leap mask h r k (by omega)]
    unfold layClean.free
    cases hf : (List.range (runEnd mask (lpI mask h r).1 + 1 - (lpI mask h r).1)).find? fun k => (owner.getD ((lpI mask h r).1 + k) (some 0)).isNone with
    | some k =>
      dsimp only
      obtain ⟨hk1, as, bs, hk2, hk3⟩ := List.find?_eq_some_iff_append.mp hf
      have hkm : k < runEnd mask (lpI mask h r).1 + 1 - (lpI mask h r).1 := by
        have := List.mem_of_find?_eq_some hf
        simpa using this
      obtain ⟨o, o1, o2⟩ := hget k hkm
      rw [o2] at hk1
      have : o = none := by cases o with | none => rfl | some _ => simp at hk1
      subst this
      refine ⟨lpT mask h r + k, _, rfl, Nat.le_add_right _ _, hj k hkm, o1, fun m m1 m2 => ?_⟩
      obtain ⟨k', rfl⟩ : ∃ k', m = lpT mask h r + k' := ⟨m - lpT mask h r, by omega⟩
      obtain ⟨o', o3, o4⟩ := hget k' (by omega)
      rw [hj k' (by omega)]
      have hin : k' ∈ as := by
        have e1 : (List.range (runEnd mask (lpI mask h r).1 + 1 - (lpI mask h r).1))[as.length]? = some k := by rw [hk2]; simp
        have e2 : as.length = k := by
          rw [List.getElem?_eq_some_iff] at e1
          obtain ⟨_, e1⟩ := e1
          simpa using e1
        have e3 : (List.range (runEnd mask (lpI mask h r).1 + 1 - (lpI mask h r).1))[k']? = some k' := by
          rw [List.getElem?_range (by omega)]
        rw [hk2, List.getElem?_append_left (by omega)] at e3
        exact List.mem_of_getElem? e3
      have := hk3 k' hin
      rw [o4] at this
      cases o' with
      | none => simp at this
      | some i => exact ⟨i, o3⟩
    | none =>
      dsimp only
      have hall := List.find?_eq_none.mp hf
      have hno : ∀ k, k < runEnd mask (lpI mask h r).1 + 1 - (lpI mask h r).1 → takenIn owner ((lpI mask h r).1 + k) := fun k hk => by
        obtain ⟨o, o1, o2⟩ := hget k hk
        have := hall k (List.mem_range.mpr hk)
        rw [o2] at this
        cases o with
        | none => simp at this
        | some i => exact ⟨i, o1⟩
      have hne : r' ≠ r := by
        rintro rfl
        obtain ⟨i, e⟩ := hno 0 (by omega)
        rw [Nat.add_zero, h3] at e
        cases e
      obtain ⟨n, j, e1, e2, e3, e4, e5⟩ := ih (r + 1) ⟨r', by omega, by omega, h3⟩
      refine ⟨n, j, e1, Nat.le_trans (Nat.le_of_lt (lpT_lt mask h r)) e2, e3, e4, fun m m1 m2 => ?_⟩
      by_cases c : m < lpT mask h (r + 1)
      · have c' : m < lpT mask h r + (runEnd mask (lpI mask h r).1 - (lpI mask h r).1) + 1 := c
        obtain ⟨k', rfl⟩ : ∃ k', m = lpT mask h r + k' := ⟨m - lpT mask h r, by omega⟩
        rw [hj k' (by omega)]
        exact hno k' (by omega)
      · exact e5 m (by omega) m2
/-- what stands in the slots behind the first k -/
structure Laid (mask : Nat) (hs : List Int) (owner : Array (Option Nat)) (k : Nat) : Prop where
  size : owner.size = mask + 1
  only : ∀ (j i : Nat), owner[j]? = some (some i) → i < k
  one : ∀ (i j j' : Nat), owner[j]? = some (some i) → owner[j']? = some (some i) → j = j'
  each : ∀ i (h : i < hs.length), i < k → ∃ (j n : Nat), owner[j]? = some (some i) ∧ (pAt mask hs[i] n).j = j ∧ ∀ m, m < n → takenIn owner (pAt mask hs[i] m).j
theorem laid_free {mask : Nat} {hs : List Int} {owner : Array (Option Nat)} {k : Nat} (L : Laid mask hs owner k) (hk : k ≤ mask) : ∃ j, j ≤ mask ∧ owner[j]? = some none := by
  refine Classical.byContradiction fun c => ?_
  have hall : ∀ j, j ≤ mask → ∃ i, owner[j]? = some (some i) := fun j hj => by
    have hl : j < owner.size := by rw [L.size]; omega
    cases e : owner[j] with
    | none => exact (c ⟨j, hj, by rw [Array.getElem?_eq_getElem hl, e]⟩).elim
    | some i => exact ⟨i, by rw [Array.getElem?_eq_getElem hl, e]⟩
  let f : Nat → Nat := fun j => match owner[j]? with | some (some i) => i | _ => 0
  have hf : ∀ j, j ≤ mask → owner[j]? = some (some (f j)) := fun j hj => by
    obtain ⟨i, e⟩ := hall j hj
    show _ = some (some (match owner[j]? with | some (some i) => i | _ => 0))
    rw [e]
  have := @sub_len ((List.range (mask + 1)).map f) (List.range k) (by
    rw [List.Nodup, List.pairwise_map]
    refine List.Pairwise.imp_of_mem (fun {a b} ha hb hab e => ?_) (List.nodup_range (n := mask + 1))
    have ha := List.mem_range.mp ha
    have hb := List.mem_range.mp hb
    have h1 := hf a (by omega)
    have h2 := hf b (by omega)
    rw [e] at h1
    exact hab (L.one _ _ _ h1 h2)) fun x hx => by
      obtain ⟨j, hj, rfl⟩ := List.mem_map.mp hx
      exact List.mem_range.mpr (L.only j _ (hf j (by have := List.mem_range.mp hj; omega)))
  rw [List.length_map, List.length_range, List.length_range] at this
  omega
def layStep (mask : Nat) (acc : Option (Array (Option Nat) × Nat)) (h : Int) : Option (Array (Option Nat) × Nat) := do
    let (owner, k) ← acc
    let j ← layClean.free mask owner (turns mask) (bits h % (mask + 1)) (bits h)
    pure (owner.setIfInBounds j (some k), k + 1)
theorem lay_step {mask p : Nat} (hp : mask + 1 = 2 ^ p) {hs : List Int} {owner : Array (Option Nat)} {k : Nat} (L : Laid mask hs owner k) (hk : k < hs.length) (hm : hs.length ≤ mask) :
    ∃ owner', layStep mask (some (owner, k)) hs[k] = some (owner', k + 1) ∧ Laid mask hs owner' (k + 1) := by
  obtain ⟨j0, h1, h2⟩ := laid_free L (by omega)
  obtain ⟨r, r1, r2, r3⟩ := lpI_all hp hs[k] 0 h1
  obtain ⟨n, j, e1, e2, e3, e4, e5⟩ := free_spec L.size hs[k] (turns mask) 0 ⟨r, by omega, by unfold turns; omega, by rw [r3]; exact h2⟩
  refine ⟨owner.setIfInBounds j (some k), ?_, ?_⟩
  · have e1' : layClean.free mask owner (turns mask) (bits hs[k] % (mask + 1)) (bits hs[k]) = some j := e1
    show (layClean.free mask owner (turns mask) (bits hs[k] % (mask + 1)) (bits hs[k]) >>= fun j => pure (owner.setIfInBounds j (some k), k + 1)) = _
    rw [e1']; rfl
  have hj : j < owner.size := (Array.getElem?_eq_some_iff.mp e4).1
  have hself : (owner.setIfInBounds j (some k))[j]? = some (some k) := by simp [hj]
  have hoth : ∀ x, x ≠ j → (owner.setIfInBounds j (some k))[x]? = owner[x]? := fun x hx => by simp [Array.getElem?_setIfInBounds, Ne.symm hx]
  have up : ∀ x, takenIn owner x → takenIn (owner.setIfInBounds j (some k)) x := fun x ⟨i, hi⟩ => by
    by_cases c : x = j
    · subst c; exact ⟨k, hself⟩
    · exact ⟨i, by rw [hoth x c]; exact hi⟩
  refine ⟨by simp [L.size], fun x i hx => ?_, fun i x y hx hy => ?_, fun i hi hik => ?_⟩
  · by_cases c : x = j
    · subst c; rw [hself] at hx; cases hx; omega
    · rw [hoth x c] at hx; have := L.only x i hx; omega
  · by_cases c : x = j
    · by_cases d : y = j
      · rw [c, d]
      · subst c; rw [hself] at hx; cases hx
        rw [hoth y d] at hy; have := L.only y _ hy; omega
    · rw [hoth x c] at hx
      by_cases d : y = j
      · subst d; rw [hself] at hy; cases hy; have := L.only x _ hx; omega
      · rw [hoth y d] at hy; exact L.one i x y hx hy
  · by_cases c : i = k
    · subst c
      exact ⟨j, n, hself, e3, fun m hm => up _ (e5 m (Nat.zero_le _) hm)⟩
    · obtain ⟨x, n', q1, q2, q3⟩ := L.each i hi (by omega)
      refine ⟨x, n', ?_, q2, fun m hm => up _ (q3 m hm)⟩
      rw [hoth x (fun z => by subst z; rw [e4] at q1; cases q1)]
      exact q1
theorem lay_all {mask p : Nat} (hp : mask + 1 = 2 ^ p) (hs : List Int) (hm : hs.length ≤ mask) : ∀ (rest : List Int) (k : Nat) (owner : Array (Option Nat)), hs.drop k = rest → k ≤ hs.length → Laid mask hs owner k →
    ∃ owner', rest.foldl (layStep mask) (some (owner, k)) = some (owner', hs.length) ∧ Laid mask hs owner' hs.length
  | [], k, owner, e, hk, L => by
    have : k = hs.length := by have := congrArg List.length e; rw [List.length_drop] at this; simp at this; omega
    subst this
    exact ⟨owner, rfl, L⟩
  | x :: rest, k, owner, e, hk, L => by
    have hlt : k < hs.length := by have := congrArg List.length e; rw [List.length_drop] at this; simp at this; omega
    have hx : hs[k] = x ∧ hs.drop (k + 1) = rest := by
      rw [List.drop_eq_getElem_cons hlt] at e
      injection e with a b
      exact ⟨a, b⟩
    obtain ⟨o', e1, L'⟩ := lay_step hp L hlt hm
    rw [hx.1] at e1
    obtain ⟨o2, e2, L2⟩ := lay_all hp hs hm rest (k + 1) o' hx.2 hlt L'
    exact ⟨o2, by rw [List.foldl_cons, e1]; exact e2, L2⟩
theorem layClean_ok {mask p : Nat} (hp : mask + 1 = 2 ^ p) {hs : Array Int} (hm : hs.size ≤ mask) : ∃ owner, layClean mask hs = some owner ∧ Laid mask hs.toList owner hs.size := by
  obtain ⟨o, e, L⟩ := lay_all hp hs.toList (by simpa using hm) hs.toList 0 (Array.replicate (mask + 1) none) rfl (Nat.zero_le _)
    ⟨by simp, fun j i h => by simp [Array.getElem?_replicate] at h, fun i j j' h => by simp [Array.getElem?_replicate] at h, fun i _ h => by omega⟩
  refine ⟨o, ?_, by simpa using L⟩
  unfold layClean
  rw [← Array.foldl_toList]
  have e' : hs.toList.foldl (fun acc h => do
    let (owner, k) ← acc
    let j ← layClean.free mask owner (turns mask) (bits h % (mask + 1)) (bits h)
    pure (owner.setIfInBounds j (some k), k + 1)) (some (Array.replicate (mask + 1) none, 0)) = some (o, hs.toList.length) := e
  rw [e']
  rfl
/-- the slots that are taken, rising, and whose they are -/
def liveOf (mask : Nat) (owner : Array (Option Nat)) : List (Nat × Nat) := (List.range (mask + 1)).filterMap fun j => (owner.getD j none).map (j, ·)
theorem live_mem {mask : Nat} {owner : Array (Option Nat)} (hz : owner.size = mask + 1) {j i : Nat} : (j, i) ∈ liveOf mask owner ↔ owner[j]? = some (some i) := by
  unfold liveOf
  rw [List.mem_filterMap]
  constructor
  · rintro ⟨x, hx, e⟩
    have hx := List.mem_range.mp hx
    have hl : x < owner.size := by omega
    have : owner.getD x none = owner[x] := by simp [Array.getD, hl]
    rw [this] at e
    cases q : owner[x] with
    | none => rw [q] at e; simp at e
    | some y =>
      rw [q] at e
      simp at e
      obtain ⟨rfl, rfl⟩ := e
      rw [Array.getElem?_eq_getElem hl, q]
  · intro h
    obtain ⟨hl, e⟩ := Array.getElem?_eq_some_iff.mp h
    refine ⟨j, List.mem_range.mpr (by omega), ?_⟩
    simp [Array.getD, hl, e]
theorem live_rise (owner : Array (Option Nat)) (mask : Nat) : (liveOf mask owner).Pairwise fun a b => a.1 < b.1 := by
  unfold liveOf
  rw [List.pairwise_filterMap]
  refine List.Pairwise.imp (fun {a b} hab x hx y hy => ?_) (List.pairwise_lt_range (n := mask + 1))
  rw [Option.map_eq_some_iff] at hx hy
  obtain ⟨_, _, rfl⟩ := hx
  obtain ⟨_, _, rfl⟩ := hy
  exact hab
theorem perm_range {l : List Nat} {n : Nat} (hn : l.Nodup) (h : ∀ i, i ∈ l ↔ i < n) : l.Perm (List.range n) := by
  refine (List.perm_ext_iff_of_nodup hn List.nodup_range).mpr fun i => ?_
  rw [h i, List.mem_range]
theorem laid_ok {mask p : Nat} (hp : mask + 1 = 2 ^ p) (h3 : 3 ≤ p) {hs : Array Int} (hm : hs.size * 5 < mask * 3) (hsm : mask ≤ 8191) (fg mv : Nat) (led plain : Bool) :
    ∃ t order, SetTable.laid mask fg mv led plain hs = some (t, order) ∧ t.led = led ∧ t.mask = mask ∧ order.toList.Perm (List.range hs.size) ∧ WFT t (order.toList.map fun i => hs.getD i 0) := by
  obtain ⟨owner, e, L⟩ := layClean_ok hp (hs := hs) (by omega)
  refine ⟨_, _, by unfold SetTable.laid; rw [e]; rfl, rfl, rfl, ?_, ?_⟩
  · show ((liveOf mask owner).map (·.2)).toArray.toList.Perm _
    rw [List.toList_toArray]
    refine perm_range ?_ fun i => ?_
    · rw [List.Nodup, List.pairwise_map]
      refine List.Pairwise.imp_of_mem (fun {a b} ha hb hab z => ?_) (live_rise owner mask)
      have ha := (live_mem L.size (j := a.1) (i := a.2)).mp ha
      have hb := (live_mem L.size (j := b.1) (i := b.2)).mp hb
      rw [z] at ha
      have := L.one _ _ _ ha hb
      omega
    · rw [List.mem_map]
      constructor
      · rintro ⟨⟨j, i'⟩, hj, rfl⟩
        exact L.only j i' ((live_mem L.size).mp hj)
      · intro hi
        obtain ⟨j, n, e1, _⟩ := L.each i (by simpa using hi) hi
        exact ⟨(j, i), (live_mem L.size).mpr e1, rfl⟩
  · have hperm : ((liveOf mask owner).map (·.2)).Perm (List.range hs.size) := by
      refine perm_range ?_ fun i => ?_
      · rw [List.Nodup, List.pairwise_map]
        refine List.Pairwise.imp_of_mem (fun {a b} ha hb hab z => ?_) (live_rise owner mask)
        have ha := (live_mem L.size (j := a.1) (i := a.2)).mp ha
        have hb := (live_mem L.size (j := b.1) (i := b.2)).mp hb
        rw [z] at ha
        have := L.one _ _ _ ha hb
        omega
      · rw [List.mem_map]
        constructor
        · rintro ⟨⟨j, i'⟩, hj, rfl⟩
          exact L.only j i' ((live_mem L.size).mp hj)
        · intro hi
          obtain ⟨j, n, e1, _⟩ := L.each i (by simpa using hi) hi
          exact ⟨(j, i), (live_mem L.size).mpr e1, rfl⟩
    have hlen : (liveOf mask owner).length = hs.size := by
      have := hperm.length_eq
      rw [List.length_map, List.length_range] at this
      exact this
    refine ⟨⟨p, h3, hp⟩, hsm, rfl, ?_, fun j hj => ?_, ?_, ?_, fun i hi j hj => ?_⟩
    · show ((liveOf mask owner).map (·.1)).toArray.toList.Pairwise (· < ·)
      rw [List.toList_toArray, List.pairwise_map]
      exact live_rise owner mask
    · have hj : j ∈ ((liveOf mask owner).map (·.1)).toArray.toList := hj
      rw [List.toList_toArray] at hj
      obtain ⟨⟨a, b⟩, hab, rfl⟩ := List.mem_map.mp hj
      have := (Array.getElem?_eq_some_iff.mp ((live_mem L.size).mp hab)).1
      show a ≤ mask
      have := L.size
      omega
    · show ((liveOf mask owner).map (·.1)).toArray.size = (((liveOf mask owner).map (·.2)).toArray.toList.map _).length
      simp
    · show (((liveOf mask owner).map (·.2)).toArray.toList.map _).length * 5 < mask * 3
      rw [List.toList_toArray, List.length_map, List.length_map, hlen]
      exact hm
    · have hj : ((liveOf mask owner).map (·.1)).toArray[i]? = some j := hj
      rw [List.getElem?_toArray, List.getElem?_map] at hj
      have hi' : i < (liveOf mask owner).length := by simpa [liveOf] using hi
      rw [List.getElem?_eq_getElem hi'] at hj
      simp only [Option.map_some, Option.some.injEq] at hj
      have hmem : (liveOf mask owner)[i] ∈ liveOf mask owner := List.getElem_mem hi'
      have ho := (live_mem L.size (j := (liveOf mask owner)[i].1) (i := (liveOf mask owner)[i].2)).mp hmem
      have hlt := L.only _ _ ho
      obtain ⟨j', n, e1, e2, e3⟩ := L.each (liveOf mask owner)[i].2 (by simpa using hlt) hlt
      have hjj := L.one _ _ _ ho e1
      have hh : (((liveOf mask owner).map (·.2)).toArray.toList.map fun i => hs.getD i 0)[i]'(by simpa using hi') = hs.toList[(liveOf mask owner)[i].2]'(by simpa using hlt) := by
        simp [Array.getD, hlt]
      show ReachAt mask _ _ j
      refine ⟨n, ?_, fun m hm' => ?_⟩
      · have : (pAt mask ((((liveOf mask owner).map (·.2)).toArray.toList.map fun i => hs.getD i 0)[i]'(by simpa using hi')) n).j = j := by rw [hh, e2, ← hj, hjj]
        exact this
      · have h5 := e3 m hm'
        have : (pAt mask ((((liveOf mask owner).map (·.2)).toArray.toList.map fun i => hs.getD i 0)[i]'(by simpa using hi')) m).j ∈ ((liveOf mask owner).map (·.1)).toArray.toList := by
          rw [hh, List.toList_toArray]
          obtain ⟨i2, h6⟩ := h5
          exact List.mem_map.mpr ⟨(_, i2), (live_mem L.size).mpr h6, rfl⟩
        exact this
theorem sizeAbove_go : ∀ fuel size n, (∃ k, 3 ≤ k ∧ size = 2 ^ k) → n < size * 2 ^ fuel → ∃ k, 3 ≤ k ∧ sizeAbove.go n fuel size = 2 ^ k ∧ n < sizeAbove.go n fuel size
  | 0, size, n, ⟨k, hk, e⟩, h => ⟨k, hk, e, by simpa [sizeAbove.go] using h⟩
  | fuel + 1, size, n, ⟨k, hk, e⟩, h => by
    unfold sizeAbove.go
    by_cases c : size ≤ n
    · rw [if_pos c]
      exact sizeAbove_go fuel (size * 2) n ⟨k + 1, by omega, by rw [Nat.pow_succ, e]⟩ (by rw [Nat.mul_assoc, ← Nat.pow_succ']; exact h)
    · rw [if_neg c]
      exact ⟨k, hk, e, by omega⟩
theorem sizeAbove_ok {n : Nat} (h : n < 2 ^ 60) : ∃ k, 3 ≤ k ∧ sizeAbove n = 2 ^ k ∧ n < sizeAbove n :=
  sizeAbove_go 64 8 n ⟨3, by decide, rfl⟩ (Nat.lt_trans h (by decide))
theorem sizeAbove_le : ∀ fuel size n k, (∃ q, q ≤ k ∧ size = 2 ^ q) → n < 2 ^ k → sizeAbove.go n fuel size ≤ 2 ^ k
  | 0, size, n, k, ⟨q, h1, h2⟩, h => by unfold sizeAbove.go; rw [h2]; exact Nat.pow_le_pow_right (by decide) h1
  | fuel + 1, size, n, k, ⟨q, h1, h2⟩, h => by
    unfold sizeAbove.go
    by_cases c : size ≤ n
    · rw [if_pos c]
      refine sizeAbove_le fuel (size * 2) n k ⟨q + 1, ?_, by rw [h2, Nat.pow_succ]⟩ h
      refine Classical.byContradiction fun z => ?_
      have : q = k := by omega
      subst this
      omega
    · rw [if_neg c, h2]; exact Nat.pow_le_pow_right (by decide) h1
end TS
set_option Elab.async false
set_option linter.all false
set_option maxRecDepth 100000
set_option maxHeartbeats 4000000
namespace TL
open PySem TS

section
variable {prog : Program} {w : World} {K : Type} [DecidableEq K] {knd : KeyKind prog w K} {A : Around} {E : Value → Shared → Prop} {s : Shared}
theorem ofClass_byValue (n : Nat) {v : Value} (h : carriedByValue v = true) : ofAClassStatement n v = pure false := by
  cases v with
  | ref a => simp [carriedByValue] at h
  | _ => unfold ofAClassStatement; rfl
theorem wp_ofClass {ks : List K} {a : Addr} {Q : Bool → Shared → Prop} (hk : IsTupleKey knd s.heap ks a) (h : Q false s) : wpAny (model prog w) A (ofAClassStatement 8 (.ref a)) Q E s := by
  have hT := hk.typeIs
  obtain ⟨o, items, n, ho, _, hd, hi⟩ := hk
  unfold ofAClassStatement
  refine wpAny_bind (wpAny_typeOf hT ?_)
  dsimp only
  rw [if_pos (beq_self_eq_true _)]
  refine wpAny_bind (wpAny_pure ?_)
  simp only [Bool.not_true, Bool.false_eq_true, if_false]
  refine wpAny_bind (wpAny_seqItems ho hd ?_)
  dsimp only
  refine wpAny_bind ?_
  rw [← Array.forIn_toList]
  refine wpAny_forIn_list _ (fun rest r s' => r.1 = none ∧ s' = s ∧ ∀ v ∈ rest, carriedByValue v = true) _ ?_ ?_ _ _ ⟨rfl, rfl, hi.byValue⟩
  · rintro v rest r s' ⟨hr, rfl, hall⟩
    rw [ofClass_byValue _ (hall v List.mem_cons_self)]
    refine wpAny_bind (wpAny_pure ?_)
    simp only [Bool.false_eq_true, if_false]
    exact wpAny_pure ⟨rfl, rfl, fun u hu' => hall u (List.mem_cons_of_mem _ hu')⟩
  · rintro ⟨r1, r2⟩ s' ⟨hr, rfl, _⟩
    simp only at hr
    subst hr
    exact wpAny_pure h
theorem hashBy_scal (n : Nat) {v : Value} (h : v.scannable = true) : ∃ b, hashByValue n v = pure b := ⟨_, hashByValue_scannable n h⟩
theorem wp_hashBy {ks : List K} {a : Addr} {Q : Bool → Shared → Prop} (hk : IsTupleKey knd s.heap ks a) (hsc : ∀ k v, knd.is k v = true → v.scannable = true) (h : ∀ b, Q b s) : wpAny (model prog w) A (hashByValue 8 (.ref a)) Q E s := by
  have hT := hk.typeIs
  obtain ⟨o, items, n, ho, _, hd, hi⟩ := hk
  have hall : ∀ {x : List K} {vs : List Value}, ItemsAre knd x vs → ∀ v ∈ vs, v.scannable = true := by
    intro x vs hx
    induction hx with
    | nil => intro v hv; simp at hv
    | @cons k v' ks vs h1 _ ih =>
      intro v hv
      rcases List.mem_cons.mp hv with rfl | hv
      · exact hsc _ _ h1
      · exact ih v hv
  unfold hashByValue
  refine wpAny_bind (wpAny_specialOf hT F.slot_tuple_hash.lookup ?_)
  show wpAny _ _ (seqItems? (.ref a) >>= _) _ _ s
  refine wpAny_bind (wpAny_seqItems ho hd ?_)
  refine wpAny_bind ?_
  show wpAny _ _ (forIn items _ _) _ _ s
  rw [← Array.forIn_toList]
  refine wpAny_forIn_list _ (fun rest r s' => r.1 = none ∧ s' = s ∧ ∀ v ∈ rest, v.scannable = true) _ ?_ ?_ _ _ ⟨rfl, rfl, hall hi⟩
  · rintro v rest r s' ⟨hr, rfl, hall⟩
    obtain ⟨b, e⟩ := hashBy_scal 7 (hall v List.mem_cons_self)
    rw [e]
    refine wpAny_bind (wpAny_pure ?_)
    cases b with
    | true =>
      simp only [Bool.not_true, Bool.false_eq_true, if_false]
      exact wpAny_pure ⟨rfl, rfl, fun u hu' => hall u (List.mem_cons_of_mem _ hu')⟩
    | false =>
      simp only [Bool.not_false, if_true]
      exact wpAny_pure (wpAny_pure (h _))
  · rintro ⟨r1, r2⟩ s' ⟨hr, rfl, _⟩
    simp only at hr
    subst hr
    exact wpAny_pure (h _)
theorem wp_seen {ks : List K} {a : Addr} {Q : Bool → Shared → Prop} (hk : IsTupleKey knd s.heap ks a) {ys : List Value} (hy : ∀ y ∈ ys, ∃ b js, y = .ref b ∧ IsTupleKey knd s.heap js b) (h : Q false s) :
    wpAny (model prog w) A (searchCouldBeSeen (.ref a) ys) Q E s := by
  unfold searchCouldBeSeen
  refine wpAny_bind ?_
  refine wpAny_forIn_list _ (fun rest r s' => r.1 = none ∧ s' = s ∧ ∀ v ∈ rest, v ∈ ys) _ ?_ ?_ _ _ ⟨rfl, rfl, fun _ h => h⟩
  · rintro v rest r s' ⟨hr, rfl, hall⟩
    obtain ⟨b, js, rfl, hb⟩ := hy v (hall v List.mem_cons_self)
    dsimp only
    by_cases c : (a == b || carriedByValue (Value.ref a) && carriedByValue (Value.ref b)) = true
    · rw [if_pos c]
      exact wpAny_pure ⟨rfl, rfl, fun u hu' => hall u (List.mem_cons_of_mem _ hu')⟩
    · rw [if_neg c]
      refine wpAny_bind (wpAny_eqIsQuiet_tuple hk ?_)
      simp only [Bool.not_true, Bool.false_eq_true, if_false]
      refine wpAny_bind (wpAny_eqIsQuiet_tuple hb ?_)
      simp only [Bool.not_true, Bool.false_eq_true, if_false]
      refine wpAny_bind (wp_ofClass hk ?_)
      simp only [Bool.false_eq_true, if_false]
      refine wpAny_bind (wp_ofClass hb ?_)
      simp only [Bool.false_eq_true, if_false]
      exact wpAny_pure ⟨rfl, rfl, fun u hu' => hall u (List.mem_cons_of_mem _ hu')⟩
  · rintro ⟨r1, r2⟩ s' ⟨hr, rfl, _⟩
    simp only at hr
    subst hr
    exact wpAny_pure h

theorem wp_led {α : Type} {c : Bool} {m : Sem Bool} {T U : Sem α} {Q : α → Shared → Prop} (h : wpAny (model prog w) A m (fun b s' => b = false ∧ s' = s) E s) (hT : wpAny (model prog w) A T Q E s) :
    wpAny (model prog w) A (if c = true then m >>= fun b => if b = true then U else T else T) Q E s := by
  cases c with
  | false => rw [if_neg Bool.false_ne_true]; exact hT
  | true =>
    rw [if_pos rfl]
    refine wpAny_bind (wpAny_mono h (fun b s' hb => ?_) fun _ _ h' => h')
    obtain ⟨rfl, rfl⟩ := hb
    rw [if_neg Bool.false_ne_true]
    exact hT

/-! ### a set of tuples -/
def entS (knd : KeyKind prog w K) (x : List K × Addr) : Int × Value := (tupleKeyHash knd x.1, .ref x.2)
def SetH (knd : KeyKind prog w K) (h : Heap) (a : Addr) (xs : List (List K × Addr)) : Prop :=
  ∃ o es ep t, h.get? a = some o ∧ o.ExactSet ∧ o.data = .set es ep t ∧ es.toList = xs.map (entS knd) ∧ (xs.map (·.1)).Nodup ∧ WFT t (xs.map fun x => tupleKeyHash knd x.1)
theorem getS {es : Array (Int × Value)} {xs : List (List K × Addr)} (he : es.toList = xs.map (entS knd)) (i : Nat) : es[i]? = (xs[i]?).map (entS knd) := by
  rw [← Array.getElem?_toList, he, List.getElem?_map]
theorem wp_searchFrom {a b : Addr} {o : Obj} {es : Array (Int × Value)} {ep : Nat} {t : SetTable} {xs : List (List K × Addr)} {k : List K} {adding : Bool} {Q : SetFound → Shared → Prop} (hu : A.units < cLine)
    (ho : s.heap.get? a = some o) (hd : o.data = .set es ep t) (he : es.toList = xs.map (entS knd)) (hnd : (xs.map (·.1)).Nodup) (W : WFT t (xs.map fun x => tupleKeyHash knd x.1))
    (hx : ∀ x ∈ xs, IsTupleKey knd s.heap x.1 x.2) (hk : IsTupleKey knd s.heap k b) (m0 : Nat) (hm0 : (pAt t.mask (tupleKeyHash knd k) m0).j ∉ t.place.toList) (hm1 : ∀ m, m < m0 → (pAt t.mask (tupleKeyHash knd k) m).j ∈ t.place.toList)
    (hthere : ∀ (i : Nat) y, xs[i]? = some (k, y) → Q (.there (if adding then none else some i)) s) (hfree : k ∉ xs.map (·.1) → Q (.free (pAt t.mask (tupleKeyHash knd k) m0).j false) s) :
    ∀ (fuel n : Nat) (st : Option SetTable.Probe), m0 < fuel + n → n ≤ m0 → st.getD (t.probeStart (tupleKeyHash knd k)) = pAt t.mask (tupleKeyHash knd k) n → (∀ m, m < n → ∀ (i : Nat) y, t.place[i]? = some (pAt t.mask (tupleKeyHash knd k) m).j → xs[i]? ≠ some (k, y)) →
      wpAny (model prog w) A (setSearchFrom a (.ref b) (tupleKeyHash knd k) adding fuel st) Q E s := by
  intro fuel
  induction fuel with
  | zero => intro n st h1 h2; omega
  | succ fuel ih =>
    intro n st h1 h2 hst hbef
    have hsz : es.size = xs.length := by rw [← Array.length_toList, he, List.length_map]
    have hfit : t.fits es.size = true := by have := W.fits; rw [List.length_map] at this; rw [hsz]; exact this
    unfold setSearchFrom
    refine wpAny_bind (wpAny_setState_of ho hd hfit ?_)
    dsimp only
    rw [W.gave]
    simp only [Bool.false_eq_true, if_false]
    rw [hst]
    obtain ⟨m, g1, g2, g3, g4⟩ := probe_ends W (ha := fun i => (es[i]?.map (·.1)).getD 0) (h := tupleKeyHash knd k) (fun i hi => by
      rw [List.length_map] at hi
      show ((es[i]?).map (·.1)).getD 0 = _
      rw [getS he, List.getElem?_eq_getElem hi, List.getD_eq_getElem?_getD, List.getElem?_map, List.getElem?_eq_getElem hi]; rfl) n
    generalize hP : t.probe _ (tupleKeyHash knd k) (pAt t.mask (tupleKeyHash knd k) n) = P
    have hP' : P = some (hitRes t (tupleKeyHash knd k) m) := by rw [← hP]; exact g4
    subst hP'
    dsimp only
    have hmm : m ≤ m0 := Classical.byContradiction fun c => g3 m0 h2 (by omega) (.inl hm0)
    unfold hitRes
    have hno : ∀ q, q < m → ∀ (i : Nat) y, t.place[i]? = some (pAt t.mask (tupleKeyHash knd k) q).j → xs[i]? ≠ some (k, y) := fun q hq i y hp hxi => by
      by_cases c : q < n
      · exact hbef q c i y hp hxi
      · refine g3 q (by omega) hq (.inr ⟨i, hp, ?_⟩)
        rw [List.getD_eq_getElem?_getD, List.getElem?_map, hxi]; rfl
    by_cases hin : (pAt t.mask (tupleKeyHash knd k) m).j ∈ t.place.toList
    · obtain ⟨i, hi⟩ := Array.mem_iff_getElem?.mp (Array.mem_toList_iff.mp hin)
      rw [slot_live W.rise hi]
      dsimp only
      have hil : i < xs.length := by have := (Array.getElem?_eq_some_iff.mp hi).1; rw [W.len, List.length_map] at this; exact this
      have hxi : xs[i]? = some (xs[i].1, xs[i].2) := List.getElem?_eq_getElem hil
      have hei : es[i]? = some (tupleKeyHash knd xs[i].1, .ref xs[i].2) := by rw [getS he, hxi]; rfl
      have hki := hx xs[i] (List.getElem_mem hil)
      refine wp_led (wp_seen hk (fun y hy => ?_) ⟨rfl, rfl⟩) ?_
      · obtain ⟨z, hz, rfl⟩ := List.mem_map.mp hy
        rw [Array.toList_filter] at hz
        have hz := (List.mem_filter.mp hz).1
        rw [he] at hz
        obtain ⟨q, hq, rfl⟩ := List.mem_map.mp hz
        exact ⟨q.2, q.1, rfl, hx q hq⟩
      rw [hei]
      dsimp only
      refine wpAny_bind (wpAny_holding (wpAny_eqBool_tuple hu hki hk ?_))
      refine wpAny_bind (wpAny_setState_of ho hd hfit ?_)
      dsimp only
      by_cases hkk : xs[i].1 = k
      · have hxi' : xs[i]? = some (k, xs[i].2) := by rw [← hkk]; exact hxi
        rw [decide_eq_true hkk]
        have q := hthere i _ hxi'
        cases adding with
        | true =>
          simp only [Bool.and_self, if_true]
          exact wpAny_pure q
        | false =>
          simp only [Bool.false_and, Bool.false_eq_true, if_false]
          have hsm : t.sameMemory t.moves t.mask = some true := by unfold SetTable.sameMemory; simp
          rw [hsm]
          simp only [if_true]
          rw [slot_live W.rise hi]
          dsimp only
          rw [hei]
          dsimp only
          refine wpAny_bind (wpAny_isSame_ref_self ?_)
          refine wpAny_bind (wpAny_pure ?_)
          simp only [if_true]
          exact wpAny_pure q
      · rw [decide_eq_false hkk]
        simp only [Bool.and_false, Bool.false_eq_true, if_false]
        have hsm : t.sameMemory t.moves t.mask = some true := by unfold SetTable.sameMemory; simp
        rw [hsm]
        simp only [if_true]
        rw [slot_live W.rise hi]
        dsimp only
        rw [hei]
        dsimp only
        refine wpAny_bind (wpAny_isSame_ref_self ?_)
        refine wpAny_bind (wpAny_pure ?_)
        simp only [if_true]
        have hne : m ≠ m0 := fun z => hm0 (by rw [← z]; exact hin)
        refine ih (m + 1) (some _) (by omega) (by omega) rfl fun q hq i' y hp hxi' => ?_
        by_cases c : q < m
        · exact hno q c i' y hp hxi'
        · have : q = m := by omega
          subst this
          have e1 := below_at W.rise hp
          have e2 := below_at W.rise hi
          have : i' = i := by omega
          subst this
          rw [hxi] at hxi'
          cases hxi'
          exact hkk rfl
    · rw [slot_empty W.dum hin]
      dsimp only
      have hme : m = m0 := Classical.byContradiction fun c => hin (hm1 m (by omega))
      subst hme
      refine wpAny_pure (hfree fun hmem => ?_)
      obtain ⟨x, hx1, hx2⟩ := List.mem_map.mp hmem
      obtain ⟨i, hi1⟩ := List.mem_iff_getElem?.mp hx1
      have hil : i < xs.length := (List.getElem?_eq_some_iff.mp hi1).1
      have hip : i < t.place.size := by rw [W.len, List.length_map]; exact hil
      have hxk : xs[i].1 = k := by rw [← hx2]; congr 1; exact (List.getElem?_eq_some_iff.mp hi1).2
      obtain ⟨nn, r1, r2⟩ := W.reach i (by rw [List.length_map]; exact hil) _ (Array.getElem?_eq_getElem hip)
      have hh : (xs.map fun x => tupleKeyHash knd x.1)[i]'(by rw [List.length_map]; exact hil) = tupleKeyHash knd k := by rw [List.getElem_map, hxk]
      rw [hh] at r1 r2
      rcases Nat.lt_trichotomy nn m with c | c | c
      · exact hno nn c i x.2 (by rw [r1]; exact Array.getElem?_eq_getElem hip) (by rw [hi1, ← hx2])
      · subst c
        exact hin (by rw [r1]; simp)
      · exact hin (r2 m c)
end
end TL
set_option Elab.async false
set_option linter.all false
set_option maxRecDepth 100000
set_option maxHeartbeats 4000000
namespace TL
open PySem TS
section
variable {prog : Program} {w : World} {K : Type} [DecidableEq K] {knd : KeyKind prog w K} {A : Around} {E : Value → Shared → Prop} {s : Shared}
theorem wft_empty {t : SetTable} {hs : List Int} (W : WFT t hs) (h : Int) : ∃ m0, m0 < 100000 ∧ (pAt t.mask h m0).j ∉ t.place.toList ∧ ∀ m, m < m0 → (pAt t.mask h m).j ∈ t.place.toList := by
  obtain ⟨k, _, hk⟩ := W.pow
  obtain ⟨j, hj, hf⟩ := @some_free t.place.toList t.mask (by
    have := W.room; have h1 := W.len
    rw [Array.length_toList]; omega)
  obtain ⟨m, h1, h2, e⟩ := pAt_all hk h 0 hj
  obtain ⟨e', h3, h4, h5⟩ := first_hit (P := fun n => (pAt t.mask h n).j ∉ t.place.toList) m 0 (by rw [Nat.zero_add, e]; exact hf)
  rw [Nat.zero_add] at h4
  refine ⟨e', ?_, h4, fun q hq => Classical.byContradiction fun c => h5 q (Nat.zero_le _) (by omega) c⟩
  have := W.small
  unfold SetTable.turns at h2
  omega
theorem wp_search {a b : Addr} {o : Obj} {es : Array (Int × Value)} {ep : Nat} {t : SetTable} {xs : List (List K × Addr)} {k : List K} {adding : Bool} {Q : SetFound → Shared → Prop} (hu : A.units < cLine)
    (ho : s.heap.get? a = some o) (hd : o.data = .set es ep t) (he : es.toList = xs.map (entS knd)) (hnd : (xs.map (·.1)).Nodup) (W : WFT t (xs.map fun x => tupleKeyHash knd x.1))
    (hx : ∀ x ∈ xs, IsTupleKey knd s.heap x.1 x.2) (hk : IsTupleKey knd s.heap k b)
    (hthere : ∀ (i : Nat) y, xs[i]? = some (k, y) → Q (.there (if adding then none else some i)) s)
    (hfree : k ∉ xs.map (·.1) → ∀ m0, (pAt t.mask (tupleKeyHash knd k) m0).j ∉ t.place.toList → (∀ m, m < m0 → (pAt t.mask (tupleKeyHash knd k) m).j ∈ t.place.toList) → Q (.free (pAt t.mask (tupleKeyHash knd k) m0).j false) s) :
    wpAny (model prog w) A (setSearch a (.ref b) (tupleKeyHash knd k) adding) Q E s := by
  obtain ⟨m0, g1, g2, g3⟩ := wft_empty W (tupleKeyHash knd k)
  exact wp_searchFrom hu ho hd he hnd W hx hk m0 g2 g3 hthere (fun h => hfree h m0 g2 g3) 100000 0 none (by omega) (Nat.zero_le _) rfl fun m hm => by omega
theorem byScan_ref (b : Addr) (es : Array (Int × Value)) : byScan (.ref b) es = false := by simp [byScan, Value.scannable]
theorem wp_findH {a b : Addr} {xs : List (List K × Addr)} {k : List K} {Q : Option Nat → Shared → Prop} (hu : A.units < cLine) (hS : SetH knd s.heap a xs) (hx : ∀ x ∈ xs, IsTupleKey knd s.heap x.1 x.2) (hk : IsTupleKey knd s.heap k b)
    (h : ∀ r : Option Nat, r.isSome = decide (k ∈ xs.map (·.1)) → Q r s) : wpAny (model prog w) A (setFind a (.ref b) (tupleKeyHash knd k)) Q E s := by
  obtain ⟨o, es, ep, t, ho, hex, hd, he, hnd, W⟩ := hS
  have hsz : es.size = xs.length := by rw [← Array.length_toList, he, List.length_map]
  have hfit : t.fits es.size = true := by have := W.fits; rw [List.length_map] at this; rw [hsz]; exact this
  unfold setFind setFindIn
  refine wpAny_bind (wpAny_setState_of ho hd hfit ?_)
  dsimp only
  rw [byScan_ref]
  simp only [Bool.false_eq_true, if_false]
  refine wpAny_bind (wp_search hu ho hd he hnd W hx hk (fun i y hi => ?_) fun hn m0 _ _ => ?_)
  · refine wpAny_pure (h _ ?_)
    have : k ∈ xs.map (·.1) := List.mem_map.mpr ⟨_, List.mem_of_getElem? hi, rfl⟩
    simp [this]
  · refine wpAny_pure (h _ ?_)
    rw [decide_eq_false hn]; rfl
theorem SetH.typeIs {a : Addr} {xs : List (List K × Addr)} (hS : SetH knd s.heap a xs) : s.TypeIs (.ref a) "set" := let ⟨o, _, _, _, ho, hc, _⟩ := hS; ⟨o, ho, hc.1⟩
theorem SetH.noDict {a : Addr} {xs : List (List K × Addr)} (hS : SetH knd s.heap a xs) : ∀ b, Value.ref a = .ref b → ∃ ob, s.heap.get? b = some ob ∧ ob.dict = none :=
  fun b e => by injection e with e; subst e; exact let ⟨o, _, _, _, ho, hc, _⟩ := hS; ⟨o, ho, hc.2.1⟩
theorem wp_containsH {a b : Addr} {xs : List (List K × Addr)} {k : List K} {Q : Bool → Shared → Prop} (hu : A.units + 1 < cLine) (hS : SetH knd s.heap a xs) (hx : ∀ x ∈ xs, IsTupleKey knd s.heap x.1 x.2) (hk : IsTupleKey knd s.heap k b)
    (h : ∀ c : Bool, (c = true ↔ k ∈ xs.map (·.1)) → Q c { s with toks := s.toks + (k.length + 1) }) : wpAny (model prog w) A (contains (.ref a) (.ref b)) Q E s := by
  unfold contains
  try with_reducible refine wpAny_holding ?_
  refine wpAny_bind (wpAny_specialOf hS.typeIs F.slot_set_contains.lookup ?_)
  show wpAny _ _ (if (some (Value.builtin "set.__contains__") == some Value.none) = true then _ else _) _ E s
  rw [if_neg (by rw [beq_builtin_none]; exact Bool.false_ne_true)]
  refine wpAny_bind (wpAny_callSpecialUnlessNone?_slot (name := Str.ofString "__contains__") hS.typeIs F.slot_set_contains
    (wpAny_call_entry F.slot_set_contains hS.typeIs entry_set_contains ?_ (F.args_set_contains_2 _ _)))
  unfold Builtin.«frozenset.__contains__» Builtin.Frozenset.oneOther
  simp only [List.isEmpty_nil, bind_assoc]
  unfold Builtin.Frozenset.addrOf Builtin.Frozenset.withSetAsKey setContains
  refine wpAny_bind (wpAny_pure ?_)
  try dsimp only
  refine wpAny_bind (wpAny_pure ?_)
  try dsimp only
  refine wpAny_bind (wpAny_tryCatch ?_)
  refine wpAny_holding ?_
  refine wpAny_bind (wpAny_pyHash_tuple (tupleKind_room_in1 (knd := knd) hu) hk ?_)
  refine wpAny_bind (wp_findH (s := { s with toks := s.toks + (k.length + 1) }) (tupleKind_room_in1 (knd := knd) hu) hS hx hk fun r hr => ?_)
  refine wpAny_pure ?_
  show wpAny _ _ (ret (Value.bool r.isSome)) _ _ _
  rw [hr]
  exact wpAny_pure ⟨_, rfl, wpAny_truthy_bool (h _ decide_eq_true_iff)⟩
theorem storeS {h : Heap} {a : Addr} {o : Obj} {es : Array (Int × Value)} {ep : Nat} {t : SetTable} (ho : h.get? a = some o) (hd : o.data = .set es ep t) (es' : Array (Int × Value)) (t' : SetTable) :
    (h.update a (Obj.putSet es' t')).get? a = some { o with data := .set es' (ep + 1) t' } := by
  have := Heap.get?_update_self (Obj.putSet es' t') ho (by rw [putSet_of es' t' hd]; rfl)
  rw [putSet_of es' t' hd] at this; exact this
theorem perm_map_getD {α : Type} {order : List Nat} {xs : List α} (hp : order.Perm (List.range xs.length)) : (order.filterMap fun i => xs[i]?).Perm xs := by
  have := hp.filterMap (fun i => xs[i]?)
  rw [List.filterMap_getElem?_range_length] at this
  exact this
theorem filterMap_map_order {α β : Type} (f : α → β) {order : List Nat} {xs : List α} : (order.filterMap fun i => (xs.map f)[i]?) = (order.filterMap fun i => xs[i]?).map f := by
  rw [List.map_filterMap]
  congr 1
  funext i
  rw [List.getElem?_map]
theorem order_hash {order : List Nat} {hs : List Int} (hp : order.Perm (List.range hs.length)) : (order.map fun i => hs.getD i 0) = order.filterMap fun i => hs[i]? := by
  have hall : ∀ i ∈ order, i < hs.length := fun i hi => List.mem_range.mp (hp.mem_iff.mp hi)
  clear hp
  induction order with
  | nil => rfl
  | cons x l ih =>
    have hx := hall x List.mem_cons_self
    rw [List.map_cons, List.filterMap_cons, List.getElem?_eq_getElem hx, ih fun i hi => hall i (List.mem_cons_of_mem _ hi), List.getD_eq_getElem?_getD, List.getElem?_eq_getElem hx]
    rfl
theorem insert_map {α β : Type} (f : α → β) (xs : List α) (x : α) (p : Nat) : (xs.map f).take p ++ f x :: (xs.map f).drop p = (xs.take p ++ x :: xs.drop p).map f := by
  rw [List.map_append, List.map_cons, List.map_take, List.map_drop]
theorem wp_addTailH {a b : Addr} {o : Obj} {es : Array (Int × Value)} {ep : Nat} {t : SetTable} {xs : List (List K × Addr)} {k : List K} {Q : Bool → Shared → Prop}
    (ho : s.heap.get? a = some o) (hex : o.ExactSet) (hd : o.data = .set es ep t) (he : es.toList = xs.map (entS knd)) (hnd : (xs.map (·.1)).Nodup) (W : WFT t (xs.map fun x => tupleKeyHash knd x.1)) (hroom : xs.length < 2000)
    (hn : k ∉ xs.map (·.1)) {m0 : Nat} (g1 : (pAt t.mask (tupleKeyHash knd k) m0).j ∉ t.place.toList) (g2 : ∀ m, m < m0 → (pAt t.mask (tupleKeyHash knd k) m).j ∈ t.place.toList)
    (hnew : ∀ h' xs', Heap.SameBut a s.heap h' → SetH knd h' a xs' → xs'.Perm (xs ++ [(k, b)]) → Q true { s with heap := h' }) {t2 : SetTable} {c : Bool} (ht : t2 = { (t.put (pAt t.mask (tupleKeyHash knd k) m0).j).1 with plain := c }) {n : Nat} (hnn : n = es.size + 1) :
    wpAny (model prog w) A (do
      storeSet a (SetTable.insertAt es (t.put (pAt t.mask (tupleKeyHash knd k) m0).j).2 (tupleKeyHash knd k, Value.ref b)) t2
      if (!false && t2.tooFull) = true then do
        setRelay a (SetTable.grown n)
        pure true
      else pure true) Q E s := by
  have hsz : es.size = xs.length := by rw [← Array.length_toList, he, List.length_map]
  generalize hp : (t.put (pAt t.mask (tupleKeyHash knd k) m0).j).2 = p
  have hp' : p = SetTable.below t.place (pAt t.mask (tupleKeyHash knd k) m0).j := by rw [← hp]; rfl
  have hple : p ≤ xs.length := by
    have h1 := (below_spec W.rise (pAt t.mask (tupleKeyHash knd k) m0).j).1
    have h2 := W.len
    rw [List.length_map] at h2
    omega
  generalize hes : SetTable.insertAt es p (tupleKeyHash knd k, Value.ref b) = es1
  have he1 : es1.toList = (xs.take p ++ (k, b) :: xs.drop p).map (entS knd) := by
    rw [← hes, SetTable.toList_insertAt, he]
    exact insert_map (entS knd) xs (k, b) p
  have hperm : (xs.take p ++ (k, b) :: xs.drop p).Perm (xs ++ [(k, b)]) := by
    refine List.perm_middle.trans ?_
    rw [List.take_append_drop]
    exact (List.perm_append_singleton (k, b) xs).symm
  have hl1 : (xs.take p ++ (k, b) :: xs.drop p).length = xs.length + 1 := by rw [hperm.length_eq]; simp
  have hs1 : es1.size = xs.length + 1 := by rw [← Array.length_toList, he1, List.length_map, hl1]
  have hnd1 : ((xs.take p ++ (k, b) :: xs.drop p).map (·.1)).Nodup := by
    refine (hperm.map (·.1)).nodup_iff.mpr ?_
    rw [List.map_append]
    refine List.nodup_append.mpr ⟨hnd, by simp, fun x hx y hy => ?_⟩
    simp at hy
    subst hy
    exact fun z => hn (z ▸ hx)
  have hh1 : (xs.take p ++ (k, b) :: xs.drop p).map (fun x => tupleKeyHash knd x.1) = (xs.map fun x => tupleKeyHash knd x.1).take p ++ tupleKeyHash knd k :: (xs.map fun x => tupleKeyHash knd x.1).drop p :=
    (insert_map (fun x => tupleKeyHash knd x.1) xs (k, b) p).symm
  have hmask : t2.mask = t.mask := by rw [ht]; rfl
  have hpl2 : t2.place.size = xs.length + 1 := by
    have h2 := W.len
    rw [List.length_map] at h2
    have : t2.place = SetTable.insertAt t.place p (pAt t.mask (tupleKeyHash knd k) m0).j := by rw [ht, hp']; rfl
    rw [this, ← Array.length_toList, SetTable.toList_insertAt, List.length_append, List.length_cons, List.length_take, List.length_drop, Array.length_toList]
    omega
  have hdum2 : t2.dummies = #[] := by
    rw [ht]
    show (if SetTable.has t.dummies _ then SetTable.eraseAt t.dummies _ else t.dummies) = #[]
    rw [W.dum]
    simp [SetTable.has]
  have hfill : t2.fill = xs.length + 1 := by unfold SetTable.fill; rw [hpl2, hdum2]; rfl
  have hroomW := W.room
  rw [List.length_map] at hroomW
  have h7 : 7 ≤ t.mask := by
    obtain ⟨q, q1, q2⟩ := W.pow
    have : 2 ^ 3 ≤ 2 ^ q := Nat.pow_le_pow_right (by decide) q1
    omega
  have hz1 : es1.size ≤ sizeLine := by rw [hs1, sizeLine_eq]; omega
  refine wpAny_bind (wpAny_storeSet_of ho hd ?_ hz1)
  have ho1 := storeS ho hd es1 t2
  have sb1 : Heap.SameBut a s.heap (s.heap.update a (Obj.putSet es1 t2)) := Heap.SameBut.update s.heap a (Obj.putSet es1 t2)
  by_cases full : t2.tooFull = true
  · rw [full]
    simp only [Bool.not_false, Bool.and_self, if_true]
    unfold setRelay
    have hfit1 : t2.fits es1.size = true := by
      simp only [SetTable.fits, hfill, hpl2, hs1, beq_self_eq_true, Bool.true_and, decide_eq_true_eq, hmask]
      omega
    refine wpAny_bind (wpAny_bind (wpAny_setState_of (s := { s with heap := s.heap.update a (Obj.putSet es1 t2) }) ho1 rfl hfit1 ?_))
    dsimp only
    have hgr : SetTable.grown n = 4 * (xs.length + 1) := by
      unfold SetTable.grown
      rw [if_neg (by omega)]
      omega
    obtain ⟨q, q1, q2, q3⟩ := sizeAbove_ok (n := SetTable.grown n) (by rw [hgr]; omega)
    have hle : SetTable.sizeAbove (SetTable.grown n) ≤ 2 ^ 13 := sizeAbove_le 64 8 _ 13 ⟨3, by decide, rfl⟩ (by rw [hgr]; omega)
    rw [if_neg (by rw [sizeLine_eq]; omega)]
    generalize hbig : SetTable.sizeAbove (SetTable.grown n) = big at q2 q3 hle
    have hhs : (es1.map (·.1)).toList = (xs.take p ++ (k, b) :: xs.drop p).map (fun x => tupleKeyHash knd x.1) := by
      rw [Array.toList_map, he1, List.map_map]; rfl
    have hhsz : (es1.map (·.1)).size = xs.length + 1 := by rw [Array.size_map]; exact hs1
    have hb8 : 2 ^ 13 = 8192 := by decide
    obtain ⟨t3, order, e3, _, _, pe, W3⟩ := laid_ok (mask := big - 1) (p := q) (by omega) q1 (hs := es1.map (·.1)) (by rw [hhsz]; omega) (by omega) t2.finger (t2.movedTo (big - 1)) t2.led t2.plain
    have e3' : t2.relaid (es1.map (·.1)) (SetTable.grown n) = some (t3, order) := by
      unfold SetTable.relaid
      rw [hbig]; exact e3
    rw [e3']
    refine wpAny_bind ?_
    have pe' : order.toList.Perm (List.range (xs.take p ++ (k, b) :: xs.drop p).length) := by rw [hl1, ← hhsz]; exact pe
    have he2 : (order.filterMap (es1[·]?)).toList = ((order.toList.filterMap fun i => (xs.take p ++ (k, b) :: xs.drop p)[i]?)).map (entS knd) := by
      rw [Array.toList_filterMap, ← filterMap_map_order, ← he1]
      congr 1
      funext i
      rw [Array.getElem?_toList]
    have hpm := perm_map_getD pe'
    have hs2 : (order.filterMap (es1[·]?)).size = es1.size := by
      rw [← Array.length_toList, he2, List.length_map, hpm.length_eq, hl1, hs1]
    have hne : ((order.filterMap (es1[·]?)).size != es1.size) = false := by rw [hs2]; simp
    show wpAny _ _ (if ((order.filterMap (es1[·]?)).size != es1.size) = true then _ else _) _ _ _
    rw [hne, if_neg Bool.false_ne_true]
    refine wpAny_pure ?_
    dsimp only
    refine wpAny_storeSet_of (s := { s with heap := s.heap.update a (Obj.putSet es1 t2) }) ho1 rfl ?_ (by rw [hs2]; exact hz1)
    refine wpAny_pure (hnew _ _ (sb1.trans (Heap.SameBut.update _ a _)) ⟨_, _, _, t3, storeS ho1 rfl _ _, hex, rfl, he2, ?_, ?_⟩ (hpm.trans hperm))
    · exact ((hpm.map (·.1)).nodup_iff).mpr hnd1
    · have : (order.toList.map fun i => (es1.map (·.1)).getD i 0) = (order.toList.filterMap fun i => (xs.take p ++ (k, b) :: xs.drop p)[i]?).map (fun x => tupleKeyHash knd x.1) := by
        rw [← filterMap_map_order, ← hhs, ← order_hash (by rw [hhs, List.length_map]; exact pe')]
        congr 1
        funext i
        simp [Array.getD_eq_getD_getElem?, List.getD_eq_getElem?_getD]
      rw [← this]
      exact W3
  · have full' : t2.tooFull = false := by cases h : t2.tooFull with | false => rfl | true => exact (full h).elim
    rw [full']
    simp only [Bool.and_false, Bool.false_eq_true, if_false]
    refine wpAny_pure (hnew _ _ sb1 ⟨_, es1, ep + 1, t2, ho1, hex, rfl, he1, hnd1, ?_⟩ hperm)
    rw [hh1, ht, ← hp]
    refine W.put g1 g2 c ?_
    rw [List.length_map]
    unfold SetTable.tooFull at full'
    rw [hfill, hmask] at full'
    simp at full'
    omega
theorem wp_addHashedH {a b : Addr} {xs : List (List K × Addr)} {k : List K} {Q : Bool → Shared → Prop} (hu : A.units < cLine) (hsc : ∀ k v, knd.is k v = true → v.scannable = true) (hS : SetH knd s.heap a xs)
    (hx : ∀ x ∈ xs, IsTupleKey knd s.heap x.1 x.2) (hk : IsTupleKey knd s.heap k b) (hroom : xs.length < 2000)
    (hold : k ∈ xs.map (·.1) → Q false s) (hnew : k ∉ xs.map (·.1) → ∀ h' xs', Heap.SameBut a s.heap h' → SetH knd h' a xs' → xs'.Perm (xs ++ [(k, b)]) → Q true { s with heap := h' }) :
    wpAny (model prog w) A (setAddHashed a (.ref b) (tupleKeyHash knd k)) Q E s := by
  obtain ⟨o, es, ep, t, ho, hex, hd, he, hnd, W⟩ := hS
  have hsz : es.size = xs.length := by rw [← Array.length_toList, he, List.length_map]
  have hfit : t.fits es.size = true := by have := W.fits; rw [List.length_map] at this; rw [hsz]; exact this
  unfold setAddHashed setAddHashedIn
  refine wpAny_holding (wpAny_bind (wpAny_setState_of ho hd hfit ?_))
  dsimp only
  rw [byScan_ref]
  simp only [Bool.false_eq_true, if_false]
  refine wpAny_bind (wp_search hu ho hd he hnd W hx hk (fun i y hi => ?_) fun hn m0 g1 g2 => ?_)
  · exact wpAny_pure (hold (List.mem_map.mpr ⟨_, List.mem_of_getElem? hi, rfl⟩))
  · dsimp only
    refine wpAny_bind (wpAny_setState_of ho hd hfit ?_)
    dsimp only
    have tl : ∀ (bv : Bool), wpAny (model prog w) A (do
      storeSet a (SetTable.insertAt es (t.put (pAt t.mask (tupleKeyHash knd k) m0).j).2 (tupleKeyHash knd k, Value.ref b)) (if bv = true then (t.put (pAt t.mask (tupleKeyHash knd k) m0).j).1 else { (t.put (pAt t.mask (tupleKeyHash knd k) m0).j).1 with plain := false })
      if (!false && (if bv = true then (t.put (pAt t.mask (tupleKeyHash knd k) m0).j).1 else { (t.put (pAt t.mask (tupleKeyHash knd k) m0).j).1 with plain := false }).tooFull) = true then do
        setRelay a (SetTable.grown (es.size + 1))
        pure true
      else pure true) Q E s := fun bv => by
      cases bv with
      | true => exact wp_addTailH ho hex hd he hnd W hroom hn g1 g2 (hnew hn) (c := (t.put (pAt t.mask (tupleKeyHash knd k) m0).j).1.plain) (by rw [if_pos rfl]) rfl
      | false => exact wp_addTailH ho hex hd he hnd W hroom hn g1 g2 (hnew hn) (c := false) (by rw [if_neg Bool.false_ne_true]) rfl
    split
    · exact wpAny_bind (wp_hashBy hk hsc tl)
    · exact wpAny_bind (wpAny_pure (tl true))
theorem wp_addH {a b : Addr} {xs : List (List K × Addr)} {k : List K} {Q : Bool → Shared → Prop} (hu : A.units < cLine) (hsc : ∀ k v, knd.is k v = true → v.scannable = true) (hS : SetH knd s.heap a xs)
    (hx : ∀ x ∈ xs, IsTupleKey knd s.heap x.1 x.2) (hk : IsTupleKey knd s.heap k b) (hroom : xs.length < 2000)
    (hold : k ∈ xs.map (·.1) → Q false { s with toks := s.toks + (k.length + 1) }) (hnew : k ∉ xs.map (·.1) → ∀ h' xs', Heap.SameBut a s.heap h' → SetH knd h' a xs' → xs'.Perm (xs ++ [(k, b)]) → Q true { s with heap := h', toks := s.toks + (k.length + 1) }) :
    wpAny (model prog w) A (setAdd a (.ref b)) Q E s := by
  unfold setAdd
  refine wpAny_holding ?_
  refine wpAny_bind (wpAny_pyHash_tuple hu hk ?_)
  exact wp_addHashedH (s := { s with toks := s.toks + (k.length + 1) }) hu hsc hS hx hk hroom hold hnew
theorem call_set_addH {a b : Addr} {xs : List (List K × Addr)} {k : List K} {Q : Value → Shared → Prop} (hu : A.units + 1 < cLine) (hsc : ∀ k v, knd.is k v = true → v.scannable = true) (hS : SetH knd s.heap a xs)
    (hx : ∀ x ∈ xs, IsTupleKey knd s.heap x.1 x.2) (hk : IsTupleKey knd s.heap k b) (hroom : xs.length < 2000)
    (hold : k ∈ xs.map (·.1) → Q .none { s with toks := s.toks + (k.length + 1) }) (hnew : k ∉ xs.map (·.1) → ∀ h' xs', Heap.SameBut a s.heap h' → SetH knd h' a xs' → xs'.Perm (xs ++ [(k, b)]) → Q .none { s with heap := h', toks := s.toks + (k.length + 1) }) :
    wpAny (model prog w) A (call (.builtin "set.add") [.ref a, .ref b]) Q E s := by
  refine wpAny_call_entry F.slot_set_add hS.typeIs F.entry_set_add ?_ (F.args_set_add_2 _ _)
  unfold Builtin.«set.add» Builtin.Frozenset.oneOther
  simp only [List.isEmpty_nil, bind_assoc]
  unfold Builtin.Frozenset.addrOf
  refine wpAny_bind (wpAny_pure ?_)
  try dsimp only
  refine wpAny_bind (wpAny_pure ?_)
  try dsimp only
  refine wpAny_bind (wp_addH (tupleKind_room_in1 (knd := knd) hu) hsc hS hx hk hroom (fun z => ?_) fun z h' xs' q1 q2 q3 => ?_)
  · show wpAny _ _ (ret Value.none) _ _ _
    exact wpAny_pure ⟨_, rfl, hold z⟩
  · show wpAny _ _ (ret Value.none) _ _ _
    exact wpAny_pure ⟨_, rfl, hnew z h' xs' q1 q2 q3⟩
end
end TL
set_option Elab.async false
set_option linter.all false
set_option maxRecDepth 100000
set_option maxHeartbeats 4000000
namespace TL
open PySem PySem.Spec PyProof.Rows L2 TS

/-! ### sets of tuples of ints and texts -/
/-- the set at a, its members' keys and addresses -/
def SetO (P : Program) (w : World) (a : Addr) (xs : List (List Key × Addr)) : HO := .ext fun h => SetH (mixKind P w) h a xs
abbrev keysOf (xs : List (List Key × Addr)) : List (List Key) := xs.map fun x => x.1
def inK (k : List Key) (xs : List (List Key × Addr)) : Bool := xs.any fun x => decide (x.1 = k)
theorem inK_iff {k : List Key} {xs : List (List Key × Addr)} : inK k xs = true ↔ k ∈ keysOf xs := by
  unfold inK keysOf
  rw [List.any_eq_true, List.mem_map]
  exact ⟨fun ⟨x, h, e⟩ => ⟨x, h, of_decide_eq_true e⟩, fun ⟨x, h, e⟩ => ⟨x, h, decide_eq_true e⟩⟩
def TupsIn (K : PySem.W.Frag) (H : Hp) (xs : List (List Key × Addr)) : Prop := ∀ x ∈ xs, SqT K H x.2 (x.1.map kV)
theorem mix_scan {P : Program} {w : World} : ∀ (k : Key) (v : Value), (mixKind P w).is k v = true → v.scannable = true := fun k v h => by
  rcases keyIs_shape (k := k) (v := v) h with ⟨i, t, _, rfl⟩ | ⟨x, t, _, rfl⟩ <;> rfl
theorem SetH.stay {P : Program} {w : World} {h1 h2 : Heap} {a : Addr} {xs : List (List Key × Addr)} (p : SetH (mixKind P w) h1 a xs) (k : ∀ o, h1.get? a = some o → h2.get? a = some o) : SetH (mixKind P w) h2 a xs := by
  obtain ⟨o, es, ep, t, ho, r⟩ := p
  exact ⟨o, es, ep, t, k _ ho, r⟩
theorem SetH.obj {P : Program} {w : World} {h : Heap} {H : Hp} {a : Addr} {xs : List (List Key × Addr)} (p : SetH (mixKind P w) h a xs) : ObjOk P w H h a (SetO P w a xs) := by
  obtain ⟨o, es, ep, t, ho, r⟩ := id p
  exact ⟨p, ⟨o, ho⟩, fun h1 h2 q k => q.stay k⟩
section
variable {X : Cx} {pins : List (Addr × Obj)} {σ : St} {H : Hp} {s : Shared}
theorem Inv.setH {l : Addr} {xs : List (List Key × Addr)} (I : Inv X pins σ H s) (h : H l = some (SetO X.prog X.w l xs)) : SetH (mixKind X.prog X.w) s.heap l xs := (I.hok l _ h).1
theorem Inv.keyT {b : Addr} {k : List Key} (I : Inv X pins σ H s) (h : SqT X.K H b (k.map kV)) : IsTupleKey (mixKind X.prog X.w) s.heap k b := by
  obtain ⟨its, r, ⟨o, h1, h2, n, h3⟩, z⟩ := I.tuple h
  exact ⟨o, its.toArray, n, h1, h2, h3, by simpa using items_are r⟩
theorem Inv.keysT {xs : List (List Key × Addr)} (I : Inv X pins σ H s) (h : TupsIn X.K H xs) : ∀ x ∈ xs, IsTupleKey (mixKind X.prog X.w) s.heap x.1 x.2 := fun x hx => Inv.keyT I (h x hx)
theorem op_inT (hu : X.A.units + 1 < cLine) : OpR X (compareOp .In) (fun x y H Q => ∃ (l : Addr) (xs : List (List Key × Addr)) (k : List Key) (b : Addr), x = .ref b ∧ y = .ref l ∧ H l = some (SetO X.prog X.w l xs) ∧ TupsIn X.K H xs ∧ SqT X.K H b (k.map kV) ∧ Q (.bl (inK k xs)) H) := by
  intro pins s σ H x y v u Q I rx ry h
  obtain ⟨l, xs, k, b, rfl, rfl, hH, ht, hb, q⟩ := h
  cases rx
  cases ry
  show wpAny _ _ (do return Value.bool (← contains (.ref l) (.ref b))) _ _ s
  refine wpAny_bind (wp_containsH hu (Inv.setH I hH) (Inv.keysT I ht) (Inv.keyT I hb) fun c hc => ?_)
  have e : c = inK k xs := Bool.eq_iff_iff.mpr (hc.trans inK_iff.symm)
  exact wpAny_pure ⟨.bl (inK k xs), H, I.tok _, (by rw [e]; rfl), q⟩
/-- s.add(t) -/
def rSAddT (P : Program) (w : World) (K : PySem.W.Frag) : V → List V → Hp → VK → Prop := fun x vs H Q => ∃ (l : Addr) (xs : List (List Key × Addr)) (k : List Key) (b : Addr), x = .ref l ∧ vs = [.ref b] ∧ H l = some (SetO P w l xs) ∧ TupsIn K H xs ∧ SqT K H b (k.map kV) ∧ xs.length < 2000 ∧
  (k ∈ keysOf xs → Q .non H) ∧ (k ∉ keysOf xs → ∀ xs', xs'.Perm (xs ++ [(k, b)]) → Q .non (upd H l (SetO P w l xs')))
theorem mt_saddT (hu : X.A.units + 1 < cLine) : MtR X "set.add" (rSAddT X.prog X.w X.K) := by
  intro pins s σ H x vs v us Q I rx rv h
  obtain ⟨l, xs, k, b, rfl, rfl, hH, ht, hb, hz, q1, q2⟩ := h
  cases rx
  obtain ⟨u, rfl, rb⟩ := rv.one
  cases rb
  refine call_set_addH hu mix_scan (Inv.setH I hH) (Inv.keysT I ht) (Inv.keyT I hb) hz (fun z => ⟨.non, H, I.tok _, rfl, q1 z⟩) fun z h' xs' sb hS p => ?_
  refine ⟨.non, _, I.write (t' := s.toks + (k.length + 1)) (o := SetO X.prog X.w l xs') (x := l) (e := l) (by rw [hH]; exact trivial) (.inl rfl) (fun b u hb e => sb.extBut b u hb e) ?_ hS.obj, rfl, q2 z xs' p⟩
  obtain ⟨o, _, _, _, e, _⟩ := hS; exact ⟨o, e⟩
theorem call_set0T : CallR X (.type "set") (fun xs H Q => xs = [] ∧ ∀ p, H p = none → Q (.ref p) (upd H p (SetO X.prog X.w p []))) := by
  intro pins s σ H xs us Q I r h
  obtain ⟨rfl, q⟩ := h
  cases r
  refine call_set_0 fun led => ?_
  have hS : SetH (mixKind X.prog X.w) (s.heap.push { cls := .type "set", dict := none, data := .set #[] 0 (.fresh 0 0 led) }) s.heap.objs.size [] :=
    ⟨_, #[], 0, _, Heap.get?_push_size _ rfl, ⟨rfl, rfl, rfl⟩, rfl, rfl, List.nodup_nil, WFT.fresh _ _ _⟩
  exact ⟨.ref _, _, I.laid (t' := s.toks) (o := SetO X.prog X.w s.heap.objs.size []) (fun b u e => Heap.get?_push_of_some _ e) (Nat.le_refl _) hS.obj, rfl, q _ I.fresh⟩
end
end TL
set_option Elab.async false
set_option linter.all false
set_option maxRecDepth 100000
set_option maxHeartbeats 4000000
namespace TL
open PySem PySem.Spec PyProof.Rows L2 TS

/-! ### set(a list of tuples) -/
/-- xs are the members of the first i of the pairs -/
structure Met (ps : List (List Key × Addr)) (i : Nat) (xs : List (List Key × Addr)) : Prop where
  sub : ∀ x ∈ xs, x ∈ ps
  key : ∀ k, k ∈ keysOf xs ↔ k ∈ keysOf (ps.take i)
  nd : (keysOf xs).Nodup
theorem Met.zero (ps : List (List Key × Addr)) : Met ps 0 [] := ⟨fun x h => (nomatch h), fun k => by simp [keysOf], List.nodup_nil⟩
theorem keysOf_snoc {ps : List (List Key × Addr)} {i : Nat} {k : List Key} {b : Addr} (h : ps[i]? = some (k, b)) (k' : List Key) : k' ∈ keysOf (ps.take (i + 1)) ↔ k' ∈ keysOf (ps.take i) ∨ k' = k := by
  unfold keysOf
  rw [List.take_add_one, h, List.map_append, List.mem_append]
  simp
theorem Met.new {ps : List (List Key × Addr)} {i : Nat} {xs xs' : List (List Key × Addr)} {k : List Key} {b : Addr} (M : Met ps i xs) (h : ps[i]? = some (k, b)) (hk : k ∉ keysOf xs) (hp : xs'.Perm (xs ++ [(k, b)])) : Met ps (i + 1) xs' := by
  have hkeys : (keysOf xs').Perm (keysOf xs ++ [k]) := by
    have := hp.map fun x : List Key × Addr => x.1
    rwa [List.map_append] at this
  refine ⟨fun x hx => ?_, fun k' => ?_, ?_⟩
  · rcases List.mem_append.mp (hp.mem_iff.mp hx) with z | z
    · exact M.sub x z
    · rw [List.mem_singleton] at z; subst z; exact List.mem_of_getElem? h
  · rw [keysOf_snoc h, ← M.key, hkeys.mem_iff, List.mem_append, List.mem_singleton]
  · refine hkeys.nodup_iff.mpr (List.nodup_append.mpr ⟨M.nd, by simp, fun x hx y hy => ?_⟩)
    rw [List.mem_singleton] at hy
    subst hy
    exact fun z => hk (z ▸ hx)
theorem sub_lenK {α : Type} [DecidableEq α] : ∀ {l m : List α}, l.Nodup → (∀ x ∈ l, x ∈ m) → l.length ≤ m.length
  | [], m, _, _ => Nat.zero_le _
  | x :: l, m, hn, hs => by
    rw [List.nodup_cons] at hn
    have hx := hs x List.mem_cons_self
    have := @sub_lenK α _ l (m.erase x) hn.2 fun y hy => by
      refine (List.mem_erase_of_ne ?_).mpr (hs y (List.mem_cons_of_mem _ hy))
      rintro rfl
      exact hn.1 hy
    have h2 := List.length_erase_of_mem hx
    have h3 : 0 < m.length := List.length_pos_of_mem hx
    rw [List.length_cons]
    omega
section
variable {prog : Program} {w : World} {A : Around} {R : Result → Shared → Prop} {I : Addr} {fp wr : List Addr} {G : Array GenState → Array GenState → Prop} {n : Nat} {P : Nat → Value → Prop} {St : Nat → Shared → Prop}
end
section
variable {prog : Program} {w : World} {A : Around} {E : Value → Shared → Prop} {s : Shared}
end
section
variable {X : Cx}
end
end TL
set_option Elab.async false
set_option linter.all false
set_option maxRecDepth 100000
set_option maxHeartbeats 4000000
namespace TL
open PySem PySem.Spec PyProof.Rows L2 TS
section
variable {X : Cx} {o e : Expr} {es : List Expr} {to : TE} {t : TA} {name : Str} {apos cpos : Pos} {id : String} {r : V → List V → Hp → VK → Prop}
/-- a method of a set of tuples -/
def tBMS (P : Program) (w : World) (r : V → List V → Hp → VK → Prop) (to : TE) (t : TA) : TE := fun σ H Q => to σ H fun x H1 => (∃ p xs, x = .ref p ∧ H1 p = some (SetO P w p xs)) ∧ t σ H1 fun xs H2 => r x xs H2 Q
theorem pe_bmS (slot : Slot "set" name id) (hty : typeOf (.builtin id) = pure (.type "method_descriptor")) (hm : MtR X id r) (ho : PE X o to) (ha : PA X (e :: es) t)
    (hbase : attributeBase o name X.env (eval o X.env) = eval o X.env := by rfl)
    (hfew : ((backTo cpos (starEach (e :: es) X.env)).all (fun x => !x.1) && (backToKw cpos (keywordEach [] X.env)).all (fun x => x.1.isSome)
      && decide ((e :: es).length + ([] : List Keyword).length + (if ([] : List Keyword).isEmpty then 0 else 1) < 30)) = true := by rfl)
    (hline : (apos.endLine == cpos.line) = true := by rfl) (hs : starEach (e :: es) X.env = (false, eval e X.env) :: starEach es X.env := by rfl) (hplain : (backTo cpos (starEach es X.env)).any (·.1) = false := by rfl) :
    PE X (.Call (.Attribute o name apos) (e :: es) [] cpos) (tBMS X.prog X.w r to t) := by
  intro pins s σ H Q I h
  refine wpAny_Call_method_late hbase hfew hline rfl (thn (ho pins s σ H _ I h) fun v s1 ⟨x, H1, I1, r1, ⟨p, xs, ex, hp⟩, q1⟩ => ?_)
  subst ex
  cases r1
  have hS := Inv.setH I1 hp
  refine ⟨"set", id, PySem.F.plainAttrs_set, slot, hty, hS.typeIs, hS.noDict, ?_⟩
  have hA := ha cpos pins s1 σ H1 _ I1 q1
  rw [hs] at hA ⊢
  refine Calls.callWith_builtin (by show (false || (backTo cpos (starEach es X.env)).any (·.1)) = false; rw [hplain] <;> rfl) (Calls.evalArgs_plain ?_)
  exact thn hA fun us s2 ⟨vs, H2, I2, r2, q2⟩ => hm pins s2 σ H2 (.ref p) vs (.ref p) us Q I2 rfl r2 q2
end
/-- the joints of a line as tuples -/
def kP (p : Int × Int) : List Key := [.inl p.1, .inl p.2]
theorem kP_inj {p q : Int × Int} (h : kP p = kP q) : p = q := by
  obtain ⟨a, b⟩ := p
  obtain ⟨c, d⟩ := q
  simp only [kP, List.cons.injEq, Sum.inl.injEq, and_true] at h
  rw [h.1, h.2]
/-- the pairs as members: their keys, their addresses -/
theorem pairs_of {K : PySem.W.Frag} {H : Hp} : ∀ {js : List (Int × Int)} {vs : List V}, Das K H (js.map dP) vs → ∃ ps : List (List Key × Addr), vs = ps.map (fun p => V.ref p.2) ∧ keysOf ps = js.map kP ∧ TupsIn K H ps
  | [], vs, h => ⟨[], by rw [List.map_nil] at h; rw [dgs_nil.mp h]; rfl, rfl, fun x hx => (nomatch hx)⟩
  | j :: js, vs, h => by
    rw [List.map_cons] at h
    obtain ⟨v, r, rfl, h1, h2⟩ := dgs_cons.mp h
    obtain ⟨ps, e1, e2, e3⟩ := pairs_of h2
    unfold dP at h1
    obtain ⟨a, us, rfl, ht, q⟩ := dg_tuple.mp h1
    obtain ⟨v1, r', rfl, q1, q⟩ := dgs_cons.mp q
    obtain ⟨v2, r', rfl, q2, q⟩ := dgs_cons.mp q
    cases dgs_nil.mp q
    cases dg_int.mp q1
    cases dg_int.mp q2
    refine ⟨(kP j, a) :: ps, by rw [e1]; rfl, by unfold keysOf at e2 ⊢; rw [List.map_cons, e2]; rfl, fun x hx => ?_⟩
    rcases List.mem_cons.mp hx with rfl | hx
    · exact ht
    · exact e3 x hx
theorem mem_kP {js : List (Int × Int)} {p : Int × Int} : kP p ∈ js.map kP ↔ p ∈ js := by
  rw [List.mem_map]
  exact ⟨fun ⟨q, h, e⟩ => kP_inj e ▸ h, fun h => ⟨p, h, rfl⟩⟩
end TL
set_option Elab.async false
set_option linter.all false
set_option maxRecDepth 100000
set_option maxHeartbeats 4000000
namespace TL
open PySem PySem.Spec PyProof.Rows L2 HT TS

/-! ### t[::-1] of a pair -/
section
variable {prog : Program} {w : World} {A : Around} {E : Value → Shared → Prop} {s : Shared}
end
section
variable {X : Cx} {e : Expr} {te : TE} {pos p2 : Pos}
end

/-! ### a op1 b op2 c op3 d -/
section
variable {X : Cx} {a b c d : Expr} {ta tb tc td : TE} {pos : Pos}
end
end TL
set_option Elab.async false
set_option linter.all false
set_option maxRecDepth 100000
set_option maxHeartbeats 4000000
namespace K51
open PySem L2 TL PyProof.Rows
abbrev St := L2.St
def top (i : Nat) : Stmt := PySem.Challenge.pw_turnline_k51_finer_lines_and_trains.main.body.getD i (.Pass ⟨0, 0, 0, 0⟩)

def sp_other : Sp := fun vs H Q _ => ∃ e : Int, vs = [.int e] ∧ Q (.int (oth e)) H
def sp_half : Sp := fun vs H Q _ => ∃ e : Int, vs = [.int e] ∧ Q (.int (e / 2)) H
def sp_cell (K : PySem.W.Frag) : Sp := fun vs H Q _ => ∃ (a : Addr) (ns : List Int) (k : Int), vs = [.ref a, .int k] ∧ SqL K H a (ns.map V.int) ∧ 0 ≤ k ∧ ∀ c, Q (.int c) H
def sp_mix : Sp := fun vs H Q _ => ∃ c k : Int, vs = [.int c, .int k] ∧ 0 ≤ k ∧ k ≤ 1000 ∧ ∀ n, 0 ≤ n → n < 2147483648 → Q (.int n) H

abbrev s_other_end : Stmt := top 7
theorem sc_other_end : FnScope ["end"] ["end"] (defScope s_other_end) := ⟨rfl, rfl, rfl, by decide +kernel, rfl, by decide +kernel, by decide +kernel⟩

abbrev s_piece_of : Stmt := top 8
theorem sc_piece_of : FnScope ["end"] ["end"] (defScope s_piece_of) := ⟨rfl, rfl, rfl, by decide +kernel, rfl, by decide +kernel, by decide +kernel⟩

abbrev s_law_other : Stmt := top 23
theorem sc_law_other : FnScope ["_law_end"] ["_law_end"] (defScope s_law_other) := ⟨rfl, rfl, rfl, by decide +kernel, rfl, by decide +kernel, by decide +kernel⟩

abbrev s_law_cell_at : Stmt := top 20
theorem sc_law_cell_at : FnScope ["_law_script", "_law_k"] ["_law_script", "_law_k"] (defScope s_law_cell_at) := ⟨rfl, rfl, rfl, by decide +kernel, rfl, by decide +kernel, by decide +kernel⟩

abbrev s_law_mix : Stmt := top 21
theorem sc_law_mix : FnScope ["_law_cell", "_law_k", "_law_again", "_law_number"] ["_law_cell", "_law_k"] (defScope s_law_mix) := ⟨rfl, rfl, rfl, by decide +kernel, rfl, by decide +kernel, by decide +kernel⟩

section
variable {P : Program} {w : World} {K : PySem.W.Frag} {mg : Str → Option Value} {base : Heap} {f : Addr} {fd : FuncData}
theorem ok_other_end (F : Fn K mg "other_end" s_other_end ["end"] f fd) : FnOk P w K mg base CX0 1 f fd ["end"] sp_other := by
  refine F.F.ok sc_other_end (fun vs H Q E h => ?_) (fun cdv A outer s H vs Q E hr h => ?_)
  · obtain ⟨e, rfl, _⟩ := h; rfl
  · obtain ⟨e, rfl, k⟩ := h
    refine ⟨_, (pss_one (ps_ret (pe_op op_xor (pv 0) pe_int))), ?_⟩
    refine ⟨_, rfl, _, _, rfl, rfl, ?_⟩
    show Q (.int (Builtin.bitXor e 1)) H
    rw [xor_one]; exact k
theorem ok_piece_of (F : Fn K mg "piece_of" s_piece_of ["end"] f fd) : FnOk P w K mg base CX0 1 f fd ["end"] sp_half := by
  refine F.F.ok sc_piece_of (fun vs H Q E h => ?_) (fun cdv A outer s H vs Q E hr h => ?_)
  · obtain ⟨e, rfl, _⟩ := h; rfl
  · obtain ⟨e, rfl, k⟩ := h
    refine ⟨_, (pss_one (ps_ret (pe_op op_fdiv (pv 0) pe_int))), ?_⟩
    exact ⟨_, rfl, _, _, rfl, rfl, ⟨by decide, by decide⟩, k⟩
theorem ok_law_other (F : Fn K mg "_law_other" s_law_other ["_law_end"] f fd) : FnOk P w K mg base CX0 1 f fd ["_law_end"] sp_other := by
  refine F.F.ok sc_law_other (fun vs H Q E h => ?_) (fun cdv A outer s H vs Q E hr h => ?_)
  · obtain ⟨e, rfl, _⟩ := h; rfl
  · obtain ⟨e, rfl, k⟩ := h
    refine ⟨_, (pss_one (ps_ret (pe_op op_sub (pe_op op_add (pv 0) pe_int) (pe_op op_mul pe_int (pe_op op_mod (pv 0) pe_int))))), ?_⟩
    exact ⟨_, rfl, _, _, rfl, rfl, _, rfl, _, _, rfl, rfl, by show (0 : Int) < 2; decide, _, _, rfl, rfl, .inl ⟨by decide, by decide⟩, _, _, rfl, rfl, k⟩
theorem ok_law_cell_at (F : Fn K mg "_law_cell_at" s_law_cell_at ["_law_script", "_law_k"] f fd) (B : Bl mg) : FnOk P w K mg base CX0 1 f fd ["_law_script", "_law_k"] (sp_cell K) := by
  refine F.F.ok sc_law_cell_at (fun vs H Q E h => ?_) (fun cdv A outer s H vs Q E hr h => ?_)
  · obtain ⟨a, ns, k, rfl, _⟩ := h; rfl
  · obtain ⟨a, ns, k, rfl, hS, h0, q⟩ := h
    refine ⟨_, (pss_cons (ps_if (pt_cmp (pc_lt (pv 1) (pe_callB call_len_seq rfl B.len boot_len (pa_cons (pv 0) pa_nil))))
  (pss_one (ps_ret (pe_ix ix_list (pv 0) (pv 1) (fun _ _ => rfl)))) pss_nil)
 (pss_one (ps_ret pe_int))), ?_⟩
    refine ⟨_, rfl, _, rfl, a, _, rfl, .inl hS, _, _, rfl, rfl, _, rfl, ite2 (fun hlt => ?_) (fun _ => ?_)⟩
    · have hlt : k < ((ns.map V.int).length : Int) := by simpa using hlt
      rw [List.length_map] at hlt
      have hg : (ns.map V.int)[k.toNat]? = some (V.int (ns.getD k.toNat 0)) := by
        rw [List.getElem?_map, List.getD_eq_getElem?_getD]
        have : k.toNat < ns.length := by omega
        simp [this]
      have e1 : ((k.toNat : Nat) : Int) = k := by omega
      exact ⟨_, rfl, _, rfl, a, _, k, _, rfl, rfl, hS, by have h := atI_nat hg; rw [e1] at h; exact h, q _⟩
    · exact q _
theorem ok_law_mix (F : Fn K mg "_law_mix" s_law_mix ["_law_cell", "_law_k"] f fd) (B : Bl mg) : FnOk P w K mg base CX0 1 f fd ["_law_cell", "_law_k"] sp_mix := by
  refine F.F.ok sc_law_mix (fun vs H Q E h => ?_) (fun cdv A outer s H vs Q E hr h => ?_)
  · obtain ⟨c, k, rfl, _⟩ := h; rfl
  · obtain ⟨c, k, rfl, h0, h1, q⟩ := h
    refine ⟨_, (pss_cons (ps_if (pt_cmp (pc_ge (pv 0) (pe_op op_pow pe_int pe_int)))
  (pss_cons (ps_for PassesOwn.never rfl (pi_range1 rfl B.range (pa_cons (pv 1) pa_nil)) (pg_name (i := 2) sc_law_mix.nd rfl (Or.inl rfl))
  (pss_one (ps_set (i := 0) sc_law_mix.nd rfl (Or.inl rfl) (pe_op op_fdiv (pv 0) (pe_op op_pow pe_int pe_int)))))
 (pss_one (ps_ret (pe_op op_mod (pv 0) (pe_op op_pow pe_int pe_int))))) pss_nil)
 (pss_cons (ps_set (i := 3) sc_law_mix.nd rfl (Or.inl rfl) (pe_op op_mod (pe_op op_mul (pe_op op_add (pe_op op_add (pe_op op_mod (pv 0) pe_int) (pe_op op_mul (pe_op op_mul (pv 1) (pv 1)) pe_int)) (pv 1)) pe_int) pe_int))
 (pss_cons (ps_set (i := 3) sc_law_mix.nd rfl (Or.inl rfl) (pe_op op_mod (pe_op op_mul (pv 3) (pv 3)) pe_int))
 (pss_one (ps_ret (pe_op op_fdiv (pe_op op_mod (pe_op op_mul (pv 3) (pe_op op_add (pv 3) pe_int)) pe_int) pe_int)))))), ?_⟩
    refine ⟨_, rfl, _, _, rfl, rfl, ⟨by decide, by decide, by decide⟩, _, _, rfl, rfl, _, rfl, ite2 (fun hlt => ?_) (fun _ => ?_)⟩
    · refine ⟨_, rfl, _, rfl, by omega, by omega, for_range (fun i σ H2 => H2 = H ∧ ∃ (c : Int) (x : Option V), σ = [some (.int c), some (.int k), x, none]) ⟨rfl, c, none, rfl⟩ ?_ ?_⟩
      · rintro i σ H2 hi ⟨rfl, c, x, rfl⟩
        exact ⟨_, rfl, _, _, rfl, rfl, ⟨by decide, by decide, by decide⟩, _, _, rfl, rfl, ⟨by decide, by decide⟩, rfl, _, _, rfl⟩
      · rintro σ H2 ⟨rfl, c, x, rfl⟩
        refine ⟨_, rfl, _, _, rfl, rfl, ⟨by decide, by decide, by decide⟩, _, _, rfl, rfl, (by show (0 : Int) < _; decide), q _ ?_ ?_⟩
        · show 0 ≤ c % (10 ^ 6); omega
        · show c % (10 ^ 6) < _; omega
    · refine ⟨_, rfl, _, _, rfl, rfl, (by show (0 : Int) < _; decide), _, rfl, _, rfl, _, _, rfl, rfl, .inl ⟨by omega, by omega⟩, _, _, rfl, rfl, .inr ⟨by decide, by decide⟩, _, _, rfl, rfl, _, rfl, _, _, rfl, rfl, _, _, rfl, rfl, .inr ⟨by decide, by decide⟩, _, _, rfl, rfl, (by show (0 : Int) < _; decide), ?_⟩
      dsimp only
      generalize hn : (c % 1000003 + k * k * 7919 + k) * 48271 % 2147483629 = n
      have n0 : 0 ≤ n := by omega
      have n1 : n < 2147483629 := by omega
      refine ⟨_, rfl, _, rfl, _, _, rfl, rfl, .inl ⟨by omega, by omega⟩, _, _, rfl, rfl, (by show (0 : Int) < _; decide), ?_⟩
      dsimp only
      generalize hm : n * n % 2147483587 = m
      have m0 : 0 ≤ m := by omega
      have m1 : m < 2147483587 := by omega
      refine ⟨_, rfl, _, rfl, _, _, rfl, rfl, _, _, rfl, rfl, .inl ⟨by omega, by omega⟩, _, _, rfl, rfl, (by show (0 : Int) < _; decide), _, _, rfl, rfl, ⟨by decide, by decide⟩, q _ ?_ ?_⟩
      · show 0 ≤ m * (m + 2) % 2147483579 / 7; omega
      · show m * (m + 2) % 2147483579 / 7 < _; omega
end
end K51
set_option Elab.async false
set_option linter.all false
set_option maxRecDepth 100000
set_option maxHeartbeats 4000000
namespace K51
open PySem L2 TL PyProof.Rows
theorem small_l {n : Nat} (h : n ≤ 1000) : n < sizeLine := Nat.lt_of_le_of_lt h (by decide)
def sp_row (K : PySem.W.Frag) : Sp := fun vs H Q _ => ∃ n m : Int, vs = [.int n, .int m] ∧ 0 ≤ m ∧ m ≤ 40 ∧ ∀ (p : Addr) (ns : List Int) (H' : Hp), Same H H' → H p = none → H' p = some (.lst (ns.map V.int)) → (ns.length : Int) = m → (∀ x ∈ ns, 0 ≤ x ∧ x < m) → ns.Nodup → Q (.ref p) H'
def sp_renamed (K : PySem.W.Frag) : Sp := fun vs H Q _ => ∃ (v : V) (l : Ln) (c : Int), vs = [v, .int c] ∧ Da K H (dL l) v ∧ GLine l ∧ ∀ (v' : V) (js' : List (Int × Int)) (nm es : List Int) (H' : Hp), Same H H' → Da K H' (dL (l.1, js')) v' → Ren l.1 nm es → js'.Perm (l.2.map (rj es)) → Q v' H'
abbrev s_law_turned_row : Stmt := top 22
theorem sc_law_turned_row : FnScope ["_law_number", "_law_many", "_law_told", "_law_k"] ["_law_number", "_law_many"] (defScope s_law_turned_row) := ⟨rfl, rfl, rfl, by decide +kernel, rfl, by decide +kernel, by decide +kernel⟩

abbrev s_law_renamed : Stmt := top 26
theorem sc_law_renamed : FnScope ["_law_line_here", "_law_cell", "_law_many", "_law_joints", "_law_names", "_law_ends", "_law_piece", "_law_flip", "_law_made", "_law_k", "_law_a", "_law_b", "_law_joint"] ["_law_line_here", "_law_cell"] (defScope s_law_renamed) := ⟨rfl, rfl, rfl, by decide +kernel, rfl, by decide +kernel, by decide +kernel⟩

section
variable {P : Program} {w : World} {K : PySem.W.Frag} {mg : Str → Option Value} {base : Heap} {f : Addr} {fd : FuncData}
theorem ok_law_turned_row (F : Fn K mg "_law_turned_row" s_law_turned_row ["_law_number", "_law_many"] f fd) (B : Bl mg) : FnOk P w K mg base CX0 1 f fd ["_law_number", "_law_many"] (sp_row K) := by
  refine F.F.ok sc_law_turned_row (fun vs H Q E h => ?_) (fun cdv A outer s H vs Q E hr h => ?_)
  · obtain ⟨n, m, rfl, _⟩ := h; rfl
  · obtain ⟨n, m, rfl, h0, h1, k⟩ := h
    refine ⟨_, (pss_cons (ps_set (i := 2) sc_law_turned_row.nd rfl (Or.inl rfl) (pe_lst pa_nil))
 (pss_cons (ps_for PassesOwn.never rfl (pi_range1 rfl B.range (pa_cons (pv 1) pa_nil)) (pg_name (i := 3) sc_law_turned_row.nd rfl (Or.inl rfl))
  (pss_cons (ps_expr (pe_bm PySem.F.plainAttrs_list PySem.F.slot_list_insert PySem.F.type_list_insert mt_insert (pv 2) (pa_cons (pe_op op_mod (pv 0) (pe_op op_add (pv 3) pe_int)) (pa_cons (pv 3) pa_nil))))
 (pss_one (ps_set (i := 0) sc_law_turned_row.nd rfl (Or.inl rfl) (pe_op op_fdiv (pv 0) (pe_op op_add (pv 3) pe_int))))))
 (pss_one (ps_ret (pv 2))))), ?_⟩
    refine ⟨Nat.zero_le _, fun t ht => ?_⟩
    refine ⟨_, rfl, m, rfl, by omega, by omega, for_range (fun i σ H3 => ∃ (n : Int) (ns : List Int) (x : Option V), σ = [some (.int n), some (.int m), some (.ref t), x] ∧ H3 = upd H t (.lst (ns.map V.int)) ∧ ns.length = i ∧ (∀ x ∈ ns, 0 ≤ x ∧ x < (i : Int)) ∧ ns.Nodup)
      ⟨n, [], none, rfl, rfl, rfl, fun x hx => (nomatch hx), List.nodup_nil⟩ ?_ ?_⟩
    · rintro i σ H3 hi ⟨n, ns, x, rfl, rfl, hlen, hb, hnd⟩
      have i0 : (0 : Int) + (i : Nat) = (i : Int) := by omega
      rw [i0]
      have r0 : 0 ≤ n % ((i : Int) + 1) := Int.emod_nonneg _ (by omega)
      have r1 : n % ((i : Int) + 1) < (i : Int) + 1 := Int.emod_lt_of_pos _ (by omega)
      refine ⟨_, rfl, .inl ⟨rfl, _, SqL.of upd_same⟩, _, rfl, _, rfl, _, _, rfl, rfl, _, _, rfl, rfl, (by show (0 : Int) < (i : Int) + 1; omega), _, rfl, t, _, _, _, rfl, rfl, upd_same, r0, ?_, ?_, ?_⟩
      · show n % ((i : Int) + 1) ≤ ((ns.map V.int).length : Int)
        rw [List.length_map, hlen]; omega
      · rw [List.length_map, hlen]; exact small_l (by omega)
      refine ⟨_, rfl, _, rfl, _, _, rfl, rfl, _, _, rfl, rfl, ⟨by show (0 : Int) < (i : Int) + 1; omega, by show (i : Int) + 1 < 1073741824; omega⟩, ?_⟩
      have pm := perm_ins ns (n % ((i : Int) + 1)).toNat (i : Int)
      refine ⟨_, ns.take (n % ((i : Int) + 1)).toNat ++ (i : Int) :: ns.drop (n % ((i : Int) + 1)).toNat, _, rfl, ?_, ?_, ?_, ?_⟩
      · rw [upd_upd, List.map_append, List.map_cons, List.map_take, List.map_drop]
      · rw [pm.length_eq, List.length_cons, hlen]
      · intro x hx
        rcases List.mem_cons.mp (pm.mem_iff.mp hx) with z | z
        · omega
        · have := hb x z; omega
      · refine pm.nodup_iff.mpr (List.nodup_cons.mpr ⟨fun z => ?_, hnd⟩)
        have := (hb _ z).2
        omega
    · rintro σ H3 ⟨n, ns, x, rfl, rfl, hlen, hb, hnd⟩
      exact ⟨_, rfl, k t ns _ (same_upd ht) ht upd_same (by omega) (fun x hx => by have := hb x hx; omega) hnd⟩
end
end K51
set_option Elab.async false
set_option linter.all false
set_option maxRecDepth 100000
set_option maxHeartbeats 4000000
namespace K51
open PySem L2 TL PyProof.Rows
section
variable {P : Program} {w : World} {K : PySem.W.Frag} {mg : Str → Option Value} {base : Heap} {f : Addr} {fd : FuncData}
theorem ok_law_renamed {f1 f2 : Addr} {fd1 fd2 : FuncData} (F : Fn K mg "_law_renamed" s_law_renamed ["_law_line_here", "_law_cell"] f fd) (F_law_mix : Fn K mg "_law_mix" s_law_mix ["_law_cell", "_law_k"] f1 fd1) (F_law_turned_row : Fn K mg "_law_turned_row" s_law_turned_row ["_law_number", "_law_many"] f2 fd2)
    (B : Bl mg) : FnOk P w K mg base CX0 2 f fd ["_law_line_here", "_law_cell"] (sp_renamed K) := by
  have G_law_mix : FnOk P w K mg base CX0 1 f1 fd1 ["_law_cell", "_law_k"] sp_mix := ok_law_mix F_law_mix B
  have G_law_turned_row : FnOk P w K mg base CX0 1 f2 fd2 ["_law_number", "_law_many"] (sp_row K) := ok_law_turned_row F_law_turned_row B
  refine F.F.ok sc_law_renamed (fun vs H Q E h => ?_) (fun cdv A outer s H vs Q E hr h => ?_)
  · obtain ⟨v, l, c, rfl, _⟩ := h; rfl
  · obtain ⟨v, ⟨m, js⟩, c, rfl, hv, G, k⟩ := h
    have h1 : 1 ≤ m := G.one
    have h14 : m ≤ 14 := G.most
    have h40 : m ≤ 40 := by omega
    have hjl : js.length ≤ 24 := G.len
    obtain ⟨a, b, rfl, ht, us, hl, hq⟩ := da_line hv
    dsimp only at ht hq k
    refine ⟨_, (pss_cons (ps_asg (pv 0) (pg_tup (n := 2) rfl (pgs_cons (pg_name (i := 2) sc_law_renamed.nd rfl (Or.inl rfl)) (pgs_cons (pg_name (i := 3) sc_law_renamed.nd rfl (Or.inl rfl)) pgs_nil))))
 (pss_cons (ps_set (i := 4) sc_law_renamed.nd rfl (Or.inl rfl) (pe_call G_law_turned_row (hr.mono (by decide)) rfl F_law_turned_row.m F_law_turned_row.F.kp F_law_turned_row.b .nil pass0 (pa_cons (pe_call G_law_mix (hr.mono (by decide)) rfl F_law_mix.m F_law_mix.F.kp F_law_mix.b .nil pass0 (pa_cons (pv 1) (pa_cons pe_int pa_nil))) (pa_cons (pv 2) pa_nil))))
 (pss_cons (ps_set (i := 5) sc_law_renamed.nd rfl (Or.inl rfl) (pe_lst pa_nil))
 (pss_cons (ps_for PassesOwn.never rfl (pi_range1 rfl B.range (pa_cons (pv 2) pa_nil)) (pg_name (i := 6) sc_law_renamed.nd rfl (Or.inl rfl))
  (pss_cons (ps_set (i := 7) sc_law_renamed.nd rfl (Or.inl rfl) (pe_op op_mod (pe_call G_law_mix (hr.mono (by decide)) rfl F_law_mix.m F_law_mix.F.kp F_law_mix.b .nil pass0 (pa_cons (pv 1) (pa_cons (pe_op op_add pe_int (pv 6)) pa_nil))) pe_int))
 (pss_one (ps_set (i := 5) sc_law_renamed.nd rfl (Or.inl rfl) (pe_op op_cat (pv 5) (pe_lst (pa_cons (pe_op op_add (pe_op op_mul pe_int (pe_ix ix_list (pv 4) (pv 6) (fun _ _ => rfl))) (pv 7)) (pa_cons (pe_op op_sub (pe_op op_add (pe_op op_mul pe_int (pe_ix ix_list (pv 4) (pv 6) (fun _ _ => rfl))) pe_int) (pv 7)) pa_nil))))))))
 (pss_cons (ps_set (i := 8) sc_law_renamed.nd rfl (Or.inl rfl) (pe_lst pa_nil))
 (pss_cons (ps_for PassesOwn.never rfl (pi_enum rfl B.enumerate (pa_cons (pv 3) pa_nil)) (pg_tup (n := 2) rfl (pgs_cons (pg_name (i := 9) sc_law_renamed.nd rfl (Or.inl rfl)) (pgs_cons (pg_tup (n := 2) rfl (pgs_cons (pg_name (i := 10) sc_law_renamed.nd rfl (Or.inl rfl)) (pgs_cons (pg_name (i := 11) sc_law_renamed.nd rfl (Or.inl rfl)) pgs_nil))) pgs_nil)))
  (pss_cons (ps_set (i := 12) sc_law_renamed.nd rfl (Or.inl rfl) (pe_tup (pa_cons (pe_callB (call_min2 rfl) rfl B.min boot_min (pa_cons (pe_ix ix_list (pv 5) (pv 10) (fun _ _ => rfl)) (pa_cons (pe_ix ix_list (pv 5) (pv 11) (fun _ _ => rfl)) pa_nil))) (pa_cons (pe_callB (call_max2 rfl) rfl B.max boot_max (pa_cons (pe_ix ix_list (pv 5) (pv 10) (fun _ _ => rfl)) (pa_cons (pe_ix ix_list (pv 5) (pv 11) (fun _ _ => rfl)) pa_nil))) pa_nil))))
 (pss_one (ps_expr (pe_bm PySem.F.plainAttrs_list PySem.F.slot_list_insert PySem.F.type_list_insert mt_insert (pv 8) (pa_cons (pe_op op_mod (pe_call G_law_mix (hr.mono (by decide)) rfl F_law_mix.m F_law_mix.F.kp F_law_mix.b .nil pass0 (pa_cons (pv 1) (pa_cons (pe_op op_add pe_int (pv 9)) pa_nil))) (pe_op op_add (pv 9) pe_int)) (pa_cons (pv 12) pa_nil)))))))
 (pss_one (ps_ret (pe_tup (pa_cons (pv 2) (pa_cons (pv 8) pa_nil))))))))))), ?_⟩
    refine ⟨_, rfl, a, _, rfl, ht, rfl, _, _, rfl, _, _, rfl, rfl, ?_⟩
    refine ⟨_, rfl, c, 0, rfl, by decide, by decide, fun n n0 n1 => ⟨_, rfl, n, m, rfl, by omega, h40, fun pn nm H1 s1 hn1 hn2 nlen nb nnd => ?_⟩⟩
    refine ⟨Nat.zero_le _, fun q0 nq0 => ?_⟩
    refine ⟨_, rfl, m, rfl, by omega, by omega, for_range (fun i σ H3 => ∃ (q : Addr) (es : List Int) (x6 x7 : Option V), σ = [some (.ref a), some (.int c), some (.int m), some (.ref b), some (.ref pn), some (.ref q), x6, x7, none, none, none, none, none] ∧ Same H1 H3 ∧ H3 q = some (.lst (es.map V.int)) ∧ es.length = 2 * i ∧ (∀ j, j < i → ∃ f : Int, (f = 0 ∨ f = 1) ∧ es[2 * j]? = some (2 * nm.getD j 0 + f) ∧ es[2 * j + 1]? = some (2 * nm.getD j 0 + 1 - f)))
      ⟨q0, [], none, none, rfl, same_upd nq0, upd_same, rfl, fun j hj => absurd hj (Nat.not_lt_zero j)⟩ ?_ ?_⟩
    · rintro i σ H3 hi ⟨q, es, x6, x7, rfl, S3, hq3, elen, eb⟩
      have i0 : (0 : Int) + (i : Nat) = (i : Int) := by omega
      rw [i0]
      obtain ⟨nx, hnx, hmem, hat⟩ := at_int (ns := nm) (i := (i : Int)) (by omega) (by omega)
      have nbx := nb nx hmem
      have hSn : SqL K H3 pn (nm.map V.int) := SqL.of (S3 _ _ hn2)
      refine ⟨_, rfl, _, rfl, _, _, rfl, rfl, c, _, rfl, by show (0 : Int) ≤ 20 + i; omega, by show 20 + (i : Int) ≤ 1000; omega, fun n n0 n1 => ⟨_, _, rfl, rfl, (by show (0 : Int) < _; decide), ?_⟩⟩
      refine ⟨_, rfl, _, rfl, _, rfl, pn, _, _, _, rfl, rfl, hSn, hat, _, _, rfl, rfl, .inl ⟨by decide, by decide⟩, _, rfl, _, _, rfl, rfl, _, rfl, _, rfl, pn, _, _, _, rfl, rfl, hSn, hat, _, _, rfl, rfl, .inl ⟨by decide, by decide⟩, _, _, rfl, rfl, _, rfl, _, _, rfl, rfl, by show 2 ≤ sizeLine; decide, fun q1 nq1 => ?_⟩
      refine ⟨q, q1, _, _, rfl, rfl, by rw [upd_ne (ne_of_none hq3 nq1)]; exact hq3, upd_same, ?_, fun q2 nq2 => ?_⟩
      · refine Nat.le_of_lt (small_l ?_)
        rw [List.length_map, elen]
        show 2 * i + 2 ≤ 1000
        omega
      refine ⟨q2, es ++ [2 * nx + n % 2, 2 * nx + 1 - n % 2], _, _, rfl, S3.trans ((same_upd nq1).trans (same_upd nq2)), ?_, ?_, ?_⟩
      · rw [upd_same, List.map_append]; rfl
      · rw [List.length_append, elen]; show 2 * i + 2 = _; omega
      · intro j hj
        have hnx' : nm.getD i 0 = nx := by rw [List.getD_eq_getElem?_getD, show i = ((i : Int)).toNat by omega, hnx]; rfl
        rcases Nat.lt_succ_iff_lt_or_eq.mp hj with z | z
        · obtain ⟨f, hf, e1, e2⟩ := eb j z
          exact ⟨f, hf, by rw [List.getElem?_append_left (by omega)]; exact e1, by rw [List.getElem?_append_left (by omega)]; exact e2⟩
        · subst z
          refine ⟨n % 2, by omega, ?_, ?_⟩
          · rw [List.getElem?_append_right (by omega), elen, Nat.sub_self, hnx']; rfl
          · rw [List.getElem?_append_right (by omega), elen, show 2 * j + 1 - 2 * j = 1 by omega, hnx']; rfl
    rintro σ H3 ⟨q, es, x6, x7, rfl, S3, hq3, elen, eb⟩
    have R : Ren m nm es := ⟨nlen, nb, nnd, by omega, fun j hj => eb j (by omega)⟩
    refine ⟨Nat.zero_le _, fun t nt => ?_⟩
    have hl3 : SqL K H3 b us := (s1.trans S3).seq hl
    have hq4 : Das K H3 (js.map dP) us := Das.same (s1.trans S3) hq
    have hul : us.length = js.length := by rw [Dgs.length hq, List.length_map]
    refine ⟨_, rfl, b, rfl, ⟨us, (same_upd nt).seq hl3⟩, for_enum (K := K) (a := b) (xs := us) (fun i σ H4 => ∃ (vs : List V) (js' : List (Int × Int)) (x9 x10 x11 x12 : Option V), σ = [some (.ref a), some (.int c), some (.int m), some (.ref b), some (.ref pn), some (.ref q), x6, x7, some (.ref t), x9, x10, x11, x12] ∧ Same H3 H4 ∧ H4 t = some (.lst vs) ∧ Ps K H4 js' vs ∧ js'.length = i ∧ js'.Perm ((js.take i).map (rj es)))
      ⟨[], [], none, none, none, none, rfl, same_upd nt, upd_same, dgs_nil.mpr rfl, rfl, .refl _⟩ (fun i σ H4 _ ⟨_, _, _, _, _, _, _, S4, _⟩ => S4.seq hl3) ?_ ?_⟩
    · rintro i x σ H4 p0 hi ⟨vs, js', x9, x10, x11, x12, rfl, S4, ht4, D, jlen, jb⟩ n0
      have hil : i < us.length := (List.getElem?_eq_some_iff.mp hi).1
      have S5 : Same H3 (upd H4 p0 (.tup [.int i, x])) := S4.trans (same_upd n0)
      obtain ⟨ad, ⟨ea, eb'⟩, e1, rfl, hpr⟩ := das_pair (Das.same S5 hq4) hi
      dsimp only at hpr
      have hbd := G.ok (ea, eb') (List.mem_of_getElem? e1)
      unfold okJ at hbd
      dsimp only at hbd
      obtain ⟨xa, ga, ma, hata⟩ := at_int (ns := es) (i := ea) hbd.1.1 (by omega)
      obtain ⟨xb, gb, mb, hatb⟩ := at_int (ns := es) (i := eb') hbd.2.1.1 (by omega)
      have hrj : rj es (ea, eb') = (min xa xb, max xa xb) := by
        unfold rj rho
        dsimp only
        rw [List.getD_eq_getElem?_getD, List.getD_eq_getElem?_getD, ga, gb]; rfl
      refine ⟨p0, _, rfl, SqT.of upd_same, rfl, _, _, rfl, _, _, rfl, ad, _, rfl, hpr, rfl, _, _, rfl, _, _, rfl, rfl, rfl, ?_⟩
      have hSe : SqL K (upd H4 p0 (.tup [.int i, .ref ad])) q (es.map V.int) := SqL.of (S5 _ _ hq3)
      refine ⟨_, rfl, _, rfl, q, _, _, _, rfl, rfl, hSe, hata, _, rfl, _, rfl, q, _, _, _, rfl, rfl, hSe, hatb, _, _, rfl, ?_⟩
      refine ⟨_, rfl, _, rfl, q, _, _, _, rfl, rfl, hSe, hata, _, rfl, _, rfl, q, _, _, _, rfl, rfl, hSe, hatb, _, _, rfl, by show 2 ≤ sizeLine; decide, fun p1 n1 => ?_⟩
      rw [min_if, max_if]
      have ht5 : (upd (upd H4 p0 (.tup [.int i, .ref ad])) p1 (.tup [.int (min xa xb), .int (max xa xb)])) t = some (.lst vs) := ((same_upd n0).trans (same_upd n1)) _ _ ht4
      have vl : vs.length = i := by rw [D.len, jlen]
      refine ⟨_, rfl, .inl ⟨rfl, _, SqL.of ht5⟩, _, rfl, _, rfl, _, _, rfl, rfl, c, _, rfl, by show (0 : Int) ≤ 40 + i; omega, by show 40 + (i : Int) ≤ 1000; omega, fun n n0' n1' => ⟨_, rfl, _, _, rfl, rfl, _, _, rfl, rfl, (by show (0 : Int) < (i : Int) + 1; omega), _, rfl, t, vs, _, _, rfl, rfl, ht5, ?_, ?_, small_l (by omega), ?_⟩⟩
      · exact Int.emod_nonneg _ (by omega)
      · have := Int.emod_lt_of_pos n (show (0 : Int) < (i : Int) + 1 by omega)
        show n % ((i : Int) + 1) ≤ (vs.length : Int)
        omega
      have pm := perm_ins js' (n % ((i : Int) + 1)).toNat (min xa xb, max xa xb)
      refine ⟨_, js'.take (n % ((i : Int) + 1)).toNat ++ (min xa xb, max xa xb) :: js'.drop (n % ((i : Int) + 1)).toNat, _, _, _, _, rfl, Same.upd (S4.trans ((same_upd n0).trans (same_upd n1))) nt, upd_same, ?_, ?_, ?_⟩
      · exact Ps.ins (x := (min xa xb, max xa xb)) _ (D.same ((same_upd n0).trans (same_upd n1))) ht5 upd_same
      · rw [pm.length_eq, List.length_cons, jlen]
      · rw [List.take_add_one, e1, List.map_append]
        refine pm.trans ?_
        show ((min xa xb, max xa xb) :: js').Perm ((js.take i).map (rj es) ++ [rj es (ea, eb')])
        rw [hrj]
        exact (jb.cons _).trans (List.perm_append_singleton _ _).symm
    rintro σ H4 ⟨vs, js', x9, x10, x11, x12, rfl, S4, ht4, D, jlen, jb⟩
    refine ⟨_, rfl, _, rfl, by show 2 ≤ sizeLine; decide, fun p np => ?_⟩
    have S5 := (same_upd (o := .tup [.int m, .ref t]) np)
    rw [hul, List.take_length] at jb
    exact k _ js' nm es _ (s1.trans (S3.trans (S4.trans S5))) (da_mkline upd_same ((D.same S5).da (S5 _ _ ht4))) R jb
end
end K51
set_option Elab.async false
set_option linter.all false
set_option maxRecDepth 100000
set_option maxHeartbeats 4000000
namespace K51
open PySem L2 TL PyProof.Rows
def sp_line (K : PySem.W.Frag) : Sp := fun vs H Q _ => ∃ (a : Addr) (ns : List Int), vs = [.ref a] ∧ SqL K H a (ns.map V.int) ∧ NewG K H Q
abbrev s_law_line : Stmt := top 25
theorem sc_law_line : FnScope ["_law_script", "_law_cell", "_law_many", "_law_joints", "_law_k", "_law_number", "_law_one", "_law_other_here"] ["_law_script"] (defScope s_law_line) := ⟨rfl, rfl, rfl, by decide +kernel, rfl, by decide +kernel, by decide +kernel⟩

section
variable {P : Program} {w : World} {K : PySem.W.Frag} {mg : Str → Option Value} {base : Heap} {f : Addr} {fd : FuncData}
theorem ok_law_line {f1 f2 f3 f4 : Addr} {fd1 fd2 fd3 fd4 : FuncData} (F : Fn K mg "_law_line" s_law_line ["_law_script"] f fd) (F_law_mix : Fn K mg "_law_mix" s_law_mix ["_law_cell", "_law_k"] f1 fd1) (F_law_cell_at : Fn K mg "_law_cell_at" s_law_cell_at ["_law_script", "_law_k"] f2 fd2)
    (F_law_other : Fn K mg "_law_other" s_law_other ["_law_end"] f3 fd3) (F_law_renamed : Fn K mg "_law_renamed" s_law_renamed ["_law_line_here", "_law_cell"] f4 fd4) (G_law_renamed : FnOk P w K mg base CX0 2 f4 fd4 ["_law_line_here", "_law_cell"] (sp_renamed K))
    (B : Bl mg) : FnOk P w K mg base CX0 3 f fd ["_law_script"] (sp_line K) := by
  have G_law_mix : FnOk P w K mg base CX0 1 f1 fd1 ["_law_cell", "_law_k"] sp_mix := ok_law_mix F_law_mix B
  have G_law_cell_at : FnOk P w K mg base CX0 1 f2 fd2 ["_law_script", "_law_k"] (sp_cell K) := ok_law_cell_at F_law_cell_at B
  have G_law_other : FnOk P w K mg base CX0 1 f3 fd3 ["_law_end"] sp_other := ok_law_other F_law_other
  refine F.F.ok sc_law_line (fun vs H Q E h => ?_) (fun cdv A outer s H vs Q E hr h => ?_)
  · obtain ⟨a, ns, rfl, _⟩ := h; rfl
  · obtain ⟨a, ns, rfl, hS, k⟩ := h
    refine ⟨_, (pss_cons (ps_set (i := 1) sc_law_line.nd rfl (Or.inl rfl) (pe_call G_law_cell_at (hr.mono (by decide)) rfl F_law_cell_at.m F_law_cell_at.F.kp F_law_cell_at.b .nil pass0 (pa_cons (pv 0) (pa_cons pe_int pa_nil))))
 (pss_cons (ps_set (i := 2) sc_law_line.nd rfl (Or.inl rfl) (pe_op op_add pe_int (pe_op op_mod (pe_call G_law_mix (hr.mono (by decide)) rfl F_law_mix.m F_law_mix.F.kp F_law_mix.b .nil pass0 (pa_cons (pv 1) (pa_cons pe_int pa_nil))) pe_int)))
 (pss_cons (ps_if (pt_cmp (pc_eqI (pe_op op_mod (pe_call G_law_mix (hr.mono (by decide)) rfl F_law_mix.m F_law_mix.F.kp F_law_mix.b .nil pass0 (pa_cons (pv 1) (pa_cons pe_int pa_nil))) pe_int) pe_int))
  (pss_one (ps_set (i := 2) sc_law_line.nd rfl (Or.inl rfl) (pe_op op_add pe_int (pe_op op_mod (pe_call G_law_mix (hr.mono (by decide)) rfl F_law_mix.m F_law_mix.F.kp F_law_mix.b .nil pass0 (pa_cons (pv 1) (pa_cons pe_int pa_nil))) pe_int)))) pss_nil)
 (pss_cons (ps_set (i := 3) sc_law_line.nd rfl (Or.inl rfl) (pe_lst pa_nil))
 (pss_cons (ps_for PassesOwn.never rfl (pi_range1 rfl B.range (pa_cons (pe_op op_mod (pe_call G_law_mix (hr.mono (by decide)) rfl F_law_mix.m F_law_mix.F.kp F_law_mix.b .nil pass0 (pa_cons (pv 1) (pa_cons pe_int pa_nil))) (pe_op op_add (pe_op op_mul pe_int (pv 2)) pe_int)) pa_nil)) (pg_name (i := 4) sc_law_line.nd rfl (Or.inl rfl))
  (pss_cons (ps_set (i := 5) sc_law_line.nd rfl (Or.inl rfl) (pe_call G_law_mix (hr.mono (by decide)) rfl F_law_mix.m F_law_mix.F.kp F_law_mix.b .nil pass0 (pa_cons (pe_call G_law_cell_at (hr.mono (by decide)) rfl F_law_cell_at.m F_law_cell_at.F.kp F_law_cell_at.b .nil pass0 (pa_cons (pv 0) (pa_cons (pe_op op_add pe_int (pe_op op_mod (pv 4) pe_int)) pa_nil))) (pa_cons (pe_op op_add pe_int (pv 4)) pa_nil))))
 (pss_cons (ps_set (i := 6) sc_law_line.nd rfl (Or.inl rfl) (pe_op op_mod (pv 5) (pe_op op_mul pe_int (pv 2))))
 (pss_cons (ps_set (i := 7) sc_law_line.nd rfl (Or.inl rfl) (pe_op op_mod (pe_op op_fdiv (pv 5) pe_int) (pe_op op_mul pe_int (pv 2))))
 (pss_cons (ps_if (PW.pt (pw_and (pt_cmp (pc_eqI (pe_op op_mod (pe_call G_law_mix (hr.mono (by decide)) rfl F_law_mix.m F_law_mix.F.kp F_law_mix.b .nil pass0 (pa_cons (pv 1) (pa_cons pe_int pa_nil))) pe_int) pe_int)) (pw_and1 (pt_cmp (pc_eqI (pe_op op_mod (pv 6) pe_int) (pe_op op_mod (pv 7) pe_int))))))
  (pss_one (ps_set (i := 7) sc_law_line.nd rfl (Or.inl rfl) (pe_call G_law_other (hr.mono (by decide)) rfl F_law_other.m F_law_other.F.kp F_law_other.b .nil pass0 (pa_cons (pv 7) pa_nil)))) pss_nil)
 (pss_one (ps_if (PW.pt (pw_and (pt_cmp (pc_neI (pe_op op_fdiv (pv 6) pe_int) (pe_op op_fdiv (pv 7) pe_int))) (pw_and (pt_cmpR (op_notInD hr.units) (pe_tup (pa_cons (pe_callB (call_min2 rfl) rfl B.min boot_min (pa_cons (pv 6) (pa_cons (pv 7) pa_nil))) (pa_cons (pe_callB (call_max2 rfl) rfl B.max boot_max (pa_cons (pv 6) (pa_cons (pv 7) pa_nil))) pa_nil))) (pv 3) (by with_unfolding_all rfl)) (pw_and1 (pt_cmp (pc_lt (pe_callB call_len_seq rfl B.len boot_len (pa_cons (pv 3) pa_nil)) pe_int))))))
  (pss_one (ps_expr (pe_bm PySem.F.plainAttrs_list PySem.F.slot_list_append PySem.F.type_list_append mt_append (pv 3) (pa_cons (pe_tup (pa_cons (pe_callB (call_min2 rfl) rfl B.min boot_min (pa_cons (pv 6) (pa_cons (pv 7) pa_nil))) (pa_cons (pe_callB (call_max2 rfl) rfl B.max boot_max (pa_cons (pv 6) (pa_cons (pv 7) pa_nil))) pa_nil))) pa_nil)))) pss_nil)))))))
 (pss_one (ps_ret (pe_call G_law_renamed (hr.mono (by decide)) rfl F_law_renamed.m F_law_renamed.F.kp F_law_renamed.b .nil pass0 (pa_cons (pe_tup (pa_cons (pv 2) (pa_cons (pv 3) pa_nil))) (pa_cons (pe_call G_law_cell_at (hr.mono (by decide)) rfl F_law_cell_at.m F_law_cell_at.F.kp F_law_cell_at.b .nil pass0 (pa_cons (pv 0) (pa_cons pe_int pa_nil))) pa_nil)))))))))), ?_⟩
    -- cell, many
    refine ⟨_, rfl, a, ns, 0, rfl, hS, by decide, fun cell => ?_⟩
    refine ⟨_, rfl, cell, 0, rfl, by decide, by decide, fun n1 _ _ => ⟨_, _, rfl, rfl, (by show (0 : Int) < _; decide), _, _, rfl, rfl, ?_⟩⟩
    refine ⟨_, rfl, cell, 1, rfl, by decide, by decide, fun n2 _ _ => ⟨_, _, rfl, rfl, (by show (0 : Int) < _; decide), _, _, rfl, rfl, _, rfl, ?_⟩⟩
    -- behind the if: any many from 1 to 14
    refine ite2 (fun _ => ?g1) (fun _ => ?g2)
    case g1 =>
      refine ⟨_, rfl, cell, 0, rfl, by decide, by decide, fun n3 _ _ => ⟨_, _, rfl, rfl, (by show (0 : Int) < _; decide), _, _, rfl, rfl, ?_⟩⟩
      dsimp only
      generalize hm : 9 + n3 % 6 = m
      have m1 : 1 ≤ m := by omega
      have m2 : m ≤ 14 := by omega
      refine ⟨Nat.zero_le _, fun t nt => ?_⟩
      refine ⟨_, rfl, cell, 2, rfl, by decide, by decide, fun n4 n40 _ => ⟨_, rfl, _, _, rfl, rfl, .inl ⟨by decide, by decide⟩, _, _, rfl, rfl, _, _, rfl, rfl, (by show (0 : Int) < 2 * m + 4; omega), ?_⟩⟩
      have q0 : 0 ≤ n4 % (2 * m + 4) := Int.emod_nonneg _ (by omega)
      have q1 : n4 % (2 * m + 4) < 2 * m + 4 := Int.emod_lt_of_pos _ (by omega)
      refine ⟨_, rfl, by show -(2 ^ 62) ≤ n4 % (2 * m + 4); omega, by show n4 % (2 * m + 4) < 2 ^ 62; omega, for_range (fun i σ H3 => ∃ (vs : List V) (js : List (Int × Int)) (x4 x5 x6 x7 : Option V), σ = [some (.ref a), some (.int cell), some (.int m), some (.ref t), x4, x5, x6, x7] ∧ Same H H3 ∧ H3 t = some (.lst vs) ∧ Ps K H3 js vs ∧ GLine (m, js))
        ⟨[], [], none, none, none, none, rfl, same_upd nt, upd_same, dgs_nil.mpr rfl, ⟨m1, m2, Nat.zero_le _, fun p hp => (nomatch hp), List.nodup_nil⟩⟩ ?_ ?_⟩
      · rintro i σ H3 hi ⟨vs, js, x4, x5, x6, x7, rfl, S3, ht3, D, G⟩
        have i0 : (0 : Int) + (i : Nat) = (i : Int) := by omega
        rw [i0]
        have hi' : (i : Int) < 32 := by
          have : (i : Int) < n4 % (2 * m + 4) := by
            have h : i < (n4 % (2 * m + 4)).toNat := hi
            omega
          omega
        refine ⟨_, rfl, _, rfl, _, _, rfl, rfl, (by show (0 : Int) < _; decide), _, _, rfl, rfl, a, ns, _, rfl, S3.seq hS, by show (0 : Int) ≤ 2 + (i : Int) % 8; omega, fun c5 => ⟨_, rfl, _, _, rfl, rfl, c5, _, rfl, by show (0 : Int) ≤ 10 + (i : Int); omega, by show 10 + (i : Int) ≤ 1000; omega, fun n5 n50 n51 => ?_⟩⟩
        refine ⟨_, rfl, _, rfl, _, _, rfl, rfl, .inl ⟨by decide, by decide⟩, _, _, rfl, rfl, (by show (0 : Int) < 2 * m; omega), ?_⟩
        refine ⟨_, rfl, _, _, rfl, rfl, ⟨by decide, by decide⟩, _, rfl, _, _, rfl, rfl, .inl ⟨by decide, by decide⟩, _, _, rfl, rfl, (by show (0 : Int) < 2 * m; omega), ?_⟩
        dsimp only
        have o0 : 0 ≤ n5 % (2 * m) := Int.emod_nonneg _ (by omega)
        have o1 : n5 % (2 * m) < 2 * m := Int.emod_lt_of_pos _ (by omega)
        have r0 : 0 ≤ n5 / 64 % (2 * m) := Int.emod_nonneg _ (by omega)
        have r1 : n5 / 64 % (2 * m) < 2 * m := Int.emod_lt_of_pos _ (by omega)
        generalize n5 % (2 * m) = one at o0 o1
        generalize n5 / 64 % (2 * m) = oh at r0 r1
        refine ⟨_, rfl, cell, 3, rfl, by decide, by decide, fun n6 _ _ => ⟨_, _, rfl, rfl, (by show (0 : Int) < _; decide), _, _, rfl, rfl, _, rfl, ?_⟩⟩
        -- the test of the direction; then any other end within bounds
        refine ite2 (fun _ => ?e1a) (fun _ => ?e2a)
        case' e1a =>
          refine ⟨_, rfl, _, _, rfl, rfl, (by show (0 : Int) < _; decide), _, rfl, _, _, rfl, rfl, (by show (0 : Int) < _; decide), _, _, rfl, rfl, _, rfl, ?_⟩
          refine ite2 (fun _ => ?e3a) (fun _ => ?e4a)
          case' e3a =>
            refine ⟨_, rfl, oh, rfl, ?_⟩
            have r0' : 0 ≤ oth oh := oth_nonneg r0
            have r1' : oth oh < 2 * m := by unfold oth; omega
            generalize oth oh = oh' at r0' r1'
          case' e4a =>
            have r0' := r0
            have r1' := r1
            generalize hh : oh = oh' at r0' r1'
        case' e2a =>
          refine iteF ?_
          have r0' := r0
          have r1' := r1
          generalize hh : oh = oh' at r0' r1'
        all_goals
          refine ⟨_, rfl, _, _, rfl, rfl, ⟨by decide, by decide⟩, _, rfl, _, _, rfl, rfl, ⟨by decide, by decide⟩, _, _, rfl, rfl, _, rfl, ?_⟩
          refine ite2 (fun hne => ?_) (fun _ => ?_)
          · refine ⟨_, rfl, _, rfl, _, _, rfl, _, rfl, _, rfl, _, _, rfl, by show 2 ≤ sizeLine; decide, fun p1 n1 => ?_⟩
            rw [min_if, max_if]
            have ht4 := (same_upd (o := .tup [.int (min one oh'), .int (max one oh')]) n1) _ _ ht3
            have D4 := D.same (same_upd (o := .tup [.int (min one oh'), .int (max one oh')]) n1)
            refine ⟨_, rfl, _, _, D4.da ht4, dg_tuple.mpr ⟨p1, _, rfl, SqT.of upd_same, Dgs.two (dg_int.mpr rfl) (dg_int.mpr rfl)⟩, okDs_P js, okD_P (_, _), _, rfl, ?_⟩
            refine ite2 (fun hni => ?_) (fun _ => ?_)
            · refine ⟨_, rfl, t, _, rfl, .inl (SqL.of ht4), _, _, rfl, rfl, _, rfl, ?_⟩
              refine ite2 (fun hlt => ?_) (fun _ => ?_)
              · have hlt : (vs.length : Int) < 24 := by simpa using hlt
                have vl := D.len
                refine ⟨_, rfl, .inl ⟨rfl, _, SqL.of ht4⟩, _, rfl, _, rfl, _, _, rfl, _, rfl, _, rfl, _, _, rfl, by show 2 ≤ sizeLine; decide, fun p2 n2 => ?_⟩
                rw [min_if, max_if]
                have S5 := (same_upd n1).trans (same_upd (o := .tup [.int (min one oh'), .int (max one oh')]) n2)
                refine ⟨t, vs, _, rfl, rfl, S5 _ _ ht3, small_l (by omega), ?_⟩
                refine ⟨_, js ++ [(min one oh', max one oh')], _, _, _, _, rfl, Same.upd (S3.trans S5) nt, upd_same, Ps.push (x := (min one oh', max one oh')) (D.same S5) (S5 _ _ ht3) upd_same, ?_⟩
                have hni' : (min one oh', max one oh') ∉ js := fun z => by
                  have e := any_P js (min one oh', max one oh')
                  unfold dP at e
                  dsimp only at e
                  unfold dP at hni
                  rw [e] at hni
                  simp [z] at hni
                have hne' : one / 2 ≠ oh' / 2 := by simpa using hne
                exact gline_push G hne' o0 o1 r0' r1' hni' (by omega)
              · exact ⟨vs, js, _, _, _, _, rfl, S3.trans (same_upd n1), ht4, D4, G⟩
            · exact iteF ⟨vs, js, _, _, _, _, rfl, S3.trans (same_upd n1), ht4, D4, G⟩
          · exact iteF ⟨vs, js, _, _, _, _, rfl, S3, ht3, D, G⟩
      · rintro σ H3 ⟨vs, js, x4, x5, x6, x7, rfl, S3, ht3, D, G⟩
        refine ⟨_, rfl, _, rfl, by show 2 ≤ sizeLine; decide, fun p np => ?_⟩
        have S4 := same_upd (o := .tup [.int m, .ref t]) np
        refine ⟨_, rfl, a, ns, 1, rfl, (S3.trans S4).seq hS, by decide, fun c7 => ?_⟩
        refine ⟨_, (m, js), c7, rfl, da_mkline upd_same ((D.same S4).da (S4 _ _ ht3)), G, fun v' js' nm es H' s5 d5 R pm => k v' (m, js') H' (S3.trans (S4.trans s5)) d5 (R.line G pm)⟩
    case g2 =>
      dsimp only
      generalize hm : 1 + n1 % 8 = m
      have m1 : 1 ≤ m := by omega
      have m2 : m ≤ 14 := by omega
      refine ⟨Nat.zero_le _, fun t nt => ?_⟩
      refine ⟨_, rfl, cell, 2, rfl, by decide, by decide, fun n4 n40 _ => ⟨_, rfl, _, _, rfl, rfl, .inl ⟨by decide, by decide⟩, _, _, rfl, rfl, _, _, rfl, rfl, (by show (0 : Int) < 2 * m + 4; omega), ?_⟩⟩
      have q0 : 0 ≤ n4 % (2 * m + 4) := Int.emod_nonneg _ (by omega)
      have q1 : n4 % (2 * m + 4) < 2 * m + 4 := Int.emod_lt_of_pos _ (by omega)
      refine ⟨_, rfl, by show -(2 ^ 62) ≤ n4 % (2 * m + 4); omega, by show n4 % (2 * m + 4) < 2 ^ 62; omega, for_range (fun i σ H3 => ∃ (vs : List V) (js : List (Int × Int)) (x4 x5 x6 x7 : Option V), σ = [some (.ref a), some (.int cell), some (.int m), some (.ref t), x4, x5, x6, x7] ∧ Same H H3 ∧ H3 t = some (.lst vs) ∧ Ps K H3 js vs ∧ GLine (m, js))
        ⟨[], [], none, none, none, none, rfl, same_upd nt, upd_same, dgs_nil.mpr rfl, ⟨m1, m2, Nat.zero_le _, fun p hp => (nomatch hp), List.nodup_nil⟩⟩ ?_ ?_⟩
      · rintro i σ H3 hi ⟨vs, js, x4, x5, x6, x7, rfl, S3, ht3, D, G⟩
        have i0 : (0 : Int) + (i : Nat) = (i : Int) := by omega
        rw [i0]
        have hi' : (i : Int) < 32 := by
          have : (i : Int) < n4 % (2 * m + 4) := by
            have h : i < (n4 % (2 * m + 4)).toNat := hi
            omega
          omega
        refine ⟨_, rfl, _, rfl, _, _, rfl, rfl, (by show (0 : Int) < _; decide), _, _, rfl, rfl, a, ns, _, rfl, S3.seq hS, by show (0 : Int) ≤ 2 + (i : Int) % 8; omega, fun c5 => ⟨_, rfl, _, _, rfl, rfl, c5, _, rfl, by show (0 : Int) ≤ 10 + (i : Int); omega, by show 10 + (i : Int) ≤ 1000; omega, fun n5 n50 n51 => ?_⟩⟩
        refine ⟨_, rfl, _, rfl, _, _, rfl, rfl, .inl ⟨by decide, by decide⟩, _, _, rfl, rfl, (by show (0 : Int) < 2 * m; omega), ?_⟩
        refine ⟨_, rfl, _, _, rfl, rfl, ⟨by decide, by decide⟩, _, rfl, _, _, rfl, rfl, .inl ⟨by decide, by decide⟩, _, _, rfl, rfl, (by show (0 : Int) < 2 * m; omega), ?_⟩
        dsimp only
        have o0 : 0 ≤ n5 % (2 * m) := Int.emod_nonneg _ (by omega)
        have o1 : n5 % (2 * m) < 2 * m := Int.emod_lt_of_pos _ (by omega)
        have r0 : 0 ≤ n5 / 64 % (2 * m) := Int.emod_nonneg _ (by omega)
        have r1 : n5 / 64 % (2 * m) < 2 * m := Int.emod_lt_of_pos _ (by omega)
        generalize n5 % (2 * m) = one at o0 o1
        generalize n5 / 64 % (2 * m) = oh at r0 r1
        refine ⟨_, rfl, cell, 3, rfl, by decide, by decide, fun n6 _ _ => ⟨_, _, rfl, rfl, (by show (0 : Int) < _; decide), _, _, rfl, rfl, _, rfl, ?_⟩⟩
        -- the test of the direction; then any other end within bounds
        refine ite2 (fun _ => ?e1b) (fun _ => ?e2b)
        case' e1b =>
          refine ⟨_, rfl, _, _, rfl, rfl, (by show (0 : Int) < _; decide), _, rfl, _, _, rfl, rfl, (by show (0 : Int) < _; decide), _, _, rfl, rfl, _, rfl, ?_⟩
          refine ite2 (fun _ => ?e3b) (fun _ => ?e4b)
          case' e3b =>
            refine ⟨_, rfl, oh, rfl, ?_⟩
            have r0' : 0 ≤ oth oh := oth_nonneg r0
            have r1' : oth oh < 2 * m := by unfold oth; omega
            generalize oth oh = oh' at r0' r1'
          case' e4b =>
            have r0' := r0
            have r1' := r1
            generalize hh : oh = oh' at r0' r1'
        case' e2b =>
          refine iteF ?_
          have r0' := r0
          have r1' := r1
          generalize hh : oh = oh' at r0' r1'
        all_goals
          refine ⟨_, rfl, _, _, rfl, rfl, ⟨by decide, by decide⟩, _, rfl, _, _, rfl, rfl, ⟨by decide, by decide⟩, _, _, rfl, rfl, _, rfl, ?_⟩
          refine ite2 (fun hne => ?_) (fun _ => ?_)
          · refine ⟨_, rfl, _, rfl, _, _, rfl, _, rfl, _, rfl, _, _, rfl, by show 2 ≤ sizeLine; decide, fun p1 n1 => ?_⟩
            rw [min_if, max_if]
            have ht4 := (same_upd (o := .tup [.int (min one oh'), .int (max one oh')]) n1) _ _ ht3
            have D4 := D.same (same_upd (o := .tup [.int (min one oh'), .int (max one oh')]) n1)
            refine ⟨_, rfl, _, _, D4.da ht4, dg_tuple.mpr ⟨p1, _, rfl, SqT.of upd_same, Dgs.two (dg_int.mpr rfl) (dg_int.mpr rfl)⟩, okDs_P js, okD_P (_, _), _, rfl, ?_⟩
            refine ite2 (fun hni => ?_) (fun _ => ?_)
            · refine ⟨_, rfl, t, _, rfl, .inl (SqL.of ht4), _, _, rfl, rfl, _, rfl, ?_⟩
              refine ite2 (fun hlt => ?_) (fun _ => ?_)
              · have hlt : (vs.length : Int) < 24 := by simpa using hlt
                have vl := D.len
                refine ⟨_, rfl, .inl ⟨rfl, _, SqL.of ht4⟩, _, rfl, _, rfl, _, _, rfl, _, rfl, _, rfl, _, _, rfl, by show 2 ≤ sizeLine; decide, fun p2 n2 => ?_⟩
                rw [min_if, max_if]
                have S5 := (same_upd n1).trans (same_upd (o := .tup [.int (min one oh'), .int (max one oh')]) n2)
                refine ⟨t, vs, _, rfl, rfl, S5 _ _ ht3, small_l (by omega), ?_⟩
                refine ⟨_, js ++ [(min one oh', max one oh')], _, _, _, _, rfl, Same.upd (S3.trans S5) nt, upd_same, Ps.push (x := (min one oh', max one oh')) (D.same S5) (S5 _ _ ht3) upd_same, ?_⟩
                have hni' : (min one oh', max one oh') ∉ js := fun z => by
                  have e := any_P js (min one oh', max one oh')
                  unfold dP at e
                  dsimp only at e
                  unfold dP at hni
                  rw [e] at hni
                  simp [z] at hni
                have hne' : one / 2 ≠ oh' / 2 := by simpa using hne
                exact gline_push G hne' o0 o1 r0' r1' hni' (by omega)
              · exact ⟨vs, js, _, _, _, _, rfl, S3.trans (same_upd n1), ht4, D4, G⟩
            · exact iteF ⟨vs, js, _, _, _, _, rfl, S3.trans (same_upd n1), ht4, D4, G⟩
          · exact iteF ⟨vs, js, _, _, _, _, rfl, S3, ht3, D, G⟩
      · rintro σ H3 ⟨vs, js, x4, x5, x6, x7, rfl, S3, ht3, D, G⟩
        refine ⟨_, rfl, _, rfl, by show 2 ≤ sizeLine; decide, fun p np => ?_⟩
        have S4 := same_upd (o := .tup [.int m, .ref t]) np
        refine ⟨_, rfl, a, ns, 1, rfl, (S3.trans S4).seq hS, by decide, fun c7 => ?_⟩
        refine ⟨_, (m, js), c7, rfl, da_mkline upd_same ((D.same S4).da (S4 _ _ ht3)), G, fun v' js' nm es H' s5 d5 R pm => k v' (m, js') H' (S3.trans (S4.trans s5)) d5 (R.line G pm)⟩
end
end K51
set_option Elab.async false
set_option linter.all false
set_option maxRecDepth 100000
set_option maxHeartbeats 4000000
namespace K51
open PySem L2 TL PyProof.Rows

def sp_joined (K : PySem.W.Frag) : Sp := fun vs H Q _ => ∃ (v : V) (l : Int × List (Int × Int)) (e : Int), vs = [v, .int e] ∧ Da K H (dL l) v ∧ LineOk l ∧ NewInts H (jn l.2 e) Q
def fr (l : Int × List (Int × Int)) (ns : List Int) (e : Int) : List Int := (jn l.2 e).filter fun t => !decide (t / 2 ∈ ns.map (· / 2))
abbrev s_joined : Stmt := top 12
theorem sc_joined : FnScope ["line", "end", "joints", "above", "below"] ["line", "end"] (defScope s_joined) := ⟨rfl, rfl, rfl, by decide +kernel, rfl, by decide +kernel, by decide +kernel⟩
theorem cc_joined_0 : CompOk (defScope s_joined) ["line", "end", "joints", "above", "below"] { kind := .function, names := [(Str.ofString ".0", .local), (Str.ofString "low", .local), (Str.ofString "high", .local), (Str.ofString "end", .free)], isGenerator := false, isCoroutine := false, more := [] } ["low", "high", "end"] 2 [none, none, some 1] := ⟨rfl, by decide +kernel, by decide +kernel, by decide +kernel, rfl, by decide +kernel, rfl, by decide +kernel⟩
theorem cc_joined_1 : CompOk (defScope s_joined) ["line", "end", "joints", "above", "below"] { kind := .function, names := [(Str.ofString ".0", .local), (Str.ofString "low", .local), (Str.ofString "high", .local), (Str.ofString "end", .free)], isGenerator := false, isCoroutine := false, more := [] } ["low", "high", "end"] 2 [none, none, some 1] := ⟨rfl, by decide +kernel, by decide +kernel, by decide +kernel, rfl, by decide +kernel, rfl, by decide +kernel⟩

abbrev s_law_joined : Stmt := top 24
theorem sc_law_joined : FnScope ["_law_line_here", "_law_end"] ["_law_line_here", "_law_end"] (defScope s_law_joined) := ⟨rfl, rfl, rfl, by decide +kernel, rfl, by decide +kernel, by decide +kernel⟩
theorem cc_law_joined_0 : CompOk (defScope s_law_joined) ["_law_line_here", "_law_end"] { kind := .function, names := [(Str.ofString ".0", .local), (Str.ofString "_law_a", .local), (Str.ofString "_law_b", .local), (Str.ofString "_law_end", .free)], isGenerator := false, isCoroutine := false, more := [] } ["_law_a", "_law_b", "_law_end"] 2 [none, none, some 1] := ⟨rfl, by decide +kernel, by decide +kernel, by decide +kernel, rfl, by decide +kernel, rfl, by decide +kernel⟩
theorem cc_law_joined_1 : CompOk (defScope s_law_joined) ["_law_line_here", "_law_end"] { kind := .function, names := [(Str.ofString ".0", .local), (Str.ofString "_law_a", .local), (Str.ofString "_law_b", .local), (Str.ofString "_law_end", .free)], isGenerator := false, isCoroutine := false, more := [] } ["_law_a", "_law_b", "_law_end"] 2 [none, none, some 1] := ⟨rfl, by decide +kernel, by decide +kernel, by decide +kernel, rfl, by decide +kernel, rfl, by decide +kernel⟩

theorem small_line {n : Nat} (h : n ≤ 1000) : n < sizeLine := Nat.lt_of_le_of_lt h (by decide)
theorem das_ints_len {K : PySem.W.Frag} {H : Hp} {js : List (Int × Int)} {vs : List V} (h : Das K H (js.map dP) vs) : vs.length = js.length := by rw [Dgs.length h, List.length_map]
section
variable {P : Program} {w : World} {K : PySem.W.Frag} {mg : Str → Option Value} {base : Heap} {f : Addr} {fd : FuncData}
theorem below_len {l : Int × List (Int × Int)} (h : LineOk l) (e : Int) : (below l.2 e).length + (above l.2 e).length ≤ 60 := h.inc e
theorem ok_joined (F : Fn K mg "joined" s_joined ["line", "end"] f fd) (B : Bl mg) : FnOk P w K mg base CX0 1 f fd ["line", "end"] (sp_joined K) := by
  refine F.F.ok sc_joined (fun vs H Q E h => ?_) (fun cdv A outer s H vs Q E hr h => ?_)
  · obtain ⟨v, l, e, rfl, _⟩ := h; rfl
  · obtain ⟨v, l, e, rfl, hv, ok, k⟩ := h
    obtain ⟨a, b, rfl, ht, us, hl, hq⟩ := da_line hv
    have hlen := das_ints_len hq
    have hz : us.length < sizeLine := small_line (by rw [hlen]; have := ok.len; omega)
    refine ⟨_, (pss_cons (ps_set (i := 2) sc_joined.nd rfl (Or.inl rfl) (pe_ix ix_tup (pv 0) pe_int (fun _ _ => rfl)))
 (pss_cons (ps_lc (i := 3) sc_joined.nd rfl rfl (pi_list (pv 2)) rfl cc_joined_0 (.tup (.cons (.name (by decide)) (.cons (.name (by decide)) .nil))) (fun _ _ _ _ => (pg_tup (n := 2) rfl (pgs_cons (pg_name (i := 0) cc_joined_0.nd rfl (Or.inl rfl)) (pgs_cons (pg_name (i := 1) cc_joined_0.nd rfl (Or.inl rfl)) pgs_nil)))) (fun _ _ _ _ => (pifs_one (pt_cmp (pc_eqI (pv 0) (pv 2))))) (fun _ _ _ _ => (pv 1)))
 (pss_cons (ps_lc (i := 4) sc_joined.nd rfl rfl (pi_list (pv 2)) rfl cc_joined_1 (.tup (.cons (.name (by decide)) (.cons (.name (by decide)) .nil))) (fun _ _ _ _ => (pg_tup (n := 2) rfl (pgs_cons (pg_name (i := 0) cc_joined_1.nd rfl (Or.inl rfl)) (pgs_cons (pg_name (i := 1) cc_joined_1.nd rfl (Or.inl rfl)) pgs_nil)))) (fun _ _ _ _ => (pifs_one (pt_cmp (pc_eqI (pv 1) (pv 2))))) (fun _ _ _ _ => (pv 0)))
 (pss_one (ps_ret (pe_callB call_sorted rfl B.sorted boot_sorted (pa_cons (pe_op op_cat (pv 4) (pv 3)) pa_nil))))))), ?_⟩
    -- joints = line[1]
    refine ⟨_, rfl, a, _, _, _, rfl, rfl, ht, rfl, ?_⟩
    -- above
    refine ⟨_, rfl, b, rfl, ⟨us, hl⟩, fun l1 n1 => lc_pure l.2 (fun p => decide (p.1 = e)) (fun p => V.int p.2) n1 hl hlen hz ?_ ?_⟩
    · intro i x d H' hx hd sm P1 P0 k1 k0
      obtain ⟨ad, p, e1, rfl, hp⟩ := das_pair (Das.same sm hq) hx
      rw [hd] at e1; cases e1
      refine ⟨ad, _, rfl, hp, rfl, _, _, rfl, _, _, rfl, rfl, _, rfl, _, rfl, _, _, rfl, rfl, _, rfl, ite2 (fun h => ⟨_, rfl, k1 h⟩) (fun h => k0 (by simpa using h))⟩
    have s1 : Same H (upd H l1 (.lst (above l.2 e |>.map V.int))) := same_upd n1
    have e1 : ((l.2.filter fun p => decide (p.1 = e)).map fun p => V.int p.2) = (above l.2 e).map V.int := by unfold above; rw [List.map_map]; rfl
    rw [e1]
    -- below
    refine ⟨_, rfl, b, rfl, ⟨us, s1.seq hl⟩, fun l2 n2 => lc_pure l.2 (fun p => decide (p.2 = e)) (fun p => V.int p.1) n2 (s1.seq hl) hlen hz ?_ ?_⟩
    · intro i x d H' hx hd sm P1 P0 k1 k0
      obtain ⟨ad, p, e1, rfl, hp⟩ := das_pair (Das.same (s1.trans sm) hq) hx
      rw [hd] at e1; cases e1
      refine ⟨ad, _, rfl, hp, rfl, _, _, rfl, _, _, rfl, rfl, _, rfl, _, rfl, _, _, rfl, rfl, _, rfl, ite2 (fun h => ⟨_, rfl, k1 h⟩) (fun h => k0 (by simpa using h))⟩
    have e2 : ((l.2.filter fun p => decide (p.2 = e)).map fun p => V.int p.1) = (below l.2 e).map V.int := by unfold below; rw [List.map_map]; rfl
    rw [e2]
    have g1 : (upd (upd H l1 (.lst (above l.2 e |>.map V.int))) l2 (.lst (below l.2 e |>.map V.int))) l1 = some (.lst (above l.2 e |>.map V.int)) := by
      rw [upd_ne (ne_of_none upd_same n2), upd_same]
    have hb := below_len ok e
    have s2 : Same H (upd (upd H l1 (.lst (above l.2 e |>.map V.int))) l2 (.lst (below l.2 e |>.map V.int))) := s1.trans (same_upd n2)
    -- sorted(below + above)
    refine ⟨_, rfl, _, rfl, l2, l1, _, _, rfl, rfl, upd_same, g1, Nat.le_of_lt (small_line (by rw [List.length_map, List.length_map]; omega)), fun p hp => ?_⟩
    refine ⟨p, below l.2 e ++ above l.2 e, rfl, SqL.of (by rw [upd_same, List.map_append]), (by rw [List.length_append]; omega), fun p2 hp2 => ?_⟩
    refine k p2 _ (s2.trans ((same_upd hp).trans (same_upd hp2))) (Same.free (s2.trans (same_upd hp)) hp2) upd_same
theorem ok_law_joined (F : Fn K mg "_law_joined" s_law_joined ["_law_line_here", "_law_end"] f fd) (B : Bl mg) : FnOk P w K mg base CX0 1 f fd ["_law_line_here", "_law_end"] (sp_joined K) := by
  refine F.F.ok sc_law_joined (fun vs H Q E h => ?_) (fun cdv A outer s H vs Q E hr h => ?_)
  · obtain ⟨v, l, e, rfl, _⟩ := h; rfl
  · obtain ⟨v, l, e, rfl, hv, ok, k⟩ := h
    obtain ⟨a, b, rfl, ht, us, hl, hq⟩ := da_line hv
    have hlen := das_ints_len hq
    have hz : us.length < sizeLine := small_line (by rw [hlen]; have := ok.len; omega)
    refine ⟨_, (pss_one (ps_ret (pe_callB call_sorted rfl B.sorted boot_sorted (pa_cons (pe_op op_cat (pe_lc (pi_list (pe_ix ix_tup (pv 0) pe_int (fun _ _ => rfl))) rfl cc_law_joined_0 (.tup (.cons (.name (by decide)) (.cons (.name (by decide)) .nil))) (fun _ _ _ _ => (pg_tup (n := 2) rfl (pgs_cons (pg_name (i := 0) cc_law_joined_0.nd rfl (Or.inl rfl)) (pgs_cons (pg_name (i := 1) cc_law_joined_0.nd rfl (Or.inl rfl)) pgs_nil)))) (fun _ _ _ _ => (pifs_one (pt_cmp (pc_eqI (pv 0) (pv 2))))) (fun _ _ _ _ => (pv 1))) (pe_lc (pi_list (pe_ix ix_tup (pv 0) pe_int (fun _ _ => rfl))) rfl cc_law_joined_1 (.tup (.cons (.name (by decide)) (.cons (.name (by decide)) .nil))) (fun _ _ _ _ => (pg_tup (n := 2) rfl (pgs_cons (pg_name (i := 0) cc_law_joined_1.nd rfl (Or.inl rfl)) (pgs_cons (pg_name (i := 1) cc_law_joined_1.nd rfl (Or.inl rfl)) pgs_nil)))) (fun _ _ _ _ => (pifs_one (pt_cmp (pc_eqI (pv 1) (pv 2))))) (fun _ _ _ _ => (pv 0)))) pa_nil)))), ?_⟩
    refine ⟨_, rfl, a, _, _, _, rfl, rfl, ht, rfl, b, rfl, ⟨us, hl⟩, fun l1 n1 => lc_pure l.2 (fun p => decide (p.1 = e)) (fun p => V.int p.2) n1 hl hlen hz ?_ ?_⟩
    · intro i x d H' hx hd sm P1 P0 k1 k0
      obtain ⟨ad, p, e1, rfl, hp⟩ := das_pair (Das.same sm hq) hx
      rw [hd] at e1; cases e1
      refine ⟨ad, _, rfl, hp, rfl, _, _, rfl, _, _, rfl, rfl, _, rfl, _, rfl, _, _, rfl, rfl, _, rfl, ite2 (fun h => ⟨_, rfl, k1 h⟩) (fun h => k0 (by simpa using h))⟩
    have s1 : Same H (upd H l1 (.lst (above l.2 e |>.map V.int))) := same_upd n1
    have e1 : ((l.2.filter fun p => decide (p.1 = e)).map fun p => V.int p.2) = (above l.2 e).map V.int := by unfold above; rw [List.map_map]; rfl
    rw [e1]
    refine ⟨_, rfl, a, _, _, _, rfl, rfl, same_tseq s1 ht, rfl, b, rfl, ⟨us, s1.seq hl⟩, fun l2 n2 => lc_pure l.2 (fun p => decide (p.2 = e)) (fun p => V.int p.1) n2 (s1.seq hl) hlen hz ?_ ?_⟩
    · intro i x d H' hx hd sm P1 P0 k1 k0
      obtain ⟨ad, p, e1, rfl, hp⟩ := das_pair (Das.same (s1.trans sm) hq) hx
      rw [hd] at e1; cases e1
      refine ⟨ad, _, rfl, hp, rfl, _, _, rfl, _, _, rfl, rfl, _, rfl, _, rfl, _, _, rfl, rfl, _, rfl, ite2 (fun h => ⟨_, rfl, k1 h⟩) (fun h => k0 (by simpa using h))⟩
    have e2 : ((l.2.filter fun p => decide (p.2 = e)).map fun p => V.int p.1) = (below l.2 e).map V.int := by unfold below; rw [List.map_map]; rfl
    rw [e2]
    have g1 : (upd (upd H l1 (.lst (above l.2 e |>.map V.int))) l2 (.lst (below l.2 e |>.map V.int))) l1 = some (.lst (above l.2 e |>.map V.int)) := by
      rw [upd_ne (ne_of_none upd_same n2), upd_same]
    have hb := below_len ok e
    have s2 : Same H (upd (upd H l1 (.lst (above l.2 e |>.map V.int))) l2 (.lst (below l.2 e |>.map V.int))) := s1.trans (same_upd n2)
    refine ⟨l1, l2, _, _, rfl, rfl, g1, upd_same, Nat.le_of_lt (small_line (by rw [List.length_map, List.length_map]; omega)), fun p hp => ?_⟩
    refine ⟨p, above l.2 e ++ below l.2 e, rfl, SqL.of (by rw [upd_same, List.map_append]), (by rw [List.length_append]; omega), fun p2 hp2 => ?_⟩
    rw [jn_eq]
    exact k p2 _ (s2.trans ((same_upd hp).trans (same_upd hp2))) (Same.free (s2.trans (same_upd hp)) hp2) upd_same
end
end K51
set_option Elab.async false
set_option linter.all false
set_option maxRecDepth 100000
set_option maxHeartbeats 4000000
namespace K51
open PySem L2 TL PyProof.Rows
structure Cl (mg : Str → Option Value) (t1 t2 : Tok) : Prop where
  MOST_PIECES : mg "MOST_PIECES" = some (.int 40 t1)
  MOST_JOINTS : mg "MOST_JOINTS" = some (.int 80 t2)
structure Xl (K : PySem.W.Frag) (mg : Str → Option Value) (c : Addr) : Prop where
  NoLine : Xc K mg "NoLine" c
def sp_isend (K : PySem.W.Frag) : Sp := fun vs H Q _ => ∃ (a : Addr) (m e : Int) (x : V), vs = [.ref a, .int e] ∧ SqT K H a [.int m, x] ∧ Q (.bl (decide (0 ≤ e ∧ e < 2 * m))) H
def sp_cj (K : PySem.W.Frag) (C : Addr) : Sp := fun vs H Q E => ∃ (a b : Addr) (m : Int) (x : V) (p : Int × Int), vs = [.ref a, .ref b] ∧ SqT K H a [.int m, x] ∧ SqT K H b [.int p.1, .int p.2] ∧
  (okJ m p → Q .non H) ∧ (¬ okJ m p → ∀ e, H e = none → E (.ref C) (some e) H)
def sp_cl (K : PySem.W.Frag) (C : Addr) : Sp := fun vs H Q E => ∃ (v : V) (l : Ln), vs = [v] ∧ Da K H (dL l) v ∧ l.2.length ≤ 900 ∧ (isLine l → ∀ H', Same H H' → Q .non H') ∧ (¬ isLine l → ∀ H', Same H H' → ∀ e, H' e = none → E (.ref C) (some e) H')
abbrev s_is_end : Stmt := top 9
theorem sc_is_end : FnScope ["line", "end"] ["line", "end"] (defScope s_is_end) := ⟨rfl, rfl, rfl, by decide +kernel, rfl, by decide +kernel, by decide +kernel⟩

abbrev s_check_joint : Stmt := top 11
theorem sc_check_joint : FnScope ["line", "joint", "low", "high"] ["line", "joint"] (defScope s_check_joint) := ⟨rfl, rfl, rfl, by decide +kernel, rfl, by decide +kernel, by decide +kernel⟩

abbrev s_check_line : Stmt := top 10
theorem sc_check_line : FnScope ["line", "many", "joints", "seen", "joint"] ["line"] (defScope s_check_line) := ⟨rfl, rfl, rfl, by decide +kernel, rfl, by decide +kernel, by decide +kernel⟩

section
variable {P : Program} {w : World} {K : PySem.W.Frag} {mg : Str → Option Value} {base : Heap} {f : Addr} {fd : FuncData} {c1 : Addr} {t1 t2 : Tok}
theorem ok_is_end (F : Fn K mg "is_end" s_is_end ["line", "end"] f fd) : FnOk P w K mg base CX0 1 f fd ["line", "end"] (sp_isend K) := by
  refine F.F.ok sc_is_end (fun vs H Q E h => ?_) (fun cdv A outer s H vs Q E hr h => ?_)
  · obtain ⟨a, m, e, x, rfl, _⟩ := h; rfl
  · obtain ⟨a, m, e, x, rfl, ht, k⟩ := h
    refine ⟨_, (pss_one (ps_ret (pe_chain op_le op_lt pe_int (pv 1) (pe_op op_mul pe_int (pe_ix ix_tup (pv 0) pe_int (fun _ _ => rfl)))))), ?_⟩
    refine ⟨_, rfl, _, _, rfl, rfl, _, rfl, ite2 (fun h => ?_) (fun h => ?_)⟩
    · have h : 0 ≤ e := by simpa using h
      refine ⟨_, rfl, a, _, _, _, rfl, rfl, ht, rfl, _, _, rfl, rfl, .inl ⟨by decide, by decide⟩, _, _, rfl, rfl, ?_⟩
      have e1 : decide (0 ≤ e ∧ e < 2 * m) = decide (e < 2 * m) := by simp [h]
      rw [e1] at k
      exact k
    · have h : ¬ 0 ≤ e := by simpa using h
      have e1 : decide (0 ≤ e ∧ e < 2 * m) = false := by simp [h]
      rw [e1] at k
      exact k
theorem ok_check_joint {f1 f2 : Addr} {fd1 fd2 : FuncData} (F : Fn K mg "check_joint" s_check_joint ["line", "joint"] f fd) (XS : Xl K mg c1) (F_is_end : Fn K mg "is_end" s_is_end ["line", "end"] f1 fd1)
    (F_piece_of : Fn K mg "piece_of" s_piece_of ["end"] f2 fd2) : FnOk P w K mg base (CXr P w base) 2 f fd ["line", "joint"] (sp_cj K c1) := by
  have G_is_end : FnOk P w K mg base CX0 1 f1 fd1 ["line", "end"] (sp_isend K) := ok_is_end F_is_end
  have G_piece_of : FnOk P w K mg base CX0 1 f2 fd2 ["end"] sp_half := ok_piece_of F_piece_of
  refine F.F.okX sc_check_joint (fun vs H Q E h => ?_) (fun cdv A outer s H vs Q E hr h => ?_)
  · obtain ⟨a, b, m, x, p, rfl, _⟩ := h; rfl
  · obtain ⟨a, b, m, x, ⟨lo, hi⟩, rfl, hl, hj, k1, k2⟩ := h
    dsimp only at hj
    refine ⟨_, (pss_cons (ps_asg (pv 1) (pg_tup (n := 2) rfl (pgs_cons (pg_name (i := 2) sc_check_joint.nd rfl (Or.inl rfl)) (pgs_cons (pg_name (i := 3) sc_check_joint.nd rfl (Or.inl rfl)) pgs_nil))))
 (pss_cons (ps_if (PW.pt (pw_or (pt_not (pt_val (pe_call G_is_end (hr.mono (by decide)) rfl F_is_end.m F_is_end.F.kp F_is_end.b .nil pass0 (pa_cons (pv 0) (pa_cons (pv 2) pa_nil))))) (pw_or1 (pt_not (pt_val (pe_call G_is_end (hr.mono (by decide)) rfl F_is_end.m F_is_end.F.kp F_is_end.b .nil pass0 (pa_cons (pv 0) (pa_cons (pv 3) pa_nil))))))))
  (pss_one (ps_raise raises_cx rfl rfl XS.NoLine.m XS.NoLine.q PySem.F.excBase_ValueError (pa_cons pe_str pa_nil))) pss_nil)
 (pss_cons (ps_if (pt_cmp (pc_gt (pv 2) (pv 3)))
  (pss_one (ps_raise raises_cx rfl rfl XS.NoLine.m XS.NoLine.q PySem.F.excBase_ValueError (pa_cons pe_str pa_nil))) pss_nil)
 (pss_one (ps_if (pt_cmp (pc_eqI (pe_call G_piece_of (hr.mono (by decide)) rfl F_piece_of.m F_piece_of.F.kp F_piece_of.b .nil pass0 (pa_cons (pv 2) pa_nil)) (pe_call G_piece_of (hr.mono (by decide)) rfl F_piece_of.m F_piece_of.F.kp F_piece_of.b .nil pass0 (pa_cons (pv 3) pa_nil))))
  (pss_one (ps_raise raises_cx rfl rfl XS.NoLine.m XS.NoLine.q PySem.F.excBase_ValueError (pa_cons pe_str pa_nil))) pss_nil))))), ?_⟩
    refine ⟨_, rfl, b, _, rfl, hj, rfl, _, _, rfl, _, _, rfl, rfl, ?_⟩
    refine ⟨_, rfl, _, rfl, a, m, lo, x, rfl, hl, _, rfl, ite2 (fun h => ?_) (fun h => ?_)⟩
    · have h : ¬ (0 ≤ lo ∧ lo < 2 * m) := fun z => by simp [z] at h
      exact iteT ⟨by decide, fun e he => k2 (fun z => h z.1) e he⟩
    have h1 : 0 ≤ lo ∧ lo < 2 * m := by simpa using h
    refine ⟨_, rfl, _, rfl, a, m, hi, x, rfl, hl, _, rfl, ite2 (fun h => ?_) (fun h => ?_)⟩
    · have h : ¬ (0 ≤ hi ∧ hi < 2 * m) := fun z => by simp [z] at h
      exact ⟨by decide, fun e he => k2 (fun z => h z.2.1) e he⟩
    have h2 : 0 ≤ hi ∧ hi < 2 * m := by simpa using h
    refine ⟨_, rfl, _, rfl, _, _, rfl, rfl, _, rfl, ite2 (fun h => ?_) (fun h => ?_)⟩
    · have h : lo > hi := by simpa using h
      exact ⟨by decide, fun e he => k2 (fun z => by have := z.2.2.1; dsimp only at this; omega) e he⟩
    have h3 : lo ≤ hi := by have h : ¬ lo > hi := by simpa using h
                            omega
    refine ⟨_, rfl, lo, rfl, _, rfl, hi, rfl, _, _, rfl, rfl, _, rfl, ite2 (fun h => ?_) (fun h => ?_)⟩
    · have h : lo / 2 = hi / 2 := by simpa using h
      exact ⟨by decide, fun e he => k2 (fun z => z.2.2.2 h) e he⟩
    have h4 : lo / 2 ≠ hi / 2 := by simpa using h
    exact k1 ⟨h1, h2, h3, h4⟩
theorem ok_check_line {f3 : Addr} {fd3 : FuncData} (F : Fn K mg "check_line" s_check_line ["line"] f fd) (XS : Xl K mg c1) (B : Bm mg) (C : Cl mg t1 t2) (F_check_joint : Fn K mg "check_joint" s_check_joint ["line", "joint"] f3 fd3)
    (G_check_joint : FnOk P w K mg base (CXr P w base) 2 f3 fd3 ["line", "joint"] (sp_cj K c1)) : FnOk P w K mg base (CXr P w base) 3 f fd ["line"] (sp_cl K c1) := by
  refine F.F.okX sc_check_line (fun vs H Q E h => ?_) (fun cdv A outer s H vs Q E hr h => ?_)
  · obtain ⟨v, l, rfl, _⟩ := h; rfl
  · obtain ⟨v, ⟨m, js⟩, rfl, hv, hz, k1, k2⟩ := h
    obtain ⟨a, b, rfl, ht, us, hl, hq⟩ := da_line hv
    dsimp only at ht hq hz
    have hul : us.length = js.length := by rw [Dgs.length hq, List.length_map]
    obtain ⟨ps, rfl, hkeys, hT⟩ := pairs_of hq
    have hpl : ps.length = js.length := by rw [List.length_map] at hul; exact hul
    refine ⟨_, (pss_cons (ps_asg (pv 0) (pg_tup (n := 2) rfl (pgs_cons (pg_name (i := 1) sc_check_line.nd rfl (Or.inl rfl)) (pgs_cons (pg_name (i := 2) sc_check_line.nd rfl (Or.inl rfl)) pgs_nil))))
 (pss_cons (ps_if (PW.pt (pw_or (pt_cmp (pc_lt (pv 1) pe_int)) (pw_or1 (pt_cmp (pc_gt (pv 1) (pe_glob (v := .int 40) rfl C.MOST_PIECES ⟨_, rfl⟩))))))
  (pss_one (ps_raise raises_cx rfl rfl XS.NoLine.m XS.NoLine.q PySem.F.excBase_ValueError (pa_cons (pe_fstr3 (i := 40) rfl C.MOST_PIECES ⟨_, rfl⟩ (by decide) (by decide)) pa_nil))) pss_nil)
 (pss_cons (ps_if (pt_cmp (pc_gt (pe_callB call_len_seq rfl B.len boot_len (pa_cons (pv 2) pa_nil)) (pe_glob (v := .int 80) rfl C.MOST_JOINTS ⟨_, rfl⟩)))
  (pss_one (ps_raise raises_cx rfl rfl XS.NoLine.m XS.NoLine.q PySem.F.excBase_ValueError (pa_cons (pe_fstr3 (i := 80) rfl C.MOST_JOINTS ⟨_, rfl⟩ (by decide) (by decide)) pa_nil))) pss_nil)
 (pss_cons (ps_set (i := 3) sc_check_line.nd rfl (Or.inl rfl) (pe_callTy0 call_set0T rfl B.set boot_set))
 (pss_one (ps_for PassesOwn.leaving rfl (pi_list (pv 2)) (pg_name (i := 4) sc_check_line.nd rfl (Or.inl rfl))
  (pss_cons (ps_expr (pe_call G_check_joint (hr.mono (by decide)) rfl F_check_joint.m F_check_joint.F.kp F_check_joint.b .nil passes_cx (pa_cons (pv 0) (pa_cons (pv 4) pa_nil))))
 (pss_cons (ps_if (pt_cmpR (op_inT (hu_of hr)) (pv 4) (pv 3) (by with_unfolding_all rfl))
  (pss_one (ps_raise raises_cx rfl rfl XS.NoLine.m XS.NoLine.q PySem.F.excBase_ValueError (pa_cons pe_str pa_nil))) pss_nil)
 (pss_one (ps_expr (pe_bmS PySem.F.slot_set_add PySem.F.type_set_add (mt_saddT (hu_of hr)) (pv 3) (pa_cons (pv 4) pa_nil)))))))))))), ?_⟩
    refine ⟨_, rfl, a, _, rfl, ht, rfl, _, _, rfl, _, _, rfl, rfl, ?_⟩
    refine ⟨_, rfl, _, _, rfl, rfl, _, rfl, ite2 (fun h => ?_) (fun h => ?_)⟩
    · have h : m < 1 := by simpa using h
      exact iteT fun z => ⟨by show 1 ≤ sizeLine; decide, fun e he => k2 (fun z => by have := z.1; dsimp only at this; omega) H (Same.refl _) e he⟩
    have h1 : ¬ m < 1 := by simpa using h
    refine ⟨_, rfl, _, _, rfl, rfl, _, rfl, ite2 (fun h => ?_) (fun h => ?_)⟩
    · have h : m > 40 := by simpa using h
      exact fun z => ⟨by show 1 ≤ sizeLine; decide, fun e he => k2 (fun z => by have := z.2.1; dsimp only at this; omega) H (Same.refl _) e he⟩
    have h2 : ¬ m > 40 := by simpa using h
    refine ⟨_, rfl, b, _, rfl, .inl hl, _, _, rfl, rfl, _, rfl, ite2 (fun h => ?_) (fun h => ?_)⟩
    · have h : ((ps.map fun p => V.ref p.2).length : Int) > 80 := by simpa using h
      rw [List.length_map, hpl] at h
      exact fun z => ⟨by show 1 ≤ sizeLine; decide, fun e he => k2 (fun z => by have := z.2.2.1; dsimp only at this; omega) H (Same.refl _) e he⟩
    have h3 : ¬ ((ps.map fun p => V.ref p.2).length : Int) > 80 := by simpa using h
    rw [List.length_map, hpl] at h3
    refine ⟨rfl, fun q nq => ?_⟩
    have sq : ∀ xs, Same H (upd H q (SetO P w q xs)) := fun xs => same_upd nq
    refine ⟨_, rfl, b, rfl, ⟨_, (sq []).seq hl⟩, for_list (K := K) (a := b) (xs := ps.map fun p => V.ref p.2) (fun i σ H3 => ∃ (xs : List (List Key × Addr)) (x4 : Option V), σ = [some (.ref a), some (.int m), some (.ref b), some (.ref q), x4] ∧ H3 = upd H q (SetO P w q xs) ∧ Met ps i xs ∧ (∀ p ∈ js.take i, okJ m p) ∧ (js.take i).Nodup)
      ⟨[], none, rfl, rfl, Met.zero ps, fun p hp => by simp at hp, by simp⟩ (fun i σ H3 _ ⟨xs, _, _, e, _⟩ => e ▸ (sq xs).seq hl) ?_ ?_⟩
    · rintro i y σ H3 hi ⟨xs, x4, rfl, rfl, M, al, nd⟩
      rw [List.getElem?_map] at hi
      obtain ⟨⟨ky, ad⟩, hpi, rfl⟩ : ∃ p, ps[i]? = some p ∧ y = .ref p.2 := by
        cases q : ps[i]? with
        | none => rw [q] at hi; cases hi
        | some e => rw [q] at hi; cases hi; exact ⟨e, rfl, rfl⟩
      have hil : i < js.length := by have := (List.getElem?_eq_some_iff.mp hpi).1; omega
      have hji : js[i]? = some js[i] := List.getElem?_eq_getElem hil
      have hky : ky = kP js[i] := by
        have e1 : (keysOf ps)[i]? = some ky := by unfold keysOf; rw [List.getElem?_map, hpi]; rfl
        rw [hkeys, List.getElem?_map, hji] at e1
        exact (Option.some.inj e1).symm
      subst hky
      generalize js[i] = p at hji hpi
      have hta : SqT K H ad ((kP p).map kV) := hT (kP p, ad) (List.mem_of_getElem? hpi)
      have htk : js.take (i + 1) = js.take i ++ [p] := by rw [List.take_add_one, hji]; rfl
      refine ⟨_, rfl, _, rfl, a, ad, m, _, p, rfl, same_tseq (sq xs) ht, same_tseq (sq xs) hta, fun hok => ?_, fun hno e he => k2 (fun z => hno (z.2.2.2.1 p (List.mem_of_getElem? hji))) _ (sq xs) e he⟩
      have hTx : TupsIn K (upd H q (SetO P w q xs)) xs := fun x hx => same_tseq (sq xs) (hT x (M.sub x hx))
      have hmem : kP p ∈ keysOf xs ↔ p ∈ js.take i := by
        rw [M.key]
        have : keysOf (ps.take i) = (js.take i).map kP := by unfold keysOf at hkeys ⊢; rw [List.map_take, hkeys, List.map_take]
        rw [this, mem_kP]
      refine ⟨_, rfl, _, rfl, q, xs, kP p, ad, rfl, rfl, upd_same, hTx, same_tseq (sq xs) hta, _, rfl, ite2 (fun h => ?_) (fun h => ?_)⟩
      · have h : p ∈ js.take i := hmem.mp (inK_iff.mp h)
        refine ⟨by decide, fun e he => k2 (fun z => ?_) _ (sq xs) e he⟩
        have n2 := z.2.2.2.2
        dsimp only at n2
        have n3 : (js.take (i + 1)).Nodup := n2.sublist (List.take_sublist _ _)
        rw [htk] at n3
        exact (List.nodup_append.mp n3).2.2 p h p (by simp) rfl
      · have h : p ∉ js.take i := fun z => h (inK_iff.mpr (hmem.mpr z))
        refine ⟨_, rfl, ⟨q, xs, rfl, upd_same⟩, _, rfl, q, xs, kP p, ad, rfl, rfl, upd_same, hTx, same_tseq (sq xs) hta, ?_, fun z => absurd (hmem.mp z) h, fun z xs' hp => ?_⟩
        · have := sub_lenK M.nd (m := keysOf (ps.take i)) fun k hk => (M.key k).mp hk
          unfold keysOf at this
          rw [List.length_map, List.length_map, List.length_take] at this
          omega
        refine ⟨xs', _, rfl, upd_upd, M.new hpi z hp, fun x hx => ?_, ?_⟩
        · rw [htk] at hx
          rcases List.mem_append.mp hx with z | z
          · exact al x z
          · have z : x = p := by simpa using z
            rw [z]; exact hok
        · rw [htk]
          refine List.nodup_append.mpr ⟨nd, by simp, fun x hx y hy => ?_⟩
          have hy : y = p := by simpa using hy
          rw [hy]
          exact fun z => h (z ▸ hx)
    · rintro σ H3 ⟨xs, x4, rfl, rfl, M, al, nd⟩
      rw [List.length_map, hpl, List.take_length] at al nd
      exact k1 ⟨by show 1 ≤ m; omega, by show m ≤ 40; omega, by show js.length ≤ 80; omega, al, nd⟩ _ (sq xs)
end
end K51
set_option Elab.async false
set_option linter.all false
set_option maxRecDepth 100000
set_option maxHeartbeats 4000000
namespace K51
open PySem L2 TL PyProof.Rows
/-- what the maker of trains keeps -/
structure TrainOk (l : Int × List (Int × Int)) (ns : List Int) : Prop where
  ends : ∀ e ∈ ns, 0 ≤ e ∧ e < 2 * l.1
  nd : (ns.map (· / 2)).Nodup
  ch : ∀ (i : Nat) x y, ns[i]? = some x → ns[i + 1]? = some y → y ∈ jn l.2 (oth x)
def sp_train (K : PySem.W.Frag) : Sp := fun vs H Q _ => ∃ (v : V) (l : Int × List (Int × Int)) (c n : Int), vs = [v, .int c, .int n] ∧ Da K H (dL l) v ∧ LineOk l ∧ 1 ≤ n ∧ n ≤ 40 ∧
  ∀ (p : Addr) (ns : List Int) (H' : Hp), Same H H' → H p = none → H' p = some (.lst (ns.map V.int)) → ns ≠ [] → ns.length ≤ 40 → (ns.length : Int) ≤ n → TrainOk l ns → Q (.ref p) H'
theorem jn_mem {l : Int × List (Int × Int)} (ok : LineOk l) {e x : Int} (h : x ∈ jn l.2 e) : 0 ≤ x ∧ x < 2 * l.1 := by
  unfold jn at h
  rcases List.mem_append.mp (srt_mem.mp h) with z | z
  · obtain ⟨p, hp, rfl⟩ := List.mem_map.mp z
    have := ok.ends p (List.mem_filter.mp hp).1
    omega
  · obtain ⟨p, hp, rfl⟩ := List.mem_map.mp z
    have := ok.ends p (List.mem_filter.mp hp).1
    omega
theorem TrainOk.snoc {l : Int × List (Int × Int)} {ns : List Int} {x : Int} (ok : LineOk l) (T : TrainOk l ns) (hne : ns ≠ []) (hx : x ∈ fr l ns (oth (ns.getLastD 0))) : TrainOk l (ns ++ [x]) := by
  obtain ⟨h1, h2⟩ := List.mem_filter.mp hx
  have h2 : ¬ x / 2 ∈ ns.map (· / 2) := by simpa using h2
  refine ⟨fun e he => ?_, ?_, fun i a b ha hb => ?_⟩
  · rcases List.mem_append.mp he with z | z
    · exact T.ends e z
    · have z : e = x := by simpa using z
      rw [z]; exact jn_mem ok h1
  · rw [List.map_append, List.nodup_append]
    refine ⟨T.nd, by simp, fun a ha b hb => ?_⟩
    have hb : b = x / 2 := by simpa using hb
    intro z
    exact h2 (by rw [← hb, ← z]; exact ha)
  · by_cases hi : i + 1 < ns.length
    · rw [List.getElem?_append_left hi] at hb
      rw [List.getElem?_append_left (by omega)] at ha
      exact T.ch i a b ha hb
    · have hlt : i + 1 < (ns ++ [x]).length := (List.getElem?_eq_some_iff.mp hb).1
      rw [List.length_append, List.length_singleton] at hlt
      have e1 : i + 1 = ns.length := by omega
      rw [e1, List.getElem?_append_right (Nat.le_refl _), Nat.sub_self] at hb
      cases hb
      rw [List.getElem?_append_left (by omega)] at ha
      have e2 : ns.getLastD 0 = a := by
        rw [List.getLastD_eq_getLast?, List.getLast?_eq_getElem?]
        have : ns.length - 1 = i := by omega
        rw [this, ha]; rfl
      rw [e2] at h1
      exact h1
abbrev s_law_train : Stmt := top 27
theorem sc_law_train : FnScope ["_law_line_here", "_law_cell", "_law_length", "_law_train_here", "_law_k", "_law_pieces", "_law_some"] ["_law_line_here", "_law_cell", "_law_length"] (defScope s_law_train) := ⟨rfl, rfl, rfl, by decide +kernel, rfl, by decide +kernel, by decide +kernel⟩
theorem cc_law_train_0 : CompOk (defScope s_law_train) ["_law_line_here", "_law_cell", "_law_length", "_law_train_here", "_law_k", "_law_pieces", "_law_some"] { kind := .function, names := [(Str.ofString ".0", .local), (Str.ofString "_law_end", .local)], isGenerator := false, isCoroutine := false, more := [] } ["_law_end"] 1 [none] := ⟨rfl, by decide +kernel, by decide +kernel, by decide +kernel, rfl, by decide +kernel, rfl, by decide +kernel⟩
theorem cc_law_train_1 : CompOk (defScope s_law_train) ["_law_line_here", "_law_cell", "_law_length", "_law_train_here", "_law_k", "_law_pieces", "_law_some"] { kind := .function, names := [(Str.ofString ".0", .local), (Str.ofString "_law_end", .local), (Str.ofString "_law_pieces", .free)], isGenerator := false, isCoroutine := false, more := [] } ["_law_end", "_law_pieces"] 1 [none, some 5] := ⟨rfl, by decide +kernel, by decide +kernel, by decide +kernel, rfl, by decide +kernel, rfl, by decide +kernel⟩

section
variable {P : Program} {w : World} {K : PySem.W.Frag} {mg : Str → Option Value} {base : Heap} {f : Addr} {fd : FuncData}
theorem ok_law_train {f1 f2 f3 : Addr} {fd1 fd2 fd3 : FuncData} (F : Fn K mg "_law_train" s_law_train ["_law_line_here", "_law_cell", "_law_length"] f fd) (F_law_mix : Fn K mg "_law_mix" s_law_mix ["_law_cell", "_law_k"] f1 fd1) (F_law_other : Fn K mg "_law_other" s_law_other ["_law_end"] f2 fd2)
    (F_law_joined : Fn K mg "_law_joined" s_law_joined ["_law_line_here", "_law_end"] f3 fd3) (B : Bl mg) : FnOk P w K mg base CX0 2 f fd ["_law_line_here", "_law_cell", "_law_length"] (sp_train K) := by
  have G_law_mix : FnOk P w K mg base CX0 1 f1 fd1 ["_law_cell", "_law_k"] sp_mix := ok_law_mix F_law_mix B
  have G_law_other : FnOk P w K mg base CX0 1 f2 fd2 ["_law_end"] sp_other := ok_law_other F_law_other
  have G_law_joined : FnOk P w K mg base CX0 1 f3 fd3 ["_law_line_here", "_law_end"] (sp_joined K) := ok_law_joined F_law_joined B
  refine F.F.ok sc_law_train (fun vs H Q E h => ?_) (fun cdv A outer s H vs Q E hr h => ?_)
  · obtain ⟨v, l, c, n, rfl, _⟩ := h; rfl
  · obtain ⟨v, l, c, n, rfl, hv, ok, h1, h40, k⟩ := h
    obtain ⟨a, b, rfl, ht, us, hl, hq⟩ := da_line hv
    have o1 := ok.one
    refine ⟨_, (pss_cons (ps_set (i := 3) sc_law_train.nd rfl (Or.inl rfl) (pe_lst (pa_cons (pe_op op_mod (pe_call G_law_mix (hr.mono (by decide)) rfl F_law_mix.m F_law_mix.F.kp F_law_mix.b .nil pass0 (pa_cons (pv 1) (pa_cons pe_int pa_nil))) (pe_op op_mul pe_int (pe_ix ix_tup (pv 0) pe_int (fun _ _ => rfl)))) pa_nil)))
 (pss_cons (ps_for PassesOwn.never rfl (pi_range2 rfl B.range (pa_cons pe_int (pa_cons (pv 2) pa_nil))) (pg_name (i := 4) sc_law_train.nd rfl (Or.inl rfl))
  (pss_cons (ps_set (i := 5) sc_law_train.nd rfl (Or.inr rfl) (pe_lc (pi_list (pv 3)) rfl cc_law_train_0 (.name (by decide)) (fun _ _ _ _ => (pg_name (i := 0) cc_law_train_0.nd rfl (Or.inl rfl))) (fun _ _ _ _ => pifs_nil) (fun _ _ _ _ => (pe_op op_fdiv (pv 0) pe_int))))
 (pss_cons (ps_lc (i := 6) sc_law_train.nd rfl rfl (pi_list (pe_call G_law_joined (hr.mono (by decide)) rfl F_law_joined.m F_law_joined.F.kp F_law_joined.b .nil pass0 (pa_cons (pv 0) (pa_cons (pe_call G_law_other (hr.mono (by decide)) rfl F_law_other.m F_law_other.F.kp F_law_other.b .nil pass0 (pa_cons (pe_ix ix_list (pv 3) (pe_un un_neg pe_int) (fun _ _ => rfl)) pa_nil)) pa_nil)))) rfl cc_law_train_1 (.name (by decide)) (fun _ _ _ _ => (pg_name (i := 0) cc_law_train_1.nd rfl (Or.inl rfl))) (fun _ _ _ _ => (pifs_one (pt_cmpR (op_notInDk (K := K) rfl hr.units) (pe_op op_fdiv (pv 0) pe_int) (pv 1) (by with_unfolding_all rfl)))) (fun _ _ _ _ => (pv 0)))
 (pss_cons (ps_if (pt_cmpR (op_eqD hr.units) (pv 6) (pe_lst pa_nil) (nomark _))
  (pss_one (ps_ret (pv 3))) pss_nil)
 (pss_one (ps_expr (pe_bm PySem.F.plainAttrs_list PySem.F.slot_list_append PySem.F.type_list_append mt_append (pv 3) (pa_cons (pe_ix ix_list (pv 6) (pe_op op_mod (pe_call G_law_mix (hr.mono (by decide)) rfl F_law_mix.m F_law_mix.F.kp F_law_mix.b .nil pass0 (pa_cons (pv 1) (pa_cons (pv 4) pa_nil))) (pe_callB call_len_seq rfl B.len boot_len (pa_cons (pv 6) pa_nil))) (fun _ _ => rfl)) pa_nil))))))))
 (pss_one (ps_ret (pv 3))))), ?_⟩
    refine ⟨_, rfl, c, 0, rfl, by decide, by decide, fun m m0 m1 => ⟨_, rfl, a, _, _, _, rfl, rfl, ht, rfl, _, _, rfl, rfl, .inl ⟨by decide, by decide⟩, _, _, rfl, rfl, (by show (0 : Int) < 2 * l.1; omega), by show 1 ≤ sizeLine; decide, fun t nt => ?_⟩⟩
    have e0 : 0 ≤ m % (2 * l.1) := Int.emod_nonneg _ (by omega)
    have e1 : m % (2 * l.1) < 2 * l.1 := Int.emod_lt_of_pos _ (by omega)
    refine ⟨_, rfl, 1, n, rfl, ⟨by decide, by decide, by omega, by omega⟩, for_range (fun i σ H3 => ∃ (ns : List Int) (x4 x5 x6 : Option V), σ = [some (.ref a), some (.int c), some (.int n), some (.ref t), x4, x5, x6] ∧ Same H H3 ∧ H3 t = some (.lst (ns.map V.int)) ∧ ns ≠ [] ∧ ns.length = i + 1 ∧ TrainOk l ns)
      ⟨[m % (2 * l.1)], none, none, none, rfl, same_upd nt, upd_same, by simp, rfl, ⟨fun e he => (by rw [List.mem_singleton.mp he]; exact ⟨e0, e1⟩), by simp, fun i x y hx hy => by simp at hy⟩⟩ ?_ ?_⟩
    · rintro i σ H3 hi ⟨ns, x4, x5, x6, rfl, S3, ht3, hne, nl, T⟩
      have hi' : i + 1 ≤ 39 := by
        have h : i < (n - 1).toNat := hi
        omega
      -- pieces
      refine ⟨_, rfl, t, rfl, ⟨_, SqL.of ht3⟩, fun pc npc => lc_pure ns (fun _ => true) (fun e => V.int (e / 2)) npc (SqL.of ht3) (by rw [List.length_map]) (by rw [List.length_map]; exact small_l (by omega)) ?_ ?_⟩
      · intro j x d H' hx hd sm P1 P0 k1 k0
        rw [List.getElem?_map, hd] at hx
        cases hx
        refine name_yes ?_
        exact ⟨_, rfl, _, _, rfl, rfl, ⟨by decide, by decide⟩, k1 rfl⟩
      rw [filt_true]
      have e1 : (ns.map fun e => V.int (e / 2)) = (ns.map (· / 2)).map V.int := by rw [List.map_map]; rfl
      rw [e1]
      have s4 : Same H3 (upd H3 pc (.lst ((ns.map (· / 2)).map V.int))) := same_upd npc
      -- some
      refine ⟨_, rfl, _, rfl, _, rfl, t, _, _, _, rfl, rfl, SqL.of (s4 _ _ ht3), at_last hne, _, rfl, _, l, _, rfl, Da.same (S3.trans s4) hv, ok, fun p H5 s5 hp hp2 => ⟨p, rfl, ⟨_, SqL.of hp2⟩, fun q nq => lc_pure (jn l.2 (oth (ns.getLastD 0))) (fun t => !decide (t / 2 ∈ ns.map (· / 2))) (fun t => V.int t) nq (SqL.of hp2) (by rw [List.length_map]) ?_ ?_ ?_⟩⟩
      · rw [List.length_map]
        refine small_l ?_
        unfold jn
        rw [srt_length, List.length_append]
        have := below_len ok (oth (ns.getLastD 0))
        omega
      · intro j x d H' hx hd sm P1 P0 k1 k0
        rw [List.getElem?_map, hd] at hx
        cases hx
        have hD : Da K H' (.list ((ns.map (· / 2)).map .int)) (.ref pc) := Da.same (s5.trans sm) (da_new upd_same)
        refine ⟨_, rfl, _, _, rfl, rfl, ⟨by decide, by decide⟩, _, rfl, _, .int (d / 2), hD, dg_int.mpr rfl, okDs_I _, okD_int _, _, rfl, ?_⟩
        rw [any_I]
        exact ite2 (fun h => ⟨_, rfl, k1 h⟩) (fun h => k0 (by simpa using h))
      have efr : ((jn l.2 (oth (ns.getLastD 0))).filter fun t => !decide (t / 2 ∈ ns.map (· / 2))) = fr l ns (oth (ns.getLastD 0)) := rfl
      rw [efr]
      have S6 : Same H3 (upd H5 q (.lst ((fr l ns (oth (ns.getLastD 0))).map V.int))) := (s4.trans s5).trans (same_upd nq)
      -- if some == []
      refine ⟨_, rfl, Nat.zero_le _, fun e ne => ?_⟩
      have s7 := same_upd (o := .lst []) ne
      have hq7 := s7 _ _ (upd_same (H := H5) (a := q) (o := .lst ((fr l ns (oth (ns.getLastD 0))).map V.int)))
      refine ⟨dI (fr l ns (oth (ns.getLastD 0))), .list [], da_new hq7, da_new (ns := []) upd_same, okD_ints _, okD_nil, _, rfl, ?_⟩
      have ee : PyData.eqv (dI (fr l ns (oth (ns.getLastD 0)))) (.list []) = ((fr l ns (oth (ns.getLastD 0))).map PyData.int).isEmpty := eqv_list_nil _
      rw [ee]
      refine ite2 (fun _ => ?_) (fun hem => ?_)
      · exact ⟨_, rfl, k t ns _ (S3.trans (S6.trans s7)) nt (s7 _ _ (S6 _ _ ht3)) hne (by omega) (by have h : i < (n - 1).toNat := hi; omega) T⟩
      · have hpos : 0 < (fr l ns (oth (ns.getLastD 0))).length := by
          cases hh : fr l ns (oth (ns.getLastD 0)) with
          | nil => rw [hh] at hem; exact absurd rfl hem
          | cons x r => simp
        refine ⟨_, rfl, .inl ⟨rfl, _, SqL.of (s7 _ _ (S6 _ _ ht3))⟩, _, rfl, _, rfl, _, rfl, c, _, rfl, by show (0 : Int) ≤ 1 + (i : Int); omega, by show 1 + (i : Int) ≤ 1000; omega, fun m m0 m1 => ?_⟩
        have r0 : 0 ≤ m % ((fr l ns (oth (ns.getLastD 0))).length : Int) := Int.emod_nonneg _ (by omega)
        have r1 : m % ((fr l ns (oth (ns.getLastD 0))).length : Int) < ((fr l ns (oth (ns.getLastD 0))).length : Int) := Int.emod_lt_of_pos _ (by omega)
        obtain ⟨x, _, hmem, hat⟩ := at_int r0 r1
        refine ⟨_, rfl, q, _, rfl, .inl (SqL.of hq7), _, _, rfl, rfl, ?_, q, _, _, V.int x, rfl, rfl, SqL.of hq7, ?_, t, _, _, rfl, rfl, s7 _ _ (S6 _ _ ht3), ?_, ?_⟩
        · show (0 : Int) < (((fr l ns (oth (ns.getLastD 0))).map V.int).length : Int)
          rw [List.length_map]; omega
        · show atI _ (m % (((fr l ns (oth (ns.getLastD 0))).map V.int).length : Int)) = _
          rw [List.length_map]; exact hat
        · rw [List.length_map]; exact small_l (by omega)
        refine ⟨ns ++ [x], _, _, _, rfl, Same.upd (S3.trans (S6.trans s7)) nt, ?_, by simp, by rw [List.length_append, nl]; rfl, T.snoc ok hne hmem⟩
        rw [upd_same, List.map_append]; rfl
    rintro σ H3 ⟨ns, x4, x5, x6, rfl, S3, ht3, hne, nl, T⟩
    refine ⟨_, rfl, k t ns _ S3 nt ht3 hne ?_ (by rw [nl]; omega) T⟩
    have h : ns.length = (n - 1).toNat + 1 := nl
    omega
end
end K51
set_option Elab.async false
set_option linter.all false
set_option maxRecDepth 100000
set_option maxHeartbeats 4000000
namespace K51
open PySem L2 TL PyProof.Rows
structure Xn (K : PySem.W.Frag) (mg : Str → Option Value) (c : Addr) : Prop where
  NoTrain : Xc K mg "NoTrain" c
def isT (l : Int × List (Int × Int)) (ns : List Int) : Prop := ns ≠ [] ∧ TrainOk l ns
def sp_check (K : PySem.W.Frag) (C : Addr) : Sp := fun vs H Q E => ∃ (v u : V) (l : Int × List (Int × Int)) (ns : List Int), vs = [v, u] ∧ Da K H (dL l) v ∧ Da K H (dI ns) u ∧ LineOk l ∧ ns.length ≤ 900 ∧
  (isT l ns → ∀ H', Same H H' → Q .non H') ∧ (¬ isT l ns → ∀ H', Same H H' → ∀ e, H' e = none → E (.ref C) (some e) H')
abbrev s_check_train : Stmt := top 18
theorem sc_check_train : FnScope ["line", "train", "end", "following"] ["line", "train"] (defScope s_check_train) := ⟨rfl, rfl, rfl, by decide +kernel, rfl, by decide +kernel, by decide +kernel⟩
theorem cc_check_train_0 : CompOk (defScope s_check_train) ["line", "train", "end", "following"] { kind := .function, names := [(Str.ofString ".0", .local), (Str.ofString "end", .local), (Str.ofString "piece_of", .globalImplicit)], isGenerator := false, isCoroutine := false, more := [] } ["end"] 1 [none] := ⟨rfl, by decide +kernel, by decide +kernel, by decide +kernel, rfl, by decide +kernel, rfl, by decide +kernel⟩

section
variable {P : Program} {w : World} {K : PySem.W.Frag} {mg : Str → Option Value} {base : Heap} {f : Addr} {fd : FuncData} {D c1 c2 c3 c4 c5 c6 c7 : Addr}
theorem ok_check_train {f1 f2 f3 f4 : Addr} {fd1 fd2 fd3 fd4 : FuncData} (F : Fn K mg "check_train" s_check_train ["line", "train"] f fd) (XS : Xn K mg c2) (B : Bm mg) (F_is_end : Fn K mg "is_end" s_is_end ["line", "end"] f1 fd1)
    (F_piece_of : Fn K mg "piece_of" s_piece_of ["end"] f2 fd2) (F_joined : Fn K mg "joined" s_joined ["line", "end"] f3 fd3) (F_other_end : Fn K mg "other_end" s_other_end ["end"] f4 fd4) : FnOk P w K mg base (CXr P w base) 2 f fd ["line", "train"] (sp_check K c2) := by
  have G_is_end : FnOk P w K mg base CX0 1 f1 fd1 ["line", "end"] (sp_isend K) := ok_is_end F_is_end
  have G_piece_of : FnOk P w K mg base CX0 1 f2 fd2 ["end"] sp_half := ok_piece_of F_piece_of
  have G_joined : FnOk P w K mg base CX0 1 f3 fd3 ["line", "end"] (sp_joined K) := ok_joined F_joined B.toBl
  have G_other_end : FnOk P w K mg base CX0 1 f4 fd4 ["end"] sp_other := ok_other_end F_other_end
  refine F.F.okX sc_check_train (fun vs H Q E h => ?_) (fun cdv A outer s H vs Q E hr h => ?_)
  · obtain ⟨v, u, l, ns, rfl, _⟩ := h; rfl
  · obtain ⟨v, u, l, ns, rfl, hv, hu, ok, hz, k1, k2⟩ := h
    obtain ⟨a, rfl, ha⟩ := da_ints.mp hu
    obtain ⟨la, lb, rfl, hlt, _⟩ := da_line hv
    refine ⟨_, (pss_cons (ps_if (pt_not (pt_truth (pv 1) (fun _ => rfl)))
  (pss_one (ps_raise raises_cx rfl rfl XS.NoTrain.m XS.NoTrain.q PySem.F.excBase_ValueError (pa_cons pe_str pa_nil))) pss_nil)
 (pss_cons (ps_for PassesOwn.leaving rfl (pi_list (pv 1)) (pg_name (i := 2) sc_check_train.nd rfl (Or.inl rfl))
  (pss_one (ps_if (pt_not (pt_val (pe_call G_is_end (hr.mono (by decide)) rfl F_is_end.m F_is_end.F.kp F_is_end.b .nil pass0 (pa_cons (pv 0) (pa_cons (pv 2) pa_nil)))))
  (pss_one (ps_raise raises_cx rfl rfl XS.NoTrain.m XS.NoTrain.q PySem.F.excBase_ValueError (pa_cons pe_str pa_nil))) pss_nil)))
 (pss_cons (ps_if (pt_cmp (pc_lt (pe_callB call_lenS rfl B.len boot_len (pa_cons (pe_sc (pi_list (pv 1)) rfl cc_check_train_0 (.name (by decide)) (fun _ _ _ _ => (pg_name (i := 0) cc_check_train_0.nd rfl (Or.inl rfl))) (fun _ _ _ _ => pifs_nil) (fun _ _ _ _ => (pe_call G_piece_of (hr.mono (by decide)) rfl F_piece_of.m F_piece_of.F.kp F_piece_of.b .nil pass0 (pa_cons (pv 0) pa_nil)))) pa_nil)) (pe_callB call_len_seq rfl B.len boot_len (pa_cons (pv 1) pa_nil))))
  (pss_one (ps_raise raises_cx rfl rfl XS.NoTrain.m XS.NoTrain.q PySem.F.excBase_ValueError (pa_cons pe_str pa_nil))) pss_nil)
 (pss_one (ps_for PassesOwn.leaving rfl (pi_zip rfl B.zip (pa_cons (pv 1) (pa_cons (pe_slice sl_list (pv 1) (po_some pe_int) po_none) pa_nil))) (pg_tup (n := 2) rfl (pgs_cons (pg_name (i := 2) sc_check_train.nd rfl (Or.inl rfl)) (pgs_cons (pg_name (i := 3) sc_check_train.nd rfl (Or.inl rfl)) pgs_nil)))
  (pss_one (ps_if (pt_cmpR (op_notInD hr.units) (pv 3) (pe_call G_joined (hr.mono (by decide)) rfl F_joined.m F_joined.F.kp F_joined.b .nil pass0 (pa_cons (pv 0) (pa_cons (pe_call G_other_end (hr.mono (by decide)) rfl F_other_end.m F_other_end.F.kp F_other_end.b .nil pass0 (pa_cons (pv 2) pa_nil)) pa_nil))) (by with_unfolding_all rfl))
  (pss_one (ps_raise raises_cx rfl rfl XS.NoTrain.m XS.NoTrain.q PySem.F.excBase_ValueError (pa_cons pe_str pa_nil))) pss_nil))))))), ?_⟩
    refine ⟨_, rfl, _, .inl ⟨_, ha, rfl⟩, ite2 (fun h => ?_) (fun h => ?_)⟩
    · have h : ns = [] := by simpa using h
      exact ⟨by decide, fun e he => k2 (fun z => z.1 h) H (Same.refl _) e he⟩
    have hne : ns ≠ [] := by simpa using h
    refine ⟨_, rfl, a, rfl, ⟨_, ha⟩, for_list (K := K) (a := a) (xs := ns.map V.int) (fun i σ H3 => ∃ (x2 x3 : Option V), σ = [some (.ref la), some (.ref a), x2, x3] ∧ H3 = H ∧ ∀ e ∈ ns.take i, 0 ≤ e ∧ e < 2 * l.1)
      ⟨none, none, rfl, rfl, fun e he => by simp at he⟩ (fun i σ H3 _ ⟨_, _, _, e, _⟩ => e ▸ ha) ?_ ?_⟩
    · rintro i y σ H3 hi ⟨x2, x3, rfl, rfl, al⟩
      rw [List.getElem?_map] at hi
      obtain ⟨e, he, rfl⟩ : ∃ e, ns[i]? = some e ∧ y = .int e := by
        cases q : ns[i]? with
        | none => rw [q] at hi; cases hi
        | some e => rw [q] at hi; cases hi; exact ⟨e, rfl, rfl⟩
      refine ⟨_, rfl, _, rfl, la, l.1, e, .ref lb, rfl, hlt, _, rfl, ite2 (fun h => ?_) (fun h => ?_)⟩
      · have h : ¬ (0 ≤ e ∧ e < 2 * l.1) := fun z => by simp [z] at h
        exact ⟨by decide, fun x hx => k2 (fun z => h (z.2.ends e (List.mem_of_getElem? he))) H3 (Same.refl _) x hx⟩
      · have h : 0 ≤ e ∧ e < 2 * l.1 := by simpa using h
        refine ⟨_, _, rfl, rfl, fun x hx => ?_⟩
        rw [List.take_add_one, he] at hx
        rcases List.mem_append.mp hx with z | z
        · exact al x z
        · have z : x = e := by simpa using z
          rw [z]; exact h
    rintro σ H3 ⟨x2, x3, rfl, rfl, al⟩
    rw [List.length_map, List.take_length] at al
    -- the set of pieces
    refine ⟨_, rfl, a, rfl, ⟨_, ha⟩, fun q nq => sc_pureJ (js_list ha) ns (fun e => e / 2) nq (by rw [List.length_map]) (by rw [List.length_map]; show ns.length + 1 < 4096; omega) ?_ ?_⟩
    · intro i x d H' hx hd sm P1 P0 p1
      rw [List.getElem?_map, hd] at hx
      cases hx
      refine name_yes ?_
      exact ⟨_, rfl, d, rfl, p1⟩
    have hq3 := upd_same (H := H3) (a := q) (o := .set (fun k => decide (k ∈ ns.map fun e => e / 2)) (dn (ns.map fun e => e / 2) (ns.map V.int).length))
    have s4 := same_upd (o := .set (fun k => decide (k ∈ ns.map fun e => e / 2)) (dn (ns.map fun e => e / 2) (ns.map V.int).length)) nq
    generalize upd H3 q _ = H4 at hq3 s4 ⊢
    refine ⟨q, _, _, rfl, hq3, _, rfl, a, _, rfl, .inl (s4.seq ha), _, _, rfl, rfl, _, rfl, ite2 (fun h => ?_) (fun h => ?_)⟩
    · have h : dn (ns.map fun e => e / 2) (ns.map V.int).length < (ns.map V.int).length := by simpa using h
      rw [List.length_map] at h
      have h2 := (dn_lt (ns.map fun e => e / 2)).mp (by rw [List.length_map]; exact h)
      exact ⟨by decide, fun x hx => k2 (fun z => h2 z.2.nd) H4 s4 x hx⟩
    have h : ¬ dn (ns.map fun e => e / 2) (ns.map V.int).length < (ns.map V.int).length := by simpa using h
    rw [List.length_map] at h
    have nd : (ns.map fun e => e / 2).Nodup := by
      have h3 := (dn_lt (ns.map fun e => e / 2))
      rw [List.length_map] at h3
      exact Decidable.byContradiction fun z => h (h3.mpr z)
    -- train[1:]
    refine ⟨_, rfl, _, rfl, _, rfl, a, _, rfl, s4.seq ha, fun t nt => ?_⟩
    rw [cut_tail]
    have ht := upd_same (H := H4) (a := t) (o := .lst ((ns.drop 1).map V.int))
    have s5 := same_upd (o := .lst ((ns.drop 1).map V.int)) nt
    generalize upd H4 t _ = H5 at ht s5 ⊢
    have S5 := s4.trans s5
    refine ⟨a, t, rfl, ⟨_, S5.seq ha⟩, ⟨_, SqL.of ht⟩, for_zip (K := K) (a := a) (b := t) (xs := ns.map V.int) (ys := (ns.drop 1).map V.int) (ns.length - 1) (by simp)
      (fun i σ H6 => ∃ (x2 x3 : Option V), σ = [some (.ref la), some (.ref a), x2, x3] ∧ Same H5 H6 ∧ ∀ j, j < i → ∀ x y, ns[j]? = some x → ns[j + 1]? = some y → y ∈ jn l.2 (oth x))
      ⟨_, _, rfl, Same.refl _, fun j hj => absurd hj (Nat.not_lt_zero j)⟩ (fun i σ H6 _ ⟨_, _, _, s, _⟩ => ⟨(S5.trans s).seq ha, SqL.of (s _ _ ht)⟩) ?_ ?_⟩
    · rintro i x y σ H6 p hx hy ⟨x2, x3, rfl, s6, al2⟩ np
      rw [List.getElem?_map] at hx hy
      rw [List.getElem?_drop, Nat.add_comm] at hy
      obtain ⟨d, hd, rfl⟩ : ∃ e, ns[i]? = some e ∧ x = .int e := by
        cases q : ns[i]? with
        | none => rw [q] at hx; cases hx
        | some e => rw [q] at hx; cases hx; exact ⟨e, rfl, rfl⟩
      obtain ⟨e, he, rfl⟩ : ∃ e, ns[i + 1]? = some e ∧ y = .int e := by
        cases q : ns[i + 1]? with
        | none => rw [q] at hy; cases hy
        | some e => rw [q] at hy; cases hy; exact ⟨e, rfl, rfl⟩
      have S7 := (S5.trans s6).trans (same_upd (o := .tup [.int d, .int e]) np)
      have s7 := s6.trans (same_upd (o := .tup [.int d, .int e]) np)
      refine ⟨p, _, rfl, SqT.of upd_same, rfl, _, _, rfl, _, _, rfl, rfl, ?_⟩
      refine ⟨_, rfl, _, rfl, _, rfl, d, rfl, _, l, _, rfl, Da.same S7 hv, ok, fun r H8 s8 nr hr8 => ?_⟩
      refine ⟨(jn l.2 (oth d)).map PyData.int, .int e, da_new hr8, dg_int.mpr rfl, okDs_I _, okD_int _, _, rfl, ?_⟩
      rw [any_I]
      refine ite2 (fun h => ?_) (fun h => ?_)
      · have h : e ∉ jn l.2 (oth d) := by simpa using h
        exact ⟨by decide, fun x hx => k2 (fun z => h (z.2.ch i d e hd he)) H8 (S7.trans s8) x hx⟩
      · have h : e ∈ jn l.2 (oth d) := by simpa using h
        refine ⟨_, _, rfl, s7.trans s8, fun j hj x2 y2 hx2 hy2 => ?_⟩
        rcases Nat.lt_succ_iff_lt_or_eq.mp hj with z | z
        · exact al2 j z x2 y2 hx2 hy2
        · subst z
          rw [hd] at hx2; rw [he] at hy2
          cases hx2; cases hy2
          exact h
    rintro σ H6 ⟨x2, x3, rfl, s6, al2⟩
    refine k1 ⟨hne, al, nd, fun i x y hx hy => al2 i ?_ x y hx hy⟩ H6 (S5.trans s6)
    have := (List.getElem?_eq_some_iff.mp hy).1
    omega
end
end K51
set_option Elab.async false
set_option linter.all false
set_option maxRecDepth 100000
set_option maxHeartbeats 4000000
namespace K51
open PySem L2 TL PyProof.Rows
theorem ps_of_das {K : PySem.W.Frag} {H : Hp} : ∀ {js : List (Int × Int)} {vs : List V}, Das K H (js.map dP) vs → Ps K H js vs
  | [], vs, h => by rw [List.map_nil] at h; exact dgs_nil.mpr (dgs_nil.mp h)
  | j :: js, vs, h => by
    rw [List.map_cons] at h
    obtain ⟨v, r, rfl, h1, h2⟩ := dgs_cons.mp h
    refine dgs_cons.mpr ⟨v, r, rfl, ?_, ps_of_das h2⟩
    unfold dP at h1 ⊢
    obtain ⟨a, us, rfl, ht, q⟩ := dg_tuple.mp h1
    obtain ⟨v1, r', rfl, q1, q⟩ := dgs_cons.mp q
    obtain ⟨v2, r', rfl, q2, q⟩ := dgs_cons.mp q
    exact dg_tuple.mpr ⟨a, _, rfl, ht, dgs_cons.mpr ⟨_, _, rfl, dg_int.mpr (dg_int.mp q1), dgs_cons.mpr ⟨_, _, rfl, dg_int.mpr (dg_int.mp q2), dgs_nil.mpr (dgs_nil.mp q)⟩⟩⟩
def fe (e : Int) : Int := 2 * e + e % 2
def fP (p : Int × Int) : Int × Int := (fe p.1, fe p.2)
def nP (i : Nat) : Int × Int := (4 * (i : Int) + 1, 4 * (i : Int) + 2)
def fl (l : Ln) : Ln := (2 * l.1, l.2.map fP ++ (List.range l.1.toNat).map nP)
def ft (ns : List Int) : List Int := ns.flatMap fun e => [fe e, oth (fe (oth e))]
def sp_fe : Sp := fun vs H Q _ => ∃ e : Int, vs = [.int e] ∧ Q (.int (fe e)) H
def sp_finer (K : PySem.W.Frag) : Sp := fun vs H Q _ => ∃ (v : V) (l : Ln), vs = [v] ∧ Da K H (dL l) v ∧ 0 ≤ l.1 ∧ l.1 ≤ 400 ∧ l.2.length ≤ 400 ∧
  ∀ (p t : Addr) (us : List V) (H' : Hp), Same H H' → H p = none → H t = none → H' p = some (.tup [.int (2 * l.1), .ref t]) → H' t = some (.lst us) → Ps K H' (fl l).2 us → Q (.ref p) H'
def sp_ft (K : PySem.W.Frag) : Sp := fun vs H Q _ => ∃ (v : V) (ns : List Int), vs = [v] ∧ Da K H (dI ns) v ∧ ns.length ≤ 400 ∧ NewInts H (ft ns) Q
abbrev s_finer_end : Stmt := top 14
theorem sc_finer_end : FnScope ["end"] ["end"] (defScope s_finer_end) := ⟨rfl, rfl, rfl, by decide +kernel, rfl, by decide +kernel, by decide +kernel⟩

abbrev s_finer : Stmt := top 15
theorem sc_finer : FnScope ["line", "many", "joints", "old", "new"] ["line"] (defScope s_finer) := ⟨rfl, rfl, rfl, by decide +kernel, rfl, by decide +kernel, by decide +kernel⟩
theorem cc_finer_0 : CompOk (defScope s_finer) ["line", "many", "joints", "old", "new"] { kind := .function, names := [(Str.ofString ".0", .local), (Str.ofString "low", .local), (Str.ofString "high", .local), (Str.ofString "finer_end", .globalImplicit)], isGenerator := false, isCoroutine := false, more := [] } ["low", "high"] 2 [none, none] := ⟨rfl, by decide +kernel, by decide +kernel, by decide +kernel, rfl, by decide +kernel, rfl, by decide +kernel⟩
theorem cc_finer_1 : CompOk (defScope s_finer) ["line", "many", "joints", "old", "new"] { kind := .function, names := [(Str.ofString ".0", .local), (Str.ofString "piece", .local)], isGenerator := false, isCoroutine := false, more := [] } ["piece"] 1 [none] := ⟨rfl, by decide +kernel, by decide +kernel, by decide +kernel, rfl, by decide +kernel, rfl, by decide +kernel⟩

abbrev s_finer_train : Stmt := top 16
theorem sc_finer_train : FnScope ["train", "ends", "end"] ["train"] (defScope s_finer_train) := ⟨rfl, rfl, rfl, by decide +kernel, rfl, by decide +kernel, by decide +kernel⟩

section
variable {P : Program} {w : World} {K : PySem.W.Frag} {mg : Str → Option Value} {base : Heap} {f : Addr} {fd : FuncData}
theorem ok_finer_end (F : Fn K mg "finer_end" s_finer_end ["end"] f fd) : FnOk P w K mg base CX0 1 f fd ["end"] sp_fe := by
  refine F.F.ok sc_finer_end (fun vs H Q E h => ?_) (fun cdv A outer s H vs Q E hr h => ?_)
  · obtain ⟨e, rfl, _⟩ := h; rfl
  · obtain ⟨e, rfl, k⟩ := h
    refine ⟨_, (pss_one (ps_ret (pe_op op_add (pe_op op_mul pe_int (pv 0)) (pe_op op_and (pv 0) pe_int)))), ?_⟩
    refine ⟨_, rfl, _, _, rfl, rfl, .inl ⟨by decide, by decide⟩, _, rfl, _, _, rfl, rfl, _, _, rfl, rfl, ?_⟩
    show Q (.int (2 * e + Builtin.bitAnd e 1)) H
    rw [and_one]; exact k
theorem ok_finer {f1 : Addr} {fd1 : FuncData} (F : Fn K mg "finer" s_finer ["line"] f fd) (B : Bm mg) (F_finer_end : Fn K mg "finer_end" s_finer_end ["end"] f1 fd1) : FnOk P w K mg base CX0 2 f fd ["line"] (sp_finer K) := by
  have G_finer_end : FnOk P w K mg base CX0 1 f1 fd1 ["end"] sp_fe := ok_finer_end F_finer_end
  refine F.F.ok sc_finer (fun vs H Q E h => ?_) (fun cdv A outer s H vs Q E hr h => ?_)
  · obtain ⟨v, l, rfl, _⟩ := h; rfl
  · obtain ⟨v, ⟨m, js⟩, rfl, hv, m0, m1, jl, k⟩ := h
    obtain ⟨a, b, rfl, ht, us, hl, hq⟩ := da_line hv
    dsimp only at ht hq m0 m1 jl k
    have hul : us.length = js.length := by rw [Dgs.length hq, List.length_map]
    refine ⟨_, (pss_cons (ps_asg (pv 0) (pg_tup (n := 2) rfl (pgs_cons (pg_name (i := 1) sc_finer.nd rfl (Or.inl rfl)) (pgs_cons (pg_name (i := 2) sc_finer.nd rfl (Or.inl rfl)) pgs_nil))))
 (pss_cons (ps_lc (i := 3) sc_finer.nd rfl rfl (pi_list (pv 2)) rfl cc_finer_0 (.tup (.cons (.name (by decide)) (.cons (.name (by decide)) .nil))) (fun _ _ _ _ => (pg_tup (n := 2) rfl (pgs_cons (pg_name (i := 0) cc_finer_0.nd rfl (Or.inl rfl)) (pgs_cons (pg_name (i := 1) cc_finer_0.nd rfl (Or.inl rfl)) pgs_nil)))) (fun _ _ _ _ => pifs_nil) (fun _ _ _ _ => (pe_tup (pa_cons (pe_call G_finer_end (hr.mono (by decide)) rfl F_finer_end.m F_finer_end.F.kp F_finer_end.b .nil pass0 (pa_cons (pv 0) pa_nil)) (pa_cons (pe_call G_finer_end (hr.mono (by decide)) rfl F_finer_end.m F_finer_end.F.kp F_finer_end.b .nil pass0 (pa_cons (pv 1) pa_nil)) pa_nil)))))
 (pss_cons (ps_lc (i := 4) sc_finer.nd rfl rfl (pi_range1 rfl B.range (pa_cons (pv 1) pa_nil)) rfl cc_finer_1 (.name (by decide)) (fun _ _ _ _ => (pg_name (i := 0) cc_finer_1.nd rfl (Or.inl rfl))) (fun _ _ _ _ => pifs_nil) (fun _ _ _ _ => (pe_tup (pa_cons (pe_op op_add (pe_op op_mul pe_int (pv 0)) pe_int) (pa_cons (pe_op op_add (pe_op op_mul pe_int (pv 0)) pe_int) pa_nil)))))
 (pss_one (ps_ret (pe_tup (pa_cons (pe_op op_mul pe_int (pv 1)) (pa_cons (pe_op op_cat (pv 3) (pv 4)) pa_nil)))))))), ?_⟩
    refine ⟨_, rfl, a, _, rfl, ht, rfl, _, _, rfl, _, _, rfl, rfl, ?_⟩
    refine ⟨_, rfl, b, rfl, ⟨us, hl⟩, fun l1 n1 => lc_data (K := K) us.length js (fun p => dP (fP p)) n1 hul (small_l (by omega)) (fun i H s hi => (js_list hl).go i H s hi) (fun H s => (js_list hl).stop H s) ?_ ?_⟩
    · intro i x d G G' sm ⟨vs', hl'⟩ y hd P1 P0 k1
      have hi : i < us.length := by have := (List.getElem?_eq_some_iff.mp hd).1; omega
      obtain ⟨rfl, hx⟩ := (js_list hl).yld i G x G' sm hi y
      obtain ⟨ad, p, e1, rfl, hp⟩ := das_pair (Das.same sm hq) hx
      rw [hd] at e1; cases e1
      refine ⟨ad, _, rfl, hp, rfl, _, _, rfl, _, _, rfl, rfl, ?_⟩
      refine yes_if ?_
      refine ⟨_, rfl, d.1, rfl, _, rfl, d.2, rfl, by show 2 ≤ sizeLine; decide, fun p1 np1 => k1 _ _ (same_upd np1) ?_⟩
      refine dg_tuple.mpr ⟨p1, _, rfl, SqT.of ?_, Dgs.two (dg_int.mpr rfl) (dg_int.mpr rfl)⟩
      rw [hid_ne (Ne.symm (ne_of_none hl' np1)), upd_same]; rfl
    intro us1 H1 s1 h1 D1
    have D1 : Ps K H1 (js.map fP) us1 := ps_of_das (by rw [List.map_map]; exact Das.same hid_same D1)
    clear hq
    refine ⟨_, rfl, m, rfl, by omega, by omega, fun l2 n2 => lc_data (K := K) m.toNat (List.range m.toNat) (fun i => dP (nP i)) n2 (by simp) (small_l (by omega)) (fun i H s hi => js_range.go i H s hi) (fun H s => js_range.stop H s) ?_ ?_⟩
    · intro i x d G G' sm ⟨vs', hl'⟩ y hd P1 P0 k1
      have hi : i < m.toNat := by have := (List.getElem?_eq_some_iff.mp hd).1; simpa using this
      obtain ⟨rfl, rfl⟩ := js_range.yld i G x G' sm hi y
      rw [List.getElem?_range hi] at hd
      cases hd
      refine name_yes ?_
      refine ⟨_, rfl, _, _, rfl, rfl, .inl ⟨by decide, by decide⟩, _, _, rfl, rfl, _, rfl, _, _, rfl, rfl, .inl ⟨by decide, by decide⟩, _, _, rfl, rfl, by show 2 ≤ sizeLine; decide, fun p1 np1 => k1 _ _ (same_upd np1) ?_⟩
      refine dg_tuple.mpr ⟨p1, _, rfl, SqT.of ?_, Dgs.two (dg_int.mpr rfl) (dg_int.mpr rfl)⟩
      have e0 : ((0 : Int) + (i : Int)) = (i : Int) := by omega
      rw [hid_ne (Ne.symm (ne_of_none hl' np1)), upd_same, e0]; rfl
    intro us2 H2 s2 h2 D2
    have D2 : Ps K H2 ((List.range m.toNat).map nP) us2 := ps_of_das (by rw [List.map_map]; exact Das.same hid_same D2)
    have z1 := D1.len
    have z2 := D2.len
    rw [List.length_map] at z1 z2
    rw [List.length_range] at z2
    refine ⟨_, rfl, _, _, rfl, rfl, .inl ⟨by decide, by decide⟩, _, rfl, _, rfl, l1, l2, _, _, rfl, rfl, s2 _ _ h1, h2, Nat.le_of_lt (small_l (by omega)), fun q nq => ⟨by show 2 ≤ sizeLine; decide, fun p np => ?_⟩⟩
    have u1 := same_upd (o := .lst (us1 ++ us2)) nq
    have u2 := same_upd (o := .tup [.int (2 * m), .ref q]) np
    refine k p q (us1 ++ us2) _ (s1.trans (s2.trans (u1.trans u2))) (Same.free (s1.trans (s2.trans u1)) np) (Same.free (s1.trans s2) nq) upd_same (u2 _ _ upd_same) ?_
    show Dgs _ _ ((js.map fP ++ (List.range m.toNat).map nP).map dP) _
    rw [List.map_append]
    exact Dgs.append (D1.same (s2.trans (u1.trans u2))) (D2.same (u1.trans u2))
theorem ok_finer_train {f1 f2 : Addr} {fd1 fd2 : FuncData} (F : Fn K mg "finer_train" s_finer_train ["train"] f fd) (F_finer_end : Fn K mg "finer_end" s_finer_end ["end"] f1 fd1) (F_other_end : Fn K mg "other_end" s_other_end ["end"] f2 fd2) : FnOk P w K mg base CX0 2 f fd ["train"] (sp_ft K) := by
  have G_finer_end : FnOk P w K mg base CX0 1 f1 fd1 ["end"] sp_fe := ok_finer_end F_finer_end
  have G_other_end : FnOk P w K mg base CX0 1 f2 fd2 ["end"] sp_other := ok_other_end F_other_end
  refine F.F.ok sc_finer_train (fun vs H Q E h => ?_) (fun cdv A outer s H vs Q E hr h => ?_)
  · obtain ⟨v, ns, rfl, _⟩ := h; rfl
  · obtain ⟨v, ns, rfl, hv, hz, k⟩ := h
    obtain ⟨a, rfl, ha⟩ := da_ints.mp hv
    refine ⟨_, (pss_cons (ps_set (i := 1) sc_finer_train.nd rfl (Or.inl rfl) (pe_lst pa_nil))
 (pss_cons (ps_for PassesOwn.never rfl (pi_list (pv 0)) (pg_name (i := 2) sc_finer_train.nd rfl (Or.inl rfl))
  (pss_one (ps_aug (i := 1) sc_finer_train.nd rfl (Or.inl rfl) (pe_lst (pa_cons (pe_call G_finer_end (hr.mono (by decide)) rfl F_finer_end.m F_finer_end.F.kp F_finer_end.b .nil pass0 (pa_cons (pv 2) pa_nil)) (pa_cons (pe_call G_other_end (hr.mono (by decide)) rfl F_other_end.m F_other_end.F.kp F_other_end.b .nil pass0 (pa_cons (pe_call G_finer_end (hr.mono (by decide)) rfl F_finer_end.m F_finer_end.F.kp F_finer_end.b .nil pass0 (pa_cons (pe_call G_other_end (hr.mono (by decide)) rfl F_other_end.m F_other_end.F.kp F_other_end.b .nil pass0 (pa_cons (pv 2) pa_nil)) pa_nil)) pa_nil)) pa_nil))) ip_addL)))
 (pss_one (ps_ret (pv 1))))), ?_⟩
    refine ⟨Nat.zero_le _, fun t nt => ?_⟩
    have lft : ∀ ms : List Int, (ft ms).length = 2 * ms.length := fun ms => by
      induction ms with
      | nil => rfl
      | cons x r ih => unfold ft at ih ⊢; rw [List.flatMap_cons, List.length_append, ih]; simp; omega
    refine ⟨_, rfl, a, rfl, ⟨_, (same_upd nt).seq ha⟩, for_list (K := K) (a := a) (xs := ns.map V.int) (fun i σ H3 => ∃ (x2 : Option V), σ = [some (.ref a), some (.ref t), x2] ∧ Same H H3 ∧ H3 t = some (.lst ((ft (ns.take i)).map V.int)))
      ⟨none, rfl, same_upd nt, upd_same⟩ (fun i σ H3 _ ⟨_, _, e, _⟩ => e.seq ha) ?_ ?_⟩
    · rintro i y σ H3 hi ⟨x2, rfl, s3, h3⟩
      rw [List.getElem?_map] at hi
      obtain ⟨e, he, rfl⟩ : ∃ e, ns[i]? = some e ∧ y = .int e := by
        cases q : ns[i]? with
        | none => rw [q] at hi; cases hi
        | some e => rw [q] at hi; cases hi; exact ⟨e, rfl, rfl⟩
      refine ⟨_, rfl, _, rfl, e, rfl, _, rfl, e, rfl, oth e, rfl, fe (oth e), rfl, by show 2 ≤ sizeLine; decide, fun p np => ?_⟩
      have u := same_upd (o := .lst ([fe e, oth (fe (oth e))].map V.int)) np
      have hzz : (ft (ns.take i)).length ≤ 800 := by
        rw [lft, List.length_take]; omega
      refine ⟨t, p, _, _, rfl, rfl, u _ _ h3, upd_same, Nat.le_of_lt (small_l (by rw [List.length_map]; show (ft (ns.take i)).length + 2 ≤ 1000; omega)), ?_⟩
      refine ⟨_, rfl, Same.upd (s3.trans u) nt, ?_⟩
      rw [upd_same, List.take_add_one, he]
      unfold ft
      rw [List.flatMap_append, List.map_append]
      simp
    · rintro σ H3 ⟨x2, rfl, s3, h3⟩
      rw [List.length_map, List.take_length] at h3
      exact ⟨_, rfl, k t _ s3 nt h3⟩
end
end K51
set_option Elab.async false
set_option linter.all false
set_option maxRecDepth 100000
set_option maxHeartbeats 4000000
namespace K51
open PySem L2 TL PyProof.Rows
theorem inc_len {e : Int} : ∀ {js : List (Int × Int)}, (∀ p ∈ js, p.1 ≠ p.2) → inc js e ≤ js.length
  | [], _ => Nat.le_refl _
  | p :: js, h => by
    have ih := inc_len (e := e) (js := js) fun q hq => h q (List.mem_cons_of_mem _ hq)
    have hp := h p List.mem_cons_self
    unfold inc below above at ih ⊢
    rw [List.length_map, List.length_map] at ih ⊢
    rw [List.filter_cons, List.filter_cons, List.length_cons]
    by_cases h1 : p.1 = e
    · have h2 : ¬ p.2 = e := fun z => hp (h1.trans z.symm)
      simp [h1, h2]
      omega
    · by_cases h2 : p.2 = e
      · simp [h1, h2]
        omega
      · simp [h1, h2]
        omega
theorem fe_cases (e : Int) : (e = 2 * (e / 2) ∧ fe e = 4 * (e / 2) ∧ oth (fe e) = 4 * (e / 2) + 1 ∧ oth (fe (oth e)) = 4 * (e / 2) + 2) ∨ (e = 2 * (e / 2) + 1 ∧ fe e = 4 * (e / 2) + 3 ∧ oth (fe e) = 4 * (e / 2) + 2 ∧ oth (fe (oth e)) = 4 * (e / 2) + 1) := by
  have h : e = 2 * (e / 2) ∨ e = 2 * (e / 2) + 1 := by omega
  generalize e / 2 = p at h
  rcases h with rfl | rfl
  · left
    have h1 : oth (2 * p) = 2 * p + 1 := by unfold oth; omega
    have h2 : fe (2 * p) = 4 * p := by unfold fe; omega
    have h3 : fe (2 * p + 1) = 4 * p + 3 := by unfold fe; omega
    rw [h1, h2, h3]
    refine ⟨rfl, rfl, by unfold oth; omega, by unfold oth; omega⟩
  · right
    have h1 : oth (2 * p + 1) = 2 * p := by unfold oth; omega
    have h2 : fe (2 * p) = 4 * p := by unfold fe; omega
    have h3 : fe (2 * p + 1) = 4 * p + 3 := by unfold fe; omega
    rw [h1, h2, h3]
    refine ⟨rfl, rfl, by unfold oth; omega, by unfold oth; omega⟩
theorem fe_half (e : Int) : fe e / 2 = e := by unfold fe; omega
theorem fe_mono {a b : Int} (h : a < b) : fe a < fe b := by unfold fe; omega
theorem fe_inj {a b : Int} (h : fe a = fe b) : a = b := by have := fe_half a; have := fe_half b; omega
theorem fP_okJ {m : Int} {p : Int × Int} (h : okJ m p) : okJ (2 * m) (fP p) := by
  have l1 := h.lt
  obtain ⟨⟨a0, a1⟩, ⟨b0, b1⟩, le, ne⟩ := h
  have h1 := fe_half p.1
  have h2 := fe_half p.2
  have h3 := fe_mono l1
  unfold okJ fP
  dsimp only
  refine ⟨⟨by unfold fe; omega, by unfold fe; omega⟩, ⟨by unfold fe; omega, by unfold fe; omega⟩, by omega, by omega⟩
theorem nP_okJ {m : Int} {i : Nat} (h : i < m.toNat) : okJ (2 * m) (nP i) := by
  unfold okJ nP
  dsimp only
  omega
theorem fl_line {l : Ln} (G : GLine l) : isLine (fl l) := by
  obtain ⟨m, js⟩ := l
  have h1 : 1 ≤ m := G.one
  have h2 : m ≤ 14 := G.most
  have h3 : js.length ≤ 24 := G.len
  refine ⟨by show 1 ≤ 2 * m; omega, by show 2 * m ≤ 40; omega, ?_, fun p hp => ?_, ?_⟩
  · show (js.map fP ++ (List.range m.toNat).map nP).length ≤ 80
    rw [List.length_append, List.length_map, List.length_map, List.length_range]
    omega
  · rcases List.mem_append.mp (show p ∈ js.map fP ++ (List.range m.toNat).map nP from hp) with z | z
    · obtain ⟨q, hq, rfl⟩ := List.mem_map.mp z
      exact fP_okJ (G.ok q hq)
    · obtain ⟨i, hi, rfl⟩ := List.mem_map.mp z
      exact nP_okJ (List.mem_range.mp hi)
  · show (js.map fP ++ (List.range m.toNat).map nP).Nodup
    refine List.nodup_append.mpr ⟨?_, ?_, fun x hx y hy e => ?_⟩
    · rw [List.Nodup, List.pairwise_map]
      refine G.nd.imp fun {a b} hab z => hab ?_
      unfold fP at z
      rw [Prod.mk.injEq] at z
      exact Prod.ext (fe_inj z.1) (fe_inj z.2)
    · rw [List.Nodup, List.pairwise_map]
      refine (List.nodup_range (n := m.toNat)).imp fun {a b} hab z => hab ?_
      unfold nP at z
      rw [Prod.mk.injEq] at z
      omega
    · obtain ⟨q, hq, rfl⟩ := List.mem_map.mp hx
      obtain ⟨i, hi, rfl⟩ := List.mem_map.mp hy
      unfold fP nP at e
      rw [Prod.mk.injEq] at e
      have := e.1
      unfold fe at this
      omega
theorem fl_ok {l : Ln} (G : GLine l) : LineOk (fl l) := by
  have L := fl_line G
  obtain ⟨m, js⟩ := l
  have h2 : m ≤ 14 := G.most
  have h3 : js.length ≤ 24 := G.len
  have hlen : (fl (m, js)).2.length ≤ 38 := by
    show (js.map fP ++ (List.range m.toNat).map nP).length ≤ 38
    rw [List.length_append, List.length_map, List.length_map, List.length_range]
    omega
  refine ⟨L.1, L.2.1, L.2.2.1, fun e => ?_, fun p hp => ?_⟩
  · have := inc_len (e := e) (js := (fl (m, js)).2) fun p hp => by have := (L.2.2.2.1 p hp).lt; omega
    omega
  · obtain ⟨a, b, c, _⟩ := L.2.2.2.1 p hp
    exact ⟨a.1, c, b.2⟩
theorem ft_even : ∀ (ns : List Int) (j : Nat), (ft ns)[2 * j]? = ns[j]?.map fe ∧ (ft ns)[2 * j + 1]? = ns[j]?.map fun e => oth (fe (oth e))
  | [], j => ⟨rfl, rfl⟩
  | x :: r, 0 => ⟨rfl, rfl⟩
  | x :: r, j + 1 => by
    have ih := ft_even r j
    have e : ft (x :: r) = fe x :: oth (fe (oth x)) :: ft r := rfl
    rw [e, show 2 * (j + 1) = 2 * j + 1 + 1 by omega]
    simp only [List.getElem?_cons_succ]
    exact ih
theorem ft_half (ns : List Int) : (ft ns).map (· / 2) = ns.flatMap fun e => [e, oth e] := by
  induction ns with
  | nil => rfl
  | cons x r ih =>
    have e : ft (x :: r) = fe x :: oth (fe (oth x)) :: ft r := rfl
    rw [e, List.map_cons, List.map_cons, ih, List.flatMap_cons]
    have h1 := fe_half x
    have h2 := fe_half (oth x)
    have h3 : oth (fe (oth x)) / 2 = oth x := by
      have : oth (fe (oth x)) / 2 = fe (oth x) / 2 := by unfold oth; omega
      rw [this, h2]
    rw [h1, h3]; rfl
theorem ft_nd : ∀ {ns : List Int}, (ns.map (· / 2)).Nodup → (ns.flatMap fun e => [e, oth e]).Nodup
  | [], _ => List.nodup_nil
  | x :: r, h => by
    rw [List.map_cons, List.nodup_cons] at h
    have ih := ft_nd h.2
    have hout : ∀ y, y / 2 = x / 2 → y ∉ r.flatMap fun e => [e, oth e] := fun y hy hm => by
      obtain ⟨e, he, hye⟩ := List.mem_flatMap.mp hm
      have hye : y = e ∨ y = oth e := by simpa using hye
      have : e / 2 = x / 2 := by
        rcases hye with rfl | rfl
        · exact hy
        · rw [← hy]; unfold oth; omega
      exact h.1 (List.mem_map.mpr ⟨e, he, this⟩)
    rw [List.flatMap_cons]
    show (x :: oth x :: r.flatMap fun e => [e, oth e]).Nodup
    refine List.nodup_cons.mpr ⟨fun z => ?_, List.nodup_cons.mpr ⟨hout (oth x) (by unfold oth; omega), ih⟩⟩
    rcases List.mem_cons.mp z with z | z
    · unfold oth at z; omega
    · exact hout x rfl z
theorem ft_train {l : Ln} {ns : List Int} (G : GLine l) (hne : ns ≠ []) (T : TrainOk l ns) : isT (fl l) (ft ns) := by
  have ok := G.lineOk
  have ok2 := fl_ok G
  obtain ⟨m, js⟩ := l
  refine ⟨?_, fun e he => ?_, ?_, fun i x y hx hy => ?_⟩
  · cases ns with
    | nil => exact absurd rfl hne
    | cons x r => intro z; cases z
  · obtain ⟨d, hd, hed⟩ := List.mem_flatMap.mp he
    have hd := T.ends d hd
    dsimp only at hd
    have hed : e = fe d ∨ e = oth (fe (oth d)) := by simpa using hed
    show 0 ≤ e ∧ e < 2 * (2 * m)
    have := fe_cases d
    rcases hed with rfl | rfl <;> omega
  · rw [ft_half]; exact ft_nd T.nd
  · rw [jn_iff ok2]
    show (min (oth x) y, max (oth x) y) ∈ js.map fP ++ (List.range m.toNat).map nP
    by_cases c : i % 2 = 0
    · obtain ⟨j, rfl⟩ : ∃ j, i = 2 * j := ⟨i / 2, by omega⟩
      rw [(ft_even ns j).1] at hx
      rw [(ft_even ns j).2] at hy
      cases q : ns[j]? with
      | none => rw [q] at hx; cases hx
      | some e =>
        rw [q] at hx hy
        have hx : fe e = x := by simpa using hx
        have hy : oth (fe (oth e)) = y := by simpa using hy
        have he := T.ends e (List.mem_of_getElem? q)
        dsimp only at he
        refine List.mem_append_right _ (List.mem_map.mpr ⟨(e / 2).toNat, List.mem_range.mpr (by omega), ?_⟩)
        rw [← hx, ← hy]
        have := fe_cases e
        unfold nP
        rw [Prod.mk.injEq]
        omega
    · obtain ⟨j, rfl⟩ : ∃ j, i = 2 * j + 1 := ⟨i / 2, by omega⟩
      rw [(ft_even ns j).2] at hx
      rw [show 2 * j + 1 + 1 = 2 * (j + 1) by omega, (ft_even ns (j + 1)).1] at hy
      cases q : ns[j]? with
      | none => rw [q] at hx; cases hx
      | some e =>
        cases q2 : ns[j + 1]? with
        | none => rw [q2] at hy; cases hy
        | some e2 =>
          rw [q] at hx
          rw [q2] at hy
          have hx : oth (fe (oth e)) = x := by simpa using hx
          have hy : fe e2 = y := by simpa using hy
          have := T.ch j e e2 q q2
          rw [jn_iff ok] at this
          refine List.mem_append_left _ (List.mem_map.mpr ⟨_, this, ?_⟩)
          rw [← hx, ← hy, oth_oth]
          unfold fP
          dsimp only
          generalize oth e = a
          rw [Prod.mk.injEq]
          by_cases h : a < e2
          · have := fe_mono h
            rw [Int.min_eq_left (by omega), Int.max_eq_right (by omega)]
            constructor <;> omega
          · by_cases h2 : a = e2
            · subst h2; simp
            · have := fe_mono (a := e2) (b := a) (by omega)
              rw [Int.min_eq_right (by omega), Int.max_eq_left (by omega)]
              constructor <;> omega
end K51
set_option Elab.async false
set_option linter.all false
set_option maxRecDepth 100000
set_option maxHeartbeats 4000000
namespace K51
open PySem L2 TL PyProof.Rows
def dHand (l : Ln) (ns : List Int) : PyData := .tuple [dL l, dI ns]
theorem okD_hand (l : Ln) (ns : List Int) : OkD (dHand l ns) := by
  refine ⟨?_, ?_⟩
  · simp only [dHand, PyData.canLay0, PyData.canLayAll0, Bool.and_true, (okD_L l).1, (okD_ints ns).1]
  · simp only [dHand, PyData.depth, PyData.depthAll]
    have := (okD_L l).2
    have := depth_L l
    have : (dI ns).depth ≤ 1 := by
      simp only [dI, PyData.depth]
      have := depthAll_map (f := PyData.int) (k := 0) (fun _ => by simp [PyData.depth]) ns
      omega
    omega
/-- what each end becomes -/
def bcm (i : Nat) : List Int := (List.range (2 * i)).map fun e : Nat => fe e
theorem bcm_succ (i : Nat) : bcm (i + 1) = bcm i ++ [4 * (i : Int), 4 * (i : Int) + 3] := by
  unfold bcm
  rw [show 2 * (i + 1) = 2 * i + 1 + 1 by omega, List.range_succ, List.range_succ, List.map_append, List.map_append, List.append_assoc]
  congr 1
  show [fe ((2 * i : Nat) : Int)] ++ [fe ((2 * i + 1 : Nat) : Int)] = _
  have h1 : fe ((2 * i : Nat) : Int) = 4 * (i : Int) := by unfold fe; omega
  have h2 : fe ((2 * i + 1 : Nat) : Int) = 4 * (i : Int) + 3 := by unfold fe; omega
  rw [h1, h2]; rfl
theorem bcm_at {m : Int} {e : Int} (h0 : 0 ≤ e) (h1 : e < 2 * m) : atI ((bcm m.toNat).map V.int) e = some (V.int (fe e)) := by
  refine at_nat h0 ?_
  unfold bcm
  rw [List.map_map, List.getElem?_map, List.getElem?_range (by omega)]
  show some (V.int (fe ((e.toNat : Nat) : Int))) = _
  rw [show ((e.toNat : Nat) : Int) = e by omega]
theorem bcm_len (i : Nat) : (bcm i).length = 2 * i := by unfold bcm; rw [List.length_map, List.length_range]
theorem fl_one : fl (1, []) = (2, [(1, 2)]) := by decide
theorem ft_zero : ft [0] = [0, 2] := by decide
theorem isLine_len {l : Ln} (h : isLine l) : l.2.length ≤ 80 := h.2.2.1
def sp_law (K : PySem.W.Frag) : Sp := fun vs H Q _ => ∃ (a : Addr) (ns : List Int), vs = [.ref a] ∧ SqL K H a (ns.map V.int) ∧ ∀ H', Q (.bl true) H'
abbrev s_law : Stmt := top 28
theorem sc_law : FnScope ["_law_script", "_law_line_here", "_law_train_here", "_law_becomes", "_law_piece", "_law_joints", "_law_due", "_law_ends", "_law_end", "_law_handed", "_law_again", "_law_found", "_law_told"] ["_law_script"] (defScope s_law) := ⟨rfl, rfl, rfl, by decide +kernel, rfl, by decide +kernel, by decide +kernel⟩
theorem cc_law_0 : CompOk (defScope s_law) ["_law_script", "_law_line_here", "_law_train_here", "_law_becomes", "_law_piece", "_law_joints", "_law_due", "_law_ends", "_law_end", "_law_handed", "_law_again", "_law_found", "_law_told"] { kind := .function, names := [(Str.ofString ".0", .local), (Str.ofString "_law_a", .local), (Str.ofString "_law_b", .local), (Str.ofString "_law_becomes", .free)], isGenerator := false, isCoroutine := false, more := [] } ["_law_a", "_law_b", "_law_becomes"] 2 [none, none, some 3] := ⟨rfl, by decide +kernel, by decide +kernel, by decide +kernel, rfl, by decide +kernel, rfl, by decide +kernel⟩
theorem cc_law_1 : CompOk (defScope s_law) ["_law_script", "_law_line_here", "_law_train_here", "_law_becomes", "_law_piece", "_law_joints", "_law_due", "_law_ends", "_law_end", "_law_handed", "_law_again", "_law_found", "_law_told"] { kind := .function, names := [(Str.ofString ".0", .local), (Str.ofString "_law_piece", .local)], isGenerator := false, isCoroutine := false, more := [] } ["_law_piece"] 1 [none] := ⟨rfl, by decide +kernel, by decide +kernel, by decide +kernel, rfl, by decide +kernel, rfl, by decide +kernel⟩
theorem cc_law_2 : CompOk (defScope s_law) ["_law_script", "_law_line_here", "_law_train_here", "_law_becomes", "_law_piece", "_law_joints", "_law_due", "_law_ends", "_law_end", "_law_handed", "_law_again", "_law_found", "_law_told"] { kind := .function, names := [(Str.ofString ".0", .local), (Str.ofString "_law_piece", .local)], isGenerator := false, isCoroutine := false, more := [] } ["_law_piece"] 1 [none] := ⟨rfl, by decide +kernel, by decide +kernel, by decide +kernel, rfl, by decide +kernel, rfl, by decide +kernel⟩

section
variable {P : Program} {w : World} {K : PySem.W.Frag} {mg : Str → Option Value} {base : Heap} {f : Addr} {fd : FuncData} {c1 c2 : Addr}
theorem ok_law {f1 f2 f3 f5 f6 f7 f8 f9 f10 f11 : Addr} {fd1 fd2 fd3 fd5 fd6 fd7 fd8 fd9 fd10 fd11 : FuncData} (F : Fn K mg "law" s_law ["_law_script"] f fd) (B : Bm mg)
    (F_law_line : Fn K mg "_law_line" s_law_line ["_law_script"] f1 fd1) (G_law_line : FnOk P w K mg base CX0 3 f1 fd1 ["_law_script"] (sp_line K))
    (F_law_cell_at : Fn K mg "_law_cell_at" s_law_cell_at ["_law_script", "_law_k"] f2 fd2) (F_law_mix : Fn K mg "_law_mix" s_law_mix ["_law_cell", "_law_k"] f3 fd3)
    (F_law_train : Fn K mg "_law_train" s_law_train ["_law_line_here", "_law_cell", "_law_length"] f5 fd5) (G_law_train : FnOk P w K mg base CX0 2 f5 fd5 ["_law_line_here", "_law_cell", "_law_length"] (sp_train K))
    (F_finer : Fn K mg "finer" s_finer ["line"] f6 fd6) (F_finer_end : Fn K mg "finer_end" s_finer_end ["end"] f7 fd7) (F_finer_train : Fn K mg "finer_train" s_finer_train ["train"] f8 fd8) (F_other_end : Fn K mg "other_end" s_other_end ["end"] f9 fd9)
    (F_check_line : Fn K mg "check_line" s_check_line ["line"] f10 fd10) (G_check_line : FnOk P w K mg base (CXr P w base) 3 f10 fd10 ["line"] (sp_cl K c1))
    (F_check_train : Fn K mg "check_train" s_check_train ["line", "train"] f11 fd11) (G_check_train : FnOk P w K mg base (CXr P w base) 2 f11 fd11 ["line", "train"] (sp_check K c2)) : FnOk P w K mg base CX0 5 f fd ["_law_script"] (sp_law K) := by
  have G_law_mix : FnOk P w K mg base CX0 1 f3 fd3 ["_law_cell", "_law_k"] sp_mix := ok_law_mix F_law_mix B.toBl
  have G_law_cell_at : FnOk P w K mg base CX0 1 f2 fd2 ["_law_script", "_law_k"] (sp_cell K) := ok_law_cell_at F_law_cell_at B.toBl
  have G_finer : FnOk P w K mg base CX0 2 f6 fd6 ["line"] (sp_finer K) := ok_finer F_finer B F_finer_end
  have G_finer_train : FnOk P w K mg base CX0 2 f8 fd8 ["train"] (sp_ft K) := ok_finer_train F_finer_train F_finer_end F_other_end
  refine F.F.ok sc_law (fun vs H Q E h => ?_) (fun cdv A outer s H vs Q E hr h => ?_)
  · obtain ⟨a, ns, rfl, _⟩ := h; rfl
  · obtain ⟨a, sc, rfl, hS, k⟩ := h
    refine ⟨_, (pss_cons (ps_set (i := 1) sc_law.nd rfl (Or.inl rfl) (pe_call G_law_line (hr.mono (by decide)) rfl F_law_line.m F_law_line.F.kp F_law_line.b .nil pass0 (pa_cons (pv 0) pa_nil)))
 (pss_cons (ps_set (i := 2) sc_law.nd rfl (Or.inl rfl) (pe_call G_law_train (hr.mono (by decide)) rfl F_law_train.m F_law_train.F.kp F_law_train.b .nil pass0 (pa_cons (pv 1) (pa_cons (pe_call G_law_cell_at (hr.mono (by decide)) rfl F_law_cell_at.m F_law_cell_at.F.kp F_law_cell_at.b .nil pass0 (pa_cons (pv 0) (pa_cons pe_int pa_nil))) (pa_cons (pe_op op_add pe_int (pe_op op_mod (pe_call G_law_mix (hr.mono (by decide)) rfl F_law_mix.m F_law_mix.F.kp F_law_mix.b .nil pass0 (pa_cons (pe_call G_law_cell_at (hr.mono (by decide)) rfl F_law_cell_at.m F_law_cell_at.F.kp F_law_cell_at.b .nil pass0 (pa_cons (pv 0) (pa_cons pe_int pa_nil))) (pa_cons pe_int pa_nil))) pe_int)) pa_nil)))))
 (pss_cons (ps_set (i := 3) sc_law.nd rfl (Or.inr rfl) (pe_lst pa_nil))
 (pss_cons (ps_for PassesOwn.never rfl (pi_range1 rfl B.range (pa_cons (pe_ix ix_tup (pv 1) pe_int (fun _ _ => rfl)) pa_nil)) (pg_name (i := 4) sc_law.nd rfl (Or.inl rfl))
  (pss_one (ps_set (i := 3) sc_law.nd rfl (Or.inr rfl) (pe_op op_cat (pv 3) (pe_lst (pa_cons (pe_op op_mul pe_int (pv 4)) (pa_cons (pe_op op_add (pe_op op_mul pe_int (pv 4)) pe_int) pa_nil)))))))
 (pss_cons (ps_lc (i := 5) sc_law.nd rfl rfl (pi_list (pe_ix ix_tup (pv 1) pe_int (fun _ _ => rfl))) rfl cc_law_0 (.tup (.cons (.name (by decide)) (.cons (.name (by decide)) .nil))) (fun _ _ _ _ => (pg_tup (n := 2) rfl (pgs_cons (pg_name (i := 0) cc_law_0.nd rfl (Or.inl rfl)) (pgs_cons (pg_name (i := 1) cc_law_0.nd rfl (Or.inl rfl)) pgs_nil)))) (fun _ _ _ _ => pifs_nil) (fun _ _ _ _ => (pe_tup (pa_cons (pe_ix (ix_listk (K := K) rfl) (pv 2) (pv 0) (fun _ _ => rfl)) (pa_cons (pe_ix (ix_listk (K := K) rfl) (pv 2) (pv 1) (fun _ _ => rfl)) pa_nil)))))
 (pss_cons (ps_set (i := 6) sc_law.nd rfl (Or.inl rfl) (pe_tup (pa_cons (pe_op op_mul pe_int (pe_ix ix_tup (pv 1) pe_int (fun _ _ => rfl))) (pa_cons (pe_op op_cat (pv 5) (pe_lc (pi_range1 rfl B.range (pa_cons (pe_ix ix_tup (pv 1) pe_int (fun _ _ => rfl)) pa_nil)) rfl cc_law_1 (.name (by decide)) (fun _ _ _ _ => (pg_name (i := 0) cc_law_1.nd rfl (Or.inl rfl))) (fun _ _ _ _ => pifs_nil) (fun _ _ _ _ => (pe_tup (pa_cons (pe_op op_add (pe_op op_mul pe_int (pv 0)) pe_int) (pa_cons (pe_op op_add (pe_op op_mul pe_int (pv 0)) pe_int) pa_nil)))))) pa_nil))))
 (pss_cons (ps_set (i := 7) sc_law.nd rfl (Or.inl rfl) (pe_lst pa_nil))
 (pss_cons (ps_for PassesOwn.never rfl (pi_list (pv 2)) (pg_name (i := 8) sc_law.nd rfl (Or.inl rfl))
  (pss_one (ps_set (i := 7) sc_law.nd rfl (Or.inl rfl) (pe_op op_cat (pv 7) (pe_lst (pa_cons (pe_ix ix_list (pv 3) (pv 8) (fun _ _ => rfl)) (pa_cons (pe_ix ix_list (pe_lst (pa_cons (pe_op op_add (pe_ix ix_list (pv 3) (pv 8) (fun _ _ => rfl)) pe_int) (pa_cons (pe_op op_sub (pe_ix ix_list (pv 3) (pv 8) (fun _ _ => rfl)) pe_int) pa_nil))) (pe_op op_mod (pv 8) pe_int) (fun _ _ => rfl)) pa_nil)))))))
 (pss_cons (ps_set (i := 9) sc_law.nd rfl (Or.inl rfl) (pe_tup (pa_cons (pe_tup (pa_cons (pe_ix ix_tup (pv 1) pe_int (fun _ _ => rfl)) (pa_cons (pe_callTy call_list_of rfl B.list boot_list (pa_cons (pe_ix ix_tup (pv 1) pe_int (fun _ _ => rfl)) pa_nil)) pa_nil))) (pa_cons (pe_callTy call_list_of rfl B.list boot_list (pa_cons (pv 2) pa_nil)) pa_nil))))
 (pss_cons (ps_for PassesOwn.never rfl (pi_range1 rfl B.range (pa_cons pe_int pa_nil)) (pg_name (i := 10) sc_law.nd rfl (Or.inl rfl))
  (pss_cons (ps_set (i := 11) sc_law.nd rfl (Or.inl rfl) (pe_call G_finer (hr.mono (by decide)) rfl F_finer.m F_finer.F.kp F_finer.b .nil pass0 (pa_cons (pe_ix ix_tup (pv 9) pe_int (fun _ _ => rfl)) pa_nil)))
 (pss_cons (ps_set (i := 12) sc_law.nd rfl (Or.inl rfl) (pe_call G_finer_train (hr.mono (by decide)) rfl F_finer_train.m F_finer_train.F.kp F_finer_train.b .nil pass0 (pa_cons (pe_ix ix_tup (pv 9) pe_int (fun _ _ => rfl)) pa_nil)))
 (pss_cons (ps_if (PW.pt (pw_or (pt_cmpR (op_neD hr.units) (pe_call G_finer (hr.mono (by decide)) rfl F_finer.m F_finer.F.kp F_finer.b .nil pass0 (pa_cons (pe_tup (pa_cons pe_int (pa_cons (pe_lst pa_nil) pa_nil))) pa_nil)) (pe_tup (pa_cons pe_int (pa_cons (pe_lst (pa_cons (pe_tup (pa_cons pe_int (pa_cons pe_int pa_nil))) pa_nil)) pa_nil))) (nomark _)) (pw_or1 (pt_cmpR (op_neD hr.units) (pe_call G_finer_train (hr.mono (by decide)) rfl F_finer_train.m F_finer_train.F.kp F_finer_train.b .nil pass0 (pa_cons (pe_lst (pa_cons pe_int pa_nil)) pa_nil)) (pe_lst (pa_cons pe_int (pa_cons pe_int pa_nil))) (nomark _)))))
  (pss_one (ps_ret pe_bl)) pss_nil)
 (pss_cons (ps_if (PW.pt (pw_or (pt_not (pt_val (pe_callB call_isinst rfl B.isinstance boot_isinstance (pa_cons (pv 11) (pa_cons (pe_bltn (v := .ty "tuple") rfl B.tuple boot_tuple rfl) pa_nil))))) (pw_or (pt_cmpR (op_neD hr.units) (pv 11) (pv 6) (nomark _)) (pw_or (pt_not (pt_val (pe_callB call_isinst rfl B.isinstance boot_isinstance (pa_cons (pv 12) (pa_cons (pe_bltn (v := .ty "list") rfl B.list boot_list rfl) pa_nil))))) (pw_or1 (pt_cmpR (op_neD hr.units) (pv 12) (pv 7) (nomark _)))))))
  (pss_one (ps_ret pe_bl)) pss_nil)
 (pss_cons (ps_if (PW.pt (pw_or (pt_cmp (pc_notN (pe_call G_check_line (hr.mono (by decide)) rfl F_check_line.m F_check_line.F.kp F_check_line.b .nil passes_no (pa_cons (pv 11) pa_nil)))) (pw_or (pt_cmp (pc_notN (pe_call G_check_train (hr.mono (by decide)) rfl F_check_train.m F_check_train.F.kp F_check_train.b .nil passes_no (pa_cons (pv 11) (pa_cons (pv 12) pa_nil))))) (pw_or1 (pt_cmpR (op_neD hr.units) (pv 9) (pe_tup (pa_cons (pv 1) (pa_cons (pv 2) pa_nil))) (nomark _))))))
  (pss_one (ps_ret pe_bl)) pss_nil)
 (pss_cons (ps_expr (pe_bm0 PySem.F.plainAttrs_list PySem.F.slot_list_clear PySem.F.type_list_clear mt_clear (pe_ix ix_tup (pv 11) pe_int (fun _ _ => rfl))))
 (pss_one (ps_expr (pe_bm PySem.F.plainAttrs_list PySem.F.slot_list_append PySem.F.type_list_append mt_append (pv 12) (pa_cons pe_int pa_nil)))))))))))
 (pss_cons (ps_expr (pe_bm0 PySem.F.plainAttrs_list PySem.F.slot_list_clear PySem.F.type_list_clear mt_clear (pe_ix ix_tup (pe_ix ix_tup (pv 9) pe_int (fun _ _ => rfl)) pe_int (fun _ _ => rfl))))
 (pss_one (ps_ret (pe_cmpR (op_eqD hr.units) (pe_call G_finer (hr.mono (by decide)) rfl F_finer.m F_finer.F.kp F_finer.b .nil pass0 (pa_cons (pe_ix ix_tup (pv 9) pe_int (fun _ _ => rfl)) pa_nil)) (pe_tup (pa_cons (pe_op op_mul pe_int (pe_ix ix_tup (pv 1) pe_int (fun _ _ => rfl))) (pa_cons (pe_lc (pi_range1 rfl B.range (pa_cons (pe_ix ix_tup (pv 1) pe_int (fun _ _ => rfl)) pa_nil)) rfl cc_law_2 (.name (by decide)) (fun _ _ _ _ => (pg_name (i := 0) cc_law_2.nd rfl (Or.inl rfl))) (fun _ _ _ _ => pifs_nil) (fun _ _ _ _ => (pe_tup (pa_cons (pe_op op_add (pe_op op_mul pe_int (pv 0)) pe_int) (pa_cons (pe_op op_add (pe_op op_mul pe_int (pv 0)) pe_int) pa_nil))))) pa_nil))) (nomark _))))))))))))))), ?_⟩
    refine ⟨_, rfl, a, sc, rfl, hS, fun v l H1 s1 hv G => ?_⟩
    obtain ⟨al, bl, rfl, hlt, us, hll, hlq⟩ := da_line hv
    have ok := G.lineOk
    have g1 := G.one
    have g14 := G.most
    have g24 := G.len
    refine ⟨_, rfl, _, rfl, a, sc, 10, rfl, s1.seq hS, by decide, fun c10 => ⟨_, rfl, a, sc, 11, rfl, s1.seq hS, by decide, fun c11 => ⟨c11, 0, rfl, by decide, by decide, fun n0 h00 h01 => ?_⟩⟩⟩
    refine ⟨_, _, rfl, rfl, (by show (0 : Int) < 6; decide), _, _, rfl, rfl, ?_⟩
    refine ⟨_, l, c10, _, rfl, hv, ok, by show 1 ≤ 1 + n0 % 6; omega, by show 1 + n0 % 6 ≤ 40; omega, fun pt ns H2 s2 npt hpt hne tl tn T => ?_⟩
    -- becomes
    refine ⟨Nat.zero_le _, fun q0 nq0 => ?_⟩
    refine ⟨_, rfl, al, _, _, _, rfl, rfl, same_tseq (s2.trans (same_upd nq0)) hlt, rfl, l.1, rfl, by omega, by omega, for_range (fun i σ H3 => ∃ (q : Addr) (x4 : Option V), σ = [some (.ref a), some (.ref al), some (.ref pt), some (.ref q), x4, none, none, none, none, none, none, none, none] ∧ Same H2 H3 ∧ H3 q = some (.lst ((bcm i).map V.int)))
      ⟨q0, none, rfl, same_upd nq0, upd_same⟩ ?_ ?_⟩
    · rintro i σ H3 hi ⟨q, x4, rfl, s3, hq3⟩
      have hi' : i < 14 := by have h : i < l.1.toNat := hi; omega
      refine ⟨_, rfl, _, rfl, _, _, rfl, rfl, .inl ⟨by decide, by decide⟩, _, rfl, _, _, rfl, rfl, .inl ⟨by decide, by decide⟩, _, _, rfl, rfl, by show 2 ≤ sizeLine; decide, fun q1 nq1 => ?_⟩
      refine ⟨q, q1, _, _, rfl, rfl, same_upd nq1 _ _ hq3, upd_same, Nat.le_of_lt (small_l (by rw [List.length_map, bcm_len]; show 2 * i + 2 ≤ 1000; omega)), fun q2 nq2 => ?_⟩
      refine ⟨q2, _, rfl, s3.trans ((same_upd nq1).trans (same_upd nq2)), ?_⟩
      rw [upd_same, bcm_succ, List.map_append]
      have e0 : ((0 : Int) + (i : Int)) = (i : Int) := by omega
      rw [e0]; rfl
    rintro σ H3 ⟨qb, x4, rfl, s3, hqb⟩
    have T3 := s2.trans s3
    have hul : us.length = l.2.length := by rw [Dgs.length hlq, List.length_map]
    -- joints
    refine ⟨_, rfl, al, _, _, _, rfl, rfl, same_tseq T3 hlt, rfl, bl, rfl, ⟨us, T3.seq hll⟩, fun l1 n1 => lc_data (K := K) us.length l.2 (fun p => dP (fP p)) n1 hul (small_l (by omega)) (fun i H s hi => (js_list (T3.seq hll)).go i H s hi) (fun H s => (js_list (T3.seq hll)).stop H s) ?_ ?_⟩
    · intro i x d J J' sm ⟨vs', hl'⟩ y hd P1 P0 k1
      have hi : i < us.length := by have := (List.getElem?_eq_some_iff.mp hd).1; omega
      obtain ⟨rfl, hx⟩ := (js_list (T3.seq hll)).yld i J x J' sm hi y
      obtain ⟨ad, p, e1, rfl, hp⟩ := das_pair (Das.same (T3.trans sm) hlq) hx
      rw [hd] at e1; cases e1
      obtain ⟨⟨a0, a1⟩, ⟨b0, b1⟩, _, _⟩ := G.ok d (List.mem_of_getElem? hd)
      refine ⟨ad, _, rfl, hp, rfl, _, _, rfl, _, _, rfl, rfl, ?_⟩
      refine yes_if ?_
      refine ⟨_, rfl, _, rfl, qb, _, _, _, rfl, rfl, SqL.of (sm _ _ hqb), bcm_at a0 a1, _, rfl, _, rfl, qb, _, _, _, rfl, rfl, SqL.of (sm _ _ hqb), bcm_at b0 b1, by show 2 ≤ sizeLine; decide, fun p1 np1 => k1 _ _ (same_upd np1) ?_⟩
      refine dg_tuple.mpr ⟨p1, _, rfl, SqT.of ?_, Dgs.two (dg_int.mpr rfl) (dg_int.mpr rfl)⟩
      rw [hid_ne (Ne.symm (ne_of_none hl' np1)), upd_same]; rfl
    intro us1 H4 s4 h4 D4
    have D4 : Ps K H4 (l.2.map fP) us1 := ps_of_das (by rw [List.map_map]; exact Das.same hid_same D4)
    have T4 := T3.trans s4
    -- due
    refine ⟨_, rfl, al, _, _, _, rfl, rfl, same_tseq T4 hlt, rfl, _, _, rfl, rfl, .inl ⟨by decide, by decide⟩, _, rfl, _, rfl, al, _, _, _, rfl, rfl, same_tseq T4 hlt, rfl, l.1, rfl, by omega, by omega, fun l2 n2 => lc_data (K := K) l.1.toNat (List.range l.1.toNat) (fun i => dP (nP i)) n2 (by simp) (small_l (by omega)) (fun i H s hi => js_range.go i H s hi) (fun H s => js_range.stop H s) ?_ ?_⟩
    · intro i x d J J' sm ⟨vs', hl'⟩ y hd P1 P0 k1
      have hi : i < l.1.toNat := by have := (List.getElem?_eq_some_iff.mp hd).1; simpa using this
      obtain ⟨rfl, rfl⟩ := js_range.yld i J x J' sm hi y
      rw [List.getElem?_range hi] at hd
      cases hd
      refine name_yes ?_
      refine ⟨_, rfl, _, _, rfl, rfl, .inl ⟨by decide, by decide⟩, _, _, rfl, rfl, _, rfl, _, _, rfl, rfl, .inl ⟨by decide, by decide⟩, _, _, rfl, rfl, by show 2 ≤ sizeLine; decide, fun p1 np1 => k1 _ _ (same_upd np1) ?_⟩
      refine dg_tuple.mpr ⟨p1, _, rfl, SqT.of ?_, Dgs.two (dg_int.mpr rfl) (dg_int.mpr rfl)⟩
      have e0 : ((0 : Int) + (i : Int)) = (i : Int) := by omega
      rw [hid_ne (Ne.symm (ne_of_none hl' np1)), upd_same, e0]; rfl
    intro us2 H5 s5 h5 D5
    have D5 : Ps K H5 ((List.range l.1.toNat).map nP) us2 := ps_of_das (by rw [List.map_map]; exact Das.same hid_same D5)
    have z1 := D4.len
    have z2 := D5.len
    rw [List.length_map] at z1 z2
    rw [List.length_range] at z2
    refine ⟨l1, l2, _, _, rfl, rfl, s5 _ _ h4, h5, Nat.le_of_lt (small_l (by omega)), fun q1 nq1 => ⟨by show 2 ≤ sizeLine; decide, fun pd npd => ?_⟩⟩
    have v1 := same_upd (o := .lst (us1 ++ us2)) nq1
    have v2 := same_upd (o := .tup [.int (2 * l.1), .ref q1]) npd
    have hdue : Da K (upd (upd H5 q1 (.lst (us1 ++ us2))) pd (.tup [.int (2 * l.1), .ref q1])) (dL (fl l)) (.ref pd) := by
      refine da_mkline (l := fl l) upd_same (dg_list.mpr ⟨q1, _, rfl, SqL.of (v2 _ _ upd_same), ?_⟩)
      show Dgs _ _ ((l.2.map fP ++ (List.range l.1.toNat).map nP).map dP) _
      rw [List.map_append]
      exact Dgs.append (D4.same (s5.trans (v1.trans v2))).das (D5.same (v1.trans v2)).das
    have s6 := s5.trans (v1.trans v2)
    generalize upd (upd H5 q1 _) pd _ = H6 at hdue s6 ⊢
    have T6 := T4.trans s6
    have hqb6 := (s4.trans s6) _ _ hqb
    have hpt6 := (s3.trans (s4.trans s6)) _ _ hpt
    clear D4 D5 v1 v2 h4 h5 s5 nq1 npd
    -- ends
    refine ⟨Nat.zero_le _, fun e0 ne0 => ?_⟩
    refine ⟨_, rfl, pt, rfl, ⟨_, SqL.of (same_upd ne0 _ _ hpt6)⟩, for_list (K := K) (a := pt) (xs := ns.map V.int) (fun i σ H7 => ∃ (q : Addr) (x8 : Option V), σ = [some (.ref a), some (.ref al), some (.ref pt), some (.ref qb), x4, some (.ref l1), some (.ref pd), some (.ref q), x8, none, none, none, none] ∧ Same H6 H7 ∧ H7 q = some (.lst ((ft (ns.take i)).map V.int)))
      ⟨e0, none, rfl, same_upd ne0, upd_same⟩ (fun i σ H7 _ ⟨_, _, _, e, _⟩ => SqL.of (e _ _ hpt6)) ?_ ?_⟩
    · rintro i y σ H7 hi ⟨q, x8, rfl, s7, hq7⟩
      rw [List.getElem?_map] at hi
      obtain ⟨e, he, rfl⟩ : ∃ e, ns[i]? = some e ∧ y = .int e := by
        cases q : ns[i]? with
        | none => rw [q] at hi; cases hi
        | some e => rw [q] at hi; cases hi; exact ⟨e, rfl, rfl⟩
      have hil : i < ns.length := (List.getElem?_eq_some_iff.mp he).1
      obtain ⟨a0, a1⟩ := T.ends e (List.mem_of_getElem? he)
      have hb7 := SqL.of (K := K) (s7 _ _ hqb6)
      have hat := bcm_at a0 a1
      refine ⟨_, rfl, _, rfl, _, rfl, qb, _, _, _, rfl, rfl, hb7, hat, _, rfl, _, rfl, qb, _, _, _, rfl, rfl, hb7, hat, _, _, rfl, rfl, _, rfl, _, rfl, qb, _, _, _, rfl, rfl, hb7, hat, _, _, rfl, rfl, by show 2 ≤ sizeLine; decide, fun r1 nr1 => ?_⟩
      have fc := fe_cases e
      have hx : atI ([fe e + 2, fe e - 2].map V.int) (e % 2) = some (V.int (oth (fe (oth e)))) := by
        refine at_nat (by omega) ?_
        rcases fc with ⟨c1, c2, c3, c4⟩ | ⟨c1, c2, c3, c4⟩
        · rw [show (e % 2).toNat = 0 by omega, c4]
          show some (V.int (fe e + 2)) = _
          rw [c2]
        · rw [show (e % 2).toNat = 1 by omega, c4]
          show some (V.int (fe e - 2)) = _
          rw [c2]; congr 2; omega
      refine ⟨_, rfl, _, _, rfl, rfl, by show (0 : Int) < 2; decide, r1, _, _, _, rfl, rfl, SqL.of upd_same, hx, by show 2 ≤ sizeLine; decide, fun r2 nr2 => ?_⟩
      have w1 := same_upd (o := .lst [.int (fe e + 2), .int (fe e - 2)]) nr1
      have w2 := same_upd (o := .lst [.int (fe e), .int (oth (fe (oth e)))]) nr2
      have lft : (ft (ns.take i)).length ≤ 80 := by
        have : ∀ ms : List Int, (ft ms).length = 2 * ms.length := fun ms => by
          induction ms with
          | nil => rfl
          | cons x r ih => unfold ft at ih ⊢; rw [List.flatMap_cons, List.length_append, ih]; simp; omega
        rw [this, List.length_take]; omega
      refine ⟨q, r2, _, _, rfl, rfl, (w1.trans w2) _ _ hq7, upd_same, Nat.le_of_lt (small_l (by rw [List.length_map]; show (ft (ns.take i)).length + 2 ≤ 1000; omega)), fun r3 nr3 => ?_⟩
      refine ⟨r3, _, rfl, s7.trans (w1.trans (w2.trans (same_upd nr3))), ?_⟩
      rw [upd_same, List.take_add_one, he]
      unfold ft
      rw [List.flatMap_append, List.map_append]
      simp
    rintro σ H7 ⟨qe, x8, rfl, s7, hqe⟩
    rw [List.length_map, List.take_length] at hqe
    have T7 := T6.trans s7
    have hpt7 := s7 _ _ hpt6
    have hdue7 := Da.same s7 hdue
    -- handed
    refine ⟨_, rfl, al, _, _, _, rfl, rfl, same_tseq T7 hlt, rfl, _, rfl, al, _, _, _, rfl, rfl, same_tseq T7 hlt, rfl, bl, us, rfl, .inl (T7.seq hll), fun q1 nq1 => ⟨by show 2 ≤ sizeLine; decide, fun q2 nq2 => ⟨_, rfl, pt, _, rfl, .inl (SqL.of ((same_upd nq1).trans (same_upd nq2) _ _ hpt7)), fun q3 nq3 => ⟨by show 2 ≤ sizeLine; decide, fun q4 nq4 => ?_⟩⟩⟩⟩
    have u1 := same_upd (o := .lst us) nq1
    have u2 := same_upd (o := .tup [.int l.1, .ref q1]) nq2
    have u3 := same_upd (o := .lst (ns.map V.int)) nq3
    have u4 := same_upd (o := .tup [.ref q2, .ref q3]) nq4
    have s8 := u1.trans (u2.trans (u3.trans u4))
    have T8 := T7.trans s8
    have g1 := (u2.trans (u3.trans u4)) _ _ (upd_same (H := H7) (a := q1) (o := .lst us))
    have g2 := (u3.trans u4) _ _ (upd_same (a := q2) (o := .tup [.int l.1, .ref q1]) (H := upd H7 q1 (.lst us)))
    have g3 := u4 _ _ (upd_same (a := q3) (o := .lst (ns.map V.int)) (H := upd (upd H7 q1 (.lst us)) q2 (.tup [.int l.1, .ref q1])))
    have g4 := upd_same (a := q4) (o := .tup [.ref q2, .ref q3]) (H := upd (upd (upd H7 q1 (.lst us)) q2 (.tup [.int l.1, .ref q1])) q3 (.lst (ns.map V.int)))
    have hpt8 := s8 _ _ hpt7
    have hqe8 := s8 _ _ hqe
    have hdue8 := Da.same s8 hdue7
    clear u1 u2 u3 u4 s8
    generalize upd (upd (upd (upd H7 q1 (.lst us)) q2 (.tup [.int l.1, .ref q1])) q3 (.lst (ns.map V.int))) q4 (.tup [.ref q2, .ref q3]) = HH at T8 g1 g2 g3 g4 hpt8 hqe8 hdue8 ⊢
    have dl : Da K HH (dL l) (.ref al) := Da.same T8 hv
    have dl2 : Da K HH (dL l) (.ref q2) := da_mkline g2 (dg_list.mpr ⟨q1, us, rfl, SqL.of g1, Das.same T8 hlq⟩)
    have dt : Da K HH (dI ns) (.ref pt) := da_new hpt8
    have dt2 : Da K HH (dI ns) (.ref q3) := da_new g3
    have hand : ∀ H', Same HH H' → Da K H' (dHand l ns) (.ref q4) := fun H' s => dg_tuple.mpr ⟨q4, _, rfl, SqT.of (s _ _ g4), Dgs.two (Da.same s dl2) (Da.same s dt2)⟩
    have hand2 : ∀ H' q', Same HH H' → H' q' = some (.tup [.ref al, .ref pt]) → Da K H' (dHand l ns) (.ref q') := fun H' q' s h => dg_tuple.mpr ⟨q', _, rfl, SqT.of h, Dgs.two (Da.same s dl) (Da.same s dt)⟩
    have L1 := fl_line G
    have L2 := ft_train G hne T
    refine ⟨2, rfl, by decide, by decide, for_range (n := 2) (fun i σ H9 => ∃ (x10 x11 x12 : Option V), σ = [some (.ref a), some (.ref al), some (.ref pt), some (.ref qb), x4, some (.ref l1), some (.ref pd), some (.ref qe), x8, some (.ref q4), x10, x11, x12] ∧ Same HH H9)
      ⟨none, none, none, rfl, Same.refl _⟩ ?_ ?_⟩
    · rintro i σ H9 hi ⟨x10, x11, x12, rfl, s9⟩
      refine ⟨_, rfl, q4, _, _, _, rfl, rfl, SqT.of (s9 _ _ g4), rfl, _, l, rfl, Da.same s9 dl2, by omega, by omega, by omega, fun fp ft_ fus Ha sa nfp nft hfp hft hfD => ?_⟩
      have sa' := s9.trans sa
      refine ⟨_, rfl, q4, _, _, _, rfl, rfl, SqT.of (sa' _ _ g4), rfl, _, ns, rfl, Da.same sa' dt2, by omega, fun tp Hb sb ntp htp => ?_⟩
      have sb' := sa'.trans sb
      have hfp' := sb _ _ hfp
      have hft' := sb _ _ hft
      have hfD' := hfD.same sb
      have dfound : ∀ H', Same Hb H' → Da K H' (dL (fl l)) (.ref fp) := fun H' s => da_mkline (l := fl l) (s _ _ hfp') ((hfD'.same s).da (s _ _ hft'))
      -- finer((1, [])), finer_train([0])
      refine ⟨Nat.zero_le _, fun r1 nr1 => ⟨by show 2 ≤ sizeLine; decide, fun r2 nr2 => ?_⟩⟩
      have w1 := same_upd (o := .lst []) nr1
      have w2 := same_upd (o := .tup [.int 1, .ref r1]) nr2
      have hone := da_mkline (K := K) (l := (1, [])) (upd_same (a := r2) (o := .tup [.int 1, .ref r1]) (H := upd Hb r1 (.lst []))) (dg_list.mpr ⟨r1, [], rfl, SqL.of (w2 _ _ upd_same), dgs_nil.mpr rfl⟩)
      have sc' := sb'.trans (w1.trans w2)
      have wsame := w1.trans w2
      generalize upd (upd Hb r1 _) r2 _ = Hc at hone sc' wsame ⊢
      refine ⟨_, (1, []), rfl, hone, by decide, by decide, by decide, fun p1 t1 us1 Hd sd np1 nt1 hp1 ht1 hD1 => ?_⟩
      refine ⟨by show 2 ≤ sizeLine; decide, fun r3 nr3 => ⟨by show 1 ≤ sizeLine; decide, fun r4 nr4 => ⟨by show 2 ≤ sizeLine; decide, fun r5 nr5 => ?_⟩⟩⟩
      have x3 := same_upd (o := .tup [.int 1, .int 2]) nr3
      have x4' := same_upd (o := .lst [.ref r3]) nr4
      have x5 := same_upd (o := .tup [.int 2, .ref r4]) nr5
      have dnew := da_mkline (K := K) (l := fl (1, [])) (p := p1) (t := t1) ((x3.trans (x4'.trans x5)) _ _ hp1) ((hD1.same (x3.trans (x4'.trans x5))).da ((x3.trans (x4'.trans x5)) _ _ ht1))
      have dlit := da_mkline (K := K) (l := (2, [(1, 2)])) (upd_same (a := r5) (o := .tup [.int 2, .ref r4]) (H := upd (upd Hd r3 (.tup [.int 1, .int 2])) r4 (.lst [.ref r3]))) (dg_list.mpr ⟨r4, _, rfl, SqL.of (x5 _ _ upd_same), Dgs.one (dg_tuple.mpr ⟨r3, _, rfl, SqT.of ((x4'.trans x5) _ _ upd_same), Dgs.two (dg_int.mpr rfl) (dg_int.mpr rfl)⟩)⟩)
      refine ⟨dL (fl (1, [])), dL (2, [(1, 2)]), dnew, dlit, okD_L _, okD_L _, _, rfl, ?_⟩
      rw [fl_one, eqv_same (okD_L _)]
      refine iteF ?_
      have se := sc'.trans (sd.trans (x3.trans (x4'.trans x5)))
      have be := wsame.trans (sd.trans (x3.trans (x4'.trans x5)))
      clear dnew dlit x3 x4' x5 hone
      generalize upd (upd (upd Hd r3 _) r4 _) r5 _ = He at se be ⊢
      refine ⟨by show 1 ≤ sizeLine; decide, fun r6 nr6 => ⟨_, [0], rfl, da_new (ns := [0]) upd_same, by decide, fun p2 Hf sf np2 hp2 => ?_⟩⟩
      refine ⟨by show 2 ≤ sizeLine; decide, fun r7 nr7 => ⟨dI (ft [0]), dI [0, 2], da_new (same_upd nr7 _ _ hp2), da_new (ns := [0, 2]) upd_same, okD_ints _, okD_ints _, _, rfl, ?_⟩⟩
      rw [ft_zero, eqv_same (okD_ints _)]
      refine iteF ?_
      have sg := se.trans ((same_upd (o := .lst [.int 0]) nr6).trans (sf.trans (same_upd (o := .lst [.int 0, .int 2]) nr7)))
      have bg := be.trans ((same_upd (o := .lst [.int 0]) nr6).trans (sf.trans (same_upd (o := .lst [.int 0, .int 2]) nr7)))
      generalize upd Hf r7 _ = Hg at sg bg ⊢
      -- isinstance, ==
      refine ⟨_, rfl, _, _, _, true, rfl, .tup (bg _ _ hfp'), kit_same, _, rfl, ?_⟩
      refine iteF ?_
      refine ⟨_, rfl, _, rfl, dL (fl l), dL (fl l), dfound _ bg, Da.same sg hdue8, okD_L _, okD_L _, _, rfl, ?_⟩
      rw [eqv_same (okD_L _)]
      refine iteF ?_
      refine ⟨_, rfl, _, _, _, true, rfl, .lst (bg _ _ htp), kit_same, _, rfl, ?_⟩
      refine iteF ?_
      refine ⟨_, rfl, _, rfl, dI (ft ns), dI (ft ns), da_new (bg _ _ htp), da_new (sg _ _ hqe8), okD_ints _, okD_ints _, _, rfl, ?_⟩
      rw [eqv_same (okD_ints _)]
      refine iteF ?_
      -- check_line, check_train
      refine ⟨_, rfl, _, fl l, rfl, dfound _ bg, by have := isLine_len L1; omega, fun _ Hh sh => ?_, fun z => absurd L1 z⟩
      refine ⟨_, rfl, iteF ?_⟩
      refine ⟨_, rfl, _, rfl, _, _, fl l, ft ns, rfl, dfound _ (bg.trans sh), da_new ((bg.trans sh) _ _ htp), fl_ok G, ?_, fun _ Hi si => ?_, fun z => absurd L2 z⟩
      · have : ∀ ms : List Int, (ft ms).length = 2 * ms.length := fun ms => by
          induction ms with
          | nil => rfl
          | cons x r ih => unfold ft at ih ⊢; rw [List.flatMap_cons, List.length_append, ih]; simp; omega
        rw [this]; omega
      refine ⟨_, rfl, iteF ?_⟩
      have sj := sg.trans (sh.trans si)
      have bj := bg.trans (sh.trans si)
      refine ⟨_, rfl, _, rfl, _, rfl, by show 2 ≤ sizeLine; decide, fun r8 nr8 => ⟨dHand l ns, dHand l ns, hand _ (sj.trans (same_upd nr8)), hand2 _ _ (sj.trans (same_upd nr8)) upd_same, okD_hand _ _, okD_hand _ _, _, rfl, ?_⟩⟩
      rw [eqv_same (okD_hand _ _)]
      refine iteF ?_
      have sk := sj.trans (same_upd (o := .tup [.ref al, .ref pt]) nr8)
      have bk := bj.trans (same_upd (o := .tup [.ref al, .ref pt]) nr8)
      generalize upd Hi r8 _ = Hj at sk bk ⊢
      -- clear, append
      refine ⟨_, rfl, fp, _, _, _, rfl, rfl, SqT.of (bk _ _ hfp'), rfl, .inl ⟨rfl, _, SqL.of (bk _ _ hft')⟩, ft_, _, rfl, rfl, bk _ _ hft', ?_⟩
      have nft9 : HH ft_ = none := Same.free s9 nft
      have hne2 : tp ≠ ft_ := fun z => by
        subst z
        have : Ha tp = some (.lst fus) := hft
        rw [this] at ntp; cases ntp
      have htp9 : (upd Hj ft_ (.lst [])) tp = some (.lst ((ft ns).map V.int)) := by rw [upd_ne hne2]; exact bk _ _ htp
      refine ⟨_, rfl, .inl ⟨rfl, _, SqL.of htp9⟩, tp, _, _, rfl, rfl, htp9, small_l ?_, ?_⟩
      · have : ∀ ms : List Int, (ft ms).length = 2 * ms.length := fun ms => by
          induction ms with
          | nil => rfl
          | cons x r ih => unfold ft at ih ⊢; rw [List.flatMap_cons, List.length_append, ih]; simp; omega
        rw [List.length_map, this]; omega
      exact ⟨_, _, _, rfl, Same.upd (Same.upd sk nft9) (Same.free sa' ntp)⟩
    rintro σ H9 ⟨x10, x11, x12, rfl, s9⟩
    -- the joints taken out
    refine ⟨_, rfl, q4, _, _, _, rfl, rfl, SqT.of (s9 _ _ g4), rfl, q2, _, _, _, rfl, rfl, SqT.of (s9 _ _ g2), rfl, .inl ⟨rfl, _, SqL.of (s9 _ _ g1)⟩, q1, _, rfl, rfl, s9 _ _ g1, ?_⟩
    have h1 := s9 _ _ g1
    have e4 : SqT K (upd H9 q1 (.lst [])) q4 [.ref q2, .ref q3] := sqt_upd h1 (SqT.of (s9 _ _ g4))
    have e2 : SqT K (upd H9 q1 (.lst [])) q2 [.int l.1, .ref q1] := sqt_upd h1 (SqT.of (s9 _ _ g2))
    have el : SqT K (upd H9 q1 (.lst [])) al [.int l.1, .ref bl] := sqt_upd h1 (same_tseq (T8.trans s9) hlt)
    have dcut : Da K (upd H9 q1 (.lst [])) (dL (l.1, [])) (.ref q2) := dg_tuple.mpr ⟨q2, _, rfl, e2, Dgs.two (dg_int.mpr rfl) (dg_list.mpr ⟨q1, [], rfl, SqL.of upd_same, dgs_nil.mpr rfl⟩)⟩
    generalize upd H9 q1 _ = Hx at e4 e2 el dcut ⊢
    refine ⟨_, rfl, q4, _, _, _, rfl, rfl, e4, rfl, _, (l.1, []), rfl, dcut, by show 0 ≤ l.1; omega, by show l.1 ≤ 400; omega, by show 0 ≤ 400; omega, fun p1 t1 us1 Hd sd np1 nt1 hp1 ht1 hD1 => ?_⟩
    refine ⟨_, rfl, al, _, _, _, rfl, rfl, same_tseq sd el, rfl, _, _, rfl, rfl, .inl ⟨by decide, by decide⟩, _, rfl, al, _, _, _, rfl, rfl, same_tseq sd el, rfl, l.1, rfl, by omega, by omega, fun l3 n3 => lc_data (K := K) l.1.toNat (List.range l.1.toNat) (fun i => dP (nP i)) n3 (by simp) (small_l (by omega)) (fun i H s hi => js_range.go i H s hi) (fun H s => js_range.stop H s) ?_ ?_⟩
    · intro i x d J J' sm ⟨vs', hl'⟩ y hd P1 P0 k1
      have hi : i < l.1.toNat := by have := (List.getElem?_eq_some_iff.mp hd).1; simpa using this
      obtain ⟨rfl, rfl⟩ := js_range.yld i J x J' sm hi y
      rw [List.getElem?_range hi] at hd
      cases hd
      refine name_yes ?_
      refine ⟨_, rfl, _, _, rfl, rfl, .inl ⟨by decide, by decide⟩, _, _, rfl, rfl, _, rfl, _, _, rfl, rfl, .inl ⟨by decide, by decide⟩, _, _, rfl, rfl, by show 2 ≤ sizeLine; decide, fun p1 np1 => k1 _ _ (same_upd np1) ?_⟩
      refine dg_tuple.mpr ⟨p1, _, rfl, SqT.of ?_, Dgs.two (dg_int.mpr rfl) (dg_int.mpr rfl)⟩
      have e0 : ((0 : Int) + (i : Int)) = (i : Int) := by omega
      rw [hid_ne (Ne.symm (ne_of_none hl' np1)), upd_same, e0]; rfl
    intro us3 He se he De
    have De : Ps K He ((List.range l.1.toNat).map nP) us3 := ps_of_das (by rw [List.map_map]; exact Das.same hid_same De)
    refine ⟨by show 2 ≤ sizeLine; decide, fun r9 nr9 => ?_⟩
    have w := same_upd (o := .tup [.int (2 * l.1), .ref l3]) nr9
    refine ⟨dL (fl (l.1, [])), dL (fl (l.1, [])), da_mkline (l := fl (l.1, [])) ((se.trans w) _ _ hp1) ((hD1.same (se.trans w)).da ((se.trans w) _ _ ht1)), da_mkline (l := fl (l.1, [])) upd_same ((De.same w).da (w _ _ he)), okD_L _, okD_L _, ?_⟩
    rw [eqv_same (okD_L _)]
    exact k _
end
end K51
set_option Elab.async false
set_option linter.all false
set_option maxRecDepth 100000
set_option maxHeartbeats 4000000
namespace K51
open PySem L2 TL PyProof.Rows
theorem fn_mk {K : PySem.W.Frag} {h : Heap} {mg : Str → Option Value} {x : Str} {st : Stmt} {ps : List Str} {f : Addr} {oc : Value} {od an : Option Addr} {osl : Array (Option Value)} {kV doc pm cdv ct : Value} (X : K.In h) (G : h.Ns mainGlobals mg) (a : PySem.W.nsIn K mainGlobals x = some (some (.ref f)))
    (l : K.lookup f = some ⟨oc, od, .func (PySem.W.fnOf x x (defArgs st) (defBody st) (defScope st) .none kV doc pm an cdv ct), osl⟩) (c : PySem.W.codeIn K cdv x = true) (k : PySem.W.keepIn K (.ref f) = true)
    (hb : ∀ (kV doc pm : Value) (an : Option Addr) (cdv ct : Value) (us : List Value), us.length = ps.length → bindArgs (PySem.W.fnOf x x (defArgs st) (defBody st) (defScope st) .none kV doc pm an cdv ct) ⟨us, []⟩ = pure (ps.zip us)) :
    Fn K mg x st ps f (PySem.W.fnOf x x (defArgs st) (defBody st) (defScope st) .none kV doc pm an cdv ct) := ⟨fun_mk (st := st) l c k, PySem.W.mg_of X G a, (fun_mk (st := st) l c k).binds (ps := ps) hb⟩
theorem all_mk {l : PySem.W.OpenLaw} {w : World} {K : PySem.W.Frag} {h : Heap} {mg : Str → Option Value} {fa f1 f2 f3 f4 f5 f6 f7 f8 f9 f10 f11 f12 f13 f14 f15 f16 f17 f18 f19 : Addr} (X : K.In h) (G : h.Ns mainGlobals mg) (hfa : mg "law" = some (.ref fa))
    {od1 an1 od2 an2 od3 an3 od4 an4 od5 an5 od6 an6 od7 an7 od8 an8 od9 an9 od10 an10 od11 an11 od12 an12 od13 an13 od14 an14 od15 an15 od16 an16 od17 an17 od18 an18 od19 an19 : Option Addr} {sl1 sl2 sl3 sl4 sl5 sl6 sl7 sl8 sl9 sl10 sl11 sl12 sl13 sl14 sl15 sl16 sl17 sl18 sl19 : Array (Option Value)} {oc1 kV1 dc1 pm1 cd1 ct1 oc2 kV2 dc2 pm2 cd2 ct2 oc3 kV3 dc3 pm3 cd3 ct3 oc4 kV4 dc4 pm4 cd4 ct4 oc5 kV5 dc5 pm5 cd5 ct5 oc6 kV6 dc6 pm6 cd6 ct6 oc7 kV7 dc7 pm7 cd7 ct7 oc8 kV8 dc8 pm8 cd8 ct8 oc9 kV9 dc9 pm9 cd9 ct9 oc10 kV10 dc10 pm10 cd10 ct10 oc11 kV11 dc11 pm11 cd11 ct11 oc12 kV12 dc12 pm12 cd12 ct12 oc13 kV13 dc13 pm13 cd13 ct13 oc14 kV14 dc14 pm14 cd14 ct14 oc15 kV15 dc15 pm15 cd15 ct15 oc16 kV16 dc16 pm16 cd16 ct16 oc17 kV17 dc17 pm17 cd17 ct17 oc18 kV18 dc18 pm18 cd18 ct18 oc19 kV19 dc19 pm19 cd19 ct19 : Value}
    (a1 : PySem.W.nsIn K mainGlobals "other_end" = some (some (.ref f1))) (l1 : K.lookup f1 = some ⟨oc1, od1, .func (PySem.W.fnOf "other_end" "other_end" (defArgs s_other_end) (defBody s_other_end) (defScope s_other_end) .none kV1 dc1 pm1 an1 cd1 ct1), sl1⟩) (c1 : PySem.W.codeIn K cd1 "other_end" = true) (k1 : PySem.W.keepIn K (.ref f1) = true)
    (a2 : PySem.W.nsIn K mainGlobals "piece_of" = some (some (.ref f2))) (l2 : K.lookup f2 = some ⟨oc2, od2, .func (PySem.W.fnOf "piece_of" "piece_of" (defArgs s_piece_of) (defBody s_piece_of) (defScope s_piece_of) .none kV2 dc2 pm2 an2 cd2 ct2), sl2⟩) (c2 : PySem.W.codeIn K cd2 "piece_of" = true) (k2 : PySem.W.keepIn K (.ref f2) = true)
    (a3 : PySem.W.nsIn K mainGlobals "is_end" = some (some (.ref f3))) (l3 : K.lookup f3 = some ⟨oc3, od3, .func (PySem.W.fnOf "is_end" "is_end" (defArgs s_is_end) (defBody s_is_end) (defScope s_is_end) .none kV3 dc3 pm3 an3 cd3 ct3), sl3⟩) (c3 : PySem.W.codeIn K cd3 "is_end" = true) (k3 : PySem.W.keepIn K (.ref f3) = true)
    (a4 : PySem.W.nsIn K mainGlobals "check_line" = some (some (.ref f4))) (l4 : K.lookup f4 = some ⟨oc4, od4, .func (PySem.W.fnOf "check_line" "check_line" (defArgs s_check_line) (defBody s_check_line) (defScope s_check_line) .none kV4 dc4 pm4 an4 cd4 ct4), sl4⟩) (c4 : PySem.W.codeIn K cd4 "check_line" = true) (k4 : PySem.W.keepIn K (.ref f4) = true)
    (a5 : PySem.W.nsIn K mainGlobals "check_joint" = some (some (.ref f5))) (l5 : K.lookup f5 = some ⟨oc5, od5, .func (PySem.W.fnOf "check_joint" "check_joint" (defArgs s_check_joint) (defBody s_check_joint) (defScope s_check_joint) .none kV5 dc5 pm5 an5 cd5 ct5), sl5⟩) (c5 : PySem.W.codeIn K cd5 "check_joint" = true) (k5 : PySem.W.keepIn K (.ref f5) = true)
    (a6 : PySem.W.nsIn K mainGlobals "joined" = some (some (.ref f6))) (l6 : K.lookup f6 = some ⟨oc6, od6, .func (PySem.W.fnOf "joined" "joined" (defArgs s_joined) (defBody s_joined) (defScope s_joined) .none kV6 dc6 pm6 an6 cd6 ct6), sl6⟩) (c6 : PySem.W.codeIn K cd6 "joined" = true) (k6 : PySem.W.keepIn K (.ref f6) = true)
    (a7 : PySem.W.nsIn K mainGlobals "finer_end" = some (some (.ref f7))) (l7 : K.lookup f7 = some ⟨oc7, od7, .func (PySem.W.fnOf "finer_end" "finer_end" (defArgs s_finer_end) (defBody s_finer_end) (defScope s_finer_end) .none kV7 dc7 pm7 an7 cd7 ct7), sl7⟩) (c7 : PySem.W.codeIn K cd7 "finer_end" = true) (k7 : PySem.W.keepIn K (.ref f7) = true)
    (a8 : PySem.W.nsIn K mainGlobals "finer" = some (some (.ref f8))) (l8 : K.lookup f8 = some ⟨oc8, od8, .func (PySem.W.fnOf "finer" "finer" (defArgs s_finer) (defBody s_finer) (defScope s_finer) .none kV8 dc8 pm8 an8 cd8 ct8), sl8⟩) (c8 : PySem.W.codeIn K cd8 "finer" = true) (k8 : PySem.W.keepIn K (.ref f8) = true)
    (a9 : PySem.W.nsIn K mainGlobals "finer_train" = some (some (.ref f9))) (l9 : K.lookup f9 = some ⟨oc9, od9, .func (PySem.W.fnOf "finer_train" "finer_train" (defArgs s_finer_train) (defBody s_finer_train) (defScope s_finer_train) .none kV9 dc9 pm9 an9 cd9 ct9), sl9⟩) (c9 : PySem.W.codeIn K cd9 "finer_train" = true) (k9 : PySem.W.keepIn K (.ref f9) = true)
    (a10 : PySem.W.nsIn K mainGlobals "check_train" = some (some (.ref f10))) (l10 : K.lookup f10 = some ⟨oc10, od10, .func (PySem.W.fnOf "check_train" "check_train" (defArgs s_check_train) (defBody s_check_train) (defScope s_check_train) .none kV10 dc10 pm10 an10 cd10 ct10), sl10⟩) (c10 : PySem.W.codeIn K cd10 "check_train" = true) (k10 : PySem.W.keepIn K (.ref f10) = true)
    (a11 : PySem.W.nsIn K mainGlobals "_law_cell_at" = some (some (.ref f11))) (l11 : K.lookup f11 = some ⟨oc11, od11, .func (PySem.W.fnOf "_law_cell_at" "_law_cell_at" (defArgs s_law_cell_at) (defBody s_law_cell_at) (defScope s_law_cell_at) .none kV11 dc11 pm11 an11 cd11 ct11), sl11⟩) (c11 : PySem.W.codeIn K cd11 "_law_cell_at" = true) (k11 : PySem.W.keepIn K (.ref f11) = true)
    (a12 : PySem.W.nsIn K mainGlobals "_law_mix" = some (some (.ref f12))) (l12 : K.lookup f12 = some ⟨oc12, od12, .func (PySem.W.fnOf "_law_mix" "_law_mix" (defArgs s_law_mix) (defBody s_law_mix) (defScope s_law_mix) .none kV12 dc12 pm12 an12 cd12 ct12), sl12⟩) (c12 : PySem.W.codeIn K cd12 "_law_mix" = true) (k12 : PySem.W.keepIn K (.ref f12) = true)
    (a13 : PySem.W.nsIn K mainGlobals "_law_turned_row" = some (some (.ref f13))) (l13 : K.lookup f13 = some ⟨oc13, od13, .func (PySem.W.fnOf "_law_turned_row" "_law_turned_row" (defArgs s_law_turned_row) (defBody s_law_turned_row) (defScope s_law_turned_row) .none kV13 dc13 pm13 an13 cd13 ct13), sl13⟩) (c13 : PySem.W.codeIn K cd13 "_law_turned_row" = true) (k13 : PySem.W.keepIn K (.ref f13) = true)
    (a14 : PySem.W.nsIn K mainGlobals "_law_other" = some (some (.ref f14))) (l14 : K.lookup f14 = some ⟨oc14, od14, .func (PySem.W.fnOf "_law_other" "_law_other" (defArgs s_law_other) (defBody s_law_other) (defScope s_law_other) .none kV14 dc14 pm14 an14 cd14 ct14), sl14⟩) (c14 : PySem.W.codeIn K cd14 "_law_other" = true) (k14 : PySem.W.keepIn K (.ref f14) = true)
    (a15 : PySem.W.nsIn K mainGlobals "_law_joined" = some (some (.ref f15))) (l15 : K.lookup f15 = some ⟨oc15, od15, .func (PySem.W.fnOf "_law_joined" "_law_joined" (defArgs s_law_joined) (defBody s_law_joined) (defScope s_law_joined) .none kV15 dc15 pm15 an15 cd15 ct15), sl15⟩) (c15 : PySem.W.codeIn K cd15 "_law_joined" = true) (k15 : PySem.W.keepIn K (.ref f15) = true)
    (a16 : PySem.W.nsIn K mainGlobals "_law_line" = some (some (.ref f16))) (l16 : K.lookup f16 = some ⟨oc16, od16, .func (PySem.W.fnOf "_law_line" "_law_line" (defArgs s_law_line) (defBody s_law_line) (defScope s_law_line) .none kV16 dc16 pm16 an16 cd16 ct16), sl16⟩) (c16 : PySem.W.codeIn K cd16 "_law_line" = true) (k16 : PySem.W.keepIn K (.ref f16) = true)
    (a17 : PySem.W.nsIn K mainGlobals "_law_renamed" = some (some (.ref f17))) (l17 : K.lookup f17 = some ⟨oc17, od17, .func (PySem.W.fnOf "_law_renamed" "_law_renamed" (defArgs s_law_renamed) (defBody s_law_renamed) (defScope s_law_renamed) .none kV17 dc17 pm17 an17 cd17 ct17), sl17⟩) (c17 : PySem.W.codeIn K cd17 "_law_renamed" = true) (k17 : PySem.W.keepIn K (.ref f17) = true)
    (a18 : PySem.W.nsIn K mainGlobals "_law_train" = some (some (.ref f18))) (l18 : K.lookup f18 = some ⟨oc18, od18, .func (PySem.W.fnOf "_law_train" "_law_train" (defArgs s_law_train) (defBody s_law_train) (defScope s_law_train) .none kV18 dc18 pm18 an18 cd18 ct18), sl18⟩) (c18 : PySem.W.codeIn K cd18 "_law_train" = true) (k18 : PySem.W.keepIn K (.ref f18) = true)
    (a19 : PySem.W.nsIn K mainGlobals "law" = some (some (.ref f19))) (l19 : K.lookup f19 = some ⟨oc19, od19, .func (PySem.W.fnOf "law" "law" (defArgs s_law) (defBody s_law) (defScope s_law) .none kV19 dc19 pm19 an19 cd19 ct19), sl19⟩) (c19 : PySem.W.codeIn K cd19 "law" = true) (k19 : PySem.W.keepIn K (.ref f19) = true)
    (z1 : PySem.W.nsIn K mainGlobals "len" = some none) (z2 : PySem.W.nsIn K mainGlobals "range" = some none) (z3 : PySem.W.nsIn K mainGlobals "sorted" = some none) (z4 : PySem.W.nsIn K mainGlobals "enumerate" = some none) (z5 : PySem.W.nsIn K mainGlobals "reversed" = some none) (z6 : PySem.W.nsIn K mainGlobals "min" = some none) (z7 : PySem.W.nsIn K mainGlobals "max" = some none) (z8 : PySem.W.nsIn K mainGlobals "list" = some none) (z9 : PySem.W.nsIn K mainGlobals "int" = some none) (z10 : PySem.W.nsIn K mainGlobals "isinstance" = some none) (z11 : PySem.W.nsIn K mainGlobals "zip" = some none) (z12 : PySem.W.nsIn K mainGlobals "sum" = some none) (z13 : PySem.W.nsIn K mainGlobals "all" = some none) (z14 : PySem.W.nsIn K mainGlobals "set" = some none) (z15 : PySem.W.nsIn K mainGlobals "tuple" = some none) (z16 : PySem.W.nsIn K mainGlobals "abs" = some none) (z17 : PySem.W.nsIn K mainGlobals "bool" = some none) (z18 : PySem.W.nsIn K mainGlobals "dict" = some none) (z19 : PySem.W.nsIn K mainGlobals "str" = some none)
    {E0 : Addr} (xo0 : XcIn K "NoLine" E0)
    {E1 : Addr} (xo1 : XcIn K "NoTrain" E1)
    {tk0 : Tok} (ck0 : PySem.W.nsIn K mainGlobals "MOST_PIECES" = some (some (.int 40 tk0)))
    {tk1 : Tok} (ck1 : PySem.W.nsIn K mainGlobals "MOST_JOINTS" = some (some (.int 80 tk1))) :
    ∃ fd : FuncData, (∀ (s : Shared) (v : Value), BindsTo s fd ⟨[v], []⟩ [("_law_script", v)]) ∧ ∀ base : Heap, K.In base → base.Ns mainGlobals mg → FnOk l.prog w K mg base CX0 5 fa fd ["_law_script"] (sp_law K) := by
  have e := hfa.symm.trans (PySem.W.mg_of X G a19)
  cases e
  have B : Bm mg := ⟨⟨PySem.W.mg_none_of X G z1, PySem.W.mg_none_of X G z2, PySem.W.mg_none_of X G z3, PySem.W.mg_none_of X G z4, PySem.W.mg_none_of X G z5, PySem.W.mg_none_of X G z6, PySem.W.mg_none_of X G z7, PySem.W.mg_none_of X G z8, PySem.W.mg_none_of X G z9, PySem.W.mg_none_of X G z10⟩, PySem.W.mg_none_of X G z11, PySem.W.mg_none_of X G z12, PySem.W.mg_none_of X G z13, PySem.W.mg_none_of X G z14, PySem.W.mg_none_of X G z15, PySem.W.mg_none_of X G z16, PySem.W.mg_none_of X G z17, PySem.W.mg_none_of X G z18, PySem.W.mg_none_of X G z19⟩
  have X0 := xo0.xc X G
  have X1 := xo1.xc X G
  have C : Cl mg tk0 tk1 := ⟨PySem.W.mg_of X G ck0, PySem.W.mg_of X G ck1⟩
  have F_other_end := fn_mk (st := s_other_end) (ps := ["end"]) X G a1 l1 c1 k1 fun _ _ _ _ _ _ us hl => match us, hl with | [_], _ => rfl
  have F_piece_of := fn_mk (st := s_piece_of) (ps := ["end"]) X G a2 l2 c2 k2 fun _ _ _ _ _ _ us hl => match us, hl with | [_], _ => rfl
  have F_is_end := fn_mk (st := s_is_end) (ps := ["line", "end"]) X G a3 l3 c3 k3 fun _ _ _ _ _ _ us hl => match us, hl with | [_, _], _ => rfl
  have F_check_line := fn_mk (st := s_check_line) (ps := ["line"]) X G a4 l4 c4 k4 fun _ _ _ _ _ _ us hl => match us, hl with | [_], _ => rfl
  have F_check_joint := fn_mk (st := s_check_joint) (ps := ["line", "joint"]) X G a5 l5 c5 k5 fun _ _ _ _ _ _ us hl => match us, hl with | [_, _], _ => rfl
  have F_joined := fn_mk (st := s_joined) (ps := ["line", "end"]) X G a6 l6 c6 k6 fun _ _ _ _ _ _ us hl => match us, hl with | [_, _], _ => rfl
  have F_finer_end := fn_mk (st := s_finer_end) (ps := ["end"]) X G a7 l7 c7 k7 fun _ _ _ _ _ _ us hl => match us, hl with | [_], _ => rfl
  have F_finer := fn_mk (st := s_finer) (ps := ["line"]) X G a8 l8 c8 k8 fun _ _ _ _ _ _ us hl => match us, hl with | [_], _ => rfl
  have F_finer_train := fn_mk (st := s_finer_train) (ps := ["train"]) X G a9 l9 c9 k9 fun _ _ _ _ _ _ us hl => match us, hl with | [_], _ => rfl
  have F_check_train := fn_mk (st := s_check_train) (ps := ["line", "train"]) X G a10 l10 c10 k10 fun _ _ _ _ _ _ us hl => match us, hl with | [_, _], _ => rfl
  have F_law_cell_at := fn_mk (st := s_law_cell_at) (ps := ["_law_script", "_law_k"]) X G a11 l11 c11 k11 fun _ _ _ _ _ _ us hl => match us, hl with | [_, _], _ => rfl
  have F_law_mix := fn_mk (st := s_law_mix) (ps := ["_law_cell", "_law_k"]) X G a12 l12 c12 k12 fun _ _ _ _ _ _ us hl => match us, hl with | [_, _], _ => rfl
  have F_law_turned_row := fn_mk (st := s_law_turned_row) (ps := ["_law_number", "_law_many"]) X G a13 l13 c13 k13 fun _ _ _ _ _ _ us hl => match us, hl with | [_, _], _ => rfl
  have F_law_other := fn_mk (st := s_law_other) (ps := ["_law_end"]) X G a14 l14 c14 k14 fun _ _ _ _ _ _ us hl => match us, hl with | [_], _ => rfl
  have F_law_joined := fn_mk (st := s_law_joined) (ps := ["_law_line_here", "_law_end"]) X G a15 l15 c15 k15 fun _ _ _ _ _ _ us hl => match us, hl with | [_, _], _ => rfl
  have F_law_line := fn_mk (st := s_law_line) (ps := ["_law_script"]) X G a16 l16 c16 k16 fun _ _ _ _ _ _ us hl => match us, hl with | [_], _ => rfl
  have F_law_renamed := fn_mk (st := s_law_renamed) (ps := ["_law_line_here", "_law_cell"]) X G a17 l17 c17 k17 fun _ _ _ _ _ _ us hl => match us, hl with | [_, _], _ => rfl
  have F_law_train := fn_mk (st := s_law_train) (ps := ["_law_line_here", "_law_cell", "_law_length"]) X G a18 l18 c18 k18 fun _ _ _ _ _ _ us hl => match us, hl with | [_, _, _], _ => rfl
  have F_law := fn_mk (st := s_law) (ps := ["_law_script"]) X G a19 l19 c19 k19 fun _ _ _ _ _ _ us hl => match us, hl with | [_], _ => rfl
  refine ⟨PySem.W.fnOf "law" "law" (defArgs s_law) (defBody s_law) (defScope s_law) .none kV19 dc19 pm19 an19 cd19 ct19, fun s v => .of_eq rfl, fun base _ _ => ?_⟩
  have G_law_renamed : FnOk l.prog w K mg base CX0 2 _ _ _ _ := ok_law_renamed F_law_renamed F_law_mix F_law_turned_row B.toBl
  have G_law_line : FnOk l.prog w K mg base CX0 3 _ _ _ _ := ok_law_line F_law_line F_law_mix F_law_cell_at F_law_other F_law_renamed G_law_renamed B.toBl
  have G_law_train : FnOk l.prog w K mg base CX0 2 _ _ _ _ := ok_law_train F_law_train F_law_mix F_law_other F_law_joined B.toBl
  have G_check_joint : FnOk l.prog w K mg base (CXr l.prog w base) 2 _ _ _ _ := ok_check_joint F_check_joint ⟨X0⟩ F_is_end F_piece_of
  have G_check_line : FnOk l.prog w K mg base (CXr l.prog w base) 3 _ _ _ _ := ok_check_line F_check_line ⟨X0⟩ B C F_check_joint G_check_joint
  have G_check_train : FnOk l.prog w K mg base (CXr l.prog w base) 2 _ _ _ _ := ok_check_train F_check_train ⟨X1⟩ B F_is_end F_piece_of F_joined F_other_end
  exact ok_law F_law B F_law_line G_law_line F_law_cell_at F_law_mix F_law_train G_law_train F_finer F_finer_end F_finer_train F_other_end F_check_line G_check_line F_check_train G_check_train
theorem walk {l : PySem.W.OpenLaw} {q : Program} {loose : List Str} {XP : (Str → Option Value) → Heap → Prop} {YP : World → Heap → Prop} {d : DefRec} {K : Params → PySem.W.Frag} (hn : l.most = some 63) (hdf : d.params.defaults = [])
    (hY : ∀ (w : World) (h : Heap), YP w h → (K w.params).In h)
    (F : ∀ (w : World) (mg : Str → Option Value) (fa : Addr) (h : Heap), (K w.params).In h → h.Ns mainGlobals mg → mg d.name = some (.ref fa) →
      ∃ fd : FuncData, (∀ (s : Shared) (u : Value), BindsTo s fd ⟨[u], []⟩ [("_law_script", u)]) ∧ ∀ base : Heap, (K w.params).In base → base.Ns mainGlobals mg → FnOk l.prog w (K w.params) mg base CX0 5 fa fd ["_law_script"] (sp_law (K w.params))) :
    PySem.W.WalkO q loose XP YP l.row.toRowW d [] (fun f vs => PySem.call f vs) :=
  L2.walk_of (n := 63) (k := 5) (x := "_law_script") (CX := fun _ => CX0) (sp := fun w => sp_law (K w.params)) hn (by decide) hdf ⟨rfl, by decide, by decide⟩ hY F (fun _ _ a ns hl _ hS => ⟨a, ns, rfl, hS, fun _ => rfl⟩) fun _ _ _ _ _ z => z
end K51
open PySem PySem.W PyProof.Rows
set_option maxRecDepth 100000 in
set_option maxHeartbeats 0 in
theorem PySem.Challenge.cw_turnline_k51_finer_lines_and_trains_holds : PySem.Challenge.rw_turnline_k51_finer_lines_and_trains.Holds := by
  w_on; o_law; k_head; (case hw => w_witness2)
  k_fill
  refine K51.walk (l := PySem.Challenge.rw_turnline_k51_finer_lines_and_trains) rfl rfl (fun w h Y => PySem.W.kIn_of Y) ?F
  case F =>
    intro w mg fa h KX G hmg
    refine' K51.all_mk KX G hmg ?a1 ?l1 ?c1 ?k1 ?a2 ?l2 ?c2 ?k2 ?a3 ?l3 ?c3 ?k3 ?a4 ?l4 ?c4 ?k4 ?a5 ?l5 ?c5 ?k5 ?a6 ?l6 ?c6 ?k6 ?a7 ?l7 ?c7 ?k7 ?a8 ?l8 ?c8 ?k8 ?a9 ?l9 ?c9 ?k9 ?a10 ?l10 ?c10 ?k10 ?a11 ?l11 ?c11 ?k11 ?a12 ?l12 ?c12 ?k12 ?a13 ?l13 ?c13 ?k13 ?a14 ?l14 ?c14 ?k14 ?a15 ?l15 ?c15 ?k15 ?a16 ?l16 ?c16 ?k16 ?a17 ?l17 ?c17 ?k17 ?a18 ?l18 ?c18 ?k18 ?a19 ?l19 ?c19 ?k19 ?z1 ?z2 ?z3 ?z4 ?z5 ?z6 ?z7 ?z8 ?z9 ?z10 ?z11 ?z12 ?z13 ?z14 ?z15 ?z16 ?z17 ?z18 ?z19 ?xo0 ?xo1 ?ck0 ?ck1
    (case a1 => k_is); (case l1 => k_is); (case c1 => k_is); (case k1 => k_is)
    (case a2 => k_is); (case l2 => k_is); (case c2 => k_is); (case k2 => k_is)
    (case a3 => k_is); (case l3 => k_is); (case c3 => k_is); (case k3 => k_is)
    (case a4 => k_is); (case l4 => k_is); (case c4 => k_is); (case k4 => k_is)
    (case a5 => k_is); (case l5 => k_is); (case c5 => k_is); (case k5 => k_is)
    (case a6 => k_is); (case l6 => k_is); (case c6 => k_is); (case k6 => k_is)
    (case a7 => k_is); (case l7 => k_is); (case c7 => k_is); (case k7 => k_is)
    (case a8 => k_is); (case l8 => k_is); (case c8 => k_is); (case k8 => k_is)
    (case a9 => k_is); (case l9 => k_is); (case c9 => k_is); (case k9 => k_is)
    (case a10 => k_is); (case l10 => k_is); (case c10 => k_is); (case k10 => k_is)
    (case a11 => k_is); (case l11 => k_is); (case c11 => k_is); (case k11 => k_is)
    (case a12 => k_is); (case l12 => k_is); (case c12 => k_is); (case k12 => k_is)
    (case a13 => k_is); (case l13 => k_is); (case c13 => k_is); (case k13 => k_is)
    (case a14 => k_is); (case l14 => k_is); (case c14 => k_is); (case k14 => k_is)
    (case a15 => k_is); (case l15 => k_is); (case c15 => k_is); (case k15 => k_is)
    (case a16 => k_is); (case l16 => k_is); (case c16 => k_is); (case k16 => k_is)
    (case a17 => k_is); (case l17 => k_is); (case c17 => k_is); (case k17 => k_is)
    (case a18 => k_is); (case l18 => k_is); (case c18 => k_is); (case k18 => k_is)
    (case a19 => k_is); (case l19 => k_is); (case c19 => k_is); (case k19 => k_is)
    (case z1 => k_is)
    (case z2 => k_is)
    (case z3 => k_is)
    (case z4 => k_is)
    (case z5 => k_is)
    (case z6 => k_is)
    (case z7 => k_is)
    (case z8 => k_is)
    (case z9 => k_is)
    (case z10 => k_is)
    (case z11 => k_is)
    (case z12 => k_is)
    (case z13 => k_is)
    (case z14 => k_is)
    (case z15 => k_is)
    (case z16 => k_is)
    (case z17 => k_is)
    (case z18 => k_is)
    (case z19 => k_is)
    (case xo0 => refine' ⟨?u1, ?u2, ?u3, ?u4, ?u5, ?u6, ?u7, ?u8, ?u9⟩; (case u1 => k_is); (case u2 => k_exc); (case u3 => k_is); (case u4 => k_is); (case u5 => k_is); (case u6 => k_is); (case u7 => k_is); (case u8 => k_is); (case u9 => k_is))
    (case xo1 => refine' ⟨?u1, ?u2, ?u3, ?u4, ?u5, ?u6, ?u7, ?u8, ?u9⟩; (case u1 => k_is); (case u2 => k_exc); (case u3 => k_is); (case u4 => k_is); (case u5 => k_is); (case u6 => k_is); (case u7 => k_is); (case u8 => k_is); (case u9 => k_is))
    (case ck0 => k_is)
    (case ck1 => k_is)
