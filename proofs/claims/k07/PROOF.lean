import PyProof.Rows.All
import Wide.All
import OpenK.AllK
import Wide.FinOn
import PyProof.EqAt
import PyProof.EqKinds
import PyProof.TupleCall
import PyProof.CompFree
import PyProof.EvalArms
import KE.BitLaws
import OpenK.KOwn
import KE.KIsAll
import PyProof.ExcArgsOwn
import PyProof.IsiH_list
import PyProof.NsDelKeeps
import PyProof.ExcAttrAll.ValueError
import PyProof.ExcBaseAll.ValueError
import PyProof.ZipIter
import PyProof.Rows.SumAny
import KE.LcSums
import PyProof.SetRoads
import PyProof.Rows.SetFrom
import KE.KSetDisp
import PyProof.DictIter
import PyProof.DictRoadsH
import PyProof.Rows.TupDisplay
import PyProof.FString
import PyProof.DictItems
import KE.KPairComp
import KE.KSortAsk
import PyProof.TupleKey
import PyProof.Rows.StrRules
import KE.KSortTup
import PySem.Challenge.RW_turnline_k07_whole_moves_undone_and_turn
set_option Elab.async false
set_option linter.all false
set_option maxRecDepth 100000
/-! THE HAND LAYER, for ints, bools, texts, own classes, LISTS and tuples (index, slices, in, append, pop ..), calls, loops. Paste it whole ahead of your own text; what your proof does not reach may be deleted. -/
namespace L2
open PySem PySem.Spec PyProof.Rows

/-- a key: an int or a str -/
abbrev Key := Sum Int Str
def keyIs : Key → Value → Bool
  | .inl k, v => Value.isInt k v
  | .inr x, v => Value.isStrOf x v
def keyH (w : World) : Key → Int
  | .inl k => hashInt k
  | .inr x => hashStr w x
theorem keyIs_shape : ∀ {k : Key} {v : Value}, keyIs k v = true → (∃ i t, k = Sum.inl i ∧ v = Value.int i t) ∨ (∃ x t, k = Sum.inr x ∧ v = Value.str x t)
  | .inl i, v, h => by
    obtain ⟨t, e⟩ := Value.isInt_shape (k := i) (v := v) h
    exact .inl ⟨i, t, rfl, e⟩
  | .inr x, v, h => by
    obtain ⟨t, e⟩ := Value.isStrOf_shape (x := x) (v := v) h
    exact .inr ⟨x, t, rfl, e⟩
theorem key_ll (a b : Int) : decide ((Sum.inl a : Key) = Sum.inl b) = (a == b) := by
  by_cases e : a = b
  · subst e; simp
  · have h : ¬ (Sum.inl a : Key) = Sum.inl b := fun q => e (Sum.inl.inj q)
    rw [decide_eq_false h]
    exact (beq_eq_false_iff_ne.mpr e).symm
theorem key_rr (a b : Str) : decide ((Sum.inr a : Key) = Sum.inr b) = decide (a = b) := by
  by_cases e : a = b
  · subst e; simp
  · have h : ¬ (Sum.inr a : Key) = Sum.inr b := fun q => e (Sum.inr.inj q)
    rw [decide_eq_false h, decide_eq_false e]
theorem key_lr (a : Int) (b : Str) : decide ((Sum.inl a : Key) = Sum.inr b) = false := decide_eq_false (fun q => nomatch q)
theorem key_rl (a : Str) (b : Int) : decide ((Sum.inr a : Key) = Sum.inl b) = false := decide_eq_false (fun q => nomatch q)

def mixKind (prog : Program) (w : World) : PySem.KeyKind prog w Key where
  is := keyIs
  hash := keyH w
  inj := fun v a b ha hb => by
    rcases keyIs_shape ha with ⟨i, t, rfl, rfl⟩ | ⟨x, t, rfl, rfl⟩
    · rcases keyIs_shape hb with ⟨j, u, rfl, e⟩ | ⟨y, u, rfl, e⟩
      · injection e with e1 _; rw [e1]
      · exact nomatch e
    · rcases keyIs_shape hb with ⟨j, u, rfl, e⟩ | ⟨y, u, rfl, e⟩
      · exact nomatch e
      · injection e with e1 _; rw [e1]
  byValue := fun k v h => by
    rcases keyIs_shape h with ⟨i, t, rfl, rfl⟩ | ⟨x, t, rfl, rfl⟩ <;> rfl
  pyHash := fun hv h => by
    rcases keyIs_shape hv with ⟨i, t, rfl, rfl⟩ | ⟨x, t, rfl, rfl⟩
    · exact wpAny_pyHash_int h
    · exact wpAny_pyHash_str h
  eqBool := fun hu hv h => by
    rcases keyIs_shape hu with ⟨i, t, rfl, rfl⟩ | ⟨x, t, rfl, rfl⟩
    · rcases keyIs_shape hv with ⟨j, u, rfl, rfl⟩ | ⟨y, u, rfl, rfl⟩
      · rw [key_ll] at h; exact wpAny_eqBool_int h
      · rw [key_lr] at h; exact SeqAt.EqAt.int_str i t y u _ _ _ _ h
    · rcases keyIs_shape hv with ⟨j, u, rfl, rfl⟩ | ⟨y, u, rfl, rfl⟩
      · rw [key_rl] at h; exact SeqAt.EqAt.str_int x t j u _ _ _ _ h
      · rw [key_rr] at h; exact wpAny_eqBool_str h
  «strs» := fun k x t v h => by
    rcases keyIs_shape h with ⟨i, u, rfl, e⟩ | ⟨y, u, rfl, e⟩
    · exact nomatch e
    · injection e with e1 _
      subst e1
      cases v <;> rfl

end L2

namespace L2
open PySem PySem.Spec PyProof.Rows

/-- a value, without the heap -/
inductive V where
  | non | bl (b : Bool) | int (i : Int) | str (x : Str) | byt (b : Array UInt8) | flt (b : UInt64) | ref (a : Addr) | ty (n : String)
  deriving DecidableEq

def RelV : V → Value → Prop
  | .non, u => u = Value.none
  | .bl b, u => u = Value.bool b
  | .int i, u => ∃ t, u = Value.int i t
  | .str x, u => ∃ t, u = Value.str x t
  | .byt b, u => ∃ t, u = Value.bytes b t
  | .flt b, u => ∃ t, u = Value.float b t
  | .ref a, u => u = Value.ref a
  | .ty n, u => u = Value.type n

abbrev Vals : List V → List Value → Prop := Paired RelV
theorem Vals.length {xs : List V} {us : List Value} (r : Vals xs us) : xs.length = us.length := Paired.length r
theorem Vals.get : ∀ {xs : List V} {us : List Value} {i : Nat} {x : V}, Vals xs us → xs[i]? = some x → ∃ u, us[i]? = some u ∧ RelV x u
  | _, _, _, _, .nil, e => by simp at e
  | _, _, 0, _, .cons r _, e => by simp at e; subst e; exact ⟨_, rfl, r⟩
  | _, _, i + 1, x, .cons _ t, e => by
    obtain ⟨u, h1, h2⟩ := Vals.get (i := i) (x := x) t (by simpa using e)
    exact ⟨u, by simpa using h1, h2⟩
theorem Vals.append : ∀ {xs ys : List V} {us ws : List Value}, Vals xs us → Vals ys ws → Vals (xs ++ ys) (us ++ ws)
  | _, _, _, _, .nil, s => s
  | _, _, _, _, .cons r t, s => .cons r (Vals.append t s)
theorem Vals.take : ∀ {xs : List V} {us : List Value} (n : Nat), Vals xs us → Vals (xs.take n) (us.take n)
  | _, _, 0, _ => .nil
  | _, _, _ + 1, .nil => .nil
  | _, _, n + 1, .cons r t => .cons r (Vals.take n t)
theorem Vals.drop : ∀ {xs : List V} {us : List Value} (n : Nat), Vals xs us → Vals (xs.drop n) (us.drop n)
  | _, _, 0, r => r
  | _, _, _ + 1, .nil => .nil
  | _, _, n + 1, .cons _ t => Vals.drop n t
def RelO : Option V → Option Value → Prop
  | some v, some u => RelV v u
  | none, none => True
  | _, _ => False
def KV {κ : Type} : List (κ × V) → List (κ × Value) → Prop := Paired fun (p : κ × V) (q : κ × Value) => p.1 = q.1 ∧ RelV p.2 q.2

/-- a key of a dict (00_mix): an int or a text -/
def kV : Key → V
  | .inl i => .int i
  | .inr x => .str x

/-- what stands at a tracked address -/
inductive HO where
  /-- a list -/
  | lst (xs : List V)
  /-- a tuple (never changes) -/
  | tup (xs : List V)
  /-- a dict whose keys are ints and texts; one whose keys are tuples of ints and texts (the empty one is both) -/
  | dK (kvs : List (Key × V)) | dT (kvs : List (List Key × V))
  /-- a set of ints: its members, its size -/
  | set (S : Int → Bool) (n : Nat)
  /-- an instance of the class at C, its dict at dx, its attributes -/
  | ins (C dx : Addr) (fs : List (Str × V))
  /-- the dict of the instance at x -/
  | own (x : Addr)
  /-- the dict of an exception -/
  | xd (fs : List (Str × V))
  /-- a bound method, f of x -/
  | met (f x : Addr)
  /-- a range object lo, lo + 1, .. below hi -/
  | rng (lo hi : Int)
  /-- a thing that is known to the object (the script; a dict while a loop walks it): read, never written while it is so -/
  | frz (o : Obj) (u : HO)
  /-- a code object's table -/
  | tbl (ps : Array Value)
  /-- any other thing, by what is true of its one object (a def of one's own: SetO a S n := HO.ext fun h => ..) -/
  | ext (φ : Heap → Prop)

abbrev Hp := Addr → Option HO
def upd (H : Hp) (a : Addr) (o : HO) : Hp := fun b => if b = a then some o else H b
theorem upd_same {H : Hp} {a : Addr} {o : HO} : upd H a o a = some o := by unfold upd; rw [if_pos rfl]
theorem upd_ne {H : Hp} {a b : Addr} {o : HO} (h : b ≠ a) : upd H a o b = H b := by unfold upd; rw [if_neg h]
theorem upd_upd {H : Hp} {a : Addr} {o u : HO} : upd (upd H a o) a u = upd H a u := by
  funext b; unfold upd; split <;> rfl
/-- two objects of different content stand apart -/
theorem ne_of {H : Hp} {a b : Addr} {o u : HO} (h : H a = some o) (h' : H b = some u) (d : o ≠ u) : a ≠ b := by
  intro e; subst e; rw [h] at h'; exact d (Option.some.inj h')
theorem ne_of_none {H : Hp} {a b : Addr} {o : HO} (h : H a = some o) (h' : H b = none) : a ≠ b := by
  intro e; subst e; rw [h] at h'; cases h'

section
variable (P : Program) (w : World)
def ObjOk (H : Hp) (h : Heap) (a : Addr) : HO → Prop
  | .lst xs => xs.length ≤ sizeLine ∧ ∃ (its : List Value) (n : Nat), Vals xs its ∧ h.get? a = some { cls := .type "list", data := .seq its.toArray n }
  | .tup xs => xs.length ≤ sizeLine ∧ ∃ its : List Value, Vals xs its ∧ IsTup h a its.toArray
  | .dK kvs => kvs.length ≤ sizeLine ∧ (a == sysModules) = false ∧ ∃ vs, KV kvs vs ∧ h.DictOf (mixKind P w) a vs
  | .dT kvs => kvs.length ≤ sizeLine ∧ (a == sysModules) = false ∧ ∃ xs : List (List Key × Addr × Value),
      Paired (fun (p : List Key × V) (q : List Key × Addr × Value) => p.1 = q.1 ∧ H q.2.1 = some (.tup (p.1.map kV)) ∧ RelV p.2 q.2.2) kvs xs ∧
      ∃ o es ep, h.get? a = some o ∧ o.ExactDict ∧ o.data = .dict es ep ∧ es.toList = xs.map (entryOfKey (tupleKind (mixKind P w))) ∧ (xs.map (·.1)).Nodup
  | .set S n => h.SetOf (intKind P w) a S n
  | .ins C dx fs => H dx = some (.own a) ∧ fs.length ≤ 1000 ∧ dx ≠ a ∧ h.get? a = some (PySem.W.instObj C dx) ∧
      ∃ mA, h.Ns1 dx mA ∧ (∀ f, RelO (fs.lookup f) (mA f)) ∧ PySem.Within mA (fs.map (·.1))
  | .own _ => ∃ o, h.get? a = some o
  | .xd fs => ∃ mA, h.Ns1 a mA ∧ ∀ f, RelO (fs.lookup f) (mA f)
  | .rng lo hi => ∃ t u v, h.get? a = some { cls := .type "range", data := .fields #[.int lo t, .int hi u, .int 1 v] }
  | .frz o u => h.get? a = some o ∧ ObjOk H h a u
  | .tbl ps => h.get? a = some { cls := .none, data := .fields ps }
  | .met f x => h.get? a = some (PySem.W.methodObj (.ref f) (.ref x))
  | .ext φ => φ h ∧ (∃ o, h.get? a = some o) ∧ ∀ h1 h2 : Heap, φ h1 → (∀ o, h1.get? a = some o → h2.get? a = some o) → φ h2
/-- the abstract heap is held -/
def HOk (H : Hp) (h : Heap) : Prop := ∀ a o, H a = some o → ObjOk P w H h a o
end

section
variable {P : Program} {w : World} {H H' : Hp} {h h' : Heap} {a : Addr} {o : HO}
theorem ObjOk.lt (x : ObjOk P w H h a o) : a < h.objs.size := by
  cases o with
  | lst xs => obtain ⟨_, _, _, _, e⟩ := x; exact Heap.lt_size e
  | tup xs => obtain ⟨_, _, _, p⟩ := x; exact p.lt
  | dK kvs => obtain ⟨_, _, _, _, o, _, _, e, _⟩ := x; exact Heap.lt_size e
  | dT kvs => obtain ⟨_, _, _, _, o, _, _, e, _⟩ := x; exact Heap.lt_size e
  | set S n => obtain ⟨o, _, _, _, e, _⟩ := x; exact Heap.lt_size e
  | ins C dx fs => obtain ⟨_, _, _, e, _⟩ := x; exact Heap.lt_size e
  | own y => obtain ⟨_, e⟩ := x; exact Heap.lt_size e
  | xd fs => obtain ⟨_, ⟨_, _, _, e, _⟩, _⟩ := x; exact Heap.lt_size e
  | rng lo hi => obtain ⟨_, _, _, e⟩ := x; exact Heap.lt_size e
  | frz ob u => obtain ⟨e, _⟩ := x; exact Heap.lt_size e
  | tbl ps => exact Heap.lt_size (show h.get? a = some _ from x)
  | met f y => exact Heap.lt_size (show h.get? a = some _ from x)
  | ext φ => obtain ⟨_, ⟨_, e⟩, _⟩ := x; exact Heap.lt_size e
theorem Paired.mapP {α β : Type} {F G : α → β → Prop} : ∀ {l₁ : List α} {l₂ : List β}, Paired F l₁ l₂ → (∀ a b, F a b → G a b) → Paired G l₁ l₂
  | _, _, .nil, _ => .nil
  | _, _, .cons r t, f => .cons (f _ _ r) (Paired.mapP t f)
/-- what an object's description leans on: its own object, its own dict, the tuples -/
theorem ObjOk.stay (x : ObjOk P w H h a o) (k : ∀ b u, (b = a ∨ H b = some (.own a)) → h.get? b = some u → h'.get? b = some u)
    (ho : ∀ b, H b = some (.own a) → H' b = some (.own a)) (ht : ∀ b xs, H b = some (.tup xs) → H' b = some (.tup xs)) : ObjOk P w H' h' a o := by
  induction o with
  | lst xs => obtain ⟨z, its, n, r, e⟩ := x; exact ⟨z, its, n, r, k _ _ (.inl rfl) e⟩
  | tup xs => obtain ⟨z, its, r, ob, e, c⟩ := x; exact ⟨z, its, r, ob, k _ _ (.inl rfl) e, c⟩
  | dK kvs => obtain ⟨z, y, vs, r, ob, es, ep, e, c⟩ := x; exact ⟨z, y, vs, r, ob, es, ep, k _ _ (.inl rfl) e, c⟩
  | dT kvs =>
    obtain ⟨z, y, xs, r, ob, es, ep, e, c⟩ := x
    exact ⟨z, y, xs, Paired.mapP r fun p q z => ⟨z.1, ht _ _ z.2.1, z.2.2⟩, ob, es, ep, k _ _ (.inl rfl) e, c⟩
  | set S n => obtain ⟨ob, es, ep, t, e, c⟩ := x; exact ⟨ob, es, ep, t, k _ _ (.inl rfl) e, c⟩
  | ins C dx fs =>
    obtain ⟨d, z, ne, e, mA, ⟨od, es, ep, e2, c⟩, r⟩ := x
    exact ⟨ho _ d, z, ne, k _ _ (.inl rfl) e, mA, ⟨od, es, ep, k _ _ (.inr d) e2, c⟩, r⟩
  | own y => obtain ⟨ob, e⟩ := x; exact ⟨ob, k _ _ (.inl rfl) e⟩
  | xd fs => obtain ⟨mA, ⟨od, es, ep, e, c⟩, r⟩ := x; exact ⟨mA, ⟨od, es, ep, k _ _ (.inl rfl) e, c⟩, r⟩
  | rng lo hi => obtain ⟨t, u, v, e⟩ := x; exact ⟨t, u, v, k _ _ (.inl rfl) e⟩
  | frz ob u ih => obtain ⟨e, q⟩ := x; exact ⟨k _ _ (.inl rfl) e, ih q⟩
  | tbl ps =>
    have e : h.get? a = some { cls := .none, data := .fields ps } := x
    show h'.get? a = some { cls := .none, data := .fields ps }
    exact k a _ (.inl rfl) e
  | met f y =>
    have e : h.get? a = some (PySem.W.methodObj (.ref f) (.ref y)) := x
    show h'.get? a = some (PySem.W.methodObj (.ref f) (.ref y))
    exact k a _ (.inl rfl) e
  | ext φ => obtain ⟨p, ⟨o, e⟩, st⟩ := x; exact ⟨st _ _ p fun o q => k _ _ (.inl rfl) q, ⟨o, k _ _ (.inl rfl) e⟩, st⟩
theorem HOk.lt (x : HOk P w H h) (e : H a = some o) : a < h.objs.size := (x a o e).lt
theorem HOk.fresh (x : HOk P w H h) (e : h.objs.size ≤ a) : H a = none := by
  cases q : H a with
  | none => rfl
  | some u => exact absurd (Nat.lt_of_lt_of_le (x.lt q) e) (Nat.lt_irrefl _)
/-- every object of the heap is kept -/
theorem HOk.kept (x : HOk P w H h) (k : ∀ b u, h.get? b = some u → h'.get? b = some u) : HOk P w H h' := fun a o e =>
  (x a o e).stay (fun b u _ q => k b u q) (fun _ q => q) fun _ _ q => q
/-- a new object is laid and tracked -/
theorem HOk.laid (x : HOk P w H h) (k : ∀ b u, h.get? b = some u → h'.get? b = some u) (hp : h.objs.size ≤ a) (new : ObjOk P w (upd H a o) h' a o) : HOk P w (upd H a o) h' := fun b u e => by
  have hn := x.fresh hp
  by_cases hb : b = a
  · subst hb; rw [upd_same] at e; cases e; exact new
  · rw [upd_ne hb] at e
    exact (x b u e).stay (fun c v _ q => k c v q) (fun c q => by rw [upd_ne (ne_of_none q hn)]; exact q) fun c xs q => by rw [upd_ne (ne_of_none q hn)]; exact q
end

/-- what may be read as u: it is u, or a known u -/
def Rd (H : Hp) (a : Addr) (u : HO) : Prop := H a = some u ∨ ∃ o, H a = some (.frz o u)
theorem Rd.ok {P : Program} {w : World} {H : Hp} {h : Heap} {a : Addr} {u : HO} (r : Rd H a u) (x : HOk P w H h) : ObjOk P w H h a u := by
  rcases r with r | ⟨o, r⟩
  · exact x a u r
  · obtain ⟨_, q⟩ := x a _ r
    exact q
/-- what may be written -/
def Mut : Option HO → Prop
  | some (.lst _) => True
  | some (.dK _) => True
  | some (.dT _) => True
  | some (.set _ _) => True
  | some (.ins _ _ _) => True
  | some (.ext _) => True
  | _ => False
section
variable {P : Program} {w : World} {H : Hp} {h h' : Heap} {x e : Addr} {o' : HO}
/-- the object at e is changed: x itself, or the dict of the instance x -/
theorem HOk.write (ok : HOk P w H h) (mu : Mut (H x)) (he : e = x ∨ H e = some (.own x)) (k : ∀ b u, b ≠ e → h.get? b = some u → h'.get? b = some u) (heo : ∃ u, h'.get? e = some u)
    (new : ObjOk P w (upd H x o') h' x o') : HOk P w (upd H x o') h' := fun b u q => by
  have nown : ∀ c y, H c = some (.own y) → c ≠ x := fun c y r z => by subst z; rw [r] at mu; exact mu
  have ntup : ∀ c xs, H c = some (.tup xs) → c ≠ x := fun c xs r z => by subst z; rw [r] at mu; exact mu
  by_cases hb : b = x
  · subst hb; rw [upd_same] at q; cases q; exact new
  · rw [upd_ne hb] at q
    by_cases hbe : b = e
    · have q' : H b = some (.own x) := by
        rcases he with z | z
        · exact absurd (hbe.trans z) hb
        · rw [hbe]; exact z
      rw [q] at q'; cases q'
      obtain ⟨v, hv⟩ := heo
      exact ⟨v, by rw [hbe]; exact hv⟩
    · refine (ok b u q).stay (fun c v hc r => k c v ?_ r) (fun c r => by rw [upd_ne (nown c b r)]; exact r) fun c xs r => by rw [upd_ne (ntup c xs r)]; exact r
      rcases hc with rfl | hc
      · exact hbe
      · rintro rfl
        rcases he with z | z
        · exact nown c b hc z
        · rw [hc] at z; cases z; exact hb rfl
end

/-! ### kept unless tracked; of the frames at fs (the callers') the slots may change (an exception that passes writes there); of the records at ex (iterators) nothing is said -/
structure Un (fs ex : List Addr) (H H' : Hp) (h h' : Heap) : Prop where
  keep : ∀ b o, h.get? b = some o → H b = none → b ∉ fs → b ∉ ex → h'.get? b = some o
  slot : ∀ b o, h.get? b = some o → H b = none → b ∈ fs → b ∉ ex → ∃ sl, h'.get? b = some { o with slots := sl }
  free : ∀ b o, h.get? b = some o → H b = none → b ∉ ex → H' b = none
  there : ∀ b o, h.get? b = some o → b ∉ ex → ∃ o', h'.get? b = some o'
  tups : ∀ b xs, H b = some (.tup xs) → H' b = some (.tup xs)
  frzs : ∀ b o u, H b = some (.frz o u) → H' b = some (.frz o u)
  tbls : ∀ b ps, H b = some (.tbl ps) → ∃ more, H' b = some (.tbl (ps ++ more))
section
variable {fs fs' ex ex' : List Addr} {H H1 H2 : Hp} {h h1 h2 h' : Heap} {a x e : Addr} {o : HO}
theorem Un.any (u : Un fs ex H H1 h h1) {b : Addr} {ob : Obj} (q : h.get? b = some ob) (n : H b = none) (hx : b ∉ ex) : ∃ sl, h1.get? b = some { ob with slots := sl } := by
  by_cases hb : b ∈ fs
  · exact u.slot b ob q n hb hx
  · exact ⟨ob.slots, u.keep b ob q n hb hx⟩
theorem Un.trans (a : Un fs ex H H1 h h1) (b : Un fs ex H1 H2 h1 h2) : Un fs ex H H2 h h2 where
  keep := fun c ob q n hc hx => b.keep c ob (a.keep c ob q n hc hx) (a.free c ob q n hx) hc hx
  slot := fun c ob q n hc hx => by
    obtain ⟨sl, e1⟩ := a.slot c ob q n hc hx
    obtain ⟨sl', e2⟩ := b.slot c _ e1 (a.free c ob q n hx) hc hx
    exact ⟨sl', e2⟩
  free := fun c ob q n hx => by
    obtain ⟨o', e1⟩ := a.there c ob q hx
    exact b.free c o' e1 (a.free c ob q n hx) hx
  there := fun c ob q hx => by
    obtain ⟨o', e1⟩ := a.there c ob q hx
    exact b.there c o' e1 hx
  tups := fun c xs q => b.tups c xs (a.tups c xs q)
  frzs := fun c ob xs q => b.frzs c ob xs (a.frzs c ob xs q)
  tbls := fun c ps q => by
    obtain ⟨m1, e1⟩ := a.tbls c ps q
    obtain ⟨m2, e2⟩ := b.tbls c _ e1
    exact ⟨m1 ++ m2, by rw [e2, Array.append_assoc]⟩
theorem Un.kept (k : ∀ b u, h.get? b = some u → h'.get? b = some u) : Un fs ex H H h h' :=
  ⟨fun b ob q _ _ _ => k b ob q, fun b ob q _ _ _ => ⟨ob.slots, k b ob q⟩, fun _ _ _ n _ => n, fun b ob q _ => ⟨ob, k b ob q⟩, fun _ _ q => q, fun _ _ _ q => q, fun _ ps q => ⟨#[], by rw [q]; simp⟩⟩
theorem Un.refl : Un fs ex H H h h := Un.kept fun _ _ q => q
theorem Un.laid (k : ∀ b u, h.get? b = some u → h'.get? b = some u) (hp : h.objs.size ≤ a) (hn : H a = none) : Un fs ex H (upd H a o) h h' where
  keep := fun b u q _ _ _ => k b u q
  slot := fun b u q _ _ _ => ⟨u.slots, k b u q⟩
  free := fun b u q n _ => by rw [upd_ne (Nat.ne_of_lt (Nat.lt_of_lt_of_le (Heap.lt_size q) hp))]; exact n
  there := fun b u q _ => ⟨u, k b u q⟩
  tups := fun b xs q => by rw [upd_ne (ne_of_none q hn)]; exact q
  frzs := fun b u xs q => by rw [upd_ne (ne_of_none q hn)]; exact q
  tbls := fun b ps q => ⟨#[], by rw [upd_ne (ne_of_none q hn), q]; simp⟩
theorem Un.write (mu : Mut (H x)) (he : e = x ∨ H e = some (.own x)) (k : ∀ b u, b ≠ e → h.get? b = some u → h'.get? b = some u) (heo : ∃ u, h'.get? e = some u) : Un fs ex H (upd H x o) h h' := by
  have hx : ∀ b, H b = none → b ≠ x := fun b n z => by subst z; rw [n] at mu; exact mu
  have hb : ∀ b, H b = none → b ≠ e := fun b n z => by
    subst z
    rcases he with r | r
    · exact hx b n r
    · rw [n] at r; cases r
  have hm : ∀ b u, H b = some u → ¬ Mut (some u) → b ≠ x := fun b u q nm z => by subst z; rw [q] at mu; exact nm mu
  refine ⟨fun b u q n _ _ => k b u (hb b n) q, fun b u q n _ _ => ⟨u.slots, k b u (hb b n) q⟩, fun b u q n _ => by rw [upd_ne (hx b n)]; exact n, fun b u q _ => ?_,
    fun b xs q => by rw [upd_ne (hm b _ q fun z => z)]; exact q, fun b u xs q => by rw [upd_ne (hm b _ q fun z => z)]; exact q, fun b ps q => ⟨#[], by rw [upd_ne (hm b _ q fun z => z), q]; simp⟩⟩
  by_cases hbe : b = e
  · subst hbe; exact heo
  · exact ⟨u, k b u hbe q⟩
end

/-! ### the heap without what is tracked -/
def trk (h : Heap) (H : Hp) : List Addr := (List.range h.objs.size).filter fun a => (H a).isSome
def hidT (h : Heap) (H : Hp) : Heap := PySem.W.hideAll h (trk h H)
theorem hidT_size (h : Heap) (H : Hp) : (hidT h H).objs.size = h.objs.size := PySem.W.hideAll_size _ _
theorem hidT_get {h : Heap} {H : Hp} {b : Addr} {o : Obj} (e : h.get? b = some o) (n : H b = none) : (hidT h H).get? b = some o :=
  PySem.W.hideAll_get _ e fun hm => by
    have q : (H b).isSome = true := (List.mem_filter.mp hm).2
    rw [n] at q; simp at q
theorem of_hidT {h : Heap} {H : Hp} {b : Addr} {o : Obj} (e : (hidT h H).get? b = some o) : h.get? b = some o ∧ H b = none := by
  have e' : h.get? b = some o := PySem.W.of_hideAll (trk h H) e
  refine ⟨e', ?_⟩
  cases q : H b with
  | none => rfl
  | some x =>
    have hm : b ∈ trk h H := List.mem_filter.mpr ⟨List.mem_range.mpr (Heap.lt_size e'), by simp [q]⟩
    have z : (hidT h H).get? b = none := PySem.W.hideAll_none (trk h H) hm
    rw [z] at e; cases e

/-! ### OpenK's ledger, filled with every new object but one -/
end L2

namespace L2
open PySem PySem.Spec PyProof.Rows

/-- the module's facts, over the base: the heap at the law's entry without what is tracked there -/
structure Mod (K : PySem.W.Frag) (mg : Str → Option Value) (base : Heap) : Prop where
  kin : K.In base
  glob : base.Ns mainGlobals mg
  blt : ∃ mb, base.Ns builtinsNs mb ∧ ∀ x : Str, x ≠ "__name__" → mb x = bootBuiltins x
  nolimit : base.NoLimit

/-- the context: a def's body (or a comprehension's block) running. base: fixed through the whole law; s₀, H₀: the entry; outer: the frames whose slots others may change (a def's callers); stack: all frames that run;
   ex: iterators that were made ahead of the entry and are walked here (a comprehension's); fn: the names whose cells were made at the entry (a def: all; a comprehension's block: its own); calm: not within an except suite; pn: pins that every state bears; xe: what is wanted of an exception that leaves the code -/
structure Cx where
  prog : Program
  w : World
  K : PySem.W.Frag
  mg : Str → Option Value
  base : Heap
  A : Around
  N : List Str
  s₀ : Shared
  H₀ : Hp
  env : Env
  outer : List Env
  stack : List Env
  ex : List Addr
  fn : Str → Bool
  calm : Bool
  pn : List (Addr × Obj)
  xe : Value → Shared → Prop
/-- the callers' frames -/
def frs (l : List Env) : List Addr := l.filterMap (·.frame)
abbrev Cx.fs (X : Cx) : List Addr := frs X.outer

def Vis (sc : Scope) (x : Str) : Prop := sc.names.lookup x = some .local ∨ sc.names.lookup x = some .cell ∨ sc.names.lookup x = some .free
def Loc (sc : Scope) (x : Str) : Prop := sc.names.lookup x = some .local ∨ sc.names.lookup x = some .cell
def Look (env : Env) (h : Heap) (m : Str → Option Value) (x : Str) (u : Value) : Prop :=
  (env.kindOf x = some .local ∧ m x = some u) ∨ ((env.kindOf x = some .cell ∨ env.kindOf x = some .free) ∧ ∃ c, env.cells.lookup x = some c ∧ h.IsCell c (some u))

structure Cx.Ok (X : Cx) : Prop where
  mod : Mod X.K X.mg X.base
  kind : X.env.scope.kind = .function
  glob : X.env.globals = mainGlobals
  blt : X.env.builtins = builtinsNs
  above : X.s₀.heap.objs.size ≤ X.env.locals
  inj : ∀ x y c, X.env.cells.lookup x = some c → X.env.cells.lookup y = some c → x = y
  has : ∀ x, (X.env.kindOf x = some .cell ∨ X.env.kindOf x = some .free) → ∃ c, X.env.cells.lookup x = some c
  cab : ∀ x c, X.fn x = true → X.env.cells.lookup x = some c → X.s₀.heap.objs.size ≤ c
  hd : X.calm = true → X.A.handled = none
  frames : X.A.frames = some X.stack
  stk : X.stack = X.outer ∨ (X.stack = X.env :: X.outer ∧ X.env.frame = some X.env.locals)
  exf : ∀ b ∈ X.ex, b ≠ X.env.locals ∧ ∀ x c, X.env.cells.lookup x = some c → c ≠ b
  bs : ∀ b o, X.base.get? b = some o → X.s₀.heap.get? b = some o ∧ X.H₀ b = none
  bsz : X.base.objs.size ≤ X.s₀.heap.objs.size
  noex : ∀ b o, X.base.get? b = some o → b ∉ X.ex
  exfs : ∀ b ∈ X.ex, b ∉ X.fs
  funs : X.s₀.heap.FunFrames X.base X.outer
  frf : ∀ b ∈ X.fs, X.H₀ b = none

structure Inv (X : Cx) (pins : List (Addr × Obj)) (σ : List (Option V)) (H : Hp) (s : Shared) : Prop where
  ok : X.Ok
  os : s.os = X.s₀.os
  bare : AllBare s.gens
  base : Un X.fs X.ex X.H₀ H X.s₀.heap s.heap
  loc : ∃ m, s.heap.Ns X.env.locals m ∧ ∀ (i : Nat) (x : Str) (v : V), X.N[i]? = some x → σ[i]? = some (some v) → Vis X.env.scope x → ∃ u, RelV v u ∧ Look X.env s.heap m x u
  cell : ∀ x c, X.env.cells.lookup x = some c → ∃ v, s.heap.IsCell c v
  free : H X.env.locals = none
  freeC : ∀ x c, X.env.cells.lookup x = some c → H c = none
  pin : ∀ p ∈ X.pn ++ pins, s.heap.get? p.1 = some p.2 ∧ H p.1 = none ∧ p.1 ≠ X.env.locals ∧ p.1 ∉ X.fs ∧ ∀ v, p.2.data ≠ .cell v
  hok : HOk X.prog X.w H s.heap
  len : σ.length = X.N.length

section
variable {X : Cx} {pins : List (Addr × Obj)} {σ : List (Option V)} {H H' : Hp} {s : Shared} {h' : Heap}

theorem Cx.Ok.nofr (ok : X.Ok) {b : Addr} {o : Obj} (e : X.base.get? b = some o) : b ∉ X.fs := fun hb => by
  have := (ok.funs.mem hb).1
  rw [e] at this; cases this
theorem Inv.bs (I : Inv X pins σ H s) : ∀ b o, X.base.get? b = some o → s.heap.get? b = some o ∧ H b = none := fun b o e =>
  ⟨I.base.keep b o (I.ok.bs b o e).1 (I.ok.bs b o e).2 (I.ok.nofr e) (I.ok.noex b o e), I.base.free b o (I.ok.bs b o e).1 (I.ok.bs b o e).2 (I.ok.noex b o e)⟩
theorem Inv.bk (I : Inv X pins σ H s) : ∀ b o, X.base.get? b = some o → s.heap.get? b = some o := fun b o e => (I.bs b o e).1
theorem Inv.mod (I : Inv X pins σ H s) : Mod X.K X.mg X.base := I.ok.mod
theorem Inv.kIn (I : Inv X pins σ H s) : X.K.In s.heap := I.ok.mod.kin.keeps I.bk
theorem Inv.lt (I : Inv X pins σ H s) : X.env.locals < s.heap.objs.size := let ⟨_, hn, _⟩ := I.loc; hn.lt
theorem Inv.sz (I : Inv X pins σ H s) : X.s₀.heap.objs.size ≤ s.heap.objs.size := Nat.le_trans I.ok.above (Nat.le_of_lt I.lt)
theorem Inv.nofs (I : Inv X pins σ H s) {a : Addr} (h : s.heap.objs.size ≤ a) : a ∉ X.fs := fun hb => by
  obtain ⟨_, o, ho, _⟩ := I.ok.funs.mem hb
  exact absurd (Nat.lt_of_lt_of_le (Heap.lt_size ho) (Nat.le_trans I.sz h)) (Nat.lt_irrefl _)
theorem Inv.cne (I : Inv X pins σ H s) : ∀ x c, X.env.cells.lookup x = some c → c ≠ X.env.locals := fun x c e z => by
  obtain ⟨v, o, ho, hd⟩ := I.cell x c e
  obtain ⟨m, ⟨o', es, ep, ho', hd', _⟩, _⟩ := I.loc
  rw [z, ho'] at ho; cases ho; rw [hd'] at hd; cases hd
theorem Inv.funs (I : Inv X pins σ H s) : s.heap.FunFrames X.base X.outer := by
  have all : ∀ (l : List Env), (∀ b ∈ frs l, b ∈ X.fs) → X.s₀.heap.FunFrames X.base l → s.heap.FunFrames X.base l := by
    intro l
    induction l with
    | nil => intro _ _; trivial
    | cons env r ih =>
      intro hs hl
      obtain ⟨hk, ⟨L, o, hf, hn, ho, hd⟩, hr⟩ := hl
      have hL : L ∈ X.fs := hs L (by unfold frs; rw [List.filterMap_cons, hf]; exact List.mem_cons_self)
      obtain ⟨sl, e⟩ := I.base.slot L o ho (I.ok.frf L hL) hL fun z => I.ok.exfs L z hL
      exact ⟨hk, ⟨L, _, hf, hn, e, hd⟩, ih (fun b hb => hs b (by unfold frs; rw [List.filterMap_cons, hf]; exact List.mem_cons_of_mem _ hb)) hr⟩
  exact all X.outer (fun _ hb => hb) I.ok.funs

/-- the frames that run, for a call -/
theorem Inv.stack (I : Inv X pins σ H s) : s.heap.FunFrames X.base X.stack := by
  rcases I.ok.stk with e | ⟨e, hf⟩
  · rw [e]; exact I.funs
  · rw [e]
    obtain ⟨m, hn, _⟩ := I.loc
    refine .cons (by rw [I.ok.kind]; decide) hf hn ?_ I.funs
    exact Heap.get?_none_of_le (Nat.le_trans I.ok.bsz I.ok.above)
theorem Inv.stkSub (I : Inv X pins σ H s) : ∀ b ∈ frs X.stack, b ∈ X.env.locals :: X.fs := fun b hb => by
  rcases I.ok.stk with e | ⟨e, hf⟩
  · rw [e] at hb; exact List.mem_cons_of_mem _ hb
  · rw [e] at hb
    unfold frs at hb
    rw [List.filterMap_cons, hf] at hb
    exact hb
theorem Inv.stkFree (I : Inv X pins σ H s) : ∀ b ∈ frs X.stack, H b = none := fun b hb => by
  rcases List.mem_cons.mp (I.stkSub b hb) with e | hb
  · rw [e]; exact I.free
  · obtain ⟨_, o, ho, _⟩ := I.ok.funs.mem hb
    exact I.base.free b o ho (I.ok.frf b hb) fun z => I.ok.exfs b z hb

/-- THE STEP: the untracked objects but the frame and the records at ch are kept (the callers' frames up to slots), the frame's map is kept, the new abstract heap is held -/
theorem Inv.step {g' : Array GenState} {t' : Nat} {d' : Drawn} {ch : List Addr} (I : Inv X pins σ H s)
    (hch : ∀ b ∈ ch, (b ∈ X.ex ∨ X.s₀.heap.objs.size ≤ b) ∧ b ≠ X.env.locals ∧ (∀ x c, X.env.cells.lookup x = some c → c ≠ b) ∧ ∀ p ∈ X.pn ++ pins, p.1 ≠ b)
    (keep : ∀ b o, b ≠ X.env.locals → b ∉ X.fs → b ∉ ch → s.heap.get? b = some o → H b = none → h'.get? b = some o)
    (slot : ∀ b o, b ≠ X.env.locals → b ∈ X.fs → b ∉ ch → s.heap.get? b = some o → H b = none → ∃ sl, h'.get? b = some { o with slots := sl }) (free : ∀ b o, b ∉ ch → s.heap.get? b = some o → H b = none → H' b = none)
    (there : ∀ b o, b ∉ ch → s.heap.get? b = some o → ∃ o', h'.get? b = some o')
    (tups : ∀ b xs, H b = some (.tup xs) → H' b = some (.tup xs)) (frzs : ∀ b o u, H b = some (.frz o u) → H' b = some (.frz o u)) (tbls : ∀ b ps, H b = some (.tbl ps) → ∃ more, H' b = some (.tbl (ps ++ more)))
    (ns : ∀ m, s.heap.Ns X.env.locals m → h'.Ns X.env.locals m) (hok : HOk X.prog X.w H' h') (hg : AllBare g') :
    Inv X pins σ H' { s with heap := h', gens := g', drawn := d', toks := t' } := by
  have neL : ∀ b o, X.s₀.heap.get? b = some o → b ≠ X.env.locals := fun b o e => Nat.ne_of_lt (Nat.lt_of_lt_of_le (Heap.lt_size e) I.ok.above)
  have neC : ∀ b o, X.s₀.heap.get? b = some o → b ∉ X.ex → b ∉ ch := fun b o e hx hb => by
    rcases (hch b hb).1 with z | z
    · exact hx z
    · exact absurd (Nat.lt_of_lt_of_le (Heap.lt_size e) z) (Nat.lt_irrefl _)
  have cellK : ∀ x c, X.env.cells.lookup x = some c → ∀ v, s.heap.IsCell c v → h'.IsCell c v := fun x c e v ⟨o, ho, hd⟩ => by
    have nch : c ∉ ch := fun z => (hch c z).2.2.1 x c e rfl
    by_cases hc : c ∈ X.fs
    · obtain ⟨sl, q⟩ := slot c o (I.cne x c e) hc nch ho (I.freeC x c e)
      exact ⟨_, q, hd⟩
    · exact ⟨o, keep c o (I.cne x c e) hc nch ho (I.freeC x c e), hd⟩
  refine ⟨I.ok, I.os, hg, ⟨fun b o e n hb hx => ?_, fun b o e n hb hx => ?_, fun b o e n hx => ?_, fun b o e hx => ?_, fun b xs e => tups b xs (I.base.tups b xs e), fun b o xs e => frzs b o xs (I.base.frzs b o xs e), fun b ps e => ?_⟩, ?_, fun x c e => ?_, ?_, fun x c e => ?_, fun p hp => ?_, hok, I.len⟩
  · exact keep b o (neL b o e) hb (neC b o e hx) (I.base.keep b o e n hb hx) (I.base.free b o e n hx)
  · obtain ⟨sl, e1⟩ := I.base.slot b o e n hb hx
    obtain ⟨sl', e2⟩ := slot b _ (neL b o e) hb (neC b o e hx) e1 (I.base.free b o e n hx)
    exact ⟨sl', e2⟩
  · obtain ⟨o', e1⟩ := I.base.there b o e hx
    exact free b o' (neC b o e hx) e1 (I.base.free b o e n hx)
  · obtain ⟨o', e1⟩ := I.base.there b o e hx
    exact there b o' (neC b o e hx) e1
  · obtain ⟨m1, e1⟩ := I.base.tbls b ps e
    obtain ⟨m2, e2⟩ := tbls b _ e1
    exact ⟨m1 ++ m2, by rw [e2, Array.append_assoc]⟩
  · obtain ⟨m, hn, hl⟩ := I.loc
    refine ⟨m, ns m hn, fun i x v e1 e2 e3 => ?_⟩
    obtain ⟨u, r, l⟩ := hl i x v e1 e2 e3
    refine ⟨u, r, ?_⟩
    rcases l with l | ⟨k, c, e, z⟩
    · exact .inl l
    · exact .inr ⟨k, c, e, cellK x c e _ z⟩
  · obtain ⟨v, z⟩ := I.cell x c e
    exact ⟨v, cellK x c e v z⟩
  · obtain ⟨m, ⟨o, _, _, ho, _⟩, _⟩ := I.loc
    exact free _ o (fun z => (hch _ z).2.1 rfl) ho I.free
  · obtain ⟨v, o, ho, hd⟩ := I.cell x c e
    exact free c o (fun z => (hch c z).2.2.1 x c e rfl) ho (I.freeC x c e)
  · obtain ⟨e, n, ne, nf, d⟩ := I.pin p hp
    have nch : p.1 ∉ ch := fun z => (hch p.1 z).2.2.2 p hp rfl
    exact ⟨keep p.1 p.2 ne nf nch e n, free p.1 p.2 nch e n, ne, nf, d⟩
/-- .. where the frame's own object is kept too -/
theorem Inv.un {t' : Nat} (I : Inv X pins σ H s) (u : Un X.fs [] H H' s.heap h') (hok : HOk X.prog X.w H' h') : Inv X pins σ H' { s with heap := h', toks := t' } := by
  obtain ⟨m, ⟨o, es, ep, ho, r⟩, _⟩ := id I.loc
  obtain ⟨sl, hL⟩ := u.any ho I.free (by simp)
  exact I.step (g' := s.gens) (d' := s.drawn) (ch := []) (fun _ z => nomatch z) (fun b o _ hb _ e n => u.keep b o e n hb (by simp)) (fun b o _ hb _ e n => u.slot b o e n hb (by simp)) (fun b o _ e n => u.free b o e n (by simp)) (fun b o _ e => u.there b o e (by simp)) u.tups u.frzs u.tbls (fun m' hm => by
    obtain ⟨o', es', ep', ho', r'⟩ := hm
    rw [ho] at ho'; cases ho'
    exact ⟨_, es', ep', hL, r'⟩) hok I.bare
/-- behind a call (or a comprehension's block): the slots of this frame may have changed too, the records at ch may have turned -/
theorem Inv.call {g' : Array GenState} {t' : Nat} {d' : Drawn} {ch : List Addr} (I : Inv X pins σ H s) (u : Un (frs X.stack) ch H H' s.heap h') (hok : HOk X.prog X.w H' h') (hg : AllBare g')
    (hch : ∀ b ∈ ch, (b ∈ X.ex ∨ X.s₀.heap.objs.size ≤ b) ∧ b ≠ X.env.locals ∧ (∀ x c, X.env.cells.lookup x = some c → c ≠ b) ∧ ∀ p ∈ X.pn ++ pins, p.1 ≠ b) :
    Inv X pins σ H' { s with heap := h', gens := g', drawn := d', toks := t' } := by
  obtain ⟨m, ⟨o, es, ep, ho, r⟩, _⟩ := id I.loc
  obtain ⟨sl, hL⟩ := u.any ho I.free fun z => (hch _ z).2.1 rfl
  exact I.step (ch := ch) hch (fun b o hL hb hc e n => u.keep b o e n (fun z => (List.mem_cons.mp (I.stkSub b z)).elim hL hb) hc) (fun b o _ _ hc e n => u.any e n hc) (fun b o hc e n => u.free b o e n hc) (fun b o hc e => u.there b o e hc) u.tups u.frzs u.tbls (fun m' hm => by
    obtain ⟨o', es', ep', ho', r'⟩ := hm
    rw [ho] at ho'; cases ho'
    exact ⟨_, es', ep', hL, r'⟩) hok hg
/-- an untracked record of ours (an iterator) has turned -/
theorem Inv.turned {t' : Nat} {it : Addr} (I : Inv X pins σ H s) (k : ∀ b o, b ≠ it → s.heap.get? b = some o → h'.get? b = some o) (hn : H it = none) (hL : it ≠ X.env.locals)
    (h1 : it ∈ X.ex ∨ X.s₀.heap.objs.size ≤ it) (h2 : ∀ x c, X.env.cells.lookup x = some c → c ≠ it) (h3 : ∀ p ∈ X.pn ++ pins, p.1 ≠ it) : Inv X pins σ H { s with heap := h', toks := t' } := by
  have nit : ∀ b u, H b = some u → b ≠ it := fun b u e z => by rw [z, hn] at e; cases e
  refine I.step (g' := s.gens) (d' := s.drawn) (ch := [it]) (fun b hb => ?_) (fun b o _ _ hc e _ => k b o (fun z => hc (by simp [z])) e) (fun b o _ _ hc e _ => ⟨o.slots, k b o (fun z => hc (by simp [z])) e⟩) (fun _ _ _ _ n => n)
    (fun b o hc e => ⟨o, k b o (fun z => hc (by simp [z])) e⟩) (fun _ _ e => e) (fun _ _ _ e => e) (fun b ps e => ⟨#[], by rw [e]; simp⟩) (fun m hm => ?_) (fun b u e => ?_) I.bare
  · have e : b = it := by simpa using hb
    subst e
    exact ⟨h1, hL, h2, h3⟩
  · obtain ⟨o, es, ep, ho, r⟩ := hm
    exact ⟨o, es, ep, k _ o (Ne.symm hL) ho, r⟩
  · refine (I.hok b u e).stay (fun c v hc q => k c v ?_ q) (fun _ q => q) fun _ _ q => q
    rcases hc with z | z
    · rw [z]; exact nit b u e
    · exact nit c _ z
theorem Inv.tok (I : Inv X pins σ H s) (t : Nat) : Inv X pins σ H { s with toks := t } := I.un (h' := s.heap) (t' := t) Un.refl I.hok
/-- all objects kept -/
theorem Inv.kept {t' : Nat} (I : Inv X pins σ H s) (k : ∀ b u, s.heap.get? b = some u → h'.get? b = some u) : Inv X pins σ H { s with heap := h', toks := t' } := I.un (Un.kept k) (I.hok.kept k)
/-- a new object laid and tracked -/
theorem Inv.laid {a : Addr} {o : HO} {t' : Nat} (I : Inv X pins σ H s) (k : ∀ b u, s.heap.get? b = some u → h'.get? b = some u) (hp : s.heap.objs.size ≤ a) (new : ObjOk X.prog X.w (upd H a o) h' a o) :
    Inv X pins σ (upd H a o) { s with heap := h', toks := t' } := I.un (Un.laid k hp (I.hok.fresh hp)) (I.hok.laid k hp new)
/-- an object written -/
theorem Inv.write {x e : Addr} {o : HO} {t' : Nat} (I : Inv X pins σ H s) (mu : Mut (H x)) (he : e = x ∨ H e = some (.own x)) (k : ∀ b u, b ≠ e → s.heap.get? b = some u → h'.get? b = some u) (heo : ∃ u, h'.get? e = some u)
    (new : ObjOk X.prog X.w (upd H x o) h' x o) : Inv X pins σ (upd H x o) { s with heap := h', toks := t' } := I.un (Un.write mu he k heo) (I.hok.write mu he k heo new)
/-- forgetting slots, pins -/
theorem Inv.weak {σ' : List (Option V)} (I : Inv X pins σ H s) (hl : σ'.length = σ.length) (w : ∀ (i : Nat) v, σ'[i]? = some (some v) → σ[i]? = some (some v)) : Inv X pins σ' H s :=
  ⟨I.ok, I.os, I.bare, I.base, let ⟨m, hn, hl'⟩ := I.loc; ⟨m, hn, fun i x v e1 e2 e3 => hl' i x v e1 (w i v e2) e3⟩, I.cell, I.free, I.freeC, I.pin, I.hok, hl.trans I.len⟩
theorem Inv.pins_of {pins' : List (Addr × Obj)} (I : Inv X pins σ H s) (h : ∀ p ∈ pins', s.heap.get? p.1 = some p.2 ∧ H p.1 = none ∧ p.1 ≠ X.env.locals ∧ p.1 ∉ X.fs ∧ ∀ v, p.2.data ≠ .cell v) : Inv X pins' σ H s :=
  ⟨I.ok, I.os, I.bare, I.base, I.loc, I.cell, I.free, I.freeC, fun p hp => (List.mem_append.mp hp).elim (fun z => I.pin p (List.mem_append_left _ z)) (h p), I.hok, I.len⟩

theorem nodup_ix {N : List Str} (hN : N.Nodup) {i j : Nat} {x : Str} (a : N[i]? = some x) (b : N[j]? = some x) : i = j := by
  obtain ⟨h1, e1⟩ := List.getElem?_eq_some_iff.mp a
  obtain ⟨h2, e2⟩ := List.getElem?_eq_some_iff.mp b
  exact (List.getElem_inj hN).mp (e1.trans e2.symm)

/-- a name is stored; what changed -/
theorem store_ok2 {M : Model} {A : Around} {E : Value → Shared → Prop} {i : Nat} {x : Str} {v : V} {u : Value} {Q : Unit → Shared → Prop} (I : Inv X pins σ H s) (hN : X.N.Nodup) (hi : X.N[i]? = some x) (hx : Loc X.env.scope x) (r : RelV v u)
    (h : ∀ s', Inv X pins (σ.set i (some v)) H s' → (∃ a, Heap.SameBut a s.heap s'.heap ∧ (a = X.env.locals ∨ X.env.cells.lookup x = some a)) → Q () s') (hf : X.fn x = true ∨ X.env.scope.names.lookup x = some .local := by first | exact .inl rfl | exact .inr rfl | assumption) : wpAny M A (storeName X.env x u) Q E s := by
  obtain ⟨m, hn, hl⟩ := id I.loc
  have hcls : (X.env.scope.kind == .class || (X.env.scope.kind == .module && X.env.locals != X.env.globals)) = false := by rw [I.ok.kind]; rfl
  have hiσ : i < σ.length := by rw [I.len]; exact (List.getElem?_eq_some_iff.mp hi).1
  have cne := I.cne
  have tracked : ∀ {a : Addr} {h' : Heap}, (∃ o, s.heap.get? a = some o ∧ H a = none) → Heap.SameBut a s.heap h' → HOk X.prog X.w H h' := fun {a h'} ha hs b ob e => by
    obtain ⟨_, _, hfree⟩ := ha
    refine (I.hok b ob e).stay (fun c w' hc q => (hs.2 c ?_).trans q) (fun _ q => q) fun _ _ q => q
    rintro rfl
    rcases hc with rfl | hc
    · rw [hfree] at e; cases e
    · rw [hfree] at hc; cases hc
  rcases hx with hk | hk
  · refine wpAny_storeName_local hk hn (fun h' hn' hs => ?_) hcls
    obtain ⟨oL, _, _, hoL, _⟩ := id hn
    refine h _ ⟨I.ok, I.os, I.bare, ⟨fun b o e n hb hx => ?_, fun b o e n hb hx => ?_, I.base.free, fun b o e hx => ?_, I.base.tups, I.base.frzs, I.base.tbls⟩, ⟨_, hn', fun j y v' e1 e2 e3 => ?_⟩, fun y c e => ?_, I.free, I.freeC, fun p hp => ?_, tracked ⟨oL, hoL, I.free⟩ hs, by simpa using I.len⟩ ⟨_, hs, .inl rfl⟩
    · exact (hs.2 b (Nat.ne_of_lt (Nat.lt_of_lt_of_le (Heap.lt_size e) I.ok.above))).trans (I.base.keep b o e n hb hx)
    · obtain ⟨sl, e1⟩ := I.base.slot b o e n hb hx
      exact ⟨sl, (hs.2 b (Nat.ne_of_lt (Nat.lt_of_lt_of_le (Heap.lt_size e) I.ok.above))).trans e1⟩
    · obtain ⟨o', e1⟩ := I.base.there b o e hx
      exact ⟨o', (hs.2 b (Nat.ne_of_lt (Nat.lt_of_lt_of_le (Heap.lt_size e) I.ok.above))).trans e1⟩
    · by_cases hj : j = i
      · subst hj
        rw [hi] at e1; cases e1
        rw [List.getElem?_set_self hiσ] at e2
        cases e2
        exact ⟨u, r, .inl ⟨hk, by simp⟩⟩
      · rw [List.getElem?_set_ne (Ne.symm hj)] at e2
        obtain ⟨u', r', q⟩ := hl j y v' e1 e2 e3
        refine ⟨u', r', ?_⟩
        rcases q with ⟨k, e⟩ | ⟨k, c, e, z⟩
        · refine .inl ⟨k, ?_⟩
          have : y ≠ x := fun e => hj (nodup_ix hN e1 (e ▸ hi))
          simp [this, e]
        · exact .inr ⟨k, c, e, z.sameBut hs (cne y c e)⟩
    · obtain ⟨w', z⟩ := I.cell y c e
      exact ⟨w', z.sameBut hs (cne y c e)⟩
    · obtain ⟨e, n, ne, nf, d⟩ := I.pin p hp
      exact ⟨(hs.2 p.1 ne).trans e, n, ne, nf, d⟩
  · have hfn : X.fn x = true := by
      rcases hf with z | z
      · exact z
      · rw [z] at hk; cases hk
    obtain ⟨c, hc⟩ := I.ok.has x (.inl hk)
    obtain ⟨w', z⟩ := I.cell x c hc
    refine wpAny_storeName_cell I.ok.kind hk hc z (fun h' hc' hs => ?_)
    obtain ⟨oc, hoc, hocd⟩ := id z
    refine h { s with heap := h' } ⟨I.ok, I.os, I.bare, ⟨fun b o e n hb hx => ?_, fun b o e n hb hx => ?_, I.base.free, fun b o e hx => ?_, I.base.tups, I.base.frzs, I.base.tbls⟩, ⟨m, hn.sameBut hs (Ne.symm (cne x c hc)), fun j y v' e1 e2 e3 => ?_⟩, fun y c' e => ?_, I.free, I.freeC, fun p hp => ?_, tracked ⟨oc, hoc, I.freeC x c hc⟩ hs, by simpa using I.len⟩ ⟨c, hs, .inr hc⟩
    · exact (hs.2 b (Nat.ne_of_lt (Nat.lt_of_lt_of_le (Heap.lt_size e) (I.ok.cab x c hfn hc)))).trans (I.base.keep b o e n hb hx)
    · obtain ⟨sl, e1⟩ := I.base.slot b o e n hb hx
      exact ⟨sl, (hs.2 b (Nat.ne_of_lt (Nat.lt_of_lt_of_le (Heap.lt_size e) (I.ok.cab x c hfn hc)))).trans e1⟩
    · obtain ⟨o', e1⟩ := I.base.there b o e hx
      exact ⟨o', (hs.2 b (Nat.ne_of_lt (Nat.lt_of_lt_of_le (Heap.lt_size e) (I.ok.cab x c hfn hc)))).trans e1⟩
    · by_cases hj : j = i
      · subst hj
        rw [hi] at e1; cases e1
        rw [List.getElem?_set_self hiσ] at e2
        cases e2
        exact ⟨u, r, .inr ⟨.inl hk, c, hc, hc'⟩⟩
      · rw [List.getElem?_set_ne (Ne.symm hj)] at e2
        obtain ⟨u', r', q⟩ := hl j y v' e1 e2 e3
        refine ⟨u', r', ?_⟩
        rcases q with q | ⟨k, c', e, z'⟩
        · exact .inl q
        · refine .inr ⟨k, c', e, z'.sameBut hs ?_⟩
          rintro rfl
          exact hj (nodup_ix hN e1 (I.ok.inj _ _ _ e hc ▸ hi))
    · by_cases hcc : c' = c
      · subst hcc; exact ⟨_, hc'⟩
      · obtain ⟨w2, z2⟩ := I.cell y c' e
        exact ⟨w2, z2.sameBut hs hcc⟩
    · obtain ⟨e, n, ne, nf, d⟩ := I.pin p hp
      refine ⟨(hs.2 p.1 ?_).trans e, n, ne, nf, d⟩
      intro q
      rw [q, hoc] at e
      have q' : oc = p.2 := Option.some.inj e
      exact d w' (by rw [← q']; exact hocd)
theorem store_ok {M : Model} {A : Around} {E : Value → Shared → Prop} {i : Nat} {x : Str} {v : V} {u : Value} {Q : Unit → Shared → Prop} (I : Inv X pins σ H s) (hN : X.N.Nodup) (hi : X.N[i]? = some x) (hx : Loc X.env.scope x) (r : RelV v u)
    (h : ∀ s', Inv X pins (σ.set i (some v)) H s' → Q () s') (hf : X.fn x = true ∨ X.env.scope.names.lookup x = some .local := by first | exact .inl rfl | exact .inr rfl | assumption) : wpAny M A (storeName X.env x u) Q E s :=
  store_ok2 I hN hi hx r (fun s' I' _ => h s' I') hf
/-- behind a call or a block, the state as it is -/
theorem Inv.call' {s' : Shared} {ch : List Addr} (I : Inv X pins σ H s) (ho : s'.os = s.os) (u : Un (frs X.stack) ch H H' s.heap s'.heap) (hok : HOk X.prog X.w H' s'.heap) (hg : AllBare s'.gens)
    (hch : ∀ b ∈ ch, (b ∈ X.ex ∨ X.s₀.heap.objs.size ≤ b) ∧ b ≠ X.env.locals ∧ (∀ x c, X.env.cells.lookup x = some c → c ≠ b) ∧ ∀ p ∈ X.pn ++ pins, p.1 ≠ b) : Inv X pins σ H' s' := by
  obtain ⟨h', g', d', t', o'⟩ := s'
  have e : o' = s.os := ho
  subst e
  exact I.call (g' := g') (t' := t') (d' := d') u hok hg hch
end

/-! ### the judgements -/
/-- an exception: its class, its own dict's address (where it has one), the abstract heap behind it -/
abbrev XK := Value → Option Addr → Hp → Prop
abbrev St := List (Option V)
abbrev VK := V → Hp → Prop
/-- an expression's reading; a test's; an argument list's -/
abbrev TE := St → Hp → VK → Prop
abbrev TT := St → Hp → (Bool → Hp → Prop) → Prop
abbrev TA := St → Hp → (List V → Hp → Prop) → Prop
/-- what is wanted behind a statement -/
structure Ends where
  nx : St → Hp → Prop
  rt : VK
  bk : St → Hp → Prop := fun _ _ => False
  ct : St → Hp → Prop := fun _ _ => False
abbrev TS := Ends → St → Hp → Prop

def EP (X : Cx) (pins : List (Addr × Obj)) (σ : St) (Q : VK) (u : Value) (s' : Shared) : Prop := ∃ v H', Inv X pins σ H' s' ∧ RelV v u ∧ Q v H'
def TP (X : Cx) (pins : List (Addr × Obj)) (σ : St) (Q : Bool → Hp → Prop) (b : Bool) (s' : Shared) : Prop := ∃ H', Inv X pins σ H' s' ∧ Q b H'
def AP (X : Cx) (pins : List (Addr × Obj)) (σ : St) (Q : List V → Hp → Prop) (us : List Value) (s' : Shared) : Prop := ∃ vs H', Inv X pins σ H' s' ∧ Vals vs us ∧ Q vs H'
def SP (X : Cx) (pins : List (Addr × Obj)) (D : Ends) (f : Flow) (s' : Shared) : Prop :=
  match f with
  | .next => ∃ σ' H', Inv X pins σ' H' s' ∧ D.nx σ' H'
  | .brk => ∃ σ' H', Inv X pins σ' H' s' ∧ D.bk σ' H'
  | .cont => ∃ σ' H', Inv X pins σ' H' s' ∧ D.ct σ' H'
  | .ret u => ∃ v σ' H', Inv X pins σ' H' s' ∧ RelV v u ∧ D.rt v H'

def PE (X : Cx) (e : Expr) (t : TE) : Prop :=
  ∀ (pins : List (Addr × Obj)) (s : Shared) (σ : St) (H : Hp) (Q : VK), Inv X pins σ H s → t σ H Q → wpAny (model X.prog X.w) X.A (eval e X.env) (EP X pins σ Q) X.xe s
def PT (X : Cx) (e : Expr) (t : TT) : Prop :=
  ∀ (pins : List (Addr × Obj)) (s : Shared) (σ : St) (H : Hp) (Q : Bool → Hp → Prop), Inv X pins σ H s → t σ H Q → wpAny (model X.prog X.w) X.A (isTrue e X.env (eval e X.env)) (TP X pins σ Q) X.xe s
/-- a test whatever its 'whole' is (and, or) -/
def PW (X : Cx) (e : Expr) (t : TT) : Prop :=
  ∀ (whole : Sem Value) (pins : List (Addr × Obj)) (s : Shared) (σ : St) (H : Hp) (Q : Bool → Hp → Prop), Inv X pins σ H s → t σ H Q → wpAny (model X.prog X.w) X.A (isTrue e X.env whole) (TP X pins σ Q) X.xe s
theorem PW.pt {X : Cx} {e : Expr} {t : TT} (h : PW X e t) : PT X e t := h _
/-- an argument list (no star), from the left -/
def PA (X : Cx) (es : List Expr) (t : TA) : Prop :=
  ∀ (pos : Pos) (pins : List (Addr × Obj)) (s : Shared) (σ : St) (H : Hp) (Q : List V → Hp → Prop), Inv X pins σ H s → t σ H Q → wpAny (model X.prog X.w) X.A (spliced (backTo pos (starEach es X.env))) (AP X pins σ Q) X.xe s
def PS (X : Cx) (st : Stmt) (t : TS) : Prop :=
  ∀ (pins : List (Addr × Obj)) (s : Shared) (σ : St) (H : Hp) (D : Ends), Inv X pins σ H s → t D σ H → wpAny (model X.prog X.w) X.A (exec st X.env) (SP X pins D) X.xe s
def PSs (X : Cx) (st : List Stmt) (t : TS) : Prop :=
  ∀ (pins : List (Addr × Obj)) (s : Shared) (σ : St) (H : Hp) (D : Ends), Inv X pins σ H s → t D σ H → wpAny (model X.prog X.w) X.A (execs st X.env) (SP X pins D) X.xe s
/-- weaken the end -/
theorem thn {α : Type} {t : Sem α} {Q Q' : α → Shared → Prop} {M : Model} {A : Around} {E : Value → Shared → Prop} {s : Shared} (h : wpAny M A t Q E s) (hQ : ∀ a s, Q a s → Q' a s) : wpAny M A t Q' E s := wpAny_mono h hQ fun _ _ x => x
end L2

namespace L2
open PySem PySem.Spec PyProof.Rows
section
variable {X : Cx}

/-- two expressions in a row -/
theorem bin {a b : Expr} {ta tb : TE} (ha : PE X a ta) (hb : PE X b tb) {pins : List (Addr × Obj)} {s : Shared} {σ : St} {H : Hp} {R : V → V → Hp → Prop} (I : Inv X pins σ H s) (h : ta σ H fun x H1 => tb σ H1 fun y H2 => R x y H2)
    {α : Type} {Q : α → Shared → Prop} {f : Value → Value → Sem α}
    (hf : ∀ v u s2 x y H2, Inv X pins σ H2 s2 → RelV x v → RelV y u → R x y H2 → wpAny (model X.prog X.w) X.A (f v u) Q X.xe s2) :
    wpAny (model X.prog X.w) X.A (eval a X.env) (fun v s₁ => wpAny (model X.prog X.w) X.A (eval b X.env) (fun u s₂ => wpAny (model X.prog X.w) X.A (f v u) Q X.xe s₂) X.xe s₁) X.xe s := by
  refine thn (ha pins s σ H _ I h) fun v s1 ⟨x, H1, I1, r1, q1⟩ => ?_
  refine thn (hb pins s1 σ H1 _ I1 q1) fun u s2 ⟨y, H2, I2, r2, q2⟩ => ?_
  exact hf v u s2 x y H2 I2 r1 r2 q2

/-! ### names and constants -/
def tVar (i : Nat) : TE := fun σ H Q => ∃ v, σ[i]? = some (some v) ∧ Q v H
def tC (v : V) : TE := fun _ H Q => Q v H
theorem pe_var {i : Nat} {x : Str} {pos : Pos} (hN : X.N[i]? = some x) (hv : Vis X.env.scope x) (hd : (x == ("__debug__" : Str)) = false := by decide) (hcd : (x == ("__classdict__" : Str)) = false := by decide) : PE X (.Name x pos) (tVar i) := by
  intro pins s σ H Q I h
  obtain ⟨v, e, h⟩ := h
  obtain ⟨m, hn, hl⟩ := I.loc
  obtain ⟨u, r, l⟩ := hl i x v hN e hv
  have fin : EP X pins σ Q u s := ⟨v, H, I, r, h⟩
  rcases l with ⟨hk, hm⟩ | ⟨hk, c, hc, hcell⟩
  · exact wpAny_Name (wpAny_loadName_local I.ok.kind hk hn hm fin) hd
  · rcases hk with hk | hk
    · exact wpAny_Name (wpAny_loadName_cell I.ok.kind hk hc hcell fin) hd
    · exact wpAny_Name (wpAny_loadName_free I.ok.kind hk hc hcell fin hcd) hd
theorem pe_int {i j pos} : PE X (.Constant (.int i) j pos) (tC (.int i)) := fun _ _ _ H _ I h => wpAny_Constant_int ⟨.int i, H, I.tok _, ⟨_, rfl⟩, h⟩
theorem pe_bl {b j pos} : PE X (.Constant (.bool b) j pos) (tC (.bl b)) := fun _ _ _ H _ I h => Constant_bool ⟨.bl b, H, I, rfl, h⟩
theorem pe_str {x j pos} : PE X (.Constant (.str x) j pos) (tC (.str x)) := fun _ _ _ H _ I h => Calls.Constant_str ⟨.str x, H, I.tok _, ⟨_, rfl⟩, h⟩

/-- a global name of the def -/
def Gl (X : Cx) (x : Str) : Prop := X.env.kindOf x = some .globalImplicit
theorem ld_glob {E : Value → Shared → Prop} {pins : List (Addr × Obj)} {s : Shared} {σ : St} {H : Hp} {x : Str} {u : Value} {pos : Pos} {Q : Value → Shared → Prop} (I : Inv X pins σ H s) (hg : Gl X x) (hm : X.mg x = some u) (h : Q u s)
    (hd : (x == ("__debug__" : Str)) = false := by decide) : wpAny (model X.prog X.w) X.A (eval (.Name x pos) X.env) Q E s :=
  Calls.Name_function_global I.ok.kind hg (Calls.loadGlobal_global (by rw [I.ok.glob]; exact I.mod.glob.keeps I.bk) hm h) hd
theorem ld_blt {E : Value → Shared → Prop} {pins : List (Addr × Obj)} {s : Shared} {σ : St} {H : Hp} {x : Str} {u : Value} {pos : Pos} {Q : Value → Shared → Prop} (I : Inv X pins σ H s) (hg : Gl X x) (hm : X.mg x = none) (hv : bootBuiltins x = some u) (h : Q u s)
    (hn : x ≠ "__name__" := by decide) (hd : (x == ("__debug__" : Str)) = false := by decide) : wpAny (model X.prog X.w) X.A (eval (.Name x pos) X.env) Q E s := by
  obtain ⟨mb, h1, h2⟩ := I.mod.blt
  exact Calls.Name_function_global I.ok.kind hg (Calls.loadGlobal_builtin (by rw [I.ok.glob]; exact I.mod.glob.keeps I.bk) hm (by rw [I.ok.blt]; exact h1.keeps I.bk) ((h2 x hn).trans hv) h) hd
/-! ### arithmetic -/
/-- two ints -/
def t2I (ta tb : TE) (k : Int → Int → Hp → Prop) : St → Hp → Prop := fun σ H => ta σ H fun x H1 => tb σ H1 fun y H2 => ∃ i j, x = .int i ∧ y = .int j ∧ k i j H2
variable {a b : Expr} {ta tb : TE} {pos : Pos}
/-! ### comparisons -/
def PC (X : Cx) (op : CmpOp) (a b : Expr) (t : TE) : Prop :=
  ∀ (pins : List (Addr × Obj)) (s : Shared) (σ : St) (H : Hp) (Q : VK), Inv X pins σ H s → t σ H Q →
    wpAny (model X.prog X.w) X.A (eval a X.env) (fun v s₁ => wpAny (model X.prog X.w) X.A (eval b X.env) (fun u s₂ => wpAny (model X.prog X.w) X.A (compareOp op v u) (EP X pins σ Q) X.xe s₂) X.xe s₁) X.xe s
theorem nobehind (b : Expr) {op : CmpOp} (h : op ≠ .In) (h2 : op ≠ .NotIn) : behindInMarks op b = false := by
  have e1 : (op == CmpOp.In) = false := by cases op <;> first | rfl | exact absurd rfl h
  have e2 : (op == CmpOp.NotIn) = false := by cases op <;> first | rfl | exact absurd rfl h2
  cases b <;> simp [behindInMarks, e1, e2]
def tCmp (p : Int → Int → Bool) (ta tb : TE) : TE := fun σ H Q => t2I ta tb (fun i j H2 => Q (.bl (p i j)) H2) σ H
abbrev tLt : TE → TE → TE := tCmp fun i j => decide (i < j)
abbrev tGe : TE → TE → TE := tCmp fun i j => decide (j ≤ i)
abbrev tEqI : TE → TE → TE := tCmp fun i j => decide (i = j)
abbrev tNeI : TE → TE → TE := tCmp fun i j => !decide (i = j)
/-- a comparison of two ints, by its rule -/
theorem pc_int {op : CmpOp} {p : Int → Int → Bool} (ha : PE X a ta) (hb : PE X b tb)
    (rule : ∀ (i j : Int) (t u : Tok) (Q : Value → Shared → Prop) (s : Shared), Q (.bool (p i j)) s → wpAny (model X.prog X.w) X.A (compareOp op (.int i t) (.int j u)) Q X.xe s) : PC X op a b (tCmp p ta tb) := by
  intro pins s σ H Q I h
  refine bin ha hb I h fun v u s2 x y H2 I2 rx ry q => ?_
  obtain ⟨i, j, rfl, rfl, q⟩ := q
  obtain ⟨t, rfl⟩ := rx
  obtain ⟨t', rfl⟩ := ry
  exact rule i j t t' _ s2 ⟨.bl _, H2, I2, rfl, q⟩
theorem pc_lt (ha : PE X a ta) (hb : PE X b tb) : PC X .Lt a b (tLt ta tb) := pc_int ha hb fun _ _ _ _ _ _ h => lt_int h
theorem pc_ge (ha : PE X a ta) (hb : PE X b tb) : PC X .GtE a b (tGe ta tb) := pc_int ha hb fun _ _ _ _ _ _ h => ge_int h
theorem pc_eqI (ha : PE X a ta) (hb : PE X b tb) : PC X .Eq a b (tEqI ta tb) := pc_int ha hb fun _ _ _ _ _ _ h => eq_int (by rw [Bool.beq_eq_decide_eq]; exact h)
theorem pc_neI (ha : PE X a ta) (hb : PE X b tb) : PC X .NotEq a b (tNeI ta tb) := pc_int ha hb fun _ _ _ _ _ _ h => ne_int (by rw [bne, Bool.beq_eq_decide_eq]; exact h)
def tNotN (ta : TE) : TE := fun σ H Q => ta σ H fun x H1 => Q (.bl (!decide (x = .non))) H1
theorem RelV.none_iff {x : V} {v : Value} (r : RelV x v) : (v == Value.none) = decide (x = .non) := by
  cases x with
  | non => cases r; rfl
  | bl _ => cases r; rfl
  | int _ => obtain ⟨t, rfl⟩ := r; rfl
  | str _ => obtain ⟨t, rfl⟩ := r; rfl
  | byt _ => obtain ⟨t, rfl⟩ := r; rfl
  | flt _ => obtain ⟨t, rfl⟩ := r; rfl
  | ref _ => cases r; rfl
  | ty _ => cases r; rfl
theorem pc_notN {j pos'} (ha : PE X a ta) : PC X .IsNot a (.Constant .none j pos') (tNotN ta) := by
  intro pins s σ H Q I h
  refine thn (ha pins s σ H _ I h) fun v s1 ⟨x, H1, I1, r1, q1⟩ => ?_
  exact Constant_none (isnot_none_gen ⟨.bl _, H1, I1, by rw [r1.none_iff]; rfl, q1⟩)
/-- a comparison as a value, as a test -/
def tB (t : TE) : TT := fun σ H Q => t σ H fun x H1 => ∃ c, x = .bl c ∧ Q c H1
theorem pt_cmp {op : CmpOp} {t : TE} (h : PC X op a b t) (h1 : behindInMarks op b = false := by first | exact nobehind _ (by decide) (by decide) | rfl) : PT X (.Compare a [op] [b] pos) (tB t) := by
  intro pins s σ H Q I hw
  refine wpAny_isTrue_Compare1 (thn (h pins s σ H _ I hw) fun v s1 h1 => thn h1 fun u s2 h2 => thn h2 fun c s3 ⟨x, H1, I1, r1, q1⟩ => ?_) h1
  obtain ⟨d, rfl, q⟩ := q1
  cases r1
  exact wpAny_truthy_bool ⟨H1, I1, q⟩
/-- an expression whose value is a bool, as a test -/
theorem pt_val {e : Expr} {t : TE} (h : PE X e t) (he : ∀ whole, isTrue e X.env whole = (do let v ← whole; standAt e.pos; holding [v] (truthy v)) := by intro _; rfl) : PT X e (tB t) := by
  intro pins s σ H Q I hw
  refine isTrue_plain (thn (h pins s σ H _ I hw) fun v s1 ⟨x, H1, I1, r1, q1⟩ => ?_) (he _)
  obtain ⟨d, rfl, q⟩ := q1
  cases r1
  exact wpAny_truthy_bool ⟨H1, I1, q⟩

/-! ### and, or, not -/
variable {tA tB' : TT} {rest : List Expr}
def tAnd (t u : TT) : TT := fun σ H Q => t σ H fun c H1 => if c = true then u σ H1 Q else Q false H1
def tOr (t u : TT) : TT := fun σ H Q => t σ H fun c H1 => if c = true then Q true H1 else u σ H1 Q
def tNot (t : TT) : TT := fun σ H Q => t σ H fun c H1 => Q (!c) H1
theorem pw_and1 (ha : PT X a tA) : PW X (.BoolOp .And [a] pos) tA := by
  intro wh pins s σ H Q I h
  refine isTrue_and (thn (ha pins s σ H Q I h) fun c s1 e => ?_)
  cases c with
  | true => exact isTrue_and_nil e
  | false => exact e
theorem pw_or1 (ha : PT X a tA) : PW X (.BoolOp .Or [a] pos) tA := by
  intro wh pins s σ H Q I h
  refine isTrue_or (thn (ha pins s σ H Q I h) fun c s1 e => ?_)
  cases c with
  | false => exact isTrue_or_nil e
  | true => exact e
theorem pw_and (ha : PT X a tA) (hb : PW X (.BoolOp .And (b :: rest) pos) tB') : PW X (.BoolOp .And (a :: b :: rest) pos) (tAnd tA tB') := by
  intro wh pins s σ H Q I h
  refine isTrue_and (thn (ha pins s σ H _ I h) fun c s1 ⟨H1, I1, q1⟩ => ?_)
  cases c with
  | true => exact hb wh pins s1 σ H1 Q I1 q1
  | false => exact ⟨H1, I1, q1⟩
theorem pw_or (ha : PT X a tA) (hb : PW X (.BoolOp .Or (b :: rest) pos) tB') : PW X (.BoolOp .Or (a :: b :: rest) pos) (tOr tA tB') := by
  intro wh pins s σ H Q I h
  refine isTrue_or (thn (ha pins s σ H _ I h) fun c s1 ⟨H1, I1, q1⟩ => ?_)
  cases c with
  | true => exact ⟨H1, I1, q1⟩
  | false => exact hb wh pins s1 σ H1 Q I1 q1
theorem pt_not (ha : PT X a tA) : PT X (.UnaryOp .Not a pos) (tNot tA) := by
  intro pins s σ H Q I h
  exact isTrue_not (ha pins s σ H (fun c H1 => Q (!c) H1) I h)
end
end L2

namespace L2
open PySem PySem.Spec PyProof.Rows

/-! ### a list, a tuple that is read: tracked, frozen, or an object of the module -/
def SqL (K : PySem.W.Frag) (H : Hp) (a : Addr) (xs : List V) : Prop :=
  Rd H a (.lst xs) ∨
    ∃ (o : Obj) (its : Array Value) (n : Nat), K.lookup a = some o ∧ o.cls = .type "list" ∧ o.dict = none ∧ o.data = .seq its n ∧ its.size ≤ sizeLine ∧ Vals xs its.toList
def SqT (K : PySem.W.Frag) (H : Hp) (a : Addr) (xs : List V) : Prop :=
  Rd H a (.tup xs) ∨
    ∃ (o : Obj) (its : Array Value) (n : Nat), K.lookup a = some o ∧ o.cls = .type "tuple" ∧ o.data = .seq its n ∧ its.size ≤ sizeLine ∧ Vals xs its.toList
def absV : Value → Option V
  | .none => some .non
  | .bool b => some (.bl b)
  | .int i _ => some (.int i)
  | .str x _ => some (.str x)
  | .bytes b _ => some (.byt b)
  | .float b _ => some (.flt b)
  | .ref a => some (.ref a)
  | .type n => some (.ty n)
  | _ => none
theorem RelV.abs {x : V} {u : Value} (r : RelV x u) : absV u = some x := by
  cases x with
  | non => cases r; rfl
  | bl _ => cases r; rfl
  | int _ => obtain ⟨t, rfl⟩ := r; rfl
  | str _ => obtain ⟨t, rfl⟩ := r; rfl
  | byt _ => obtain ⟨t, rfl⟩ := r; rfl
  | flt _ => obtain ⟨t, rfl⟩ := r; rfl
  | ref _ => cases r; rfl
  | ty _ => cases r; rfl
theorem RelV.inj {x y : V} {u : Value} (r : RelV x u) (q : RelV y u) : x = y := Option.some.inj (r.abs.symm.trans q.abs)
theorem Vals.inj : ∀ {xs ys : List V} {us : List Value}, Vals xs us → Vals ys us → xs = ys
  | _, _, _, .nil, .nil => rfl
  | _, _, _, .cons r t, .cons r' t' => by rw [r.inj r', Vals.inj t t']
section
variable {X : Cx} {pins : List (Addr × Obj)} {σ : St} {H : Hp} {s : Shared} {a : Addr} {xs ys : List V}
theorem SqL.of {K : PySem.W.Frag} (h : H a = some (.lst xs)) : SqL K H a xs := .inl (.inl h)
theorem SqT.of {K : PySem.W.Frag} (h : H a = some (.tup xs)) : SqT K H a xs := .inl (.inl h)
theorem Inv.list (I : Inv X pins σ H s) (h : SqL X.K H a xs) : ∃ its : List Value, Vals xs its ∧ PlainL s.heap a its.toArray ∧ xs.length ≤ sizeLine := by
  rcases h with h | ⟨o, its, n, hk, hc, hd, hs, hz, r⟩
  · obtain ⟨z, its, n, r, e⟩ := h.ok I.hok
    exact ⟨its, r, ⟨_, n, e, rfl, rfl, rfl⟩, z⟩
  · refine ⟨its.toList, r, ⟨o, n, I.kIn a o hk, hc, hd, by simpa using hs⟩, ?_⟩
    have e := r.length
    simp only [Array.length_toList] at e
    omega
theorem Inv.tuple (I : Inv X pins σ H s) (h : SqT X.K H a xs) : ∃ its : List Value, Vals xs its ∧ IsTup s.heap a its.toArray ∧ xs.length ≤ sizeLine := by
  rcases h with h | ⟨o, its, n, hk, hc, hs, hz, r⟩
  · obtain ⟨z, its, r, p⟩ := h.ok I.hok
    exact ⟨its, r, p, z⟩
  · refine ⟨its.toList, r, ⟨o, I.kIn a o hk, hc, n, by simpa using hs⟩, ?_⟩
    have e := r.length
    simp only [Array.length_toList] at e
    omega
theorem Inv.list_inj (I : Inv X pins σ H s) (h : SqL X.K H a xs) (h' : SqL X.K H a ys) : xs = ys := by
  obtain ⟨its, r, ⟨o, n, e, _, _, d⟩, _⟩ := I.list h
  obtain ⟨its', r', ⟨o', n', e', _, _, d'⟩, _⟩ := I.list h'
  rw [e] at e'; cases e'
  rw [d] at d'
  injection d' with d1 _
  have : its = its' := by simpa using congrArg Array.toList d1
  subst this
  exact r.inj r'
end

/-! ### another wish about exceptions -/
abbrev Cx.wish (X : Cx) (E : Value → Shared → Prop) : Cx := { X with xe := E }
/-- no exception leaves -/
abbrev Cx.nox (X : Cx) : Cx := X.wish fun _ _ => False
theorem Cx.Ok.wish {X : Cx} (ok : X.Ok) (E : Value → Shared → Prop) : (X.wish E).Ok :=
  ⟨ok.mod, ok.kind, ok.glob, ok.blt, ok.above, ok.inj, ok.has, ok.cab, ok.hd, ok.frames, ok.stk, ok.exf, ok.bs, ok.bsz, ok.noex, ok.exfs, ok.funs, ok.frf⟩
theorem Cx.Ok.unwish {X : Cx} {E : Value → Shared → Prop} (ok : (X.wish E).Ok) : X.Ok :=
  ⟨ok.mod, ok.kind, ok.glob, ok.blt, ok.above, ok.inj, ok.has, ok.cab, ok.hd, ok.frames, ok.stk, ok.exf, ok.bs, ok.bsz, ok.noex, ok.exfs, ok.funs, ok.frf⟩
section
variable {X : Cx} {pins : List (Addr × Obj)} {σ : St} {H : Hp} {s : Shared} {E : Value → Shared → Prop}
theorem Inv.wish (I : Inv X pins σ H s) (E : Value → Shared → Prop) : Inv (X.wish E) pins σ H s := ⟨I.ok.wish E, I.os, I.bare, I.base, I.loc, I.cell, I.free, I.freeC, I.pin, I.hok, I.len⟩
theorem Inv.unwish (I : Inv (X.wish E) pins σ H s) : Inv X pins σ H s := ⟨I.ok.unwish, I.os, I.bare, I.base, I.loc, I.cell, I.free, I.freeC, I.pin, I.hok, I.len⟩
theorem SP.unwish {D : Ends} {f : Flow} {s' : Shared} (h : SP (X.wish E) pins D f s') : SP X pins D f s' := by
  cases f with
  | next => obtain ⟨σ', H', I, q⟩ := h; exact ⟨σ', H', I.unwish, q⟩
  | brk => obtain ⟨σ', H', I, q⟩ := h; exact ⟨σ', H', I.unwish, q⟩
  | cont => obtain ⟨σ', H', I, q⟩ := h; exact ⟨σ', H', I.unwish, q⟩
  | ret u => obtain ⟨v, σ', H', I, r, q⟩ := h; exact ⟨v, σ', H', I.unwish, r, q⟩
theorem PSs.nox {st : List Stmt} {t : TS} (h : PSs X.nox st t) : PSs X st t := fun pins s σ H D I hw =>
  wpAny_mono (h pins s σ H D (I.wish _) hw) (fun _ _ q => q.unwish) fun _ _ z => False.elim z
end

/-! ### blocks and small statements -/
section
variable {X : Cx} {st : Stmt} {rest : List Stmt} {t u : TS} {e : Expr} {te : TE} {pos : Pos}
def tNext : TS := fun D σ H => D.nx σ H
def tSeq (t u : TS) : TS := fun D σ H => t { D with nx := u D } σ H
theorem pss_nil : PSs X [] tNext := fun _ _ σ H _ I h => wpAny_execs_nil ⟨σ, H, I, h⟩
theorem pss_cons (h1 : PS X st t) (h2 : PSs X rest u) : PSs X (st :: rest) (tSeq t u) := by
  intro pins s σ H D I h
  refine wpAny_execs_cons (thn (h1 pins s σ H { D with nx := u D } I h) fun f s1 q => ?_)
  cases f with
  | next =>
    obtain ⟨σ', H', I', q⟩ := q
    exact h2 pins s1 σ' H' D I' q
  | ret v => exact q
  | brk => exact q
  | cont => exact q
theorem pss_one (h1 : PS X st t) : PSs X [st] t := by
  intro pins s σ H D I h
  refine wpAny_execs_cons (thn (h1 pins s σ H D I h) fun f s1 q => ?_)
  cases f with
  | next => exact wpAny_execs_nil q
  | ret v => exact q
  | brk => exact q
  | cont => exact q
/-- in a def's body nothing is shown -/
theorem Inv.quiet {pins : List (Addr × Obj)} {σ : St} {H : Hp} {s : Shared} (I : Inv X pins σ H s) : interactive X.env = false := by simp [interactive, I.ok.kind]
/-- an expression whose value is dropped -/
def tDrop (te : TE) : TS := fun D σ H => te σ H fun _ H1 => D.nx σ H1
theorem ps_expr (he : PE X e te) (hs : swapsWith e none pos.line X.env = pure false := by rfl) : PS X (.Expr e pos) (tDrop te) := by
  intro pins s σ H D I h
  exact wpAny_Expr_any (thn (he pins s σ H _ I h) fun v s1 ⟨x, H1, I1, r1, q1⟩ => ⟨σ, H1, I1, q1⟩) I.quiet hs
def tRet (te : TE) : TS := fun D σ H => te σ H D.rt
theorem ps_ret (he : PE X e te) : PS X (.Return (some e) pos) (tRet te) := by
  intro pins s σ H D I h
  exact wpAny_Return_some (thn (he pins s σ H _ I h) fun v s1 ⟨x, H1, I1, r1, q1⟩ => ⟨x, σ, H1, I1, r1, q1⟩)
def tIfS (c : TT) (t u : TS) : TS := fun D σ H => c σ H fun b H1 => if b = true then t D σ H1 else u D σ H1
theorem ps_if {c : Expr} {a b : List Stmt} {tc : TT} (hc : PT X c tc) (ha : PSs X a t) (hb : PSs X b u) : PS X (.If c a b pos) (tIfS tc t u) := by
  intro pins s σ H D I h
  refine wpAny_If (thn (hc pins s σ H _ I h) fun d s1 ⟨H1, I1, q1⟩ => ?_)
  cases d with
  | true => exact ha pins s1 σ H1 D I1 q1
  | false => exact hb pins s1 σ H1 D I1 q1
end

/-! ### targets -/
abbrev TG := V → St → Hp → (St → Hp → Prop) → Prop
abbrev TGs := List V → St → Hp → (St → Hp → Prop) → Prop
def PG (X : Cx) (target : Expr) (t : TG) : Prop :=
  ∀ (pins : List (Addr × Obj)) (s : Shared) (σ : St) (H : Hp) (v : V) (u : Value) (Q : St → Hp → Prop), Inv X pins σ H s → RelV v u → t v σ H Q →
    wpAny (model X.prog X.w) X.A (assign target X.env u) (fun _ s' => ∃ σ' H', Inv X pins σ' H' s' ∧ Q σ' H') X.xe s
/-- several targets, one after another -/
def PGs (X : Cx) (ts : List Expr) (t : TGs) : Prop :=
  ∀ (pins : List (Addr × Obj)) (s : Shared) (σ : St) (H : Hp) (vs : List V) (us : List Value) (Q : St → Hp → Prop), Inv X pins σ H s → Vals vs us → t vs σ H Q →
    wpAny (model X.prog X.w) X.A (assignInOrder ((assignEach ts X.env).map (·.2)) us) (fun _ s' => ∃ σ' H', Inv X pins σ' H' s' ∧ Q σ' H') X.xe s
section
variable {X : Cx} {pos : Pos}
def gName (i : Nat) : TG := fun v σ H Q => Q (σ.set i (some v)) H
theorem pg_name {i : Nat} {x : Str} (hN : X.N.Nodup) (hi : X.N[i]? = some x) (hx : Loc X.env.scope x) (hf : X.fn x = true ∨ X.env.scope.names.lookup x = some .local := by first | exact .inl rfl | exact .inr rfl | assumption) : PG X (.Name x pos) (gName i) := by
  intro pins s σ H v u Q I r h
  exact wpAny_assign_Name (store_ok I hN hi hx r (fun s' I' => ⟨_, H, I', h⟩) hf)
def gNil : TGs := fun vs σ H Q => vs = [] ∧ Q σ H
def gCons (t : TG) (u : TGs) : TGs := fun vs σ H Q => ∃ v r, vs = v :: r ∧ t v σ H fun σ' H' => u r σ' H' Q
theorem pgs_nil : PGs X [] gNil := by
  intro pins s σ H vs us Q I r h
  obtain ⟨e, h⟩ := h
  subst e
  cases r
  exact assignInOrder_nil ⟨σ, H, I, h⟩
theorem pgs_cons {e : Expr} {es : List Expr} {t : TG} {u : TGs} (h1 : PG X e t) (h2 : PGs X es u)
    (hs : (assignEach (e :: es) X.env).map (·.2) = assign e X.env :: (assignEach es X.env).map (·.2) := by rfl) : PGs X (e :: es) (gCons t u) := by
  intro pins s σ H vs us Q I r h
  obtain ⟨v, vr, e1, h⟩ := h
  subst e1
  cases r with
  | cons r rr =>
    rw [hs]
    refine assignInOrder_cons (thn (h1 pins s σ H _ _ _ I r h) fun _ s1 ⟨σ1, H1, I1, q1⟩ => ?_)
    exact h2 pins s1 σ1 H1 _ _ Q I1 rr q1
/-- (a, b, ..) = a tuple of that length -/
def gTup (K : PySem.W.Frag) (n : Nat) (t : TGs) : TG := fun v σ H Q => ∃ a xs, v = .ref a ∧ SqT K H a xs ∧ xs.length = n ∧ t xs σ H Q
theorem pg_tup {es : List Expr} {k : Nat} {t : TGs} {n : Nat} (hc : X.calm = true) (h : PGs X es t)
    (hn : (assignEach es X.env).length = n := by rfl) (hst : (assignEach es X.env).findIdx? (·.1) = none := by rfl) : PG X (.Tuple es k pos) (gTup X.K n t) := by
  intro pins s σ H v u Q I r hw
  obtain ⟨a, xs, e1, hq, hl, hw⟩ := hw
  subst e1
  cases r
  obtain ⟨its, rv, ht, hz⟩ := I.tuple hq
  refine assign_Tuple_tuple (I.ok.hd hc) ht (by simp [hn, ← hl, rv.length]) hst fun h' hx => ?_
  have I1 : Inv X pins σ H { s with heap := h' } := I.kept (t' := s.toks) fun b o e => hx b o (Nat.ne_of_lt (Heap.lt_size e)) e
  exact h pins _ σ H xs _ Q I1 (by simpa using rv) hw
/-- target = value -/
def tAsg (te : TE) (g : TG) : TS := fun D σ H => te σ H fun x H1 => g x σ H1 D.nx
theorem ps_asg {tg e : Expr} {te : TE} {g : TG} (he : PE X e te) (hg : PG X tg g) (hs : swapsWithSole [tg] e pos.line X.env = pure false := by rfl) (hw : swappedStores [tg] e X.env = pure none := by rfl)
    (h1 : (assignEach [tg] X.env).map (·.2) = [assign tg X.env] := by rfl) : PS X (.Assign [tg] e pos) (tAsg te g) := by
  intro pins s σ H D I h
  refine wpAny_Assign_stores (thn (he pins s σ H _ I h) fun v s1 ⟨x, H1, I1, r1, q1⟩ => ?_) hs hw
  rw [h1]
  exact thn (hg pins s1 σ H1 x v _ I1 r1 q1) fun _ s2 q => q
/-- name = value -/
theorem ps_set {i : Nat} {x : Str} {e : Expr} {te : TE} {pos' : Pos} (hN : X.N.Nodup) (hi : X.N[i]? = some x) (hx : Loc X.env.scope x) (he : PE X e te) (hs : swapsWith e (some (.Name x pos')) pos.line X.env = pure false := by rfl) (hf : X.fn x = true ∨ X.env.scope.names.lookup x = some .local := by first | exact .inl rfl | exact .inr rfl | assumption) :
    PS X (.Assign [.Name x pos'] e pos) (tAsg te (gName i)) := by
  intro pins s σ H D I h
  refine wpAny_Assign_Name (thn (he pins s σ H _ I h) fun v s1 ⟨y, H1, I1, r1, q1⟩ => ?_) hs
  exact store_ok I1 hN hi hx r1 (fun s2 I2 => ⟨_, H1, I2, q1⟩) hf
end

/-! ### while -/
section
variable {X : Cx} {pos : Pos}
end

/-! ### what a loop or a comprehension walks -/
/-- at turn i: it yields x (the heap may grow), or it stops -/
structure It where
  go : Nat → Hp → Prop
  yld : Nat → Hp → V → Hp → Prop
  stop : Nat → Hp → Prop
/-- the iterator's own objects may turn: they are not the frame's, not pinned, younger than the entry (or a comprehension's own) -/
def FpOk (X : Cx) (pins : List (Addr × Obj)) (H : Hp) (b : Addr) : Prop :=
  H b = none ∧ b ≠ X.env.locals ∧ b ∉ X.fs ∧ (b ∈ X.ex ∨ X.s₀.heap.objs.size ≤ b) ∧ (∀ x c, X.env.cells.lookup x = some c → c ≠ b) ∧ ∀ p ∈ X.pn ++ pins, p.1 ≠ b
theorem Inv.fpOk {X : Cx} {pins : List (Addr × Obj)} {σ : St} {H H' : Hp} {s : Shared} {b : Addr} (I : Inv X pins σ H s) (hb : s.heap.objs.size ≤ b) (hn : H' b = none) : FpOk X pins H' b := by
  refine ⟨hn, Nat.ne_of_gt (Nat.lt_of_lt_of_le I.lt hb), I.nofs hb, .inr (Nat.le_trans I.sz hb), fun x c e z => ?_, fun p hp z => ?_⟩
  · obtain ⟨v, q⟩ := I.cell x c e
    exact absurd (Nat.lt_of_lt_of_le q.lt (by rw [z]; exact hb)) (Nat.lt_irrefl _)
  · exact absurd (Nat.lt_of_lt_of_le (Heap.lt_size (I.pin p hp).1) (by rw [z]; exact hb)) (Nat.lt_irrefl _)
structure Turn (P : Program) (w : World) (K : PySem.W.Frag) (tg : Expr) (J : It) (fp : List Addr) (it : Addr) (tn : Nat → Heap → Prop) : Prop where
  mem : it ∈ fp
  obj : ∀ i h, tn i h → ∀ b ∈ fp, ∃ o, h.get? b = some o ∧ ∀ v, o.data ≠ .cell v
  keep : ∀ i h h', tn i h → (∀ b ∈ fp, ∀ o, h.get? b = some o → h'.get? b = some o) → tn i h'
  item : ∀ (X : Cx), X.prog = P → X.w = w → X.K = K → X.calm = true → ∀ (i : Nat) (pins : List (Addr × Obj)) (s : Shared) (σ : St) (H : Hp) (E : Value → Shared → Prop), Inv X pins σ H s → (∀ b ∈ fp, FpOk X pins H b) → tn i s.heap → J.go i H →
    wpAny (model P w) X.A (pyNext (.ref it)) (fun r s1 => ∃ u, r = some u ∧
      wpAny (model P w) X.A (letOwnedTupleGo tg (.ref it) u) (fun _ s2 => ∃ x H', Inv X pins σ H' s2 ∧ RelV x u ∧ J.yld i H x H' ∧ tn (i + 1) s2.heap ∧ ∀ b ∈ fp, H' b = none) E s1) E s
  done : ∀ (X : Cx), X.prog = P → X.w = w → X.K = K → X.calm = true → ∀ (i : Nat) (pins : List (Addr × Obj)) (s : Shared) (σ : St) (H : Hp) (E : Value → Shared → Prop), Inv X pins σ H s → (∀ b ∈ fp, FpOk X pins H b) → tn i s.heap → J.stop i H →
    wpAny (model P w) X.A (pyNext (.ref it)) (fun r s1 => r = none ∧ Inv X pins σ H s1) E s
  self : ∀ (A : Around) (i : Nat) (s : Shared) (Q : Value → Shared → Prop) (E : Value → Shared → Prop), tn i s.heap → Q (.ref it) s → wpAny (model P w) A (pyIter (.ref it)) Q E s
abbrev TI := St → Hp → (It → Hp → Prop) → Prop
/-- an iterator has come -/
def PIE (X : Cx) (pins : List (Addr × Obj)) (σ : St) (tg : Expr) (R : It → Hp → Prop) (itv : Value) (s2 : Shared) : Prop :=
  ∃ (it : Addr) (fp : List Addr) (tn : Nat → Heap → Prop) (J : It) (H' : Hp), itv = .ref it ∧ Inv X pins σ H' s2 ∧ Turn X.prog X.w X.K tg J fp it tn ∧ tn 0 s2.heap ∧ (∀ b ∈ fp, FpOk X pins H' b) ∧ R J H'
def PI (X : Cx) (tg iter : Expr) (wi : TI) : Prop :=
  ∀ (pins : List (Addr × Obj)) (s : Shared) (σ : St) (H : Hp) (R : It → Hp → Prop), Inv X pins σ H s → wi σ H R →
    wpAny (model X.prog X.w) X.A (eval iter X.env) (fun v s1 => wpAny (model X.prog X.w) X.A (pyIter v) (PIE X pins σ tg R) X.xe s1) X.xe s

/-- the step ahead of the store is nothing for an iterator that keeps no tuple -/
theorem go_of {M : Model} {A : Around} {E : Value → Shared → Prop} {s : Shared} {tg : Expr} {it : Addr} {u : Value} {o : Obj} {n : String} {vs : Array Value} {Q : Unit → Shared → Prop} (ho : s.heap.get? it = some o) (hc : o.cls = .type n) (hd : o.data = .fields vs)
    (hn : ["enumerate", "zip", "dict_itemiterator", "dict_reverseitemiterator", "odict_iterator", "itertools.zip_longest", "itertools.pairwise"].contains n = false) (hQ : Q () s) : wpAny M A (letOwnedTupleGo tg (.ref it) u) Q E s := by
  unfold letOwnedTupleGo
  cases tg <;> first
    | exact wpAny_pure hQ
    | (cases u <;> first
        | exact wpAny_pure hQ
        | (refine wpAny_bind (wpAny_load ho ?_)
           rw [hc, hd]
           show wpAny M A (if (["enumerate", "zip", "dict_itemiterator", "dict_reverseitemiterator", "odict_iterator", "itertools.zip_longest", "itertools.pairwise"].contains n && vs[0]? == some (rawInt _)) = true then _ else _) Q E s
           rw [if_neg (by intro h; rw [hn, Bool.false_and] at h; cases h)]
           exact wpAny_pure hQ))

/-- the list at a, as it stands at each turn (a loop may append to it) -/
def Itl (K : PySem.W.Frag) (a : Addr) : It :=
  ⟨fun i H => ∃ xs x, SqL K H a xs ∧ xs[i]? = some x, fun i H x H' => H' = H ∧ ∀ xs, SqL K H a xs → xs[i]? = some x, fun i H => ∃ xs, SqL K H a xs ∧ xs.length ≤ i⟩
/-- lo, lo + 1, .. (n of them) -/
def Itr (lo : Int) (n : Nat) : It := ⟨fun i _ => i < n, fun i H x H' => H' = H ∧ x = .int (lo + i), fun i _ => n ≤ i⟩
theorem turn_list {P : Program} {w : World} {K : PySem.W.Frag} {tg : Expr} (a it : Addr) : Turn P w K tg (Itl K a) [it] it (fun i h => h.IsListIter it a i) where
  mem := by simp
  obj := fun i h st b hb => by
    have e : b = it := by simpa using hb
    subst e
    obtain ⟨o, e, c, d⟩ := st
    exact ⟨o, e, fun v z => by rw [d] at z; cases z⟩
  keep := fun i h h' st k => st.at fun o e => k it (by simp) o e
  item := by
    intro X hP hw hK hc i pins s σ H E I hf st hg
    subst hP hw hK
    obtain ⟨xs, x, hq, hx⟩ := hg
    obtain ⟨its, rv, p, hz⟩ := I.list hq
    obtain ⟨u, hu, ru⟩ := rv.get hx
    obtain ⟨f0, f1, f2, f3, f4, f5⟩ := hf it (by simp)
    refine wpAny_pyNext_list_item st p.isList (x := u) (by simpa using hu) fun h' st' sb => ?_
    have I1 : Inv X pins σ H { s with heap := h' } := I.turned (t' := s.toks) (fun b o hb e => (sb.2 b hb).trans e) f0 f1 f3 f4 f5
    obtain ⟨o, e, c, d⟩ := id st'
    exact ⟨u, rfl, go_of (s := { s with heap := h' }) e c d (by decide) ⟨x, H, I1, ru, ⟨rfl, fun ys hy => by rw [I.list_inj hy hq]; exact hx⟩, st', fun b hb => (hf b hb).1⟩⟩
  done := by
    intro X hP hw hK hc i pins s σ H E I hf st hg
    subst hP hw hK
    obtain ⟨xs, hq, hx⟩ := hg
    obtain ⟨its, rv, p, hz⟩ := I.list hq
    obtain ⟨f0, f1, f2, f3, f4, f5⟩ := hf it (by simp)
    have hl := rv.length
    exact wpAny_pyNext_list_end (I.ok.hd hc) st p.isList (by simp; omega) fun h' eb => ⟨rfl, I.turned (t' := s.toks) (fun b o hb e => eb b o hb e) f0 f1 f3 f4 f5⟩
  self := fun _ _ _ _ _ st h => wpAny_pyIter_listiter st h
theorem turn_range {P : Program} {w : World} {K : PySem.W.Frag} {tg : Expr} (it : Addr) (lo : Int) (n : Nat) : Turn P w K tg (Itr lo n) [it] it (fun i h => IsRangeIter h it (lo + (i : Nat) * 1) ((n : Int) - (i : Nat)) 1) where
  mem := by simp
  obj := fun i h st b hb => by
    have e : b = it := by simpa using hb
    subst e
    exact ⟨_, st, fun v z => by
      have z' : Data.fields _ = Data.cell v := z
      cases z'⟩
  keep := fun i h h' st k => k it (by simp) _ st
  item := by
    intro X hP hw hK hc i pins s σ H E I hf st hg
    subst hP hw hK
    obtain ⟨f0, f1, f2, f3, f4, f5⟩ := hf it (by simp)
    have W := Walks.range (prog := X.prog) (w := X.w) (I.ok.hd hc) it lo 1 n
    refine W.item i s _ _ hg st fun v h' tk hv st' kk => ?_
    obtain ⟨t, rfl⟩ := hv
    have I1 : Inv X pins σ H { s with heap := h', toks := tk } := I.turned (fun b o hb e => kk b o (by simpa using hb) e) f0 f1 f3 f4 f5
    refine ⟨_, rfl, go_of (s := { s with heap := h', toks := tk }) (n := "range_iterator") st' rfl rfl (by decide) ⟨.int (lo + i), H, I1, ⟨t, ?_⟩, ⟨rfl, rfl⟩, st', fun b hb => (hf b hb).1⟩⟩
    rw [Int.mul_one]
  done := by
    intro X hP hw hK hc i pins s σ H E I hf st hg
    subst hP hw hK
    obtain ⟨f0, f1, f2, f3, f4, f5⟩ := hf it (by simp)
    exact wpAny_pyNext_range_end (I.ok.hd hc) st (by have : n ≤ i := hg; omega) fun h' eb => ⟨rfl, I.turned (t' := s.toks) (fun b o hb e => eb b o hb e) f0 f1 f3 f4 f5⟩
  self := fun _ _ _ _ _ st h => wpAny_pyIter_rangeiter st h
end L2

namespace L2
open PySem PySem.Spec PyProof.Rows
section
variable {X : Cx} {tg : Expr}
def iList (K : PySem.W.Frag) (tl : TE) : TI := fun σ H R => tl σ H fun x H1 => ∃ a, x = .ref a ∧ (∃ xs, SqL K H1 a xs) ∧ R (Itl K a) H1
theorem pi_list {l : Expr} {tl : TE} (hl : PE X l tl) : PI X tg l (iList X.K tl) := by
  intro pins s σ H R I h
  refine thn (hl pins s σ H _ I h) fun v s1 ⟨x, H1, I1, r1, q1⟩ => ?_
  obtain ⟨a, e, ⟨xs, hq⟩, q⟩ := q1
  subst e
  cases r1
  obtain ⟨its, rv, p, hz⟩ := I1.list hq
  refine wpAny_pyIter_list p.isList ?_
  refine ⟨s1.heap.objs.size, [s1.heap.objs.size], _, _, H1, rfl, I1.kept (t' := s1.toks) fun b o e => Heap.get?_push_of_some _ e, turn_list a _, ⟨_, Heap.get?_push_size _ rfl, rfl, rfl⟩, fun b hb => ?_, q⟩
  have e : b = s1.heap.objs.size := by simpa using hb
  subst e
  exact I1.fpOk (Nat.le_refl _) (I1.hok.fresh (Nat.le_refl _))
/-- a range object just made, walked -/
theorem range_it {pins : List (Addr × Obj)} {σ : St} {H : Hp} {s : Shared} {R : It → Hp → Prop} {E : Value → Shared → Prop} {lo hi : Int} {t u v : Tok} {tk : Nat} (I : Inv X pins σ H s) (h1 : -(2 ^ 62) ≤ lo) (h2 : lo < 2 ^ 62) (h3 : -(2 ^ 62) ≤ hi) (h4 : hi < 2 ^ 62)
    (q : R (Itr lo (hi - lo).toNat) H) : wpAny (model X.prog X.w) X.A (pyIter (.ref s.heap.objs.size)) (PIE X pins σ tg R) E { s with heap := s.heap.push { cls := .type "range", data := .fields #[.int lo t, .int hi u, .int 1 v] }, toks := tk } := by
  refine wpAny_pyIter_range (IsRange.new ..) (small_one h1 h2 h3 h4) ?_
  have I1 : Inv X pins σ H { s with heap := s.heap.push { cls := .type "range", data := .fields #[.int lo t, .int hi u, .int 1 v] }, toks := tk } := I.kept fun b o e => Heap.get?_push_of_some _ e
  refine ⟨(s.heap.push { cls := .type "range", data := .fields #[.int lo t, .int hi u, .int 1 v] }).objs.size, [(s.heap.push { cls := .type "range", data := .fields #[.int lo t, .int hi u, .int 1 v] }).objs.size], _, _, H, rfl,
    I1.kept (t' := tk) fun b o e => Heap.get?_push_of_some _ e, turn_range _ lo (hi - lo).toNat, ?_, fun b hb => ?_, q⟩
  · have e1 : lo + ((0 : Nat) : Int) * 1 = lo := by simp
    have e2 : (((hi - lo).toNat : Nat) : Int) - ((0 : Nat) : Int) = Builtin.Range.rangeSize lo hi 1 := by rw [rangeSize_one]; split <;> omega
    show IsRangeIter _ _ (lo + ((0 : Nat) : Int) * 1) ((((hi - lo).toNat : Nat) : Int) - ((0 : Nat) : Int)) 1
    rw [e1, e2]
    exact Heap.get?_push_size _ rfl
  · have e : b = (s.heap.push { cls := .type "range", data := .fields #[.int lo t, .int hi u, .int 1 v] }).objs.size := by simpa using hb
    subst e
    exact I1.fpOk (Nat.le_refl _) (I1.hok.fresh (Nat.le_refl _))
def iRng1 (ta : TA) : TI := fun σ H R => ta σ H fun vs H1 => ∃ j : Int, vs = [.int j] ∧ -(2 ^ 62) ≤ j ∧ j < 2 ^ 62 ∧ R (Itr 0 j.toNat) H1
def iRng2 (ta : TA) : TI := fun σ H R => ta σ H fun vs H1 => ∃ i j : Int, vs = [.int i, .int j] ∧ (-(2 ^ 62) ≤ i ∧ i < 2 ^ 62 ∧ -(2 ^ 62) ≤ j ∧ j < 2 ^ 62) ∧ R (Itr i (j - i).toNat) H1
theorem pi_range1 {a : Expr} {ta : TA} {p pos : Pos} (hg : Gl X "range") (hm : X.mg "range" = none) (ha : PA X [a] ta) (hs : starEach [a] X.env = [(false, eval a X.env)] := by rfl) : PI X tg (.Call (.Name "range" p) [a] [] pos) (iRng1 ta) := by
  intro pins s σ H R I h
  refine Call_ (ld_blt I hg hm boot_range (PyProof.Rows.callWith_type1 (thn (ha pos pins s σ H _ I h) fun us s1 ⟨vs, H1, I1, r1, q1⟩ => ?_) hs rfl))
  obtain ⟨j, e, q1, q2, q⟩ := q1
  subst e
  cases r1 with
  | cons r rr =>
    cases rr
    obtain ⟨t, rfl⟩ := r
    exact call_range_1 (range_it I1 (by omega) (by omega) q1 q2 (by simpa using q))
theorem pi_range2 {a b : Expr} {ta : TA} {p pos : Pos} (hg : Gl X "range") (hm : X.mg "range" = none) (ha : PA X [a, b] ta) (hs : starEach [a, b] X.env = [(false, eval a X.env), (false, eval b X.env)] := by rfl) (hs2 : starEach [b] X.env = [(false, eval b X.env)] := by rfl) :
    PI X tg (.Call (.Name "range" p) [a, b] [] pos) (iRng2 ta) := by
  intro pins s σ H R I h
  refine Call_ (ld_blt I hg hm boot_range (PyProof.Rows.callWith_type1 (thn (ha pos pins s σ H _ I h) fun us s1 ⟨vs, H1, I1, r1, q1⟩ => ?_) (by rw [hs, hs2]) (by rw [hs2]; rfl)))
  obtain ⟨i, j, e, ⟨q1, q2, q3, q4⟩, q⟩ := q1
  subst e
  cases r1 with
  | cons r rr =>
    cases rr with
    | cons r' rr =>
      cases rr
      obtain ⟨t, rfl⟩ := r
      obtain ⟨t', rfl⟩ := r'
      exact call_range_2 (range_it I1 q1 q2 q3 q4 q)

/-! ### for -/
/-- W: the invariant by the turn and a measure; N: what the body is to reach -/
def tFor (wi : TI) (g : TG) (tb : TS) : TS := fun D σ H => wi σ H fun J H1 => ∃ W : Nat → Nat → St → Hp → Prop, (∃ m, W 0 m σ H1) ∧ ∀ i m σ H, W i m σ H →
  (J.stop i H ∧ D.nx σ H) ∨ (J.go i H ∧ ∃ N : St → Hp → Prop, (∀ σ' H', N σ' H' → ∃ m', m' < m ∧ W (i + 1) m' σ' H') ∧ ∀ x H', J.yld i H x H' → g x σ H' fun σ2 H2 => tb { D with nx := N, ct := N, bk := D.nx } σ2 H2)
/-- the records at fp as they stand -/
def pinsAt (fp : List Addr) (h : Heap) : List (Addr × Obj) := fp.filterMap fun b => (h.get? b).map fun o => (b, o)
theorem mem_pinsAt {fp : List Addr} {h : Heap} {b : Addr} {o : Obj} (hb : b ∈ fp) (e : h.get? b = some o) : (b, o) ∈ pinsAt fp h := List.mem_filterMap.mpr ⟨b, hb, by rw [e]; rfl⟩
theorem of_pinsAt {fp : List Addr} {h : Heap} {p : Addr × Obj} (hp : p ∈ pinsAt fp h) : p.1 ∈ fp ∧ h.get? p.1 = some p.2 := by
  obtain ⟨b, hb, e⟩ := List.mem_filterMap.mp hp
  cases q : h.get? b with
  | none => rw [q] at e; cases e
  | some o =>
    rw [q] at e
    have e' : (b, o) = p := Option.some.inj e
    subst e'
    exact ⟨hb, q⟩
theorem Inv.pinned {pins : List (Addr × Obj)} {σ : St} {H : Hp} {s : Shared} {fp : List Addr} (I : Inv X pins σ H s) (hf : ∀ b ∈ fp, FpOk X pins H b) (ho : ∀ b ∈ fp, ∃ o, s.heap.get? b = some o ∧ ∀ v, o.data ≠ .cell v) : Inv X (pins ++ pinsAt fp s.heap) σ H s :=
  I.pins_of fun p hp => (List.mem_append.mp hp).elim (fun z => I.pin p (List.mem_append_right _ z)) fun z => by
    obtain ⟨hb, e⟩ := of_pinsAt z
    obtain ⟨f0, f1, f2, _⟩ := hf p.1 hb
    obtain ⟨o, e', d⟩ := ho p.1 hb
    rw [e] at e'; cases e'
    exact ⟨e, f0, f1, f2, d⟩
theorem Inv.unpinned {pins pl : List (Addr × Obj)} {σ : St} {H : Hp} {s : Shared} (I : Inv X (pins ++ pl) σ H s) : Inv X pins σ H s := I.pins_of fun p hp => I.pin p (List.mem_append_right _ (List.mem_append_left _ hp))
theorem ps_for {iter : Expr} {body : List Stmt} {wi : TI} {g : TG} {tb : TS} {pos : Pos} (hp : PassesOwn (model X.prog X.w) X.A X.env X.xe) (hc : X.calm = true) (hi : PI X tg iter wi) (hg : PG X tg g) (hb : PSs X body tb)
    (hs : ∀ x, foldedSetIterable iter X.env x = pure x := by intro _; rfl) : PS X (.For tg iter body [] pos) (tFor wi g tb) := by
  intro pins s σ H D I h
  refine wpAny_For (thn (hi pins s σ H _ I h) fun v s1 h1 => thn h1 fun itv s2 h2 => ?_) hs
  obtain ⟨it, fp, tn, J, H2, e, I2, T, st2, f2, W, ⟨m0, w0⟩, turn⟩ := h2
  subst e
  -- what stays true of the iterator's objects through the loop
  have stat : ∀ {H' : Hp}, (∀ b ∈ fp, H' b = none) → ∀ b ∈ fp, FpOk X pins H' b := fun hn b hb => ⟨hn b hb, (f2 b hb).2⟩
  refine codeAny_forLoop_any (fun n s' => ∃ i σ' H', Inv X pins σ' H' s' ∧ tn i s'.heap ∧ (∀ b ∈ fp, H' b = none) ∧ W i n σ' H') ?_ m0 ⟨0, σ, H2, I2, st2, fun b hb => (f2 b hb).1, w0⟩
  rintro n s3 ⟨i, σ3, H3, I3, st3, fr3, w3⟩
  rcases turn i n σ3 H3 w3 with ⟨stop, qn⟩ | ⟨go, N, hN, step⟩
  · refine wpAny_passesOwn hp (thn (T.done X rfl rfl rfl hc i pins s3 σ3 H3 X.xe I3 (stat fr3) st3 stop) fun r s4 ⟨hr, I4⟩ => ?_)
    subst hr
    exact wpAny_execs_nil ⟨σ3, H3, I4, qn⟩
  · refine wpAny_passesOwn hp (thn (T.item X rfl rfl rfl hc i pins s3 σ3 H3 X.xe I3 (stat fr3) st3 go) fun r s4 ⟨u, hr, h4⟩ => ?_)
    subst hr
    refine wpAny_passesOwn hp (thn h4 fun _ s5 ⟨x, H5, I5, r5, y5, st5, fr5⟩ => ?_)
    have I5' := I5.pinned (stat fr5) (T.obj _ _ st5)
    refine wpAny_passesOwn hp (thn (hg _ s5 σ3 H5 x u _ I5' r5 (step x H5 y5)) fun _ s6 ⟨σ6, H6, I6, q6⟩ => ?_)
    refine wpAny_passesOwn hp (thn (hb _ s6 σ6 H6 _ I6 q6) fun f s7 q7 => ?_)
    have again : ∀ {σ7 : St} {H7 : Hp}, Inv X (pins ++ pinsAt fp s5.heap) σ7 H7 s7 → N σ7 H7 → ∃ m, m < n ∧ ∃ i σ' H', Inv X pins σ' H' s7 ∧ tn i s7.heap ∧ (∀ b ∈ fp, H' b = none) ∧ W i m σ' H' := fun {σ7 H7} I7 n7 => by
      obtain ⟨m', hm, w7⟩ := hN σ7 H7 n7
      refine ⟨m', hm, i + 1, σ7, H7, I7.unpinned, T.keep _ _ _ st5 fun b hb o e => (I7.pin (b, o) (List.mem_append_right _ (List.mem_append_right _ (mem_pinsAt hb e)))).1, fun b hb => ?_, w7⟩
      obtain ⟨o, e, d⟩ := T.obj _ _ st5 b hb
      exact (I7.pin (b, o) (List.mem_append_right _ (List.mem_append_right _ (mem_pinsAt hb e)))).2.1
    cases f with
    | next => obtain ⟨σ7, H7, I7, n7⟩ := q7; exact again I7 n7
    | cont => obtain ⟨σ7, H7, I7, n7⟩ := q7; exact again I7 n7
    | brk => obtain ⟨σ7, H7, I7, q7⟩ := q7; exact ⟨σ7, H7, I7.unpinned, q7⟩
    | ret v => obtain ⟨x7, σ7, H7, I7, r7, q7⟩ := q7; exact ⟨x7, σ7, H7, I7.unpinned, r7, q7⟩
end

/-! ### the forms one uses -/
/-- over a list that the body leaves as it is -/
theorem for_list {K : PySem.W.Frag} {a : Addr} {xs : List V} {g : TG} {tb : TS} {D : Ends} {σ : St} {H : Hp} (Pv : Nat → St → Hp → Prop) (h0 : Pv 0 σ H) (hl : ∀ i σ H, i ≤ xs.length → Pv i σ H → SqL K H a xs)
    (hs : ∀ i x σ H, xs[i]? = some x → Pv i σ H → g x σ H fun σ2 H2 => tb { D with nx := Pv (i + 1), ct := Pv (i + 1), bk := D.nx } σ2 H2) (hd : ∀ σ H, Pv xs.length σ H → D.nx σ H) :
    ∃ W : Nat → Nat → St → Hp → Prop, (∃ m, W 0 m σ H) ∧ ∀ i m σ H, W i m σ H →
      ((Itl K a).stop i H ∧ D.nx σ H) ∨ ((Itl K a).go i H ∧ ∃ N : St → Hp → Prop, (∀ σ' H', N σ' H' → ∃ m', m' < m ∧ W (i + 1) m' σ' H') ∧ ∀ x H', (Itl K a).yld i H x H' → g x σ H' fun σ2 H2 => tb { D with nx := N, ct := N, bk := D.nx } σ2 H2) := by
  refine ⟨fun i m σ H => m = xs.length - i ∧ i ≤ xs.length ∧ Pv i σ H, ⟨xs.length, by simp, Nat.zero_le _, h0⟩, ?_⟩
  rintro i m σ H ⟨rfl, hi, p⟩
  have q := hl i σ H hi p
  by_cases hlt : i < xs.length
  · refine .inr ⟨⟨xs, xs[i], q, by simp [hlt]⟩, Pv (i + 1), fun σ' H' p' => ⟨xs.length - (i + 1), by omega, rfl, hlt, p'⟩, fun x H' y => ?_⟩
    obtain ⟨e, y⟩ := y
    subst e
    exact hs i x σ _ (y xs q) p
  · have e : i = xs.length := by omega
    subst e
    exact .inl ⟨⟨xs, q, Nat.le_refl _⟩, hd σ H p⟩
theorem for_range {lo : Int} {n : Nat} {g : TG} {tb : TS} {D : Ends} {σ : St} {H : Hp} (Pv : Nat → St → Hp → Prop) (h0 : Pv 0 σ H)
    (hs : ∀ i σ H, i < n → Pv i σ H → g (.int (lo + i)) σ H fun σ2 H2 => tb { D with nx := Pv (i + 1), ct := Pv (i + 1), bk := D.nx } σ2 H2) (hd : ∀ σ H, Pv n σ H → D.nx σ H) :
    ∃ W : Nat → Nat → St → Hp → Prop, (∃ m, W 0 m σ H) ∧ ∀ i m σ H, W i m σ H →
      ((Itr lo n).stop i H ∧ D.nx σ H) ∨ ((Itr lo n).go i H ∧ ∃ N : St → Hp → Prop, (∀ σ' H', N σ' H' → ∃ m', m' < m ∧ W (i + 1) m' σ' H') ∧ ∀ x H', (Itr lo n).yld i H x H' → g x σ H' fun σ2 H2 => tb { D with nx := N, ct := N, bk := D.nx } σ2 H2) := by
  refine ⟨fun i m σ H => m = n - i ∧ i ≤ n ∧ Pv i σ H, ⟨n, by simp, Nat.zero_le _, h0⟩, ?_⟩
  rintro i m σ H ⟨rfl, hi, p⟩
  by_cases hlt : i < n
  · refine .inr ⟨hlt, Pv (i + 1), fun σ' H' p' => ⟨n - (i + 1), by omega, rfl, hlt, p'⟩, fun x H' y => ?_⟩
    obtain ⟨e, y⟩ := y
    subst e y
    exact hs i σ _ hlt p
  · have e : i = n := by omega
    subst e
    exact .inl ⟨Nat.le_refl _, hd σ H p⟩
end L2

namespace L2
open PySem PySem.Spec PyProof.Rows

abbrev R2 := V → V → Hp → VK → Prop
/-- a two-place operation on values: f is binaryOp op, inplaceOp op or compareOp op -/
def OpR (X : Cx) (f : Value → Value → Sem Value) (r : R2) : Prop :=
  ∀ (pins : List (Addr × Obj)) (s : Shared) (σ : St) (H : Hp) (x y : V) (v u : Value) (Q : VK), Inv X pins σ H s → RelV x v → RelV y u → r x y H Q →
    wpAny (model X.prog X.w) X.A (f v u) (EP X pins σ Q) X.xe s
/-- a one-place operation -/
def UnR (X : Cx) (f : Value → Sem Value) (r : V → Hp → VK → Prop) : Prop :=
  ∀ (pins : List (Addr × Obj)) (s : Shared) (σ : St) (H : Hp) (x : V) (v : Value) (Q : VK), Inv X pins σ H s → RelV x v → r x H Q →
    wpAny (model X.prog X.w) X.A (f v) (EP X pins σ Q) X.xe s
/-- a call of a value that is known (a builtin, a type) with values -/
def CallR (X : Cx) (f : Value) (r : List V → Hp → VK → Prop) : Prop :=
  ∀ (pins : List (Addr × Obj)) (s : Shared) (σ : St) (H : Hp) (xs : List V) (us : List Value) (Q : VK), Inv X pins σ H s → Vals xs us → r xs H Q →
    wpAny (model X.prog X.w) X.A (call f us) (EP X pins σ Q) X.xe s
/-- a value's truth -/
def TruR (X : Cx) (r : V → Hp → (Bool → Hp → Prop) → Prop) : Prop :=
  ∀ (pins : List (Addr × Obj)) (s : Shared) (σ : St) (H : Hp) (x : V) (v : Value) (Q : Bool → Hp → Prop), Inv X pins σ H s → RelV x v → r x H Q →
    wpAny (model X.prog X.w) X.A (truthy v) (TP X pins σ Q) X.xe s

def tOp (r : R2) (ta tb : TE) : TE := fun σ H Q => ta σ H fun x H1 => tb σ H1 fun y H2 => r x y H2 Q
def tUn (r : V → Hp → VK → Prop) (ta : TE) : TE := fun σ H Q => ta σ H fun x H1 => r x H1 Q
/-- ints in, under C, and a value out -/
def rI (C : Int → Int → Prop) (g : Int → Int → V) : R2 := fun x y H Q => ∃ i j, x = .int i ∧ y = .int j ∧ C i j ∧ Q (g i j) H
def rI0 (g : Int → Int → V) : R2 := fun x y H Q => ∃ i j, x = .int i ∧ y = .int j ∧ Q (g i j) H
def rU (g : Int → V) : V → Hp → VK → Prop := fun x H Q => ∃ i, x = .int i ∧ Q (g i) H

section
variable {X : Cx} {a b c : Expr} {ta tb tc : TE} {pos : Pos}

theorem binT (ha : PE X a ta) (hb : PE X b tb) {pins : List (Addr × Obj)} {s : Shared} {σ : St} {H : Hp} {R : V → V → Hp → Prop} (I : Inv X pins σ H s)
    (h : ta σ H fun x H1 => tb σ H1 fun y H2 => R x y H2) {Q : Value → Shared → Prop} {f : Value → Value → Sem Value}
    (hf : ∀ v u s2 x y H2, Inv X pins σ H2 s2 → RelV x v → RelV y u → R x y H2 → wpAny (model X.prog X.w) X.A (f v u) Q X.xe s2) :
    wpAny (model X.prog X.w) X.A (eval a X.env) (fun v s₁ => wpAny (model X.prog X.w) X.A (eval b X.env) (fun u s₂ => wpAny (model X.prog X.w) X.A (f v u) Q X.xe s₂) X.xe s₁) X.xe s := by
  refine thn (ha pins s σ H _ I h) fun v s1 ⟨x, H1, I1, r1, q1⟩ => ?_
  refine thn (hb pins s1 σ H1 _ I1 q1) fun u s2 ⟨y, H2, I2, r2, q2⟩ => ?_
  exact hf v u s2 x y H2 I2 r1 r2 q2

theorem pe_op {op : Operator} {r : R2} (ho : OpR X (binaryOp op) r) (ha : PE X a ta) (hb : PE X b tb) : PE X (.BinOp a op b pos) (tOp r ta tb) := by
  intro pins s σ H Q I h
  exact wpAny_BinOp (binT ha hb I h fun v u s2 x y H2 I2 rx ry q => ho pins s2 σ H2 x y v u Q I2 rx ry q)
theorem pe_un {op : UnaryOp} {r : V → Hp → VK → Prop} (ho : UnR X (unaryOp op) r) (ha : PE X a ta) : PE X (.UnaryOp op a pos) (tUn r ta) := by
  intro pins s σ H Q I h
  exact UnaryOp_ (thn (ha pins s σ H _ I h) fun v s1 ⟨x, H1, I1, r1, q1⟩ => ho pins s1 σ H1 x v Q I1 r1 q1)
/-! ### ints -/
theorem opI {f : Value → Value → Sem Value} {C : Int → Int → Prop} {g : Int → Int → Int}
    (rule : ∀ (i j : Int) (t u : Tok) (s : Shared) (Q : Value → Shared → Prop) (E : Value → Shared → Prop), C i j → Q (.int (g i j) s.toks) { s with toks := s.toks + 1 } → wpAny (model X.prog X.w) X.A (f (.int i t) (.int j u)) Q E s) :
    OpR X f (rI C fun i j => .int (g i j)) := by
  intro pins s σ H x y v u Q I rx ry h
  obtain ⟨i, j, rfl, rfl, hc, q⟩ := h
  obtain ⟨t, rfl⟩ := rx
  obtain ⟨t', rfl⟩ := ry
  exact rule i j t t' s _ _ hc ⟨.int (g i j), H, I.tok _, ⟨_, rfl⟩, q⟩
theorem opI0 {f : Value → Value → Sem Value} {g : Int → Int → Int}
    (rule : ∀ (i j : Int) (t u : Tok) (s : Shared) (Q : Value → Shared → Prop) (E : Value → Shared → Prop), Q (.int (g i j) s.toks) { s with toks := s.toks + 1 } → wpAny (model X.prog X.w) X.A (f (.int i t) (.int j u)) Q E s) :
    OpR X f (rI0 fun i j => .int (g i j)) := by
  intro pins s σ H x y v u Q I rx ry h
  obtain ⟨i, j, rfl, rfl, q⟩ := h
  obtain ⟨t, rfl⟩ := rx
  obtain ⟨t', rfl⟩ := ry
  exact rule i j t t' s _ _ ⟨.int (g i j), H, I.tok _, ⟨_, rfl⟩, q⟩
theorem opB0 {f : Value → Value → Sem Value} {g : Int → Int → Bool}
    (rule : ∀ (i j : Int) (t u : Tok) (s : Shared) (Q : Value → Shared → Prop) (E : Value → Shared → Prop), Q (.bool (g i j)) s → wpAny (model X.prog X.w) X.A (f (.int i t) (.int j u)) Q E s) :
    OpR X f (rI0 fun i j => .bl (g i j)) := by
  intro pins s σ H x y v u Q I rx ry h
  obtain ⟨i, j, rfl, rfl, q⟩ := h
  obtain ⟨t, rfl⟩ := rx
  obtain ⟨t', rfl⟩ := ry
  exact rule i j t t' s _ _ ⟨.bl (g i j), H, I, rfl, q⟩

def CDiv (i j : Int) : Prop := 0 < j ∧ j < 1073741824
def CPow (i j : Int) : Prop := 0 ≤ j ∧ j ≤ 1000000 ∧ i.natAbs < 2 ^ 64
def CMul (i j : Int) : Prop := (-(2 ^ 64) < i ∧ i < 2 ^ 64) ∨ (-(2 ^ 64) < j ∧ j < 2 ^ 64)
theorem CMul.ok {i j : Int} (h : CMul i j) : IntMulOk i j := by
  rcases h with ⟨h1, h2⟩ | ⟨h1, h2⟩
  · exact .of_left (intBits_le_64 h1 h2)
  · exact .of_right (intBits_le_64 h1 h2)
theorem op_add : OpR X (binaryOp .Add) (rI0 fun i j => .int (i + j)) := opI0 fun _ _ _ _ _ _ _ q => add_int q
theorem op_sub : OpR X (binaryOp .Sub) (rI0 fun i j => .int (i - j)) := opI0 fun _ _ _ _ _ _ _ q => sub_int q
theorem op_mul : OpR X (binaryOp .Mult) (rI CMul fun i j => .int (i * j)) := opI fun _ _ _ _ _ _ _ hc q => mul_int q hc.ok
/-- // by a positive divisor -/
theorem op_fdiv : OpR X (binaryOp .FloorDiv) (rI CDiv fun i j => .int (i / j)) := opI fun i j _ _ _ _ _ hc q => by
  have h1 : (0 : Int) < j := hc.1
  have h2 : j < 1073741824 := hc.2
  exact floordiv_int (by omega) (by rw [Int.fdiv_eq_ediv_of_nonneg i (by omega)]; exact q) (.inl (PyProof.noPylong_small (by omega)))
/-- % by a positive divisor of any size -/
theorem op_mod : OpR X (binaryOp .Mod) (rI (fun _ j => 0 < j) fun i j => .int (i % j)) := opI fun i j _ _ _ _ _ hc q => by
  have h1 : (0 : Int) < j := hc
  exact mod_int' (by omega) (by rw [Int.fmod_eq_emod_of_nonneg i (by omega)]; exact q)
theorem op_pow : OpR X (binaryOp .Pow) (rI CPow fun i j => .int (i ^ j.toNat)) := opI fun _ _ _ _ _ _ _ hc q => pow_int_small hc.1 hc.2.1 hc.2.2 q
theorem op_xor : OpR X (binaryOp .BitXor) (rI0 fun i j => .int (Builtin.bitXor i j)) := opI0 fun _ _ _ _ _ _ _ q => xor_int q

theorem unI {f : Value → Sem Value} {g : Int → Int}
    (rule : ∀ (i : Int) (t : Tok) (s : Shared) (Q : Value → Shared → Prop) (E : Value → Shared → Prop), Q (.int (g i) s.toks) { s with toks := s.toks + 1 } → wpAny (model X.prog X.w) X.A (f (.int i t)) Q E s) :
    UnR X f (rU fun i => .int (g i)) := by
  intro pins s σ H x v Q I rx h
  obtain ⟨i, rfl, q⟩ := h
  obtain ⟨t, rfl⟩ := rx
  exact rule i t s _ _ ⟨.int (g i), H, I.tok _, ⟨_, rfl⟩, q⟩
theorem un_neg : UnR X (unaryOp .USub) (rU fun i => .int (-i)) := unI fun _ _ _ _ _ q => neg_int q
/-! ### bools among ints: n += (a < b) -/
end

/-! ### comparisons -/
/-- the scalars that == tells apart as data does -/
def scal : V → V → Bool
  | .non, .non => true | .non, .int _ => true | .int _, .non => true | .non, .bl _ => true | .bl _, .non => true | .non, .str _ => true | .str _, .non => true
  | .int _, .int _ => true | .bl _, .bl _ => true | .str _, .str _ => true | .byt _, .byt _ => true
  | .int _, .str _ => true | .str _, .int _ => true | .bl _, .str _ => true | .str _, .bl _ => true
  | _, _ => false
def rEq : R2 := fun x y H Q => scal x y = true ∧ Q (.bl (decide (x = y))) H
theorem dec_int {i j : Int} : decide (V.int i = V.int j) = (i == j) := by
  rw [Bool.eq_iff_iff]
  simp
theorem dec_bl {i j : Bool} : decide (V.bl i = V.bl j) = (i == j) := by
  rw [Bool.eq_iff_iff]
  simp
theorem dec_str {i j : Str} : decide (V.str i = V.str j) = (i == j) := by
  rw [Bool.eq_iff_iff]
  simp
theorem dec_byt {i j : Array UInt8} : decide (V.byt i = V.byt j) = (i.toList == j.toList) := by
  rw [Bool.eq_iff_iff]
  cases i
  cases j
  simp

section
variable {X : Cx} {a b c : Expr} {ta tb tc : TE} {pos : Pos}
theorem fin_bl {pins : List (Addr × Obj)} {σ : St} {H : Hp} {s : Shared} {Q : VK} {k k' : Bool} (I : Inv X pins σ H s) (q : Q (.bl k) H) (e : k = k') : EP X pins σ Q (.bool k') s := by
  subst e
  exact ⟨.bl k, H, I, rfl, q⟩
theorem op_eq : OpR X (compareOp .Eq) rEq := by
  intro pins s σ H x y v u Q I rx ry h
  obtain ⟨hs, q⟩ := h
  cases x with
  | non =>
    cases rx
    cases y with
    | non => cases ry; exact PySem.EqNone.eq_none_none (fin_bl I q (by simp))
    | bl j => cases ry; exact PySem.EqNone.eq_none_bool (fin_bl I q (by simp))
    | int j => obtain ⟨t', rfl⟩ := ry; exact PySem.EqNone.eq_none_int (fin_bl I q (by simp))
    | str j => obtain ⟨t', rfl⟩ := ry; exact PySem.EqNone.eq_none_str (fin_bl I q (by simp))
    | _ => exact absurd (show false = true from hs) Bool.false_ne_true
  | bl i =>
    cases rx
    cases y with
    | non => cases ry; exact PySem.EqNone.eq_bool_none (fin_bl I q (by simp))
    | bl j => cases ry; exact eq_bool (fin_bl I q dec_bl)
    | str j => obtain ⟨t', rfl⟩ := ry; exact PySem.EqMixed.eq_bool_str (fin_bl I q (by simp))
    | _ => exact absurd (show false = true from hs) Bool.false_ne_true
  | int i =>
    obtain ⟨t, rfl⟩ := rx
    cases y with
    | non => cases ry; exact PySem.EqNone.eq_int_none (fin_bl I q (by simp))
    | int j => obtain ⟨t', rfl⟩ := ry; exact eq_int (fin_bl I q dec_int)
    | str j => obtain ⟨t', rfl⟩ := ry; exact PySem.EqMixed.eq_int_str (fin_bl I q (by simp))
    | _ => exact absurd (show false = true from hs) Bool.false_ne_true
  | str i =>
    obtain ⟨t, rfl⟩ := rx
    cases y with
    | non => cases ry; exact PySem.EqNone.eq_str_none (fin_bl I q (by simp))
    | bl j => cases ry; exact PySem.EqMixed.eq_str_bool (fin_bl I q (by simp))
    | int j => obtain ⟨t', rfl⟩ := ry; exact PySem.EqMixed.eq_str_int (fin_bl I q (by simp))
    | str j => obtain ⟨t', rfl⟩ := ry; exact eq_str (fin_bl I q dec_str)
    | _ => exact absurd (show false = true from hs) Bool.false_ne_true
  | byt i =>
    obtain ⟨t, rfl⟩ := rx
    cases y with
    | byt j => obtain ⟨t', rfl⟩ := ry; exact PySem.W.eq_bytes (fin_bl I q dec_byt)
    | _ => exact absurd (show false = true from hs) Bool.false_ne_true
  | _ => cases y <;> exact absurd (show false = true from hs) Bool.false_ne_true
theorem op_lt : OpR X (compareOp .Lt) (rI0 fun i j => .bl (decide (i < j))) := opB0 fun _ _ _ _ _ _ _ q => lt_int q
theorem op_le : OpR X (compareOp .LtE) (rI0 fun i j => .bl (decide (i ≤ j))) := opB0 fun _ _ _ _ _ _ _ q => le_int q
theorem nomark (b : Expr) {op : CmpOp} (h : op ≠ .In := by decide) (h2 : op ≠ .NotIn := by decide) : behindInMarks op b = false := by
  have e1 : (op == CmpOp.In) = false := by cases op <;> first | rfl | exact absurd rfl h
  have e2 : (op == CmpOp.NotIn) = false := by cases op <;> first | rfl | exact absurd rfl h2
  cases b <;> simp [behindInMarks, e1, e2]
/-- a comparison as a value; hm: nomark b, or (for in, not in) by with_unfolding_all rfl -/
theorem pe_cmpR {op : CmpOp} {r : R2} (ho : OpR X (compareOp op) r) (ha : PE X a ta) (hb : PE X b tb) (hm : behindInMarks op b = false) : PE X (.Compare a [op] [b] pos) (tOp r ta tb) := by
  intro pins s σ H Q I h
  exact wpAny_Compare1 (binT ha hb I h fun v u s2 x y H2 I2 rx ry q => ho pins s2 σ H2 x y v u Q I2 rx ry q) hm
/-- a reading of a value as a test -/
def tTest (t : TE) : TT := fun σ H Q => t σ H fun x H' => ∃ k, x = .bl k ∧ Q k H'
theorem pt_cmpR {op : CmpOp} {r : R2} (ho : OpR X (compareOp op) r) (ha : PE X a ta) (hb : PE X b tb) (hm : behindInMarks op b = false) : PT X (.Compare a [op] [b] pos) (tTest (tOp r ta tb)) := by
  intro pins s σ H Q I h
  refine wpAny_isTrue_Compare1 (thn (ha pins s σ H _ I h) fun v s1 ⟨x, H1, I1, r1, q1⟩ => thn (hb pins s1 σ H1 _ I1 q1) fun u s2 ⟨y, H2, I2, r2, q2⟩ =>
    thn (ho pins s2 σ H2 x y v u _ I2 r1 r2 q2) fun c s3 ⟨z, H3, I3, r3, k, e, q3⟩ => ?_) hm
  subst e
  cases r3
  exact wpAny_truthy_bool ⟨H3, I3, q3⟩
/-- a op1 b op2 c -/
def tChain (r r' : R2) (ta tb tc : TE) : TE := fun σ H Q => ta σ H fun x H1 => tb σ H1 fun y H2 => r x y H2 fun z H3 => ∃ k, z = .bl k ∧
  (if k = true then tc σ H3 fun w' H4 => r' y w' H4 Q else Q (.bl false) H3)
theorem pe_chain {op op' : CmpOp} {r r' : R2} (ho : OpR X (compareOp op) r) (ho' : OpR X (compareOp op') r') (ha : PE X a ta) (hb : PE X b tb) (hc : PE X c tc)
    (hm : lastMarks [op, op'] [b, c] = false := by with_unfolding_all rfl) : PE X (.Compare a [op, op'] [b, c] pos) (tChain r r' ta tb tc) := by
  intro pins s σ H Q I h
  refine Compare_chain (thn (ha pins s σ H _ I h) fun v s1 ⟨x, H1, I1, r1, q1⟩ => chain_link (thn (hb pins s1 σ H1 _ I1 q1) fun u s2 ⟨y, H2, I2, r2, q2⟩ =>
    thn (ho pins s2 σ H2 x y v u _ I2 r1 r2 q2) fun d s3 ⟨z, H3, I3, r3, k, e, q3⟩ => ?_)) hm
  subst e
  cases r3
  refine wpAny_truthy_bool ?_
  cases k with
  | false => exact ite_ff ⟨.bl false, H3, I3, rfl, q3⟩
  | true => exact ite_tt (chain_last (thn (hc pins s3 σ H3 _ I3 q3) fun w' s4 ⟨z', H4, I4, r4, q4⟩ => ho' pins s4 σ H4 y z' u w' Q I4 r2 r4 q4))
/-! ### truth -/
/-- a value's truth by the abstract heap -/
def TruV (K : PySem.W.Frag) (x : V) (H : Hp) (k : Bool) : Prop :=
  match x with
  | .non => k = false
  | .bl b => k = b
  | .int i => k = (i != 0)
  | .str y => y.length ≤ sizeLine ∧ k = ((y.length : Int) != 0)
  | .byt y => y.size ≤ sizeLine ∧ k = ((y.size : Int) != 0)
  | .ref p => (∃ xs, SqL K H p xs ∧ k = !xs.isEmpty) ∨ (∃ xs, SqT K H p xs ∧ k = !xs.isEmpty) ∨ ∃ kvs, H p = some (.dK kvs) ∧ k = !kvs.isEmpty
  | _ => False
theorem isEmpty_kv {κ : Type} {kvs : List (κ × V)} {vs : List (κ × Value)} (r : KV kvs vs) : (!vs.isEmpty) = !kvs.isEmpty := by
  cases r <;> rfl
theorem isEmpty_of {xs : List V} {its : List Value} (r : Vals xs its) : (!its.toArray.isEmpty) = !xs.isEmpty := by
  cases r <;> simp
theorem line63 : (sizeLine : Nat) < 2 ^ 63 := by rw [sizeLine_eq]; decide
theorem tru_ok : TruR X (fun x H Q => ∃ k, TruV X.K x H k ∧ Q k H) := by
  intro pins s σ H x v Q I rx h
  obtain ⟨k, e, q⟩ := h
  have hl := line63
  have hs : sizeLine = 16777216 := sizeLine_eq
  cases x with
  | non =>
    cases rx
    have e' : k = false := e
    subst e'
    exact truthy_none ⟨H, I, q⟩
  | bl b =>
    cases rx
    have e' : k = b := e
    subst e'
    exact wpAny_truthy_bool ⟨H, I, q⟩
  | int i =>
    obtain ⟨t, rfl⟩ := rx
    have e' : k = (i != 0) := e
    subst e'
    exact PySem.P.truthy_int ⟨H, I, q⟩
  | str y =>
    obtain ⟨t, rfl⟩ := rx
    obtain ⟨hy, e'⟩ : y.length ≤ sizeLine ∧ k = ((y.length : Int) != 0) := e
    subst e'
    exact PySem.P.truthy_str (by omega) ⟨H, I.tok _, q⟩
  | byt y =>
    obtain ⟨t, rfl⟩ := rx
    obtain ⟨hy, e'⟩ : y.size ≤ sizeLine ∧ k = ((y.size : Int) != 0) := e
    subst e'
    exact PySem.W.truthy_bytes (by omega) ⟨H, I.tok _, q⟩
  | ref p =>
    cases rx
    have e' : (∃ xs, SqL X.K H p xs ∧ k = !xs.isEmpty) ∨ (∃ xs, SqT X.K H p xs ∧ k = !xs.isEmpty) ∨ ∃ kvs, H p = some (.dK kvs) ∧ k = !kvs.isEmpty := e
    rcases e' with ⟨xs, hx, e'⟩ | ⟨xs, hx, e'⟩ | ⟨kvs, hx, e'⟩
    · subst e'
      obtain ⟨its, r, pl, hz⟩ := I.list hx
      have hlen := r.length
      exact wpAny_truthy_list pl.isList (by simp only [List.size_toArray]; omega) ⟨H, I.tok _, by rw [isEmpty_of r]; exact q⟩
    · subst e'
      obtain ⟨its, r, pl, hz⟩ := I.tuple hx
      have hlen := r.length
      exact truthy_tuple pl (by simp only [List.size_toArray]; omega) ⟨H, I.tok _, by rw [isEmpty_of r]; exact q⟩
    · subst e'
      obtain ⟨hz, hS, vs, r, m⟩ : kvs.length ≤ sizeLine ∧ (p == sysModules) = false ∧ ∃ vs, KV kvs vs ∧ s.heap.DictOf (mixKind X.prog X.w) p vs := I.hok p _ hx
      have hlen : kvs.length = vs.length := Paired.length r
      exact wpAny_truthy_dict hS m (by omega) ⟨H, I.tok _, by rw [isEmpty_kv r]; exact q⟩
  | _ => exact (show False from e).elim
/-- any expression whose test is its value's truth (a name, a call, a subscript, a field ..: he by fun _ => rfl) -/
theorem pt_truth (ha : PE X a ta) (he : ∀ whole, isTrue a X.env whole = (do let v ← whole; standAt a.pos; holding [v] (truthy v))) :
    PT X a (fun σ H Q => ta σ H fun x H' => ∃ k, TruV X.K x H' k ∧ Q k H') := by
  intro pins s σ H Q I h
  exact isTrue_plain (thn (ha pins s σ H _ I h) fun v s1 ⟨x, H1, I1, r1, q1⟩ => tru_ok pins s1 σ H1 x v Q I1 r1 q1) (he _)

/-! ### strs and bytes -/
/-! ### scalar builtins, by CallR -/
theorem vals1 {x : V} {us : List Value} (r : Vals [x] us) : ∃ u, us = [u] ∧ RelV x u := by
  cases r with
  | cons r1 r2 => cases r2; exact ⟨_, rfl, r1⟩
theorem vals2 {x y : V} {us : List Value} (r : Vals [x, y] us) : ∃ u w', us = [u, w'] ∧ RelV x u ∧ RelV y w' := by
  cases r with
  | cons r1 r2 =>
    cases r2 with
    | cons r3 r4 => cases r4; exact ⟨_, _, rfl, r1, r3⟩
theorem call_max2 (hc : X.calm = true) : CallR X (.builtin "max") (fun xs H Q => ∃ i j, xs = [.int i, .int j] ∧ Q (.int (if j > i then j else i)) H) := by
  intro pins s σ H xs us Q I r h
  obtain ⟨i, j, rfl, q⟩ := h
  obtain ⟨u, w', rfl, ⟨t, rfl⟩, ⟨t', rfl⟩⟩ := vals2 r
  refine max_two_ints (I.ok.hd hc) fun h' tk k => ⟨_, H, I.kept k, ?_, q⟩
  by_cases hj : j > i
  · rw [if_pos hj, if_pos hj]; exact ⟨_, rfl⟩
  · rw [if_neg hj, if_neg hj]; exact ⟨_, rfl⟩
theorem call_min2 (hc : X.calm = true) : CallR X (.builtin "min") (fun xs H Q => ∃ i j, xs = [.int i, .int j] ∧ Q (.int (if j < i then j else i)) H) := by
  intro pins s σ H xs us Q I r h
  obtain ⟨i, j, rfl, q⟩ := h
  obtain ⟨u, w', rfl, ⟨t, rfl⟩, ⟨t', rfl⟩⟩ := vals2 r
  refine min_two_ints (I.ok.hd hc) fun h' tk k => ⟨_, H, I.kept k, ?_, q⟩
  by_cases hj : j < i
  · rw [if_pos hj, if_pos hj]; exact ⟨_, rfl⟩
  · rw [if_neg hj, if_neg hj]; exact ⟨_, rfl⟩
theorem call_int1 : CallR X (.type "int") (fun xs H Q => (∃ i, xs = [.int i] ∧ Q (.int i) H) ∨ ∃ k, xs = [.bl k] ∧ Q (.int (if k then 1 else 0)) H) := by
  intro pins s σ H xs us Q I r h
  rcases h with ⟨i, rfl, q⟩ | ⟨k, rfl, q⟩
  · obtain ⟨u, rfl, t, rfl⟩ := vals1 r
    exact call_int_int ⟨.int i, H, I, ⟨_, rfl⟩, q⟩
  · obtain ⟨u, rfl, r1⟩ := vals1 r
    cases r1
    exact call_int_bool ⟨.int (if k then 1 else 0), H, I.tok _, ⟨_, rfl⟩, q⟩
end
end L2

namespace L2
open PySem PySem.Spec PyProof.Rows

/-! ### an instance, its attributes a map -/
structure ObjM (h : Heap) (x dx C : Addr) (mA : Str → Option Value) : Prop where
  obj : h.get? x = some (PySem.W.instObj C dx)
  ns : h.Ns1 dx mA
  ne : dx ≠ x

section
variable {prog : Program} {w : World} {A : Around} {E : Value → Shared → Prop} {s : Shared} {K : PySem.W.Frag} {x dx C f : Addr} {mA : Str → Option Value} {name : Str} {v : Value}

end

/-! ### the attributes as a list of pairs -/
section
variable {P : Program} {w : World} {H H' : Hp} {h h' : Heap} {a C dx : Addr} {fs fs' : List (Str × V)}
end

/-! ### what of the text a class must have -/
structure Cls (K : PySem.W.Frag) (C : Addr) : Prop where
  pg : PySem.W.plainGet K C Str.empty = true
  hd : PySem.W.hasDictIn K C = true
  po : PySem.W.plainOver K C = true
  sa : PySem.W.findIn K (.ref C) "__setattr__" = some (some (.builtin "object.__setattr__"))
/-- a constant of the class -/
structure Con (K : PySem.W.Frag) (C : Addr) (f : Str) (v : V) (u : Value) : Prop where
  at_ : PySem.W.findIn K (.ref C) f = some (some u)
  rel : RelV v u
  get : PySem.W.specialIn K u "__get__" = some none
  cp : PySem.W.copiedNames.contains f = false
/-- a method: a plain def of the class or of one above it -/
structure Meth (K : PySem.W.Frag) (C : Addr) (m : Str) (f : Addr) : Prop where
  at_ : PySem.W.findIn K (.ref C) m = some (some (.ref f))
  fn : PySem.W.isFn K (.ref f) = true
  kp : PySem.W.keepIn K (.ref f) = true

section
variable {X : Cx} {pins : List (Addr × Obj)} {σ : St} {H : Hp} {s : Shared} {a C dx : Addr} {fs : List (Str × V)} {f : Str} {v : V} {A : Around} {E : Value → Shared → Prop}

end

/-! ### readings and rules -/
section
variable {X : Cx} {o e value : Expr} {f : Str} {pos pos' tpos : Pos} {ta tv : TE}
end

/-! ### isinstance -/
section
variable {X : Cx} {pins : List (Addr × Obj)} {σ : St} {H : Hp} {s : Shared} {A : Around} {E : Value → Shared → Prop} {Q : Value → Shared → Prop} {c : Value} {b : Bool}
/-- the type of a value, as the fragment's deciders take it; for an instance its class -/
inductive TyOf (K : PySem.W.Frag) (H : Hp) : V → Value → Prop where
  | non : TyOf K H .non (.type "NoneType")
  | bl (x : Bool) : TyOf K H (.bl x) (.type "bool")
  | int (i : Int) : TyOf K H (.int i) (.type "int")
  | str (x : Str) : TyOf K H (.str x) (.type "str")
  | flt (x : UInt64) : TyOf K H (.flt x) (.type "float")
  | lst {a : Addr} {xs : List V} (e : H a = some (.lst xs)) : TyOf K H (.ref a) (.type "list")
  | frz {a : Addr} {o : Obj} {xs : List V} (e : H a = some (.frz o (.lst xs))) : TyOf K H (.ref a) (.type "list")
  | tup {a : Addr} {xs : List V} (e : H a = some (.tup xs)) : TyOf K H (.ref a) (.type "tuple")
  | dK {a : Addr} {kvs : List (Key × V)} (e : H a = some (.dK kvs)) : TyOf K H (.ref a) (.type "dict")
  | dT {a : Addr} {kvs : List (List Key × V)} (e : H a = some (.dT kvs)) : TyOf K H (.ref a) (.type "dict")
  | ins {a C dx : Addr} {fs : List (Str × V)} (e : H a = some (.ins C dx fs)) (cl : Cls K C) (ha : PySem.W.findIn K (.ref C) "__class__" = some (some (.builtin "object.__class__")))
      (hn : PySem.W.specialIn K (.builtin "object.__class__") "__get__" = some (some (.builtin "getset_descriptor.__get__"))) (htk : PySem.W.takesIn K (.builtin "object.__class__") = some true)
      (hm : PySem.W.mroIn K C (.type "object") = some true) : TyOf K H (.ref a) (.ref C)
end
end L2

namespace L2
open PySem PySem.Spec PyProof.Rows

/-! ### room -/
structure Room (k : Nat) (A : Around) : Prop where
  hd : A.handled = none
  dp : A.depth + 3 * k + 5 < recursionLimit
  un : A.units + 16 * k + 200 < cLine
theorem Room.mono {j k : Nat} {A : Around} (r : Room k A) (h : j ≤ k) : Room j A := ⟨r.hd, by have := r.dp; omega, by have := r.un; omega⟩
theorem Room.deeper {k : Nat} {A : Around} (r : Room (k + 1) A) (env : Env) : Room k (A.deeper env) :=
  ⟨r.hd, by have := r.dp; show A.depth + 1 + 3 * k + 5 < _; omega, by have := r.un; show A.units + 3 + 16 * k + 200 < _; omega⟩
theorem Room.depth {k : Nat} {A : Around} (r : Room k A) : A.depth < recursionLimit := by have := r.dp; omega
theorem Room.units {k : Nat} {A : Around} (r : Room k A) : A.units + 64 < cLine := by have := r.un; omega
/-! ### argument lists and displays -/
def tNil : TA := fun _ H Q => Q [] H
def tCons (ta : TE) (tr : TA) : TA := fun σ H Q => ta σ H fun x H1 => tr σ H1 fun xs H2 => Q (x :: xs) H2
section
variable {X : Cx} {e : Expr} {es : List Expr} {te : TE} {t : TA} {pos : Pos}
theorem pa_nil : PA X [] tNil := fun _ _ _ _ H Q I h => Calls.spliced_nil ⟨[], H, I, .nil, h⟩
theorem pa_cons (ha : PE X e te) (hr : PA X es t) (hs : starEach (e :: es) X.env = (false, eval e X.env) :: starEach es X.env := by rfl) : PA X (e :: es) (tCons te t) := by
  intro pos pins s σ H Q I h
  rw [hs]
  show wpAny _ _ (spliced ((false, eval e X.env) :: backTo pos (starEach es X.env))) _ _ s
  refine Calls.spliced_cons (thn (ha pins s σ H _ I h) fun u s1 ⟨x, H1, I1, r1, q1⟩ => ?_)
  exact thn (hr pos pins s1 σ H1 _ I1 q1) fun us s2 ⟨xs, H2, I2, r2, q2⟩ => ⟨x :: xs, H2, I2, .cons r1 r2, q2⟩

/-- a tuple, a list of written items -/
def tTup (t : TA) : TE := fun σ H Q => t σ H fun xs H1 => xs.length ≤ sizeLine ∧ ∀ p, H1 p = none → Q (.ref p) (upd H1 p (.tup xs))
def tLst (t : TA) : TE := fun σ H Q => t σ H fun xs H1 => xs.length ≤ sizeLine ∧ ∀ p, H1 p = none → Q (.ref p) (upd H1 p (.lst xs))
theorem pe_tup {x1} (h : PA X es t) : PE X (.Tuple es x1 pos) (tTup t) := by
  intro pins s σ H Q I hq
  refine wpAny_Tuple_spliced (thn (h pos pins s σ H _ I hq) fun us s1 ⟨xs, H1, I1, r, z, q⟩ => ⟨by rw [← r.length]; exact z, ?_⟩)
  have hf : H1 s1.heap.objs.size = none := I1.hok.fresh (Nat.le_refl _)
  refine ⟨.ref s1.heap.objs.size, upd H1 s1.heap.objs.size (.tup xs), I1.laid (t' := s1.toks) (fun b u e => Heap.get?_push_of_some _ e) (Nat.le_refl _) ?_, rfl, q _ hf⟩
  exact ⟨z, us, r, ⟨_, Heap.get?_push_size _ rfl, rfl, _, rfl⟩⟩
theorem pe_lst (h : PA X es t) : PE X (.List es pos) (tLst t) := by
  intro pins s σ H Q I hq
  refine wpAny_List_spliced (thn (h pos pins s σ H _ I hq) fun us s1 ⟨xs, H1, I1, r, z, q⟩ => ⟨by rw [← r.length]; exact z, ?_⟩)
  have hf : H1 s1.heap.objs.size = none := I1.hok.fresh (Nat.le_refl _)
  refine ⟨.ref s1.heap.objs.size, upd H1 s1.heap.objs.size (.lst xs), I1.laid (t' := s1.toks) (fun b u e => Heap.get?_push_of_some _ e) (Nat.le_refl _) ?_, rfl, q _ hf⟩
  exact ⟨z, us, 0, r, Heap.get?_push_size _ rfl⟩
end

/-! ### what a def promises -/
/-- a def's promise: the bound arguments in the parameters' order, the heap, the wanted end, the wanted exception -/
abbrev Sp := List V → Hp → VK → XK → Prop
/-- how an exception lies behind a call (file 08 gives it): the callers' frames, abstract heap and state ahead of the call, the wish, the exception, the state -/
abbrev CXT := List Env → Hp → Shared → XK → Value → Shared → Prop

/-- the state at a call -/
structure Env0 (P : Program) (w : World) (K : PySem.W.Frag) (mg : Str → Option Value) (base : Heap) (A : Around) (outer : List Env) (s : Shared) (H : Hp) : Prop where
  frames : A.frames = some outer
  mod : Mod K mg base
  bs : ∀ b o, base.get? b = some o → s.heap.get? b = some o ∧ H b = none
  bsz : base.objs.size ≤ s.heap.objs.size
  funs : s.heap.FunFrames base outer
  frf : ∀ b ∈ frs outer, H b = none
  hok : HOk P w H s.heap
  bare : AllBare s.gens
/-- a call's end -/
def CE (outer : List Env) (P : Program) (w : World) (H : Hp) (s : Shared) (Q : VK) (u : Value) (s' : Shared) : Prop :=
  ∃ v H', s'.os = s.os ∧ AllBare s'.gens ∧ Un (frs outer) [] H H' s.heap s'.heap ∧ HOk P w H' s'.heap ∧ RelV v u ∧ Q v H'
def CR (CX : CXT) (outer : List Env) (P : Program) (w : World) (H : Hp) (s : Shared) (Q : VK) (E : XK) (r : Result) (s' : Shared) : Prop :=
  match r with
  | .ok (.ret u) => CE outer P w H s Q u s'
  | .ok _ => False
  | .error e => CX outer H s E e s'
structure FnOk (P : Program) (w : World) (K : PySem.W.Frag) (mg : Str → Option Value) (base : Heap) (CX : CXT) (k : Nat) (f : Addr) (fd : FuncData) (ps : List Str) (sp : Sp) : Prop where
  len : ∀ vs H Q E, sp vs H Q E → vs.length = ps.length
  run : ∀ (A : Around) (outer : List Env) (s : Shared) (H : Hp) (args : Args) (us : List Value) (vs : List V) (Q : VK) (E : XK), Room k A → Env0 P w K mg base A outer s H → BindsTo s fd args (ps.zip us) → Vals vs us → sp vs H Q E →
    codeAny (model P w) A (.call (.ref f) args) (CR CX outer P w H s Q E) s
section
variable {X : Cx} {pins : List (Addr × Obj)} {σ : St} {H : Hp} {s s' : Shared}
/-- from a body: what a callee wants -/
theorem Inv.env0 (I : Inv X pins σ H s) : Env0 X.prog X.w X.K X.mg X.base X.A X.stack s H :=
  ⟨I.ok.frames, I.ok.mod, I.bs, Nat.le_trans I.ok.bsz I.sz, I.stack, I.stkFree, I.hok, I.bare⟩
/-- behind a call -/
theorem Inv.after {Q : VK} {u : Value} (I : Inv X pins σ H s) (h : CE X.stack X.prog X.w H s Q u s') : EP X pins σ Q u s' := by
  obtain ⟨v, H', os, bare, un, hok, r, q⟩ := h
  obtain ⟨hh, g, d, t, os'⟩ := s'
  obtain rfl : os' = s.os := os
  exact ⟨v, H', I.call (h' := hh) (g' := g) (d' := d) (t' := t) (ch := []) un hok bare (fun b z => absurd z (by simp)), r, q⟩
end

/-! ### calls -/
/-- f(..): the written arguments, then the defaults dvs; E: what is wanted of an exception -/
def tCall (sp : Sp) (dvs : List V) (E : XK) (t : TA) : TE := fun σ H Q => t σ H fun vs H1 => sp (vs ++ dvs) H1 Q E
/-- how the parameters are bound: us the positional arguments, kw the keywords' values by name, ds the defaults that fill up -/
def Binds (K : PySem.W.Frag) (fd : FuncData) (ps : List Str) (ds : List Value) : Prop :=
  ∀ (s : Shared) (us : List Value), K.In s.heap → (us ++ ds).length = ps.length → BindsTo s fd ⟨us, []⟩ (ps.zip (us ++ ds))
/-- every parameter is given -/
theorem Binds.all {K : PySem.W.Frag} {fd : FuncData} {ps : List Str} (h : ∀ us : List Value, us.length = ps.length → bindArgs fd ⟨us, []⟩ = pure (ps.zip us)) : Binds K fd ps [] := fun s us _ hl => by
  rw [List.append_nil] at hl ⊢
  exact .of_eq (h us hl)

/-- an exception of a callee reaches what this body wants of exceptions -/
def Passes (CX : CXT) (X : Cx) (E : XK) : Prop := ∀ (pins : List (Addr × Obj)) (σ : St) (H : Hp) (s : Shared) (e : Value) (s' : Shared), Inv X pins σ H s → CX X.stack H s E e s' → X.xe e s'

section
variable {X : Cx} {CX : CXT} {k : Nat} {f C : Addr} {fd : FuncData} {ps : List Str} {sp : Sp} {dvs : List V} {ds : List Value} {E : XK} {x m : Str} {p pos apos : Pos} {e o : Expr} {es : List Expr} {ta : TE} {t : TA}

/-- the callee runs -/
theorem run_fn {pins : List (Addr × Obj)} {σ : St} {H : Hp} {s : Shared} {Q : VK} {us : List Value} {vs : List V} (F : FnOk X.prog X.w X.K X.mg X.base CX k f fd ps sp) (hr : Room k X.A) (hb : Binds X.K fd ps ds) (hd : Vals dvs ds) (hx : Passes CX X E)
    (I : Inv X pins σ H s) (r : Vals vs us) (h : sp (vs ++ dvs) H Q E) : wpAny (model X.prog X.w) X.A (call (.ref f) us) (EP X pins σ Q) X.xe s := by
  have r2 : Vals (vs ++ dvs) (us ++ ds) := r.append hd
  have hl : (us ++ ds).length = ps.length := by rw [← r2.length]; exact F.len _ _ _ _ h
  refine wpAny_call (codeAny_mono (F.run X.A X.stack s H ⟨us, []⟩ (us ++ ds) (vs ++ dvs) Q E hr I.env0 (hb s us I.kIn hl) r2 h) fun r s' hq => ?_)
  cases r with
  | error e => exact hx pins σ H s e s' I hq
  | ok fl =>
    cases fl with
    | ret u => exact I.after hq
    | next => exact False.elim hq
    | brk => exact False.elim hq
    | cont => exact False.elim hq

theorem pe_call (F : FnOk X.prog X.w X.K X.mg X.base CX k f fd ps sp) (hr : Room k X.A) (hg : Gl X x) (hm : X.mg x = some (.ref f)) (hk : PySem.W.keepIn X.K (.ref f) = true) (hb : Binds X.K fd ps ds) (hd : Vals dvs ds) (hx : Passes CX X E)
    (ha : PA X (e :: es) t) (hdb : (x == ("__debug__" : Str)) = false := by decide) (he : starEach (e :: es) X.env = (false, eval e X.env) :: starEach es X.env := by rfl) (hpl : (backTo pos (starEach es X.env)).any (·.1) = false := by rfl) :
    PE X (.Call (.Name x p) (e :: es) [] pos) (tCall sp dvs E t) := by
  intro pins s σ H Q I h
  refine wpAny_Call_Name_kw (ld_glob I hg hm ?_ hdb)
  refine PySem.W.callWith_K (h₀ := X.base) I.ok.mod.kin hk (thn (ha pos pins s σ H _ I h) fun us s1 ⟨vs, H1, I1, r, q⟩ => ⟨I1.kIn, ?_⟩) he hpl
  exact run_fn F hr hb hd hx I1 r q
/-- what a class must have to be made -/
structure Mk (K : PySem.W.Frag) (C f : Addr) : Prop where
  makes : PySem.W.makesIn K C = true
  init : PySem.W.findIn K (.ref C) "__init__" = some (some (.ref f))
  fn : PySem.W.isFn K (.ref f) = true
  kp : PySem.W.keepIn K (.ref C) = true

end

/-! ### keywords -/
section
variable {X : Cx} {CX : CXT} {k : Nat} {f C : Addr} {fd : FuncData} {ps ks : List Str} {sp : Sp} {E : XK} {x m : Str} {p pos apos kpos : Pos} {e o : Expr} {es : List Expr} {kws : List Keyword} {te ta : TE} {t tk : TA} {nm : Option Str}
/-- how a call with keywords binds: g puts the positional values us and the keywords' values ws (names ks) in the parameters' order, defaults among them -/
structure KBinds (K : PySem.W.Frag) (fd : FuncData) (ps ks : List Str) (g : List Value → List Value → List Value) (gV : List V → List V → List V) : Prop where
  to : ∀ (s : Shared) (us ws : List Value), K.In s.heap → (g us ws).length = ps.length → BindsTo s fd ⟨us, ks.zip ws⟩ (ps.zip (g us ws))
  rel : ∀ {vs : List V} {us : List Value} {zs : List V} {ws : List Value}, Vals vs us → Vals zs ws → Vals (gV vs zs) (g us ws)
variable {g : List Value → List Value → List Value} {gV : List V → List V → List V}
end

/-! ### a def's body keeps its promise -/
/-- names: the parameters first -/
structure FnScope (N P : List Str) (sc : Scope) : Prop where
  kind : sc.kind = .function
  co : sc.isCoroutine = false
  gen : sc.isGenerator = false
  nd : N.Nodup
  pre : N.take P.length = P
  par : ∀ x ∈ P, sc.names.lookup x = some .local ∨ sc.names.lookup x = some .cell
  nofree : ∀ y ∈ sc.names, y.2 ≠ .free

theorem bindL_out {kindOf : Str → Option NameKind} {x : Str} : ∀ {binds : List (Str × Value)} {m : Str → Option Value}, (∀ v, (x, v) ∉ binds) → bindL kindOf binds m x = m x
  | [], _, _ => rfl
  | (n, v) :: r, m, h => by
    unfold bindL
    rw [bindL_out fun w hw => h w (List.mem_cons_of_mem _ hw)]
    split
    · have : x ≠ n := by rintro rfl; exact h v List.mem_cons_self
      simp [this]
    · rfl
theorem bindC_out {kindOf : Str → Option NameKind} {x : Str} : ∀ {binds : List (Str × Value)} {m : Str → Option Value}, (∀ v, (x, v) ∉ binds) → bindC kindOf binds m x = m x
  | [], _, _ => rfl
  | (n, v) :: r, m, h => by
    unfold bindC
    rw [bindC_out fun w hw => h w (List.mem_cons_of_mem _ hw)]
    split
    · rfl
    · have : x ≠ n := by rintro rfl; exact h v List.mem_cons_self
      simp [this]
theorem bindL_get {kindOf : Str → Option NameKind} {x : Str} {v : Value} : ∀ {P : List Str} {vs : List Value} {i : Nat} {m : Str → Option Value}, P.Nodup → P[i]? = some x → vs[i]? = some v → kindOf x = some .local →
    bindL kindOf (P.zip vs) m x = some v
  | [], _, _, _, _, h, _, _ => by simp at h
  | _ :: _, [], _, _, _, _, h, _ => by simp at h
  | p :: P, w :: vs, 0, m, nd, h1, h2, hk => by
    simp at h1 h2; subst h1; subst h2
    show bindL kindOf ((p, w) :: P.zip vs) m p = _
    unfold bindL
    rw [bindL_out fun v hv => (List.nodup_cons.mp nd).1 (List.of_mem_zip hv).1, if_pos hk]
    simp
  | p :: P, w :: vs, i + 1, m, nd, h1, h2, hk => by
    show bindL kindOf ((p, w) :: P.zip vs) m x = _
    unfold bindL
    exact bindL_get (i := i) (List.nodup_cons.mp nd).2 (by simpa using h1) (by simpa using h2) hk
theorem bindC_get {kindOf : Str → Option NameKind} {x : Str} {v : Value} : ∀ {P : List Str} {vs : List Value} {i : Nat} {m : Str → Option Value}, P.Nodup → P[i]? = some x → vs[i]? = some v → kindOf x ≠ some .local →
    bindC kindOf (P.zip vs) m x = some v
  | [], _, _, _, _, h, _, _ => by simp at h
  | _ :: _, [], _, _, _, _, h, _ => by simp at h
  | p :: P, w :: vs, 0, m, nd, h1, h2, hk => by
    simp at h1 h2; subst h1; subst h2
    show bindC kindOf ((p, w) :: P.zip vs) m p = _
    unfold bindC
    rw [bindC_out fun v hv => (List.nodup_cons.mp nd).1 (List.of_mem_zip hv).1, if_neg hk]
    simp
  | p :: P, w :: vs, i + 1, m, nd, h1, h2, hk => by
    show bindC kindOf ((p, w) :: P.zip vs) m x = _
    unfold bindC
    exact bindC_get (i := i) (List.nodup_cons.mp nd).2 (by simpa using h1) (by simpa using h2) hk

/-- the names' values at the entry -/
def start (N : List Str) (vs : List V) : St := vs.map some ++ List.replicate (N.length - vs.length) none

/-- the context of a def's body, at its entry; an exception leaves the frame, then lies as CX says -/
def cxOf (CX : CXT) (P : Program) (w : World) (K : PySem.W.Frag) (mg : Str → Option Value) (base : Heap) (N : List Str) (qual : Str) (scope : Scope) (f : Addr) (cd : Value) (A : Around) (outer : List Env) (s : Shared) (H : Hp) (E : XK) : Cx where
  prog := P
  w := w
  K := K
  mg := mg
  base := base
  A := A.deeper (envOfC qual scope s.heap.objs.size f cd)
  N := N
  s₀ := s
  H₀ := H
  env := envOfC qual scope s.heap.objs.size f cd
  outer := outer
  stack := envOfC qual scope s.heap.objs.size f cd :: outer
  ex := []
  calm := true
  fn := fun _ => true
  pn := []
  xe := fun e s' => wpAny (model P w) (A.deeper (envOfC qual scope s.heap.objs.size f cd)) (leaving (envOfC qual scope s.heap.objs.size f cd) e) (fun _ s'' => CX outer H s E e s'') (fun e' s'' => CX outer H s E e' s'') s'

theorem cell_has {sc : Scope} {n : Nat} {x : Str} (h : sc.names.lookup x = some .cell) : ∃ c, (cellsFrom n sc.names []).lookup x = some c := by
  have q := PySem.W.cellsFrom_some sc.names n [] (.inl h)
  exact Option.isSome_iff_exists.mp q

theorem inv_start {CX : CXT} {P : Program} {w : World} {K : PySem.W.Frag} {mg : Str → Option Value} {base : Heap} {N ps : List Str} {qual : Str} {scope : Scope} {f : Addr} {cd : Value} {A : Around} {outer : List Env} {s s1 : Shared} {H : Hp} {E : XK} {us : List Value} {vs : List V}
    (S : FnScope N ps scope) (hd : A.handled = none) (e0 : Env0 P w K mg base A outer s H) (hl : vs.length = ps.length) (r : Vals vs us)
    (x : InCallC s s.heap.objs.size (bindL (envOfC qual scope s.heap.objs.size f cd).kindOf (ps.zip us) fun _ => none) (cellsFrom (s.heap.objs.size + 1) scope.names []) (bindC (envOfC qual scope s.heap.objs.size f cd).kindOf (ps.zip us) fun _ => none) s1) :
    Inv (cxOf CX P w K mg base N qual scope f cd A outer s H E) [] (start N vs) H s1 := by
  have hpl : ps.length ≤ N.length := by have := congrArg List.length S.pre; rw [List.length_take] at this; omega
  obtain ⟨h1, tk, rfl, hk⟩ := x.done
  have noA : ∀ b : Addr, b ∉ (cxOf CX P w K mg base N qual scope f cd A outer s H E).ex := fun b z => absurd (show b ∈ ([] : List Addr) from z) (by simp)
  refine ⟨⟨e0.mod, S.kind, rfl, rfl, Nat.le_refl _, fun y z c h1 h2 => ?_, fun y hy => ?_, fun y c _ h => ?_, fun _ => hd, Around.frames_deeper e0.frames, .inr ⟨rfl, rfl⟩, fun b z => absurd z (noA b), e0.bs, e0.bsz, fun b _ _ => noA b, fun b z => absurd z (noA b), e0.funs, e0.frf⟩,
    rfl, e0.bare, Un.kept hk, ⟨_, x.toInCall.ns, fun i y v h1 h2 h3 => ?_⟩, fun y c h => ⟨_, x.cell y c h⟩, e0.hok.fresh (Nat.le_refl _), fun y c h => ?_, fun p hp => absurd (show p ∈ ([] : List (Addr × Obj)) from hp) (by simp), e0.hok.kept hk, ?_⟩
  · exact name_of_addr x.apart (PySem.mem_of_lookup h1) (PySem.mem_of_lookup h2)
  · have hy : scope.names.lookup y = some .cell ∨ scope.names.lookup y = some .free := hy
    rcases hy with hy | hy
    · exact cell_has hy
    · exact absurd rfl (S.nofree _ (PySem.mem_of_lookup hy))
  · exact Nat.le_of_lt (x.above y c (PySem.mem_of_lookup h))
  · have hi : i < vs.length := by
      unfold start at h2
      by_cases hi : i < vs.length
      · exact hi
      · rw [List.getElem?_append_right (by simpa using hi)] at h2
        rw [List.getElem?_replicate] at h2
        split at h2 <;> cases h2
    have ha : vs[i]? = some v := by
      unfold start at h2
      rw [List.getElem?_append_left (by simpa using hi), List.getElem?_map] at h2
      cases e : vs[i]? with
      | none => rw [e] at h2; cases h2
      | some a => rw [e] at h2; cases h2; rfl
    obtain ⟨u, hu, rv⟩ := r.get ha
    have hp : ps[i]? = some y := by
      rw [← S.pre, List.getElem?_take_of_lt (by omega)]; exact h1
    have ndP : ps.Nodup := by rw [← S.pre]; exact S.nd.sublist (List.take_sublist _ _)
    refine ⟨u, rv, ?_⟩
    rcases S.par y (List.mem_of_getElem? hp) with k | k
    · exact .inl ⟨k, bindL_get ndP hp hu k⟩
    · obtain ⟨c, e⟩ := cell_has (n := s.heap.objs.size + 1) k
      refine .inr ⟨.inl k, c, e, ?_⟩
      have q := x.cell y c e
      rw [bindC_get ndP hp hu (by show scope.names.lookup y ≠ _; rw [k]; decide)] at q
      exact q
  · exact e0.hok.fresh (Nat.le_of_lt (x.above y c (PySem.mem_of_lookup h)))
  · unfold start
    show _ = N.length
    rw [List.length_append, List.length_map, List.length_replicate]
    omega

/-- THE RULE: a def (or a method) of the text, by its body. The body's reading t is chosen for each entry; it is run at the parameters' values -/
theorem fn_of {CX : CXT} {P : Program} {w : World} {K : PySem.W.Frag} {mg : Str → Option Value} {base : Heap} {k : Nat} {f : Addr} {name qual : Str} {params : Arguments} {body : List Stmt} {scope : Scope} {dV kV doc pm cdv ct oc : Value} {an od : Option Addr}
    {osl : Array (Option Value)} {N ps : List Str} {sp : Sp} (lk : K.lookup f = some ⟨oc, od, .func (PySem.W.fnOf name qual params body scope dV kV doc pm an cdv ct), osl⟩) (hcd : PySem.W.codeIn K cdv qual = true) (S : FnScope N ps scope)
    (len : ∀ vs H Q E, sp vs H Q E → vs.length = ps.length)
    (hbody : ∀ (A : Around) (outer : List Env) (s : Shared) (H : Hp) (vs : List V) (Q : VK) (E : XK), Room k (A.deeper (envOfC qual scope s.heap.objs.size f cdv)) → sp vs H Q E →
      ∃ t, PSs (cxOf CX P w K mg base N qual scope f cdv A outer s H E) body t ∧ t { nx := fun _ H' => Q .non H', rt := Q } (start N vs) H) :
    FnOk P w K mg base CX (k + 1) f (PySem.W.fnOf name qual params body scope dV kV doc pm an cdv ct) ps sp := by
  refine ⟨len, fun A outer s H args us vs Q E hr e0 hb r hsp => ?_⟩
  have hl := len _ _ _ _ hsp
  have KX : K.In s.heap := e0.mod.kin.keeps fun b o e => (e0.bs b o e).1
  have lim : s.heap.NoLimit := e0.mod.nolimit.keeps fun b o e => (e0.bs b o e).1
  have hkind : ∀ y ∈ ps.zip us, scope.names.lookup y.1 = some .local ∨ (scope.names.lookup y.1 = some .cell ∧ ((cellsFrom (s.heap.objs.size + 1) scope.names []).lookup y.1).isSome = true) := fun ⟨n, v⟩ hy => by
    rcases S.par n (List.of_mem_zip hy).1 with q | q
    · exact .inl q
    · exact .inr ⟨q, PySem.W.cellsFrom_some _ _ _ (.inl q)⟩
  refine codeAny_call_function hr.depth (KX _ _ lk) rfl S.co S.gen rfl (PySem.W.codeRec_of KX hcd) (hb _ _ _ _ ?_)
  refine wpAny_newFunctionEnv_cells S.kind hkind fun env he s1 x => ?_
  subst he
  refine ⟨lim.keeps x.toInCall.keep, codeAny_func ?_⟩
  obtain ⟨t, ht, hq⟩ := hbody A outer s H vs Q E (hr.deeper _) hsp
  have I : Inv (cxOf CX P w K mg base N qual scope f cdv A outer s H E) [] (start N vs) H s1 := inv_start S hr.hd e0 hl r x
  refine wpAny_mono (ht [] s1 (start N vs) H _ I hq) (fun fl s' hs => ?_) fun e s' hs => hs
  have fin : ∀ {σ' : St} {H' : Hp} {v : V} {u : Value}, Inv (cxOf CX P w K mg base N qual scope f cdv A outer s H E) [] σ' H' s' → RelV v u → Q v H' → CE outer P w H s Q u s' :=
    fun {σ' H' v u} J rv q => ⟨v, H', J.os, J.bare, J.base, J.hok, rv, q⟩
  cases fl with
  | ret u =>
    obtain ⟨v, σ', H', J, rv, q⟩ := hs
    exact fin J rv q
  | next =>
    obtain ⟨σ', H', J, q⟩ := hs
    exact fin (v := V.non) (u := Value.none) J rfl q
  | brk =>
    obtain ⟨_, _, _, q⟩ := hs
    exact False.elim q
  | cont =>
    obtain ⟨_, _, _, q⟩ := hs
    exact False.elim q
end L2

namespace L2
open PySem PySem.Spec PyProof.Rows
section
variable {X : Cx} {x : Str} {p pos : Pos} {e : Expr} {es : List Expr} {t : TA} {id T : String} {r : List V → Hp → VK → Prop}

def tCB (r : List V → Hp → VK → Prop) (t : TA) : TE := fun σ H Q => t σ H fun vs H1 => r vs H1 Q
/-- f(e, ..), f a built-in function -/
theorem pe_callB (hc : CallR X (.builtin id) r) (hg : Gl X x) (hm : X.mg x = none) (hv : bootBuiltins x = some (.builtin id)) (ha : PA X (e :: es) t) (hn : x ≠ "__name__" := by decide) (hdb : (x == ("__debug__" : Str)) = false := by decide)
    (he : starEach (e :: es) X.env = (false, eval e X.env) :: starEach es X.env := by rfl) (hpl : (backTo pos (starEach es X.env)).any (·.1) = false := by rfl) : PE X (.Call (.Name x p) (e :: es) [] pos) (tCB r t) := by
  intro pins s σ H Q I h
  refine wpAny_Call_Name_kw (ld_blt I hg hm hv ?_ hn hdb)
  exact PyProof.Rows.callWith_builtin1 (thn (ha pos pins s σ H _ I h) fun us s1 ⟨vs, H1, I1, r1, q1⟩ => hc pins s1 σ H1 vs us Q I1 r1 q1) he hpl
/-- T(e, ..), T a built-in type -/
theorem pe_callTy (hc : CallR X (.type T) r) (hg : Gl X x) (hm : X.mg x = none) (hv : bootBuiltins x = some (.type T)) (ha : PA X (e :: es) t) (hn : x ≠ "__name__" := by decide) (hdb : (x == ("__debug__" : Str)) = false := by decide)
    (he : starEach (e :: es) X.env = (false, eval e X.env) :: starEach es X.env := by rfl) (hpl : (backTo pos (starEach es X.env)).any (·.1) = false := by rfl) : PE X (.Call (.Name x p) (e :: es) [] pos) (tCB r t) := by
  intro pins s σ H Q I h
  refine wpAny_Call_Name_kw (ld_blt I hg hm hv ?_ hn hdb)
  exact PyProof.Rows.callWith_type1 (thn (ha pos pins s σ H _ I h) fun us s1 ⟨vs, H1, I1, r1, q1⟩ => hc pins s1 σ H1 vs us Q I1 r1 q1) he hpl
end
end L2

namespace HT
open PySem PyProof.Rows

section
open PySem.SeqAt
open PySem.AutoSeq1 (wpAny_loadPart')
open PySem.MeetsSeq PySem.MeetsSeq2 PySem.MeetsSeq3

end

section
variable {prog : Program} {w : World} {A : Around} {E : Value → Shared → Prop} {s : Shared}

/-! ### t[a:b], not the whole -/
/-- a slice's bound as a place among n (d where it is left out) -/
def sIx (n d : Nat) : Option Int → Nat
  | none => d
  | some v => if v < 0 then (v + (n : Int)).toNat else min v.toNat n
theorem sIx_none (n d : Nat) : sIx n d none = d := rfl
theorem sIx_nat (n d k : Nat) : sIx n d (some (k : Int)) = min k n := by
  show (if (k : Int) < 0 then ((k : Int) + (n : Int)).toNat else min (k : Int).toNat n) = min k n
  rw [if_neg (by omega), Int.toNat_natCast]
theorem clip_eq (v : Int) (n d : Nat) : (if v < 0 then max (v + (n : Int)) 0 else min v (n : Int)) = ((sIx n d (some v) : Nat) : Int) := by
  show (if v < 0 then max (v + (n : Int)) 0 else min v (n : Int)) = (((if v < 0 then (v + (n : Int)).toNat else min v.toNat n) : Nat) : Int)
  by_cases hv : v < 0
  · simp only [if_pos hv]; omega
  · simp only [if_neg hv]; omega
end
end HT

namespace L2
open PySem PySem.Spec PyProof.Rows

/-! ### the parts of a slice -/
abbrev TO := St → Hp → (Option Int → Hp → Prop) → Prop
/-- a slice's part (left out, or an int) -/
def PO (X : Cx) (e : Option Expr) (t : TO) : Prop :=
  ∀ (pins : List (Addr × Obj)) (s : Shared) (σ : St) (H : Hp) (Q : Option Int → Hp → Prop), Inv X pins σ H s → t σ H Q →
    wpAny (model X.prog X.w) X.A (evalPart e X.env) (fun u s' => ∃ o H', Inv X pins σ H' s' ∧ IsPart u o ∧ Q o H') X.xe s
def tNoPart : TO := fun _ H Q => Q none H
def tPart (t : TE) : TO := fun σ H Q => t σ H fun x H1 => ∃ i, x = .int i ∧ Q (some i) H1

theorem intsAre_of {ns : List Int} : ∀ {us : List Value}, Vals (ns.map V.int) us → IntsAre us ns := by
  induction ns with
  | nil => intro us r; rw [List.map_nil] at r; cases r; exact .nil
  | cons n ns ih =>
    intro us r
    rw [List.map_cons] at r
    cases r with
    | cons r1 r2 =>
      obtain ⟨t, e⟩ := r1
      subst e
      exact .cons n t (ih r2)

section
variable {X : Cx} {e : Expr} {te : TE} {lo hi : Option Expr} {tl th : TO} {pos p2 : Pos}

theorem po_none : PO X none tNoPart := by
  intro pins s σ H Q I h
  rw [evalPart_none]
  exact wpAny_pure ⟨none, H, I, .none, h⟩
theorem po_some (h : PE X e te) : PO X (some e) (tPart te) := by
  intro pins s σ H Q I hw
  rw [evalPart_some]
  refine thn (h pins s σ H _ I hw) fun u s1 ⟨x, H1, I1, r1, q1⟩ => ?_
  obtain ⟨i, rfl, q⟩ := q1
  obtain ⟨t, rfl⟩ := r1
  exact ⟨some i, H1, I1, .int i t, q⟩

/-- what a slice of a value is, by values: the slice object stands at sl -/
def SlR (X : Cx) (r : V → Option Int → Option Int → Hp → VK → Prop) : Prop :=
  ∀ (pins : List (Addr × Obj)) (s : Shared) (σ : St) (H : Hp) (x : V) (v vl vu : Value) (lo hi : Option Int) (sl : Addr) (Q : VK), Inv X pins σ H s → RelV x v → s.heap.IsSliceOf sl vl vu .none → IsPart vl lo → IsPart vu hi → r x lo hi H Q →
    ∃ T id, typeLookup (.type T) "__getitem__" = pure (some (.builtin id)) ∧ s.TypeIs v T ∧ wpAny (model X.prog X.w) X.A (getItem v (.ref sl)) (EP X pins σ Q) X.xe s
def tSl (r : V → Option Int → Option Int → Hp → VK → Prop) (te : TE) (tl th : TO) : TE := fun σ H Q => te σ H fun x H1 => tl σ H1 fun l H2 => th σ H2 fun u H3 => r x l u H3 Q
/-- a[lo:hi], any a -/
theorem pe_slice {r : V → Option Int → Option Int → Hp → VK → Prop} (hr : SlR X r) (he : PE X e te) (hl : PO X lo tl) (hu : PO X hi th) : PE X (.Subscript e (.Slice lo hi none p2) pos) (tSl r te tl th) := by
  intro pins s σ H Q I h
  refine Subscript_ (thn (he pins s σ H _ I h) fun v s1 ⟨x, H1, I1, r1, q1⟩ => ?_)
  refine wpAny_Slice (thn (hl pins s1 σ H1 _ I1 q1) fun vl s2 ⟨l, H2, I2, pl, q2⟩ => thn (hu pins s2 σ H2 _ I2 q2) fun vu s3 ⟨u, H3, I3, pu, q3⟩ => ?_)
  rw [evalPart_none]
  refine wpAny_pure ?_
  have I4 : Inv X pins σ H3 { s3 with heap := s3.heap.push { cls := .type "slice", data := .fields #[vl, vu, .none] } } := I3.kept (t' := s3.toks) fun b ob q => Heap.get?_push_of_some _ q
  obtain ⟨T, id, hT, ht, hg⟩ := hr pins { s3 with heap := s3.heap.push { cls := .type "slice", data := .fields #[vl, vu, .none] } } σ H3 x v vl vu l u s3.heap.objs.size Q I4 r1 (Heap.IsSliceOf.new ..) pl pu q3
  show wpAny (model X.prog X.w) X.A (subscriptTail e (.Slice lo hi none p2) v (.ref s3.heap.objs.size)) (EP X pins σ Q) X.xe { s3 with heap := s3.heap.push { cls := .type "slice", data := .fields #[vl, vu, .none] } }
  exact tail_any (ops := [.ref s3.heap.objs.size, v]) ht hT hg (by with_unfolding_all rfl)

/-- the items of xs[lo:hi] -/
def cutV (xs : List V) (lo hi : Option Int) : List V := (xs.drop (HT.sIx xs.length 0 lo)).take (HT.sIx xs.length xs.length hi - HT.sIx xs.length 0 lo)
theorem cutV_length (xs : List V) (lo hi : Option Int) : (cutV xs lo hi).length ≤ xs.length := by
  unfold cutV
  rw [List.length_take, List.length_drop]
  omega
/-! ### t < u, t + u -/
end
end L2

namespace L2
open PySem PySem.Spec PyProof.Rows

/-! ### places -/
/-- the place that an index of any sign means -/
def ixN (n : Nat) (i : Int) : Option Nat := if 0 ≤ i then (if i < n then some i.toNat else none) else if -(n : Int) ≤ i then some (i + n).toNat else none
def atI {α : Type} (xs : List α) (i : Int) : Option α := (ixN xs.length i).bind fun j => xs[j]?
theorem ixN_seq {n : Nat} {i : Int} {j : Nat} (h : ixN n i = some j) : seqIndex? i n = some j ∧ j < n ∧ -(n : Int) ≤ i ∧ i < n := by
  unfold ixN at h
  by_cases h0 : 0 ≤ i
  · rw [if_pos h0] at h
    by_cases h1 : i < n
    · rw [if_pos h1] at h
      have e : i.toNat = j := Option.some.inj h
      exact ⟨by rw [seqIndex_of h0 h1, e], by omega, by omega, h1⟩
    · rw [if_neg h1] at h; cases h
  · rw [if_neg h0] at h
    by_cases h1 : -(n : Int) ≤ i
    · rw [if_pos h1] at h
      have e : (i + n).toNat = j := Option.some.inj h
      exact ⟨by rw [seqIndex_neg (by omega) h1, e], by omega, h1, by omega⟩
    · rw [if_neg h1] at h; cases h
theorem atI_get {α : Type} {xs : List α} {i : Int} {v : α} (h : atI xs i = some v) : ∃ j, seqIndex? i xs.length = some j ∧ xs[j]? = some v ∧ j < xs.length ∧ -(xs.length : Int) ≤ i ∧ i < xs.length := by
  unfold atI at h
  cases e : ixN xs.length i with
  | none => rw [e] at h; cases h
  | some j =>
    rw [e] at h
    obtain ⟨h1, h2, h3, h4⟩ := ixN_seq e
    exact ⟨j, h1, h, h2, h3, h4⟩
theorem atI_nat {α : Type} {xs : List α} {j : Nat} {v : α} (h : xs[j]? = some v) : atI xs (j : Int) = some v := by
  have hj : j < xs.length := (List.getElem?_eq_some_iff.mp h).1
  have e : ixN xs.length (j : Int) = some j := by
    unfold ixN
    rw [if_pos (by omega), if_pos (by omega)]; simp
  unfold atI; rw [e]; exact h
theorem atI_last {α : Type} (xs : List α) (v : α) : atI (xs ++ [v]) (-1) = some v := by
  have hl : (xs ++ [v]).length = xs.length + 1 := by simp
  have e : ixN (xs ++ [v]).length (-1) = some xs.length := by
    unfold ixN
    rw [hl, if_neg (by decide), if_pos (by omega)]
    congr 1
    omega
  unfold atI
  rw [e]
  show (xs ++ [v])[xs.length]? = some v
  simp

/-! ### what may be subscripted -/
/-- what stands as an index of a plain subscript -/
def PlainIx (b : Expr) : Prop := ∀ o i, subscripted b false o i = operate [o, i] (getItem o i)
/-- a subscript by values -/
def IxR (X : Cx) (r : R2) : Prop :=
  ∀ (value slice : Expr) (pins : List (Addr × Obj)) (s : Shared) (σ : St) (H : Hp) (x y : V) (v u : Value) (Q : VK), Inv X pins σ H s → RelV x v → RelV y u → r x y H Q →
    subscripted slice false v u = operate [v, u] (getItem v u) → wpAny (model X.prog X.w) X.A (subscriptTail value slice v u) (EP X pins σ Q) X.xe s
/-- a call of a builtin's method by values: the receiver, the arguments -/
def MtR (X : Cx) (id : String) (r : V → List V → Hp → VK → Prop) : Prop :=
  ∀ (pins : List (Addr × Obj)) (s : Shared) (σ : St) (H : Hp) (x : V) (xs : List V) (v : Value) (us : List Value) (Q : VK), Inv X pins σ H s → RelV x v → Vals xs us → r x xs H Q →
    wpAny (model X.prog X.w) X.A (call (.builtin id) (v :: us)) (EP X pins σ Q) X.xe s
section
variable {X : Cx} {a b : Expr} {ta tb : TE} {pos : Pos}
/-- a[b] -/
theorem pe_ix {r : R2} (hr : IxR X r) (ha : PE X a ta) (hb : PE X b tb) (hs : PlainIx b) : PE X (.Subscript a b pos) (tOp r ta tb) := by
  intro pins s σ H Q I h
  exact Subscript_ (binT ha hb I h fun v u s2 x y H2 I2 rx ry q => hr a b pins s2 σ H2 x y v u Q I2 rx ry q (hs _ _))

def rIxL (K : PySem.W.Frag) : R2 := fun x y H Q => ∃ p xs i v, x = .ref p ∧ y = .int i ∧ SqL K H p xs ∧ atI xs i = some v ∧ Q v H
def rIxT (K : PySem.W.Frag) : R2 := fun x y H Q => ∃ p xs i v, x = .ref p ∧ y = .int i ∧ SqT K H p xs ∧ atI xs i = some v ∧ Q v H
theorem ix_list : IxR X (rIxL X.K) := by
  intro value slice pins s σ H x y v u Q I rx ry h hs
  obtain ⟨p, xs, i, z, rfl, rfl, hq, he, q⟩ := h
  cases rx
  obtain ⟨t, rfl⟩ := ry
  obtain ⟨its, r, pl, hz⟩ := I.list hq
  obtain ⟨j, h1, h2, h3, h4, h5⟩ := atI_get he
  obtain ⟨w, ew, rw'⟩ := r.get h2
  have hl := r.length
  have hn := line63
  have fin : EP X pins σ Q w s := ⟨z, H, I, rw', q⟩
  by_cases h0 : 0 ≤ i
  · have hj : i.toNat = j := by
      rw [seqIndex_of h0 h5] at h1
      exact Option.some.inj h1
    exact item_listR pl.isList h0 (by omega) (by rw [hj]; simpa using ew) fin hs
  · have hj : (i + (its.toArray.size : Int)).toNat = j := by
      rw [seqIndex_neg (by omega) h4] at h1
      rw [List.size_toArray, ← hl]
      exact Option.some.inj h1
    exact subscriptTail_builtinR (x := w) pl.isList.typeIs slot_list_getitem.lookup
      (wpAny_getItem_list_neg (Q := fun r s' => r = w ∧ EP X pins σ Q r s') pl.isList (by omega) (by rw [List.size_toArray] <;> omega) (by omega) (by rw [hj]; simpa using ew) ⟨rfl, fin⟩) hs
theorem ix_tup : IxR X (rIxT X.K) := by
  intro value slice pins s σ H x y v u Q I rx ry h hs
  obtain ⟨p, xs, i, z, rfl, rfl, hq, he, q⟩ := h
  cases rx
  obtain ⟨t, rfl⟩ := ry
  obtain ⟨its, r, pl, hz⟩ := I.tuple hq
  obtain ⟨j, h1, h2, h3, h4, h5⟩ := atI_get he
  obtain ⟨w, ew, rw'⟩ := r.get h2
  have hl := r.length
  have hn := line63
  have fin : EP X pins σ Q w s := ⟨z, H, I, rw', q⟩
  exact subscriptTail_builtinR (x := w) pl.typeIs slot_tuple_getitem.lookup
    (getItem_tuple (j := j) (Q := fun r s' => r = w ∧ EP X pins σ Q r s') pl (by omega) (by omega) (by rw [List.size_toArray, ← hl]; exact h1) (by simpa using ew) ⟨rfl, fin⟩) hs
/-! ### xs[i] = v, any sign -/
/-! ### slices -/
theorem slice_bounds (lo hi : Option Int) (n : Nat) : (sliceBounds lo hi none n).1 = ((HT.sIx n 0 lo : Nat) : Int) ∧ (sliceBounds lo hi none n).2.1 = ((HT.sIx n n hi : Nat) : Int) ∧ (sliceBounds lo hi none n).2.2 = 1 := by
  refine ⟨?_, ?_, rfl⟩
  · cases lo with
    | none => simp [sliceBounds, HT.sIx]
    | some i =>
      simp only [sliceBounds, HT.sIx, Option.getD_none, show (1 : Int) > 0 by decide, if_true]
      by_cases h : i < 0
      · simp only [h, if_true] <;> omega
      · simp only [h, if_false] <;> omega
  · cases hi with
    | none => simp [sliceBounds, HT.sIx]
    | some i =>
      simp only [sliceBounds, HT.sIx, Option.getD_none, show (1 : Int) > 0 by decide, if_true]
      by_cases h : i < 0
      · simp only [h, if_true] <;> omega
      · simp only [h, if_false] <;> omega
theorem slicePick_cut (its : List Value) (lo hi : Option Int) : slicePick its.toArray lo hi none = ((its.drop (HT.sIx its.length 0 lo)).take (HT.sIx its.length its.length hi - HT.sIx its.length 0 lo)).toArray := by
  obtain ⟨h1, h2, h3⟩ := slice_bounds lo hi its.toArray.size
  unfold slicePick
  rw [h1, h2, h3]
  simp only [sliceRange_one, pick_run, List.size_toArray] <;> rfl
/-- xs[lo:hi] of a list: a new list -/
def rSlL (K : PySem.W.Frag) : V → Option Int → Option Int → Hp → VK → Prop := fun x lo hi H Q => ∃ a xs, x = .ref a ∧ SqL K H a xs ∧ ∀ p, H p = none → Q (.ref p) (upd H p (.lst (cutV xs lo hi)))
theorem sl_list : SlR X (rSlL X.K) := by
  intro pins s σ H x v vl vu lo hi sl Q I rx hs pl pu h
  obtain ⟨a, xs, rfl, hx, q⟩ := h
  cases rx
  obtain ⟨its, r, ht, hz⟩ := I.list hx
  have hlen := r.length
  refine ⟨"list", _, slot_list_getitem.lookup, ht.isList.typeIs, ?_⟩
  refine wpAny_getItem_list_slice ht.isList hs pl pu .none (by simp) ?_ (by rw [List.size_toArray] <;> omega)
  rw [slicePick_cut, ← hlen]
  refine ⟨.ref s.heap.objs.size, _, I.laid (t' := s.toks) (o := .lst (cutV xs lo hi)) (fun b ob q => Heap.get?_push_of_some _ q) (Nat.le_refl _) ?_, rfl, q _ (I.hok.fresh (Nat.le_refl _))⟩
  exact ⟨Nat.le_trans (cutV_length xs lo hi) hz, _, 0, (r.drop (HT.sIx xs.length 0 lo)).take (HT.sIx xs.length xs.length hi - HT.sIx xs.length 0 lo), Heap.get?_push_size _ rfl⟩

/-! ### in, not in: flat items -/
/-! ### len, list(x), tuple(x) of any list or tuple that is read -/
theorem call_len_seq : CallR X (.builtin "len") (fun xs H Q => ∃ p ys, xs = [.ref p] ∧ (SqL X.K H p ys ∨ SqT X.K H p ys) ∧ Q (.int ys.length) H) := by
  intro pins s σ H xs us Q I r h
  obtain ⟨p, ys, rfl, hq, q⟩ := h
  obtain ⟨u, rfl, rx⟩ := vals1 r
  cases rx
  have hn := line63
  rcases hq with hq | hq
  · obtain ⟨its, r', pl, hz⟩ := I.list hq
    have hlen := r'.length
    exact Calls.call_len_list pl.isList (by simp only [List.size_toArray] <;> omega) ⟨.int ys.length, H, I.tok _, ⟨s.toks + 1, by rw [List.size_toArray, hlen]⟩, q⟩
  · obtain ⟨its, r', pl, hz⟩ := I.tuple hq
    have hlen := r'.length
    exact len_tuple pl (by simp only [List.size_toArray] <;> omega) ⟨.int ys.length, H, I.tok _, ⟨s.toks + 1, by rw [List.size_toArray, hlen]⟩, q⟩
/-! ### the call of a builtin's method: o.m(..) -/
/-- the value is of that builtin type -/
def tyV (K : PySem.W.Frag) (T : String) (x : V) (H : Hp) : Prop := match x with
  | .str _ => T = "str"
  | .int _ => T = "int"
  | .ref p => (T = "list" ∧ ∃ xs, SqL K H p xs) ∨ (T = "tuple" ∧ ∃ o, K.lookup p = some o ∧ o.cls = .type "tuple" ∧ o.dict = none) ∨
      (T = "dict" ∧ ((∃ kvs, H p = some (.dK kvs)) ∨ ∃ kvs, H p = some (.dT kvs))) ∨ (T = "set" ∧ ∃ S n, H p = some (.set S n))
  | _ => False
theorem tyV_is {pins : List (Addr × Obj)} {σ : St} {H : Hp} {s : Shared} {T : String} {x : V} {v : Value} (I : Inv X pins σ H s) (r : RelV x v) (ty : tyV X.K T x H) :
    s.TypeIs v T ∧ ∀ a, v = .ref a → ∃ ob, s.heap.get? a = some ob ∧ ob.dict = none := by
  cases x with
  | str z =>
    obtain ⟨t, rfl⟩ := r
    cases (show T = "str" from ty)
    exact ⟨typeIs_str s z t, fun _ e => nomatch e⟩
  | int i =>
    obtain ⟨t, rfl⟩ := r
    cases (show T = "int" from ty)
    exact ⟨typeIs_int s i t, fun _ e => nomatch e⟩
  | ref p =>
    cases r
    rcases ty with ⟨rfl, xs, hq⟩ | ⟨rfl, o, hk, hc, hd⟩ | ⟨rfl, hk⟩ | ⟨rfl, S, n, hk⟩
    · obtain ⟨its, _, pl, _⟩ := I.list hq
      refine ⟨pl.isList.typeIs, fun a e => ?_⟩
      cases e
      obtain ⟨o, n, e, c, hd, _⟩ := pl
      exact ⟨o, e, hd⟩
    · refine ⟨⟨o, I.kIn p o hk, hc⟩, fun a e => ?_⟩
      cases e
      exact ⟨o, I.kIn _ o hk, hd⟩
    · have z : ∃ o, s.heap.get? p = some o ∧ o.ExactDict := by
        rcases hk with ⟨kvs, hk⟩ | ⟨kvs, hk⟩
        · obtain ⟨_, _, _, _, o, _, _, e, ex, _⟩ := I.hok p _ hk
          exact ⟨o, e, ex⟩
        · obtain ⟨_, _, _, _, o, _, _, e, ex, _⟩ := I.hok p _ hk
          exact ⟨o, e, ex⟩
      obtain ⟨o, e, ex⟩ := z
      refine ⟨⟨o, e, ex.1⟩, fun a e2 => ?_⟩
      cases e2
      exact ⟨o, e, ex.2.1⟩
    · obtain ⟨o, _, _, _, e, ex, _⟩ := I.hok p _ hk
      refine ⟨⟨o, e, ex.1⟩, fun a e2 => ?_⟩
      cases e2
      exact ⟨o, e, ex.2.1⟩
  | _ => exact False.elim ty
def tBM (K : PySem.W.Frag) (T : String) (r : V → List V → Hp → VK → Prop) (to : TE) (t : TA) : TE := fun σ H Q => to σ H fun x H1 => tyV K T x H1 ∧ t σ H1 fun xs H2 => r x xs H2 Q
variable {o e : Expr} {es : List Expr} {to : TE} {t : TA} {name : Str} {apos cpos : Pos} {T id : String} {r : V → List V → Hp → VK → Prop}
theorem pe_bm (pa : PlainAttrs T) (slot : Slot T name id) (hty : typeOf (.builtin id) = pure (.type "method_descriptor")) (hm : MtR X id r) (ho : PE X o to) (ha : PA X (e :: es) t)
    (hbase : attributeBase o name X.env (eval o X.env) = eval o X.env := by rfl)
    (hfew : ((backTo cpos (starEach (e :: es) X.env)).all (fun x => !x.1) && (backToKw cpos (keywordEach [] X.env)).all (fun x => x.1.isSome)
      && decide ((e :: es).length + ([] : List Keyword).length + (if ([] : List Keyword).isEmpty then 0 else 1) < 30)) = true := by rfl)
    (hline : (apos.endLine == cpos.line) = true := by rfl) (hs : starEach (e :: es) X.env = (false, eval e X.env) :: starEach es X.env := by rfl) (hplain : (backTo cpos (starEach es X.env)).any (·.1) = false := by rfl) :
    PE X (.Call (.Attribute o name apos) (e :: es) [] cpos) (tBM X.K T r to t) := by
  intro pins s σ H Q I h
  refine wpAny_Call_method_late hbase hfew hline rfl (thn (ho pins s σ H _ I h) fun v s1 ⟨x, H1, I1, r1, ty, q1⟩ => ?_)
  obtain ⟨h1, h2⟩ := tyV_is I1 r1 ty
  refine ⟨T, id, pa, slot, hty, h1, h2, ?_⟩
  have hA := ha cpos pins s1 σ H1 _ I1 q1
  rw [hs] at hA ⊢
  refine Calls.callWith_builtin (by show (false || (backTo cpos (starEach es X.env)).any (·.1)) = false; rw [hplain] <;> rfl) (Calls.evalArgs_plain ?_)
  exact thn hA fun us s2 ⟨vs, H2, I2, r2, q2⟩ => hm pins s2 σ H2 x vs v us Q I2 r1 r2 q2
/- xs.append(e), list.index on a module's tuple .. are MtR facts of 06m -/
end
end L2

namespace L2
open PySem PySem.Spec PyProof.Rows

def MtM (X : Cx) (id : String) (r : V → List V → Hp → VK → Prop) : Prop :=
  ∀ (pins : List (Addr × Obj)) (s : Shared) (σ : St) (H : Hp) (x : V) (xs : List V) (v : Value) (us : List Value) (Q : VK), Inv X pins σ H s → RelV x v → Vals xs us → r x xs H Q →
    wpAny (model X.prog X.w) X.A (call (.builtin id) (v :: us)) (EP X pins σ Q) X.xe s

/-! ### lists of values -/
theorem Vals.one : ∀ {x : V} {us : List Value}, Vals [x] us → ∃ u, us = [u] ∧ RelV x u
  | _, _, .cons r .nil => ⟨_, rfl, r⟩
theorem Vals.two : ∀ {x y : V} {us : List Value}, Vals [x, y] us → ∃ u v, us = [u, v] ∧ RelV x u ∧ RelV y v
  | _, _, _, .cons r (.cons q .nil) => ⟨_, _, rfl, r, q⟩
section
variable {X : Cx} {pins : List (Addr × Obj)} {σ : St} {H : Hp} {s : Shared} {l b : Addr} {xs ys zs : List V}

/-! ### the two steps: a tracked list is rewritten, a new list is laid -/
theorem Inv.lset {its its' : List Value} {n : Nat} {f : Array Value → Array Value} {t' : Nat} (I : Inv X pins σ H s) (hH : H l = some (.lst xs))
    (e : s.heap.get? l = some { cls := .type "list", data := .seq its.toArray n }) (hf : f its.toArray = its'.toArray) (hv : Vals ys its') (hz : ys.length ≤ sizeLine) :
    Inv X pins σ (upd H l (.lst ys)) { s with heap := s.heap.update l (Obj.mapSeq f), toks := t' } := by
  have q := PySem.IsL.update e f
  rw [hf] at q
  refine I.write (x := l) (e := l) (by rw [hH]; exact trivial) (.inl rfl) (fun b' u hb hu => (Heap.get?_update_other s.heap (Obj.mapSeq f) (Ne.symm hb)).trans hu) ⟨_, q⟩ ?_
  exact ⟨hz, its', _, hv, q⟩
theorem Inv.lnew {its : List Value} {t' : Nat} (I : Inv X pins σ H s) (hv : Vals ys its) (hz : ys.length ≤ sizeLine) :
    Inv X pins σ (upd H s.heap.objs.size (.lst ys)) { s with heap := s.heap.push { cls := .type "list", data := .seq its.toArray }, toks := t' } :=
  I.laid (fun _ _ q => Heap.get?_push_of_some _ q) (Nat.le_refl _) ⟨hz, its, 0, hv, Heap.get?_push_size _ rfl⟩
theorem Inv.fresh (I : Inv X pins σ H s) : H s.heap.objs.size = none := I.hok.fresh (Nat.le_refl _)
theorem Inv.lstM (I : Inv X pins σ H s) (hH : H l = some (.lst xs)) : xs.length ≤ sizeLine ∧ ∃ (its : List Value) (n : Nat), Vals xs its ∧ xs.length = its.length ∧ s.heap.get? l = some { cls := .type "list", data := .seq its.toArray n } := by
  obtain ⟨z, its, n, r, e⟩ := I.hok l _ hH
  exact ⟨z, its, n, r, r.length, e⟩

end

section
variable {X : Cx}

/-! ### methods -/
def rAppend : V → List V → Hp → VK → Prop := fun x vs H Q => ∃ l xs y, x = .ref l ∧ vs = [y] ∧ H l = some (.lst xs) ∧ xs.length < sizeLine ∧ Q .non (upd H l (.lst (xs ++ [y])))
theorem mt_append : MtM X "list.append" rAppend := by
  intro pins s σ H x vs v us Q I rx rv h
  obtain ⟨l, xs, y, rfl, rfl, hH, hz, q⟩ := h
  cases rx
  obtain ⟨u, rfl, ru⟩ := rv.one
  obtain ⟨z, its, n, r, hl, e⟩ := I.lstM hH
  refine call_meets F.slot_list_append ⟨_, e, rfl⟩ F.entry_list_append (F.args_list_append_2 _ _) (PySem.list_append l its.toArray n u (by rw [List.size_toArray]; omega)) ⟨e, ?_⟩
  refine ⟨.non, _, I.lset (its' := its ++ [u]) hH e (by simp) (r.append (.cons ru .nil)) ?_, rfl, q⟩
  rw [List.length_append, List.length_singleton]
  omega

/-! ### list + list, list += list, list * int -/
def rCat : R2 := fun x y H Q => ∃ l b xs zs, x = .ref l ∧ y = .ref b ∧ H l = some (.lst xs) ∧ H b = some (.lst zs) ∧ xs.length + zs.length ≤ sizeLine ∧ ∀ p, H p = none → Q (.ref p) (upd H p (.lst (xs ++ zs)))
theorem op_cat : OpR X (binaryOp .Add) rCat := by
  intro pins s σ H x y v u Q I rx ry h
  obtain ⟨l, b, xs, zs, rfl, rfl, hH, hB, hz, q⟩ := h
  cases rx
  cases ry
  obtain ⟨z, its, n, r, hl, e⟩ := I.lstM hH
  obtain ⟨z2, its2, n2, r2, hl2, e2⟩ := I.lstM hB
  refine PySem.P.add_list e e2 ?_ (by rw [List.size_toArray, List.size_toArray]; omega)
  have ea : its.toArray ++ its2.toArray = (its ++ its2).toArray := by simp
  rw [ea]
  exact ⟨.ref _, _, I.lnew (t' := s.toks) (r.append r2) (by rw [List.length_append]; omega), rfl, q _ I.fresh⟩
/-! ### del xs[i] -/
end

/-! ### xs[a:b] = ys -/
section
variable {prog : Program} {w : World} {A : Around} {E : Value → Shared → Prop} {s : Shared}
end

section
variable {X : Cx}
end
end L2

namespace Att
open PySem PySem.W PySem.Calls PyProof.Rows

/-! ### the script -/
theorem ints_of_wellAll {P : Params} {h : Heap} : ∀ (ns : List Int) (vs : List Value), WellAll P h vs (ns.map WData.int) → IntsAre vs ns := by
  intro ns
  induction ns with
  | nil =>
    intro vs w
    rw [List.map_nil] at w
    cases w
    exact .nil
  | cons n ns ih =>
    intro vs w
    rw [List.map_cons] at w
    cases w with
    | cons a b =>
      cases a
      exact .cons _ _ (ih _ b)

theorem script_of {l : OpenLaw} {n : Nat} (hn : l.most = some n) {P : Params} {h : Heap} {args : List WData} {vals : List Value}
    (hpre : l.row.toRowW.claim.pre args = true) (hwl : WellAll P h vals args) :
    ∃ a vs ns, vals = [Value.ref a] ∧ args = [WData.list (ns.map WData.int)] ∧ h.get? a = some { cls := .type "list", data := .seq vs.toArray } ∧ IntsAre vs ns ∧ ns.length ≤ n := by
  have hsh : WShape.hasAll [] args [.list .int] = true := (pre_splitW hpre).1
  have hc : l.pre.holds [] { args := args } = true := (pre_splitW hpre).2
  obtain ⟨d, r, rfl, h1, h2⟩ := hasAllW_cons hsh
  obtain rfl := hasAllW_nil h2
  obtain ⟨xs, rfl, h3⟩ := hasW_list h1
  obtain ⟨ns, rfl⟩ := items_int h3
  have hlen : ns.length ≤ n := by
    unfold OpenLaw.pre at hc
    have h4 : (WTm.not (.lt (.lit (.int (n : Int))) (.len (.arg 0)))).holds [] { args := [.list (ns.map .int)] } = true := by
      have h4 := (holds_andW hc).1
      rw [hn] at h4
      exact h4
    have h5 := condW_of h4 (w_not (w_lt w_lit (w_len_list (w_arg rfl))))
    rw [List.length_map] at h5
    refine Nat.le_of_not_lt fun q => ?_
    have q' : (n : Int) < ((ns.length : Nat) : Int) := by omega
    first
      | (rw [decide_eq_true q'] at h5; exact absurd h5 (by decide))
      | (simp at h5; omega)
  cases hwl with
  | cons w1 w2 =>
    cases w2
    cases w1 with
    | list ho hall => exact ⟨_, _, ns, rfl, rfl, ho, ints_of_wellAll ns _ hall, hlen⟩

theorem post_true (l : OpenLaw) (args : List WData) : l.row.toRowW.claim.post args (.bool true) args = true :=
  postW_of (r := l.row.toRowW) (X := (true == true))
    (show WShape.has [] (.bool true) .bool = true by first | rfl | decide | simp [WShape.has, WShape.arms, WShape.armsAll])
    (show (WTm.eq .res (.lit (.bool true))).value [] { args := args, res := some (.bool true), after := args } = some (.bool (true == true)) from w_eq_bool (w_res rfl) w_lit) rfl

/-! ### the attachment: holds_open's last premise (the goal 'hc' behind k_head) from a wpAny of the law's body -/
/-- the same from a codeAny of the CALL (for a layer whose function contracts speak of calls) -/
theorem attach_call {l : OpenLaw} {n : Nat} {q : Program} {loose : List Str} {XP : (Str → Option Value) → Heap → Prop} {YP : World → Heap → Prop} {d : DefRec}
    (hn : l.most = some n) (hdf : d.params.defaults = [])
    (call : ∀ (w : World) (s₀ s₁ : Shared) (mg mb : Str → Option Value) (fa : Addr) (o : Obj) (pm cd doc : Value) (a : Addr) (vs : List Value) (ns : List Int),
      Ground q loose [] XP w s₀ mg mb s₁.heap → YP w s₁.heap →
      s₁.heap.get? fa = some o → o.data = .func (docDef d.name d.params d.body d.scope pm cd doc) → s₁.heap.CodeRec cd d.name → mg d.name = some (.ref fa) →
      s₁.heap.get? a = some { cls := .type "list", data := .seq vs.toArray } → IntsAre vs ns → ns.length ≤ n → s₁.gens = #[] →
      codeAny (model l.prog w) callerA (.call (.ref fa) ⟨[.ref a], []⟩) (fun r s' => r = .ok (.ret (.bool true)) ∧ OldK s₁.heap s'.heap ∧ s'.os = s₁.os ∧ AllBare s'.gens) s₁) :
    WalkO q loose XP YP l.row.toRowW d [] (fun f vs => PySem.call f vs) := by
  intro w s₀ s₁ mg mb G Y fa o pm cd doc dV kV ho hd hcd hD hmg hg args vals as hpre hlay hrd hwl hlo
  obtain rfl : dV = .none := Dflts.none hD hdf
  obtain rfl : kV = .none := Dflts.noKw hD
  obtain ⟨a, vs, ns, rfl, rfl, hobj, hints, hlen⟩ := script_of hn hpre hwl
  refine enter_call (codeAny_mono (call w s₀ s₁ mg mb fa o pm cd doc a vs ns G Y ho (fd_plain hd) hcd hmg hobj hints hlen hg) fun r s' hq => ?_)
  obtain ⟨rfl, h2, h3, h4⟩ := hq
  exact ⟨.inl ⟨.bool true, .bool true, [], rfl, fun _ => rfl, .bool true, post_true l _, fun _ => ⟨List.Pairwise.nil, fun _ hm => (nomatch hm)⟩⟩, h2, h3, h4⟩

/-! ### rules over ANY heap (no ledger) from facts about the written part K: the library's own take a ledger (News) for what they write -/
section
variable {prog : Program} {w : World} {A : Around} {E : Value → Shared → Prop} {s : Shared} {K : Frag}

/-! the whole heap as the ledger: makes every rule that writes through a ledger a rule over any heap -/
end
end Att

namespace L2
open PySem PySem.Spec PyProof.Rows

theorem vals_ints : ∀ {vs : List Value} {ns : List Int}, IntsAre vs ns → Vals (ns.map V.int) vs
  | _, _, .nil => .nil
  | _, _, .cons n t h => .cons ⟨t, rfl⟩ (vals_ints h)

/-- nothing is tracked but the script, known to the object (or it is an object of the module) -/
def Only (H : Hp) : Prop := ∀ b, H b = none ∨ ∃ o xs, H b = some (.frz o (.lst xs))

/-- THE HEAD: the law's promise, at the heap behind the top. F, the promise of the law's def, may use that base is part of the heap (so K.In base, base.Ns mainGlobals mg stand in Mod) -/
theorem law_call {P : Program} {w : World} {K : PySem.W.Frag} {mg mb : Str → Option Value} {CX : CXT} {k : Nat} {fa a : Addr} {fd : FuncData} {x : Str} {sp : Sp} {s₁ : Shared} {vs : List Value} {ns : List Int}
    (KX : K.In s₁.heap) (hns : s₁.heap.Ns mainGlobals mg) (hb : s₁.heap.Ns builtinsNs mb) (hbb : ∀ x : Str, x ≠ "__name__" → mb x = bootBuiltins x) (hlim : s₁.heap.NoLimit) (hg : s₁.gens = #[])
    (ha : s₁.heap.get? a = some { cls := .type "list", data := .seq vs.toArray }) (hi : IntsAre vs ns) (hl : ns.length ≤ sizeLine) (hr : Room k callerA)
    (F : ∀ base : Heap, K.In base → base.Ns mainGlobals mg → FnOk P w K mg base CX k fa fd [x] sp) (hbind : ∀ (s : Shared) (u : Value), BindsTo s fd ⟨[u], []⟩ [(x, u)])
    (hsp : ∀ H : Hp, Only H → SqL K H a (ns.map V.int) → sp [.ref a] H (fun v _ => v = .bl true) fun _ _ _ => False)
    (hCX : ∀ H e s', CX [] H s₁ (fun _ _ _ => False) e s' → False) :
    codeAny (model P w) callerA (.call (.ref fa) ⟨[.ref a], []⟩) (fun r s' => r = .ok (.ret (.bool true)) ∧ OldK s₁.heap s'.heap ∧ s'.os = s₁.os ∧ AllBare s'.gens) s₁ := by
  have rv := vals_ints hi
  have lenV := hi.length
  -- from an abstract heap in which nothing but the script may be tracked
  have core : ∀ H : Hp, Only H → SqL K H a (ns.map V.int) → HOk P w H s₁.heap → (∀ b, H b ≠ none → b = a) → (H a ≠ none → K.lookup a = none) →
      codeAny (model P w) callerA (.call (.ref fa) ⟨[.ref a], []⟩) (fun r s' => r = .ok (.ret (.bool true)) ∧ OldK s₁.heap s'.heap ∧ s'.os = s₁.os ∧ AllBare s'.gens) s₁ := by
    intro H hO hS hok hA hK
    have base_of : ∀ {b : Addr} {o : Obj}, s₁.heap.get? b = some o → H b = none → (hidT s₁.heap H).get? b = some o := fun e n => hidT_get e n
    have noA : ∀ {b : Addr} {o : Obj} {es : Array DictEntry} {ep : Nat}, s₁.heap.get? b = some o → o.data = .dict es ep → H b = none := fun {b o es ep} e d => by
      cases q : H b with
      | none => rfl
      | some u =>
        have e' : b = a := hA b (by rw [q]; simp)
        subst e'
        rw [ha] at e; cases e
        have d' : Data.seq vs.toArray _ = Data.dict es ep := d
        cases d'
    have nsK : ∀ {b : Addr} {m : Str → Option Value}, s₁.heap.Ns b m → (hidT s₁.heap H).Ns b m := fun {b m} ⟨o, es, ep, e, d, r⟩ => ⟨o, es, ep, base_of e (noA e d), d, r⟩
    have hKb : K.In (hidT s₁.heap H) := fun b o e => base_of (KX b o e) (by
      cases q : H b with
      | none => rfl
      | some u =>
        have e' : b = a := hA b (by rw [q]; simp)
        subst e'
        rw [hK (by rw [q]; simp)] at e; cases e)
    have hM : Mod K mg (hidT s₁.heap H) := ⟨hKb, nsK hns, ⟨mb, nsK hb, hbb⟩, let ⟨mc, h1, h2⟩ := hlim; ⟨mc, nsK h1, h2⟩⟩
    have e0 : Env0 P w K mg (hidT s₁.heap H) callerA [] s₁ H := ⟨rfl, hM, fun b o e => of_hidT e, Nat.le_of_eq (hidT_size _ _), trivial, fun b hb => absurd (show b ∈ ([] : List Addr) from hb) (by simp), hok, .of_eq hg⟩
    refine codeAny_mono ((F _ hKb (nsK hns)).run callerA [] s₁ H ⟨[.ref a], []⟩ [.ref a] [.ref a] _ _ hr e0 (hbind s₁ (.ref a)) (.cons rfl .nil) (hsp H hO hS)) fun r s' h => ?_
    cases r with
    | error e => exact (hCX H e s' h).elim
    | ok fl =>
      cases fl with
      | next => exact False.elim h
      | brk => exact False.elim h
      | cont => exact False.elim h
      | ret u =>
        obtain ⟨v, H', os, bare, un, hok', r', q⟩ := h
        have q' : v = .bl true := q
        subst q'
        obtain rfl : u = Value.bool true := r'
        refine ⟨rfl, OldK.of_keep fun b o e => ?_, os, bare⟩
        cases q : H b with
        | none => exact un.keep b o e q (by intro z; exact absurd (show b ∈ ([] : List Addr) from z) (by simp)) (by simp)
        | some u =>
          rcases hO b with z | ⟨ob, xs, z⟩
          · rw [q] at z; cases z
          · have z2 := un.frzs b ob _ z
            obtain ⟨e1, _⟩ := hok b _ z
            obtain ⟨e2, _⟩ := hok' b _ z2
            rw [e] at e1; cases e1
            exact e2
  cases hk : K.lookup a with
  | some o =>
    -- the script is one of the module's own objects
    have e := KX a o hk
    rw [ha] at e
    cases e
    refine core (fun _ => none) (fun _ => .inl rfl) (.inr ⟨_, vs.toArray, _, hk, rfl, rfl, rfl, by rw [List.size_toArray, lenV]; exact hl, by simpa using rv⟩) (fun b u z => by have z' : (none : Option HO) = some u := z; cases z') (fun b z => absurd rfl z) fun z => absurd rfl z
  | none =>
    refine core (fun b => if b = a then some (.frz { cls := .type "list", data := .seq vs.toArray } (.lst (ns.map V.int))) else none) (fun b => ?_) (.inl (.inr ⟨{ cls := .type "list", data := .seq vs.toArray }, if_pos rfl⟩)) (fun b u z => ?_) (fun b z => ?_) fun _ => hk
    · by_cases hb : b = a
      · exact .inr ⟨_, _, if_pos hb⟩
      · exact .inl (if_neg hb)
    · by_cases hb : b = a
      · have z' := (if_pos hb).symm.trans z
        cases z'
        subst hb
        exact ⟨ha, by rw [List.length_map]; exact hl, vs, _, rv, ha⟩
      · have z' := (if_neg hb).symm.trans z
        cases z'
    · by_cases hb : b = a
      · exact hb
      · exact absurd (if_neg hb) z
end L2

namespace L2
open PySem PySem.Spec PyProof.Rows

/-- the goal that k_head leaves (case hc), from the law's promise. F gives the function object fd (K's own) once, then the promise over every base -/
theorem walk_of {l : PySem.W.OpenLaw} {n k : Nat} {q : Program} {loose : List Str} {XP : (Str → Option Value) → Heap → Prop} {YP : World → Heap → Prop} {d : DefRec} {K : Params → PySem.W.Frag} {CX : World → CXT} {sp : World → Sp} {x : Str}
    (hn : l.most = some n) (hn2 : n ≤ sizeLine) (hdf : d.params.defaults = []) (hr : Room k callerA)
    (hY : ∀ (w : World) (h : Heap), YP w h → (K w.params).In h)
    (F : ∀ (w : World) (mg : Str → Option Value) (fa : Addr) (h : Heap), (K w.params).In h → h.Ns mainGlobals mg → mg d.name = some (.ref fa) →
      ∃ fd : FuncData, (∀ (s : Shared) (u : Value), BindsTo s fd ⟨[u], []⟩ [(x, u)]) ∧
        ∀ base : Heap, (K w.params).In base → base.Ns mainGlobals mg → FnOk l.prog w (K w.params) mg base (CX w) k fa fd [x] (sp w))
    (hsp : ∀ (w : World) (H : Hp) (a : Addr) (ns : List Int), ns.length ≤ n → Only H → SqL (K w.params) H a (ns.map V.int) → sp w [.ref a] H (fun v _ => v = .bl true) fun _ _ _ => False)
    (hCX : ∀ (w : World) (H : Hp) (s : Shared) (e : Value) (s' : Shared), CX w [] H s (fun _ _ _ => False) e s' → False) :
    PySem.W.WalkO q loose XP YP l.row.toRowW d [] (fun f vs => PySem.call f vs) := by
  refine Att.attach_call hn hdf fun w s₀ s₁ mg mb fa o pm cd doc a vs ns G Y ho hd hcd hmg hobj hints hlen hg => ?_
  have KX := hY w _ Y
  obtain ⟨fd, hb, hF⟩ := F w mg fa _ KX G.T.g hmg
  exact law_call KX G.T.g G.T.b G.T.builtins G.T.nolimit hg hobj hints (Nat.le_trans hlen hn2) hr hF hb (fun H hO hS => hsp w H a ns hlen hO hS) fun H e s' => hCX w H s₁ e s'
end L2



/-! SHORT WORDS over the layer: a def of the text, its body, what a loop and a test want. -/
namespace L2
open PySem PySem.Spec PyProof.Rows

/-! ### the text by places -/
def defArgs (s : Stmt) : Arguments := match s with
  | .FunctionDef _ a _ _ _ _ _ _ _ _ => a
  | _ => { posonlyargs := [], args := [], vararg := none, kwonlyargs := [], kw_defaults := [], kwarg := none, defaults := [] }
def defBody (s : Stmt) : List Stmt := match s with
  | .FunctionDef _ _ b _ _ _ _ _ _ _ => b
  | _ => []
def defScope (s : Stmt) : Scope := match s with
  | .FunctionDef _ _ _ _ _ _ sc _ _ _ => sc
  | _ => { kind := .function, names := [], isGenerator := false, isCoroutine := false }

/-! ### no exception leaves a def -/
abbrev CX0 : CXT := fun _ _ _ _ _ _ => False
abbrev E0 : XK := fun _ _ _ => False
theorem pass0 {X : Cx} : Passes CX0 X E0 := fun _ _ _ _ _ _ _ h => h.elim

/-! ### a def (or method) of the text as it stands behind the top -/
structure Fun (K : PySem.W.Frag) (x qual : Str) (st : Stmt) (f : Addr) (fd : FuncData) : Prop where
  ex : ∃ (oc : Value) (od : Option Addr) (kV doc pm : Value) (an : Option Addr) (cdv ct : Value) (osl : Array (Option Value)),
    fd = PySem.W.fnOf x qual (defArgs st) (defBody st) (defScope st) .none kV doc pm an cdv ct ∧ K.lookup f = some ⟨oc, od, .func fd, osl⟩ ∧ PySem.W.codeIn K cdv qual = true
  kp : PySem.W.keepIn K (.ref f) = true
section
variable {P : Program} {w : World} {K : PySem.W.Frag} {mg : Str → Option Value} {base : Heap}
/-- THE RULE for a def: its body as a term of rules, and the reading of that term -/
theorem Fun.ok {x qual : Str} {st : Stmt} {f : Addr} {fd : FuncData} {N ps : List Str} {k : Nat} {sp : Sp} (F : Fun K x qual st f fd) (S : FnScope N ps (defScope st)) (len : ∀ vs H Q E, sp vs H Q E → vs.length = ps.length)
    (hbody : ∀ (cdv : Value) (A : Around) (outer : List Env) (s : Shared) (H : Hp) (vs : List V) (Q : VK) (E : XK), Room k (A.deeper (envOfC qual (defScope st) s.heap.objs.size f cdv)) → sp vs H Q E →
      ∃ t, PSs (cxOf CX0 P w K mg base N qual (defScope st) f cdv A outer s H E).nox (defBody st) t ∧ t { nx := fun _ H' => Q .non H', rt := Q } (start N vs) H) : FnOk P w K mg base CX0 (k + 1) f fd ps sp := by
  obtain ⟨oc, od, kV, doc, pm, an, cdv, ct, osl, rfl, lk, hcd⟩ := F.ex
  refine fn_of lk hcd S len fun A outer s H vs Q E hr hsp => ?_
  obtain ⟨t, h, q⟩ := hbody cdv A outer s H vs Q E hr hsp
  exact ⟨t, h.nox, q⟩
/-- how its arguments bind (no defaults): h is «fun _ _ _ _ _ _ us hl => match us, hl with | [_, _], _ => rfl», one _ a parameter -/
theorem Fun.binds {x qual : Str} {st : Stmt} {f : Addr} {fd : FuncData} {ps : List Str} (F : Fun K x qual st f fd)
    (h : ∀ (kV doc pm : Value) (an : Option Addr) (cdv ct : Value) (us : List Value), us.length = ps.length → bindArgs (PySem.W.fnOf x qual (defArgs st) (defBody st) (defScope st) .none kV doc pm an cdv ct) ⟨us, []⟩ = pure (ps.zip us)) : Binds K fd ps [] := by
  obtain ⟨oc, od, kV, doc, pm, an, cdv, ct, osl, rfl, lk, hcd⟩ := F.ex
  exact .all (h kV doc pm an cdv ct)
theorem fun_mk {x qual : Str} {st : Stmt} {f : Addr} {oc : Value} {od an : Option Addr} {osl : Array (Option Value)} {kV doc pm cdv ct : Value} (l : K.lookup f = some ⟨oc, od, .func (PySem.W.fnOf x qual (defArgs st) (defBody st) (defScope st) .none kV doc pm an cdv ct), osl⟩)
    (c : PySem.W.codeIn K cdv qual = true) (k : PySem.W.keepIn K (.ref f) = true) : Fun K x qual st f (PySem.W.fnOf x qual (defArgs st) (defBody st) (defScope st) .none kV doc pm an cdv ct) := ⟨⟨oc, od, kV, doc, pm, an, cdv, ct, osl, rfl, l, c⟩, k⟩
end
/-! ### expressions in short: the name that stands in the i-th slot -/
section
variable {X : Cx}
theorem pv (i : Nat) {x : Str} {pos : Pos} (hN : X.N[i]? = some x := by rfl) (hv : Vis X.env.scope x := by first | exact Or.inl rfl | exact Or.inr (Or.inl rfl) | exact Or.inr (Or.inr rfl)) (hd : (x == ("__debug__" : Str)) = false := by decide)
    (hcd : (x == ("__classdict__" : Str)) = false := by decide) : PE X (.Name x pos) (tVar i) := pe_var hN hv hd hcd
end

/-! ### tests -/
theorem iteF {A B : Prop} (h : B) : if false = true then A else B := by
  rw [if_neg Bool.false_ne_true]
  exact h
theorem iteT {A B : Prop} (h : A) : if true = true then A else B := by
  rw [if_pos rfl]
  exact h
theorem ite2 {c A B : Prop} [Decidable c] (h1 : c → A) (h2 : ¬ c → B) : if c then A else B := by
  by_cases h : c
  · rw [if_pos h]
    exact h1 h
  · rw [if_neg h]
    exact h2 h
/-! ### heaps -/
/-- all that was tracked is as it was -/
def Same (H H' : Hp) : Prop := ∀ b o, H b = some o → H' b = some o
theorem Same.refl (H : Hp) : Same H H := fun _ _ h => h
theorem Same.trans {H H1 H2 : Hp} (a : Same H H1) (b : Same H1 H2) : Same H H2 := fun c o h => b c o (a c o h)
theorem Same.free {H H' : Hp} (e : Same H H') {l : Addr} (h : H' l = Option.none) : H l = Option.none := by
  cases q : H l with
  | none => rfl
  | some o =>
    rw [e l o q] at h
    cases h
theorem Same.seq {K : PySem.W.Frag} {H H' : Hp} {a : Addr} {xs : List V} (e : Same H H') (h : SqL K H a xs) : SqL K H' a xs := by
  rcases h with (h | ⟨o, h⟩) | h
  · exact .inl (.inl (e _ _ h))
  · exact .inl (.inr ⟨o, e _ _ h⟩)
  · exact .inr h

end L2
namespace L2
open PySem PySem.Spec PyProof.Rows

/-! ### lists of pairs as tables -/
section
variable {κ : Type} [DecidableEq κ]
end


/-! ### a tracked dict, its keys ints and texts or tuples of these -/
section
variable {P : Program} {w : World} {H : Hp} {h : Heap} {a : Addr}
end

section
variable {X : Cx} {pins : List (Addr × Obj)} {σ : St} {H : Hp} {s : Shared} {a : Addr} {y v : V} {u r : Value} {o : Option V} {A : Around} {E : Value → Shared → Prop}

end

section
variable {X : Cx} {pins : List (Addr × Obj)} {σ : St} {H : Hp} {s : Shared} {a : Addr} {kvs : List (Key × V)} {k : Key} {u : Value} {A : Around} {E : Value → Shared → Prop}
end


/-! ### readings and rules -/
section
variable {X : Cx} {o i e value : Expr} {pos pos' tpos : Pos} {td ty tv : TE}
end


/-! ### displays -/
section
variable {X : Cx} {pos : Pos}
end

/-! ### methods -/
/-- a method call o.m(e) of a built-in, with one argument: what must be seen of the text -/
structure M1 (X : Cx) (o : Expr) (m : Str) (apos : Pos) (e : Expr) (cpos : Pos) : Prop where
  base : attributeBase o m X.env (eval o X.env) = eval o X.env
  few : ((backTo cpos (starEach [e] X.env)).all (fun x => !x.1) && (backToKw cpos (keywordEach [] X.env)).all (fun x => x.1.isSome)
    && decide (([e] : List Expr).length + ([] : List Keyword).length + (if ([] : List Keyword).isEmpty then 0 else 1) < 30)) = true
  line : (apos.endLine == cpos.line) = true
  trees : backTo cpos (starEach [e] X.env) = [(false, eval e X.env)]
structure M2 (X : Cx) (o : Expr) (m : Str) (apos : Pos) (e f : Expr) (cpos : Pos) : Prop where
  base : attributeBase o m X.env (eval o X.env) = eval o X.env
  few : ((backTo cpos (starEach [e, f] X.env)).all (fun x => !x.1) && (backToKw cpos (keywordEach [] X.env)).all (fun x => x.1.isSome)
    && decide (([e, f] : List Expr).length + ([] : List Keyword).length + (if ([] : List Keyword).isEmpty then 0 else 1) < 30)) = true
  line : (apos.endLine == cpos.line) = true
  trees : backTo cpos (starEach [e, f] X.env) = [(false, eval e X.env), (false, eval f X.env)]

section
variable {X : Cx} {pins : List (Addr × Obj)} {σ : St} {H : Hp} {s : Shared} {a : Addr} {y d : V} {u r : Value} {o : Option V} {A : Around} {E : Value → Shared → Prop}
end

section
variable {X : Cx} {o e f : Expr} {apos cpos : Pos} {td ty tx : TE}
end

/-! ### dict(d): a copy -/
section
variable {X : Cx} {pins : List (Addr × Obj)} {σ : St} {H : Hp} {s : Shared} {a : Addr} {kvs : List (Key × V)} {A : Around} {E : Value → Shared → Prop}
end


section
variable {X : Cx} {pins : List (Addr × Obj)} {σ : St} {H : Hp} {s : Shared} {a : Addr} {y : V} {u : Value} {A : Around} {E : Value → Shared → Prop}
end
end L2
namespace TL
open PySem

theorem forIn_pure {α β : Type} {f : α → β → Sem (ForInStep β)} (P : List α → β → Prop)
    (step : ∀ x l c, P (x :: l) c → ∃ c', f x c = pure (.yield c') ∧ P l c') : ∀ (l : List α) (c : β), P l c → ∃ c', forIn l c f = pure c' ∧ P [] c'
  | [], c, h => ⟨c, rfl, h⟩
  | x :: l, c, h => by
    obtain ⟨c1, e, h1⟩ := step x l c h
    obtain ⟨c2, e2, h2⟩ := forIn_pure P step l c1 h1
    refine ⟨c2, ?_, h2⟩
    rw [List.forIn_cons, e, pure_bind]
    exact e2

theorem closure_ok {scope : Scope} {env : Env} (h : ∀ y ∈ scope.names, y.2 = .free → ∃ c, env.cells.lookup y.1 = some c) :
    ∃ cl, closureFor scope env = pure cl ∧ (∀ x c, cl.lookup x = some c → env.cells.lookup x = some c) ∧ (∀ y ∈ scope.names, y.2 = .free → ∃ c, cl.lookup y.1 = some c) := by
  let P : List (Str × NameKind) → List (Str × Addr) → Prop := fun l c => (∀ y ∈ l, y.2 = .free → ∃ c, env.cells.lookup y.1 = some c) ∧ (∀ x a, c.lookup x = some a → env.cells.lookup x = some a) ∧
    (∀ y ∈ scope.names, y.2 = .free → y ∈ l ∨ ∃ a, c.lookup y.1 = some a)
  simp only [closureFor]
  obtain ⟨cl, e, _, h2, h3⟩ := forIn_pure (f := fun (x : Str × NameKind) (r : List (Str × Addr)) => if (x.2 == NameKind.free) = true then cellOf env x.1 >>= fun c => pure (ForInStep.yield ((x.1, c) :: r)) else pure (ForInStep.yield r)) P (by
    rintro ⟨n, k⟩ l c ⟨p1, p2, p3⟩
    by_cases hk : k = .free
    · subst hk
      obtain ⟨a, ha⟩ := p1 _ List.mem_cons_self rfl
      refine ⟨(n, a) :: c, ?_, fun y hy => p1 y (List.mem_cons_of_mem _ hy), fun x b hb => ?_, fun y hy hf => ?_⟩
      · have ha' : env.cells.lookup n = some a := ha
        simp [cellOf, ha']
      · rw [List.lookup_cons] at hb
        by_cases hx : (x == n) = true
        · rw [hx] at hb
          have e1 : x = n := by simpa using hx
          subst e1
          cases hb
          exact ha
        · have hx' : (x == n) = false := by simpa using hx
          rw [hx'] at hb
          exact p2 x b hb
      · by_cases hx : (y.1 == n) = true
        · exact .inr ⟨a, by rw [List.lookup_cons, hx]⟩
        · have hx' : (y.1 == n) = false := by simpa using hx
          rcases p3 y hy hf with q | ⟨b, q⟩
          · rcases List.mem_cons.mp q with q | q
            · exact absurd (by rw [q]; simp) hx
            · exact .inl q
          · exact .inr ⟨b, by rw [List.lookup_cons, hx']; exact q⟩
    · refine ⟨c, ?_, fun y hy => p1 y (List.mem_cons_of_mem _ hy), p2, fun y hy hf => ?_⟩
      · have : (k == NameKind.free) = false := by simpa using hk
        simp [this]
      · rcases p3 y hy hf with q | q
        · rcases List.mem_cons.mp q with q | q
          · subst q; exact absurd hf hk
          · exact .inl q
        · exact .inr q) scope.names [] ⟨h, fun x a hx => by simp at hx, fun y hy _ => .inl hy⟩
  refine ⟨cl, ?_, h2, fun y hy hf => ?_⟩
  · refine Eq.trans ?_ (congrArg (fun t : Sem (List (Str × Addr)) => t >>= fun r => pure r) e)
    rfl
  · rcases h3 y hy hf with q | q
    · cases q
    · exact q

theorem lookup_relabel_free {env : Env} : ∀ {names : List (Str × NameKind)} {x : Str}, names.lookup x = some .free →
    (names.map fun (n, k) => if (k == NameKind.free && env.scope.kind == .function && env.kindOf n == some .cell) then (n, NameKind.cell) else (n, k)).lookup x = some .cell ∨
    (names.map fun (n, k) => if (k == NameKind.free && env.scope.kind == .function && env.kindOf n == some .cell) then (n, NameKind.cell) else (n, k)).lookup x = some .free
  | [], _, h => by simp at h
  | (n, k) :: r, x, h => by
    have ih := @lookup_relabel_free env r x
    show List.lookup x ((if (k == NameKind.free && env.scope.kind == .function && env.kindOf n == some .cell) = true then (n, NameKind.cell) else (n, k)) :: _) = _ ∨ List.lookup x ((if (k == NameKind.free && env.scope.kind == .function && env.kindOf n == some .cell) = true then (n, NameKind.cell) else (n, k)) :: _) = _
    cases hx : x == n with
    | true =>
      simp only [List.lookup_cons, hx] at h
      cases h
      by_cases hc : (NameKind.free == NameKind.free && env.scope.kind == .function && env.kindOf n == some .cell) = true
      · rw [if_pos hc]; left; simp [List.lookup_cons, hx]
      · rw [if_neg hc]; right; simp [List.lookup_cons, hx]
    | false =>
      simp only [List.lookup_cons, hx] at h
      by_cases hc : (k == NameKind.free && env.scope.kind == .function && env.kindOf n == some .cell) = true
      · rw [if_pos hc]; simp only [List.lookup_cons, hx]; exact ih h
      · rw [if_neg hc]; simp only [List.lookup_cons, hx]; exact ih h
/-- what is no local, global of the relabelled names was free -/
theorem relabel_cell_or_free {env : Env} : ∀ {names : List (Str × NameKind)} {x : Str}, (∀ y ∈ names, y.2 ≠ .cell) →
    ((names.map fun (n, k) => if (k == NameKind.free && env.scope.kind == .function && env.kindOf n == some .cell) then (n, NameKind.cell) else (n, k)).lookup x = some .cell ∨
    (names.map fun (n, k) => if (k == NameKind.free && env.scope.kind == .function && env.kindOf n == some .cell) then (n, NameKind.cell) else (n, k)).lookup x = some .free) → ∃ y ∈ names, y.1 = x ∧ y.2 = .free
  | [], _, _, h => by simp at h
  | (n, k) :: r, x, hn, h => by
    have ih := @relabel_cell_or_free env r x (fun y hy => hn y (List.mem_cons_of_mem _ hy))
    change List.lookup x ((if (k == NameKind.free && env.scope.kind == .function && env.kindOf n == some .cell) = true then (n, NameKind.cell) else (n, k)) :: _) = _ ∨ List.lookup x ((if (k == NameKind.free && env.scope.kind == .function && env.kindOf n == some .cell) = true then (n, NameKind.cell) else (n, k)) :: _) = _ at h
    cases hx : x == n with
    | true =>
      have e : x = n := by simpa using hx
      by_cases hc : (k == NameKind.free && env.scope.kind == .function && env.kindOf n == some .cell) = true
      · have hk : k = .free := by
          simp only [Bool.and_eq_true, beq_iff_eq] at hc
          exact hc.1.1
        exact ⟨(n, k), List.mem_cons_self, e.symm, hk⟩
      · rw [if_neg hc] at h
        simp only [List.lookup_cons, hx] at h
        rcases h with h | h
        · exact absurd (Option.some.inj h) (hn (n, k) List.mem_cons_self)
        · exact ⟨(n, k), List.mem_cons_self, e.symm, Option.some.inj h⟩
    | false =>
      have h' : (r.map fun (n, k) => if (k == NameKind.free && env.scope.kind == .function && env.kindOf n == some .cell) then (n, NameKind.cell) else (n, k)).lookup x = some .cell ∨
          (r.map fun (n, k) => if (k == NameKind.free && env.scope.kind == .function && env.kindOf n == some .cell) then (n, NameKind.cell) else (n, k)).lookup x = some .free := by
        by_cases hc : (k == NameKind.free && env.scope.kind == .function && env.kindOf n == some .cell) = true
        · rw [if_pos hc] at h; simpa only [List.lookup_cons, hx] using h
        · rw [if_neg hc] at h; simpa only [List.lookup_cons, hx] using h
      obtain ⟨y, hy, e⟩ := ih h'
      exact ⟨y, List.mem_cons_of_mem _ hy, e⟩
end TL
namespace TL
open PySem
section
variable {prog : Program} {w : World} {A : Around} {R : Result → Shared → Prop} {s : Shared}
abbrev testsOf (ifs : List Expr) (env : Env) : Sem Bool := forIn ifs true fun c r => if r = true then do let ok ← isTrue c env (eval c env); pure (ForInStep.yield ok) else pure (ForInStep.yield r)
theorem compLoop_go {elt target iter : Expr} {ifs : List Expr} {scope : Scope} {pos : Pos} {it acc : Value} {env : Env} (I : Nat → Shared → Prop)
    (turn : ∀ n s, I n s → wpAny (model prog w) A (pyNext it) (fun r s₁ => match r with
      | none => R (.ok .next) s₁
      | some v => wpAny (model prog w) A (letOwnedTupleGo target it v) (fun _ s₀ => wpAny (model prog w) A (assign target env v) (fun _ s₂ =>
          wpAny (model prog w) A (testsOf ifs env) (fun ok s₃ =>
            if ok = true then wpAny (model prog w) A (eval elt env) (fun x s₄ =>
              wpAny (model prog w) A (call (.builtin "list.append") [acc, x]) (fun _ s₅ => ∃ m, m < n ∧ I m s₅) (fun _ _ => False) s₄) (fun _ _ => False) s₃
            else ∃ m, m < n ∧ I m s₃) (fun _ _ => False) s₂) (fun _ _ => False) s₀) (fun _ _ => False) s₁) (fun _ _ => False) s)
    (n : Nat) (h : I n s) :
    codeAny (model prog w) A (.compLoop (.ListComp elt [⟨target, iter, ifs, 0⟩] scope pos) 0 it acc env) R s := by
  refine codeAny_loop rfl I (fun n s hI => ?_) n h
  show wpAny _ A ((compTurn (.ListComp elt [⟨target, iter, ifs, 0⟩] scope pos) 0 it acc env).onRaise (fun x => do noteFrame x env; theTreesLotGoes x)) _ _ s
  refine wpAny_noted ?_
  rw [compTurn_list]
  refine wpAny_bind (wpAny_standAt (wpAny_bind (wpAny_mono (turn n s hI) (fun r s₁ h₁ => ?_) fun _ _ h' => h'.elim)))
  cases r with
  | none => exact wpAny_pure h₁
  | some v =>
    refine wpAny_bind (wpAny_mono h₁ (fun _ s₀ h₀ => ?_) fun _ _ h' => h'.elim)
    refine wpAny_bind (wpAny_mono h₀ (fun _ s₂ h₂ => wpAny_bind (wpAny_mono h₂ (fun ok s₃ h₃ => ?_) fun _ _ h' => h'.elim)) fun _ _ h' => h'.elim)
    cases ok with
    | false => exact wpAny_pure ⟨rfl, h₃⟩
    | true =>
      exact wpAny_bind (wpAny_bind (wpAny_mono h₃ (fun x s₄ h₄ => wpAny_bind (wpAny_mono h₄ (fun _ s₅ h₅ => wpAny_pure (wpAny_pure ⟨rfl, h₅⟩)) fun _ _ h' => h'.elim)) fun _ _ h' => h'.elim))

theorem compTurn_set (elt target iter : Expr) (ifs : List Expr) (scope : Scope) (pos : Pos) (it acc : Value) (env : Env) :
    compTurn (.SetComp elt [⟨target, iter, ifs, 0⟩] scope pos) 0 it acc env = (do
      standAt iter.pos
      match ← pyNext it with
      | none => pure (.done .next)
      | some v =>
        letOwnedTupleGo target it v
        assign target env v
        let mut ok := true
        for c in ifs do
          if ok then ok ← isTrue c env (eval c env)
        if ok then
          (do let v ← eval elt env; standAt elt.pos; let _ ← call (.builtin "set.add") [acc, v])
        again (.compLoop (.SetComp elt [⟨target, iter, ifs, 0⟩] scope pos) 0 it acc env)) := by rfl
theorem compLoop_goS {elt target iter : Expr} {ifs : List Expr} {scope : Scope} {pos : Pos} {it acc : Value} {env : Env} (I : Nat → Shared → Prop)
    (turn : ∀ n s, I n s → wpAny (model prog w) A (pyNext it) (fun r s₁ => match r with
      | none => R (.ok .next) s₁
      | some v => wpAny (model prog w) A (letOwnedTupleGo target it v) (fun _ s₀ => wpAny (model prog w) A (assign target env v) (fun _ s₂ =>
          wpAny (model prog w) A (testsOf ifs env) (fun ok s₃ =>
            if ok = true then wpAny (model prog w) A (eval elt env) (fun x s₄ =>
              wpAny (model prog w) A (call (.builtin "set.add") [acc, x]) (fun _ s₅ => ∃ m, m < n ∧ I m s₅) (fun _ _ => False) s₄) (fun _ _ => False) s₃
            else ∃ m, m < n ∧ I m s₃) (fun _ _ => False) s₂) (fun _ _ => False) s₀) (fun _ _ => False) s₁) (fun _ _ => False) s)
    (n : Nat) (h : I n s) :
    codeAny (model prog w) A (.compLoop (.SetComp elt [⟨target, iter, ifs, 0⟩] scope pos) 0 it acc env) R s := by
  refine codeAny_loop rfl I (fun n s hI => ?_) n h
  show wpAny _ A ((compTurn (.SetComp elt [⟨target, iter, ifs, 0⟩] scope pos) 0 it acc env).onRaise (fun x => do noteFrame x env; theTreesLotGoes x)) _ _ s
  refine wpAny_noted ?_
  rw [compTurn_set]
  refine wpAny_bind (wpAny_standAt (wpAny_bind (wpAny_mono (turn n s hI) (fun r s₁ h₁ => ?_) fun _ _ h' => h'.elim)))
  cases r with
  | none => exact wpAny_pure h₁
  | some v =>
    refine wpAny_bind (wpAny_mono h₁ (fun _ s₀ h₀ => ?_) fun _ _ h' => h'.elim)
    refine wpAny_bind (wpAny_mono h₀ (fun _ s₂ h₂ => wpAny_bind (wpAny_mono h₂ (fun ok s₃ h₃ => ?_) fun _ _ h' => h'.elim)) fun _ _ h' => h'.elim)
    cases ok with
    | false => exact wpAny_pure ⟨rfl, h₃⟩
    | true =>
      exact wpAny_bind (wpAny_bind (wpAny_mono h₃ (fun x s₄ h₄ => wpAny_bind (wpAny_standAt (wpAny_bind (wpAny_mono h₄ (fun _ s₅ h₅ => wpAny_pure (wpAny_pure ⟨rfl, h₅⟩)) fun _ _ h' => h'.elim)))) fun _ _ h' => h'.elim))

theorem compStart_set {elt target iter ifs rest scope pos it acc env}
    (h0 : codeAny (model prog w) A (.compLoop (.SetComp elt (⟨target, iter, ifs, 0⟩ :: rest) scope pos) 0 it acc env) R s)
    (h : wpAny (model prog w) A (pyIter it) (fun it' s' => codeAny (model prog w) A (.compLoop (.SetComp elt (⟨target, iter, ifs, 0⟩ :: rest) scope pos) 0 it' acc env) R s')
      (notedBy (model prog w) A env fun x s' => R (.error x) s') s) :
    codeAny (model prog w) A (.compStart (.SetComp elt (⟨target, iter, ifs, 0⟩ :: rest) scope pos) 0 it acc env) R s := by
  refine codeAny_of_tree ?_
  show wpAny _ _ ((compStart (.SetComp elt (⟨target, iter, ifs, 0⟩ :: rest) scope pos) 0 it acc env).onRaise (fun x => do noteFrame x env; standAt theWindowsPlace)) _ _ s
  refine wpAny_notedAt ?_
  unfold compStart
  show wpAny _ _ (ask >>= _) _ _ s
  refine wpAny_bind (wpAny_askSetting (wpAny_ite ?_))
  split
  · first
      | exact wpAny_bind (wpAny_pure (wpAny_pure (And.intro rfl h0)))
      | exact wpAny_pure (And.intro rfl h0)
  · first
      | exact wpAny_bind (wpAny_rule (wpAny_bind (wpAny_standAt (wpAny_bind (wpAny_mono h (fun it' s' h' => wpAny_pure (And.intro rfl h')) fun _ _ x => x)))))
      | (refine wpAny_bind (wpAny_rule ?_); show wpAny _ _ (standAt iter.pos >>= _) _ _ s; exact wpAny_bind (wpAny_standAt (wpAny_bind (wpAny_mono h (fun it' s' h' => wpAny_pure (And.intro rfl h')) fun _ _ x => x))))
end
end TL
namespace TL
open PySem PyProof.Rows
def oth (e : Int) : Int := e + 1 - 2 * (e % 2)
theorem xor_one (x : Int) : Builtin.bitXor x 1 = oth x := by
  rw [bitXor_and, bitAnd_m1]; unfold oth; omega
theorem oth_oth (e : Int) : oth (oth e) = e := by unfold oth; omega
theorem oth_half (e : Int) : oth e / 2 = e / 2 := by unfold oth; omega
theorem oth_nonneg {e : Int} (h : 0 ≤ e) : 0 ≤ oth e := by unfold oth; omega
end TL
set_option Elab.async false
set_option linter.all false
set_option maxRecDepth 100000
set_option maxHeartbeats 4000000
namespace TL
open PySem PySem.Spec PyProof.Rows L2
abbrev St := L2.St

/-! ### a comprehension's block -/
def cxComp (X : Cx) (scope : Scope) (cl : List (Str × Addr)) (N : List Str) (fp : List Addr) (s3 : Shared) (H3 : Hp) : Cx where
  prog := X.prog
  w := X.w
  K := X.K
  mg := X.mg
  base := X.base
  A := X.A
  N := N
  s₀ := s3
  H₀ := H3
  env := compEnvC scope cl s3.heap.objs.size X.env
  outer := X.stack
  stack := X.stack
  ex := fp
  fn := fun _ => false
  calm := X.calm
  pn := []
  xe := fun _ _ => False

def capOk (NX : List Str) (scope : Scope) (N : List Str) (cap : List (Option Nat)) : Bool :=
  (N.zip cap).all fun p => match p.2 with
    | none => true
    | some j => decide (NX[j]? = some p.1) && decide (scope.names.lookup p.1 = some .free)
/-- closed facts about a comprehension's scope: its own names stand first (own of them), then the captured ones -/
structure CompOk (scX : Scope) (NX : List Str) (scope : Scope) (N : List Str) (own : Nat) (cap : List (Option Nat)) : Prop where
  kind : scope.kind = .function
  nocell : ∀ y ∈ scope.names, y.2 ≠ .cell
  loc : ∀ y ∈ scope.names, y.2 = .local → scope.names.lookup y.1 = some .local
  fre : ∀ y ∈ scope.names, y.2 = .free → scX.names.lookup y.1 = some .cell ∨ scX.names.lookup y.1 = some .free
  len : cap.length = N.length
  capd : capOk NX scope N cap = true
  ownd : (cap.take own).all (·.isNone) = true
  nd : N.Nodup

def capSt (cap : List (Option Nat)) (σ : St) : St := cap.map fun o => o.bind fun j => (σ[j]?).bind id
theorem capSt_len {cap : List (Option Nat)} {σ : St} : (capSt cap σ).length = cap.length := by simp [capSt]
theorem capSt_get {cap : List (Option Nat)} {σ : St} {i : Nat} {v : V} (h : (capSt cap σ)[i]? = some (some v)) : ∃ j, cap[i]? = some (some j) ∧ σ[j]? = some (some v) := by
  unfold capSt at h
  rw [List.getElem?_map] at h
  cases e : cap[i]? with
  | none => rw [e] at h; cases h
  | some o =>
    rw [e] at h
    cases o with
    | none => cases h
    | some j =>
      refine ⟨j, rfl, ?_⟩
      have h' : (σ[j]?).bind id = some v := by simpa using h
      cases q : σ[j]? with
      | none => rw [q] at h'; cases h'
      | some z => rw [q] at h'; exact congrArg some h'
theorem CompOk.at {scX : Scope} {NX : List Str} {scope : Scope} {N : List Str} {own : Nat} {cap : List (Option Nat)} (C : CompOk scX NX scope N own cap) {i j : Nat} {x : Str} (h1 : N[i]? = some x) (h2 : cap[i]? = some (some j)) :
    NX[j]? = some x ∧ scope.names.lookup x = some .free := by
  have h := C.capd
  unfold capOk at h
  have hm : (x, some j) ∈ N.zip cap := by
    refine List.mem_iff_getElem?.mpr ⟨i, ?_⟩
    rw [List.getElem?_zip_eq_some]
    exact ⟨h1, h2⟩
  have := List.all_eq_true.mp h _ hm
  simpa using this
theorem CompOk.own_none {scX : Scope} {NX : List Str} {scope : Scope} {N : List Str} {own : Nat} {cap : List (Option Nat)} (C : CompOk scX NX scope N own cap) {i j : Nat} (hi : i < own) (h : cap[i]? = some (some j)) : False := by
  have hm : some j ∈ cap.take own := by
    refine List.mem_iff_getElem?.mpr ⟨i, ?_⟩
    rw [List.getElem?_take_of_lt hi]
    exact h
  have := List.all_eq_true.mp C.ownd _ hm
  cases this

section
variable {X : Cx} {pins : List (Addr × Obj)} {σ : St} {H H3 : Hp} {s s3 : Shared} {scope : Scope} {N : List Str} {own : Nat} {cap : List (Option Nat)} {cl : List (Str × Addr)} {fp : List Addr}

theorem inv_comp (I3 : Inv X pins σ H3 s3) (C : CompOk X.env.scope X.N scope N own cap) (hcl1 : ∀ x c, cl.lookup x = some c → X.env.cells.lookup x = some c) (hcl2 : ∀ y ∈ scope.names, y.2 = .free → ∃ c, cl.lookup y.1 = some c)
    (hf : ∀ b ∈ fp, FpOk X pins H3 b ∧ b < s3.heap.objs.size) {h4 : Heap} {tk : Nat} {m4 : Str → Option Value} (hn : h4.Ns s3.heap.objs.size m4) (hk : ∀ b u, s3.heap.get? b = some u → h4.get? b = some u) :
    Inv (cxComp X scope cl N fp s3 H3) [] (capSt cap σ) H3 { s3 with heap := h4, toks := tk } := by
  refine ⟨⟨I3.ok.mod, C.kind, I3.ok.glob, I3.ok.blt, Nat.le_refl _, fun x y c e1 e2 => I3.ok.inj x y c (hcl1 _ _ e1) (hcl1 _ _ e2), fun x hx => ?_, fun x c h => ?_, I3.ok.hd, I3.ok.frames, .inl rfl, fun b hb => ?_,
    I3.bs, Nat.le_trans I3.ok.bsz I3.sz, fun b o e hb => ?_, fun b hb hz => ?_, I3.stack, I3.stkFree⟩, rfl, I3.bare, Un.kept hk, ⟨m4, hn, fun i x v e1 e2 e3 => ?_⟩, fun x c e => ?_, I3.hok.fresh (Nat.le_refl _), fun x c e => I3.freeC x c (hcl1 x c e),
    fun p hp => absurd (show p ∈ ([] : List (Addr × Obj)) from hp) (by simp), I3.hok.kept hk, ?_⟩
  · obtain ⟨y, hy, e, f⟩ := relabel_cell_or_free (env := X.env) C.nocell hx
    obtain ⟨c, q⟩ := hcl2 y hy f
    exact ⟨c, by rw [← e]; exact q⟩
  · exact absurd (show false = true from h) Bool.false_ne_true
  · obtain ⟨⟨f0, f1, f2, f3, f4, f5⟩, hlt⟩ := hf b hb
    exact ⟨Nat.ne_of_lt hlt, fun x c e => f4 x c (hcl1 x c e)⟩
  · obtain ⟨⟨f0, f1, f2, f3, f4, f5⟩, hlt⟩ := hf b hb
    rcases f3 with z | z
    · exact I3.ok.noex b o e z
    · exact absurd (Nat.lt_of_lt_of_le (Heap.lt_size e) (Nat.le_trans I3.ok.bsz z)) (Nat.lt_irrefl _)
  · obtain ⟨⟨f0, f1, f2, f3, f4, f5⟩, hlt⟩ := hf b hb
    rcases List.mem_cons.mp (I3.stkSub b hz) with z | z
    · exact f1 z
    · exact f2 z
  · obtain ⟨j, c1, c2⟩ := capSt_get e2
    obtain ⟨d1, d2⟩ := C.at e1 c1
    have hk2 := C.fre (x, .free) (PySem.mem_of_lookup d2) rfl
    obtain ⟨mX, hnX, hl⟩ := I3.loc
    obtain ⟨u, r, l⟩ := hl j x v d1 c2 (.inr hk2)
    refine ⟨u, r, ?_⟩
    rcases l with ⟨k, _⟩ | ⟨k, c, e, z⟩
    · exfalso
      have k' : X.env.scope.names.lookup x = some .local := k
      rcases hk2 with q | q
      · rw [k'] at q; cases q
      · rw [k'] at q; cases q
    · obtain ⟨c', q⟩ := hcl2 (x, .free) (PySem.mem_of_lookup d2) rfl
      have e' := hcl1 x c' q
      rw [e] at e'
      cases e'
      obtain ⟨o, ho, hd⟩ := z
      exact .inr ⟨lookup_relabel_free (env := X.env) d2, c, q, o, hk _ _ ho, hd⟩
  · obtain ⟨v, o, ho, hd⟩ := I3.cell x c (hcl1 x c e)
    exact ⟨v, o, hk _ _ ho, hd⟩
  · rw [capSt_len]; exact C.len

/-- behind the block -/
theorem comp_back {pins' : List (Addr × Obj)} {σ' : St} {H' : Hp} {s' : Shared} (I3 : Inv X pins σ H3 s3) (hf : ∀ b ∈ fp, FpOk X pins H3 b) (I' : Inv (cxComp X scope cl N fp s3 H3) pins' σ' H' s') : Inv X pins σ H' s' :=
  I3.call' (ch := fp) I'.os I'.base I'.hok I'.bare fun b hb => by
    obtain ⟨f0, f1, f2, f3, f4, f5⟩ := hf b hb
    exact ⟨f3, f1, f4, f5⟩
/-- an address of the block's own namespace -/
structure Apart (X : Cx) (pins : List (Addr × Obj)) (C : Addr) : Prop where
  loc : C ≠ X.env.locals
  new : X.s₀.heap.objs.size ≤ C
  cel : ∀ x c, X.env.cells.lookup x = some c → c ≠ C
  pin : ∀ p ∈ X.pn ++ pins, p.1 ≠ C
theorem Inv.apart (I3 : Inv X pins σ H3 s3) : Apart X pins s3.heap.objs.size :=
  ⟨Nat.ne_of_gt I3.lt, I3.sz, fun x c e => by obtain ⟨v, o, ho, _⟩ := I3.cell x c e; exact Nat.ne_of_lt (Heap.lt_size ho), fun p hp => Nat.ne_of_lt (Heap.lt_size (I3.pin p hp).1)⟩
theorem comp_gone {C : Addr} {h' : Heap} (I : Inv X pins σ H s) (P : Apart X pins C) (hn : H C = none) (hs : Heap.SameBut C s.heap h') : Inv X pins σ H { s with heap := h' } :=
  I.turned (t' := s.toks) (fun b o hb e => (hs.2 b hb).trans e) hn P.loc (.inr P.new) P.cel P.pin
end

/-! ### targets that store into a comprehension's own names -/
structure GOwn (own : Nat) (g : TG) : Prop where
  mono : ∀ v σ H Q Q', (∀ σ' H', Q σ' H' → Q' σ' H') → g v σ H Q → g v σ H Q'
  own : ∀ v σ H Q, g v σ H Q → g v σ H fun σ' H' => Q σ' H' ∧ σ'.length = σ.length ∧ ∀ i, own ≤ i → σ'[i]? = σ[i]?
structure GsOwn (own : Nat) (g : TGs) : Prop where
  mono : ∀ v σ H Q Q', (∀ σ' H', Q σ' H' → Q' σ' H') → g v σ H Q → g v σ H Q'
  own : ∀ v σ H Q, g v σ H Q → g v σ H fun σ' H' => Q σ' H' ∧ σ'.length = σ.length ∧ ∀ i, own ≤ i → σ'[i]? = σ[i]?
theorem GOwn.name {own i : Nat} (h : i < own) : GOwn own (gName i) :=
  ⟨fun v σ H Q Q' f q => f _ _ q, fun v σ H Q q => ⟨q, List.length_set, fun j hj => List.getElem?_set_ne (by omega)⟩⟩
theorem GsOwn.nil {own : Nat} : GsOwn own gNil := ⟨fun v σ H Q Q' f q => ⟨q.1, f _ _ q.2⟩, fun v σ H Q q => ⟨q.1, q.2, rfl, fun _ _ => rfl⟩⟩
theorem GsOwn.cons {own : Nat} {t : TG} {u : TGs} (h1 : GOwn own t) (h2 : GsOwn own u) : GsOwn own (gCons t u) where
  mono := fun v σ H Q Q' f ⟨x, r, e, q⟩ => ⟨x, r, e, h1.mono _ _ _ _ _ (fun σ' H' q => h2.mono _ _ _ _ _ f q) q⟩
  own := fun v σ H Q ⟨x, r, e, q⟩ => ⟨x, r, e, h1.mono _ _ _ _ _ (fun σ1 H1 ⟨q, l1, o1⟩ => h2.mono _ _ _ _ _ (fun σ2 H2 ⟨q, l2, o2⟩ => ⟨q, l2.trans l1, fun i hi => (o2 i hi).trans (o1 i hi)⟩) (h2.own _ _ _ _ q)) (h1.own _ _ _ _ q)⟩
theorem GOwn.tup {own n : Nat} {K : PySem.W.Frag} {t : TGs} (h : GsOwn own t) : GOwn own (gTup K n t) where
  mono := fun v σ H Q Q' f ⟨a, xs, e, q1, q2, q⟩ => ⟨a, xs, e, q1, q2, h.mono _ _ _ _ _ f q⟩
  own := fun v σ H Q ⟨a, xs, e, q1, q2, q⟩ => ⟨a, xs, e, q1, q2, h.own _ _ _ _ q⟩

/-! ### the tests of a comprehension -/
def PIfs (X : Cx) (ifs : List Expr) (t : TT) : Prop :=
  ∀ (pins : List (Addr × Obj)) (s : Shared) (σ : St) (H : Hp) (Q : Bool → Hp → Prop), Inv X pins σ H s → t σ H Q → wpAny (model X.prog X.w) X.A (testsOf ifs X.env) (TP X pins σ Q) X.xe s
def tYes : TT := fun _ H Q => Q true H
theorem pifs_nil {X : Cx} : PIfs X [] tYes := fun _ _ _ H _ I h => wpAny_tests_nil ⟨H, I, h⟩
theorem pifs_one {X : Cx} {c : Expr} {t : TT} (h : PT X c t) : PIfs X [c] t := fun pins s σ H Q I q => wpAny_tests_one (h pins s σ H Q I q)

/-! ### a list comprehension -/
/-- one turn and all behind it: W speaks of the turn, a measure, the items so far, the heap; l: the new list -/
def LcW (J : It) (g : TG) (tt : TT) (te : TE) (cap : List (Option Nat)) (σ : St) (Q : VK) (l : Addr) (H1 : Hp) : Prop :=
  ∃ W : Nat → Nat → List V → Hp → Prop, (∃ m, W 0 m [] (upd H1 l (.lst []))) ∧ ∀ i m acc H, W i m acc H →
    (J.stop i H ∧ Q (.ref l) H) ∨ (J.go i H ∧ ∃ N : List V → Hp → Prop, (∀ acc' H', N acc' H' → ∃ m', m' < m ∧ W (i + 1) m' acc' H') ∧
      ∀ x H', J.yld i H x H' → g x (capSt cap σ) H' fun σ2 H2 => tt σ2 H2 fun b H3 =>
        if b = true then te σ2 H3 fun y H4 => H4 l = some (.lst acc) ∧ acc.length < sizeLine ∧ N (acc ++ [y]) (upd H4 l (.lst (acc ++ [y])))
        else N acc H3)
def tLC (wi : TI) (cap : List (Option Nat)) (g : TG) (tt : TT) (te : TE) : TE := fun σ H Q => wi σ H fun J H1 => ∀ l, H1 l = none →
  LcW J g tt te cap σ Q l H1

section
variable {X : Cx} {pins : List (Addr × Obj)} {σ : St} {H1 : Hp} {s2 : Shared} {scope : Scope} {N : List Str} {own : Nat} {cap : List (Option Nat)} {cl : List (Str × Addr)} {fp : List Addr}
  {tg iter elt : Expr} {ifs : List Expr} {pos : Pos} {g : TG} {tt : TT} {te : TE} {wi : TI}

theorem comp_run {it : Addr} {tn : Nat → Heap → Prop} {J : It} {Q : VK} {RR : Value → Addr → Result → Shared → Prop} {E : Value → Shared → Prop} (I : Inv X pins σ H1 s2) (T : Turn X.prog X.w X.K tg J fp it tn) (t0 : tn 0 s2.heap)
    (f : ∀ b ∈ fp, FpOk X pins H1 b) (hc : X.calm = true) (C : CompOk X.env.scope X.N scope N own cap) (ho : GOwn own g)
    (hcl1 : ∀ x c, cl.lookup x = some c → X.env.cells.lookup x = some c) (hcl2 : ∀ y ∈ scope.names, y.2 = .free → ∃ c, cl.lookup y.1 = some c)
    (hg : ∀ s3 H3, PG (cxComp X scope cl N fp s3 H3) tg g) (ht : ∀ s3 H3, PIfs (cxComp X scope cl N fp s3 H3) ifs tt) (he : ∀ s3 H3, PE (cxComp X scope cl N fp s3 H3) elt te)
    (hw : ∀ l, H1 l = none → LcW J g tt te cap σ Q l H1)
    (fin : ∀ l C s' H' m', Inv X pins σ H' s' → s'.heap.Ns C m' → H' C = none → Apart X pins C → Q (.ref l) H' → RR (.ref l) C (.ok .next) s') :
    wpAny (model X.prog X.w) X.A (newList []) (fun acc s₃ => wpAny (model X.prog X.w) X.A (newFunctionEnv scope X.env.globals cl [] X.env.qual none .none (some X.env)) (fun cenv s₄ =>
      codeAny (model X.prog X.w) X.A (.compStart (.ListComp elt [⟨tg, iter, ifs, 0⟩] scope pos) 0 (.ref it) acc { cenv with scope := relabel scope X.env }) (RR acc cenv.locals) s₄) E s₃) E s2 := by
  refine wpAny_newObj_type (wpAny_newFunctionEnv C.nocell (by intro y hy; simp at hy) (fun h₁ hns₁ hsb₁ => ?_) C.kind)
  dsimp only at hns₁ hsb₁ ⊢
  obtain ⟨W, ⟨m0, w0⟩, turn⟩ := hw s2.heap.objs.size I.fresh
  have I3 : Inv X pins σ (upd H1 s2.heap.objs.size (.lst [])) { s2 with heap := s2.heap.push { cls := .type "list", dict := none, data := .seq ([] : List Value).toArray } } := I.lnew (ys := []) (its := []) (t' := s2.toks) .nil (Nat.zero_le _)
  generalize hs3 : ({ s2 with heap := s2.heap.push { cls := .type "list", dict := none, data := .seq ([] : List Value).toArray } } : Shared) = s3 at I3
  have hh3 : s3.heap = s2.heap.push { cls := .type "list", dict := none, data := .seq ([] : List Value).toArray } := by rw [← hs3]
  rw [← hh3] at hns₁ hsb₁ ⊢
  have e4 : ({ s2 with heap := h₁, toks := s2.toks + ([] : List (Str × Value)).length } : Shared) = { s3 with heap := h₁, toks := s2.toks } := by rw [← hs3]; rfl
  rw [e4]
  have k4 : ∀ b u, s3.heap.get? b = some u → h₁.get? b = some u := fun b u e => hsb₁.extBut b u (Nat.ne_of_lt (Heap.lt_size e)) (Heap.get?_push_of_some _ e)
  have k3 : ∀ b u, s2.heap.get? b = some u → s3.heap.get? b = some u := fun b u e => by rw [hh3]; exact Heap.get?_push_of_some _ e
  have hb2 : ∀ b ∈ fp, b < s2.heap.objs.size := fun b hb => by obtain ⟨o, e, _⟩ := T.obj _ _ t0 b hb; exact Heap.lt_size e
  have f3 : ∀ b ∈ fp, FpOk X pins (upd H1 s2.heap.objs.size (.lst [])) b := fun b hb => by
    obtain ⟨f0, fr⟩ := f b hb
    exact ⟨by rw [upd_ne (Nat.ne_of_lt (hb2 b hb))]; exact f0, fr⟩
  have hb3 : ∀ b ∈ fp, b < s3.heap.objs.size := fun b hb => by obtain ⟨o, e, _⟩ := T.obj _ _ t0 b hb; exact Heap.lt_size (k3 b o e)
  have I4 := inv_comp (tk := s2.toks) I3 C hcl1 hcl2 (fun b hb => ⟨f3 b hb, hb3 b hb⟩) hns₁ k4
  generalize hH3 : upd H1 s2.heap.objs.size (.lst []) = H3 at *
  have st4 : tn 0 h₁ := T.keep _ _ _ t0 fun b hb o e => k4 b o (k3 b o e)
  have fpX : ∀ {H' : Hp}, (∀ b ∈ fp, H' b = none) → ∀ b ∈ fp, FpOk (cxComp X scope cl N fp s3 H3) [] H' b := fun {H'} hn b hb => by
    obtain ⟨f0, f1, f2, f3', f4, f5⟩ := f3 b hb
    refine ⟨hn b hb, Nat.ne_of_lt (hb3 b hb), fun hz => ?_, .inl hb, fun x c e => f4 x c (hcl1 x c e), fun p hp => absurd (show p ∈ ([] : List (Addr × Obj)) from hp) (by simp)⟩
    rcases List.mem_cons.mp (I3.stkSub b hz) with z | z
    · exact f1 z
    · exact f2 z
  have loop : codeAny (model X.prog X.w) X.A (.compLoop (.ListComp elt [⟨tg, iter, ifs, 0⟩] scope pos) 0 (.ref it) (.ref s2.heap.objs.size) (compEnvC scope cl s3.heap.objs.size X.env)) (RR (.ref s2.heap.objs.size) s3.heap.objs.size) { s3 with heap := h₁, toks := s2.toks } := by
    refine compLoop_go (fun n s' => ∃ i acc H', Inv (cxComp X scope cl N fp s3 H3) [] (capSt cap σ) H' s' ∧ tn i s'.heap ∧ (∀ b ∈ fp, H' b = none) ∧ W i n acc H') ?_ m0 ⟨0, [], H3, I4, st4, fun b hb => (f3 b hb).1, w0⟩
    rintro n s' ⟨i, acc, H', I', st, fr, w⟩
    rcases turn i n acc H' w with ⟨stop, q⟩ | ⟨go, NN, hNN, step⟩
    · refine thn (T.done (cxComp X scope cl N fp s3 H3) rfl rfl rfl hc i [] s' _ H' (fun _ _ => False) I' (fpX fr) st stop) fun r s5 ⟨hr, I5⟩ => ?_
      subst hr
      obtain ⟨m5, hn5, _⟩ := id I5.loc
      exact fin _ _ s5 H' m5 (comp_back I3 f3 I5) hn5 I5.free (TL.Inv.apart I3) q
    · refine thn (T.item (cxComp X scope cl N fp s3 H3) rfl rfl rfl hc i [] s' _ H' (fun _ _ => False) I' (fpX fr) st go) fun r s5 ⟨u, hr, h5⟩ => ?_
      subst hr
      refine thn h5 fun _ s6 ⟨x, H6, I6, r6, y6, st6, fr6⟩ => ?_
      have I6' := I6.pinned (fpX fr6) (T.obj _ _ st6)
      refine thn (hg s3 H3 _ s6 _ H6 x u _ I6' r6 (ho.own _ _ _ _ (step x H6 y6))) fun _ s7 ⟨σ7, H7, I7, q7, l7, o7⟩ => ?_
      have cov : ∀ (i : Nat) v, (capSt cap σ)[i]? = some (some v) → σ7[i]? = some (some v) := fun i v e => by
        obtain ⟨j, c1, c2⟩ := capSt_get e
        by_cases hi : i < own
        · exact (C.own_none hi c1).elim
        · rw [o7 i (by omega)]; exact e
      have back : ∀ {H8 : Hp} {s8 : Shared}, Inv (cxComp X scope cl N fp s3 H3) ([] ++ pinsAt fp s6.heap) σ7 H8 s8 → Inv (cxComp X scope cl N fp s3 H3) [] (capSt cap σ) H8 s8 ∧ tn (i + 1) s8.heap ∧ ∀ b ∈ fp, H8 b = none := fun {H8 s8} I8 => by
        refine ⟨(Inv.unpinned (pins := []) I8).weak l7.symm cov, T.keep _ _ _ st6 fun b hb o e => (I8.pin (b, o) (List.mem_append_right _ (List.mem_append_right _ (mem_pinsAt hb e)))).1, fun b hb => ?_⟩
        obtain ⟨o, e, d⟩ := T.obj _ _ st6 b hb
        exact (I8.pin (b, o) (List.mem_append_right _ (List.mem_append_right _ (mem_pinsAt hb e)))).2.1
      refine thn (ht s3 H3 _ s7 σ7 H7 _ I7 q7) fun b s8 ⟨H8, I8, q8⟩ => ?_
      cases b with
      | false =>
        rw [if_neg Bool.false_ne_true] at q8 ⊢
        obtain ⟨m', hm, w8⟩ := hNN _ _ q8
        obtain ⟨J1, J2, J3⟩ := back I8
        exact ⟨m', hm, i + 1, acc, H8, J1, J2, J3, w8⟩
      | true =>
        rw [if_pos rfl] at q8 ⊢
        refine thn (he s3 H3 _ s8 σ7 H8 _ I8 q8) fun v s9 ⟨y, H9, I9, r9, ha, hz, n9⟩ => ?_
        obtain ⟨m', hm, w9⟩ := hNN _ _ n9
        refine thn (mt_append _ s9 σ7 H9 (.ref s2.heap.objs.size) [y] (.ref s2.heap.objs.size) [v] (fun _ H10 => W (i + 1) m' (acc ++ [y]) H10) I9 rfl (.cons r9 .nil) ⟨_, acc, y, rfl, rfl, ha, hz, w9⟩) fun _ s10 ⟨_, H10, I10, _, w10⟩ => ?_
        obtain ⟨J1, J2, J3⟩ := back I10
        exact ⟨m', hm, i + 1, acc ++ [y], H10, J1, J2, J3, w10⟩
  exact codeAny_compStart_list loop (T.self X.A 0 _ _ _ st4 loop)

theorem pe_lc (hi : PI X tg iter wi) (hc : X.calm = true) (C : CompOk X.env.scope X.N scope N own cap) (ho : GOwn own g)
    (hg : ∀ cl fp s3 H3, PG (cxComp X scope cl N fp s3 H3) tg g) (ht : ∀ cl fp s3 H3, PIfs (cxComp X scope cl N fp s3 H3) ifs tt) (he : ∀ cl fp s3 H3, PE (cxComp X scope cl N fp s3 H3) elt te)
    (hs : ∀ x, foldedSetIterable iter X.env x = pure x := by intro _; rfl) : PE X (.ListComp elt [⟨tg, iter, ifs, 0⟩] scope pos) (tLC wi cap g tt te) := by
  intro pins s σ H Q I h
  obtain ⟨cl, ecl, hcl1, hcl2⟩ := closure_ok (scope := scope) (env := X.env) fun y hy hf => I.ok.has y.1 (C.fre y hy hf)
  rw [eval_ListComp]
  refine wpAny_comprehension_free (use := none) rfl hs ecl C.kind C.loc (thn (hi pins s σ H _ I h) fun xv s1 h1 => thn h1 fun itv s2 h2 => ?_)
  obtain ⟨it, fp, tn, J, H2, e, I2, T, st2, f2, hw⟩ := h2
  subst e
  refine comp_run (RR := fun acc C => compPost (model X.prog X.w) X.A X.xe none (EP X pins σ Q) acc C) I2 T st2 f2 hc C ho hcl1 hcl2 (hg cl fp) (ht cl fp) (he cl fp) hw fun l Ca s' H' m' I' hn hfree hP q => ?_
  exact ⟨m', hn, fun h'' hs'' => ⟨.ref l, H', comp_gone I' hP hfree hs'', rfl, q⟩⟩

/-- name = [..], a plain local name on the comprehension's own row: the store comes ahead of the block's end -/
theorem ps_lc {i : Nat} {x : Str} {pos' spos : Pos} (hN : X.N.Nodup) (hi' : X.N[i]? = some x) (hx : X.env.scope.names.lookup x = some .local) (hi : PI X tg iter wi) (hc : X.calm = true) (C : CompOk X.env.scope X.N scope N own cap) (ho : GOwn own g)
    (hg : ∀ cl fp s3 H3, PG (cxComp X scope cl N fp s3 H3) tg g) (ht : ∀ cl fp s3 H3, PIfs (cxComp X scope cl N fp s3 H3) ifs tt) (he : ∀ cl fp s3 H3, PE (cxComp X scope cl N fp s3 H3) elt te)
    (hsw : swapsWith (.ListComp elt [⟨tg, iter, ifs, 0⟩] scope pos) (some (.Name x pos')) spos.line X.env = pure true := by rfl)
    (hs : ∀ x, foldedSetIterable iter X.env x = pure x := by intro _; rfl) : PS X (.Assign [.Name x pos'] (.ListComp elt [⟨tg, iter, ifs, 0⟩] scope pos) spos) (tAsg (tLC wi cap g tt te) (gName i)) := by
  intro pins s σ H D I h
  obtain ⟨cl, ecl, hcl1, hcl2⟩ := closure_ok (scope := scope) (env := X.env) fun y hy hf => I.ok.has y.1 (C.fre y hy hf)
  rw [exec_Assign_Name_used _ _ _ _ hsw]
  refine wpAny_bind (wpAny_standAt (wpAny_bind ?_))
  show wpAny _ X.A (do let _ ← comprehension (.ListComp elt [⟨tg, iter, ifs, 0⟩] scope pos) scope X.env _ (newList []) false (eval iter X.env) (some (assign (.Name x pos') X.env))) _ _ s
  refine wpAny_bind (wpAny_mono (wpAny_comprehension_free (use := some (assign (.Name x pos') X.env)) (Q := fun _ s' => SP X pins D .next s') rfl hs ecl C.kind C.loc
    (thn (hi pins s σ H _ I h) fun xv s1 h1 => thn h1 fun itv s2 h2 => ?_)) (fun _ s' hq => wpAny_pure (wpAny_pure hq)) fun _ _ e => e)
  obtain ⟨it, fp, tn, J, H2, e, I2, T, st2, f2, hw⟩ := h2
  subst e
  refine comp_run (RR := fun acc C => compPost (model X.prog X.w) X.A X.xe (some (assign (.Name x pos') X.env)) (fun _ s' => SP X pins D .next s') acc C) I2 T st2 f2 hc C ho hcl1 hcl2 (hg cl fp) (ht cl fp) (he cl fp) hw fun l Ca s' H' m' I' hn hfree hP q => ?_
  show wpAny _ X.A (assign (.Name x pos') X.env (.ref l)) _ _ _
  refine wpAny_assign_Name (store_ok2 I' hN hi' (.inl hx) (v := .ref l) rfl (fun s5 I5 ⟨a, sb, ha⟩ => ?_) (.inr hx))
  have hne : Ca ≠ a := by
    rcases ha with z | z
    · rw [z]; exact hP.loc
    · exact fun e => hP.cel x a z e.symm
  refine ⟨m', hn.sameBut sb hne, fun h'' hs'' => ⟨_, H', comp_gone I5 hP hfree hs'', q⟩⟩
end

/-! ### the forms one uses -/
section
variable {K : PySem.W.Frag} {a l : Addr} {xs : List V} {g : TG} {tt : TT} {te : TE} {cap : List (Option Nat)} {σ : St} {Q : VK} {H1 : Hp}
theorem lc_list (Pv : Nat → List V → Hp → Prop) (h0 : Pv 0 [] (upd H1 l (.lst []))) (hl : ∀ i acc H, i ≤ xs.length → Pv i acc H → SqL K H a xs)
    (hs : ∀ i x acc H, xs[i]? = some x → Pv i acc H → g x (capSt cap σ) H fun σ2 H2 => tt σ2 H2 fun b H3 =>
        if b = true then te σ2 H3 fun y H4 => H4 l = some (.lst acc) ∧ acc.length < sizeLine ∧ Pv (i + 1) (acc ++ [y]) (upd H4 l (.lst (acc ++ [y])))
        else Pv (i + 1) acc H3) (hd : ∀ acc H, Pv xs.length acc H → Q (.ref l) H) : LcW (Itl K a) g tt te cap σ Q l H1 := by
  refine ⟨fun i m acc H => m = xs.length - i ∧ i ≤ xs.length ∧ Pv i acc H, ⟨xs.length, by simp, Nat.zero_le _, h0⟩, ?_⟩
  rintro i m acc H ⟨rfl, hi, p⟩
  have q := hl i acc H hi p
  by_cases hlt : i < xs.length
  · refine .inr ⟨⟨xs, xs[i], q, by simp [hlt]⟩, Pv (i + 1), fun acc' H' p' => ⟨xs.length - (i + 1), by omega, rfl, hlt, p'⟩, fun x H' y => ?_⟩
    obtain ⟨e, y⟩ := y
    subst e
    exact hs i x acc _ (y xs q) p
  · have e : i = xs.length := by omega
    subst e
    exact .inl ⟨⟨xs, q, Nat.le_refl _⟩, hd acc H p⟩
theorem same_upd {H : Hp} {l : Addr} {o : HO} (hn : H l = none) : Same H (upd H l o) := fun b u e => by rw [upd_ne (ne_of_none e hn)]; exact e
/-- each turn tests and reckons by pure functions of the data ds, and makes nothing that is kept -/
theorem lc_pure {α : Type} (ds : List α) (p : α → Bool) (f : α → V) (hn : H1 l = none) (hx : SqL K H1 a xs) (hlen : xs.length = ds.length) (hz : xs.length < sizeLine)
    (hs : ∀ (i : Nat) x d H, xs[i]? = some x → ds[i]? = some d → Same H1 H → ∀ (P1 : VK) (P0 : Hp → Prop), (p d = true → P1 (f d) H) → (p d = false → P0 H) →
      g x (capSt cap σ) H fun σ2 H2 => tt σ2 H2 fun b H3 => if b = true then te σ2 H3 P1 else P0 H3)
    (hq : Q (.ref l) (upd H1 l (.lst ((ds.filter p).map f)))) : LcW (Itl K a) g tt te cap σ Q l H1 := by
  refine lc_list (fun i acc H => acc = ((ds.take i).filter p).map f ∧ H = upd H1 l (.lst acc)) ⟨rfl, rfl⟩ (fun i acc H _ ⟨_, e⟩ => by rw [e]; exact (same_upd hn).seq hx) ?_ ?_
  · rintro i x acc H hi ⟨e1, e2⟩
    have hlt : i < xs.length := (List.getElem?_eq_some_iff.mp hi).1
    have hd : ds[i]? = some (ds[i]'(by omega)) := by simp
    generalize ds[i]'(by omega) = d at hd
    have step : ((ds.take (i + 1)).filter p).map f = acc ++ (if p d = true then [f d] else []) := by
      rw [take_succ_filter p ds i d hd, List.map_append, e1]
      cases p d <;> rfl
    refine hs i x d H hi hd (by rw [e2]; exact same_upd hn) _ _ (fun hp => ?_) (fun hp => ?_)
    · refine ⟨by rw [e2, upd_same], ?_, ?_, ?_⟩
      · have h1 : acc.length ≤ i := by
          rw [e1, List.length_map]
          exact Nat.le_trans (List.length_filter_le _ _) (by rw [List.length_take]; omega)
        omega
      · rw [step, hp]; rfl
      · rw [e2, upd_upd]
    · refine ⟨?_, e2⟩
      rw [step, hp, if_neg Bool.false_ne_true, List.append_nil]
  · rintro acc H ⟨e1, e2⟩
    rw [hlen, List.take_length] at e1
    rw [e2, e1]
    exact hq
end
end TL
set_option Elab.async false
set_option linter.all false
set_option maxRecDepth 100000
set_option maxHeartbeats 4000000
namespace TL
open PySem PySem.Spec PyProof.Rows L2

/-! ### data in the heap: L says how a list stands at an address, T how a tuple does -/
mutual
def Dg (L T : Addr → List V → Prop) : PyData → V → Prop
  | .none, v => v = .non
  | .bool b, v => v = .bl b
  | .int i, v => v = .int i
  | .str x, v => v = .str x
  | .list ds, v => ∃ a vs, v = .ref a ∧ L a vs ∧ Dgs L T ds vs
  | .tuple ds, v => ∃ a vs, v = .ref a ∧ T a vs ∧ Dgs L T ds vs
  | .dict _, _ => False
def Dgs (L T : Addr → List V → Prop) : List PyData → List V → Prop
  | [], vs => vs = []
  | d :: ds, vs => ∃ v r, vs = v :: r ∧ Dg L T d v ∧ Dgs L T ds r
end
mutual
theorem Dg.mono {L T L' T' : Addr → List V → Prop} (hL : ∀ a vs, L a vs → L' a vs) (hT : ∀ a vs, T a vs → T' a vs) : ∀ {d : PyData} {v : V}, Dg L T d v → Dg L' T' d v
  | .none, _, h => by simpa only [Dg] using h
  | .bool _, _, h => by simpa only [Dg] using h
  | .int _, _, h => by simpa only [Dg] using h
  | .str _, _, h => by simpa only [Dg] using h
  | .list ds, _, h => by
    simp only [Dg] at h ⊢
    obtain ⟨a, vs, e, l, q⟩ := h
    exact ⟨a, vs, e, hL a vs l, Dgs.mono hL hT q⟩
  | .tuple ds, _, h => by
    simp only [Dg] at h ⊢
    obtain ⟨a, vs, e, l, q⟩ := h
    exact ⟨a, vs, e, hT a vs l, Dgs.mono hL hT q⟩
  | .dict _, _, h => by simp only [Dg] at h
theorem Dgs.mono {L T L' T' : Addr → List V → Prop} (hL : ∀ a vs, L a vs → L' a vs) (hT : ∀ a vs, T a vs → T' a vs) : ∀ {ds : List PyData} {vs : List V}, Dgs L T ds vs → Dgs L' T' ds vs
  | [], _, h => by simpa only [Dgs] using h
  | d :: ds, _, h => by
    simp only [Dgs] at h ⊢
    obtain ⟨v, r, e, l, q⟩ := h
    exact ⟨v, r, e, Dg.mono hL hT l, Dgs.mono hL hT q⟩
end
section
variable {L T : Addr → List V → Prop}
theorem dg_int {i : Int} {v : V} : Dg L T (.int i) v ↔ v = .int i := by simp only [Dg]
theorem dg_str {i : Str} {v : V} : Dg L T (.str i) v ↔ v = .str i := by simp only [Dg]
theorem dg_list {ds : List PyData} {v : V} : Dg L T (.list ds) v ↔ ∃ a vs, v = .ref a ∧ L a vs ∧ Dgs L T ds vs := by simp only [Dg]
theorem dg_tuple {ds : List PyData} {v : V} : Dg L T (.tuple ds) v ↔ ∃ a vs, v = .ref a ∧ T a vs ∧ Dgs L T ds vs := by simp only [Dg]
theorem dgs_nil {vs : List V} : Dgs L T [] vs ↔ vs = [] := by simp only [Dgs]
theorem dgs_cons {d : PyData} {ds : List PyData} {vs : List V} : Dgs L T (d :: ds) vs ↔ ∃ v r, vs = v :: r ∧ Dg L T d v ∧ Dgs L T ds r := by simp only [Dgs]
theorem Dgs.length : ∀ {ds : List PyData} {vs : List V}, Dgs L T ds vs → vs.length = ds.length
  | [], _, h => by rw [dgs_nil.mp h]; rfl
  | d :: ds, _, h => by
    obtain ⟨v, r, rfl, _, q⟩ := dgs_cons.mp h
    rw [List.length_cons, List.length_cons, Dgs.length q]
theorem dgs_ints : ∀ {ns : List Int} {vs : List V}, Dgs L T (ns.map .int) vs ↔ vs = ns.map V.int
  | [], vs => dgs_nil
  | n :: ns, vs => by
    rw [List.map_cons, dgs_cons]
    constructor
    · rintro ⟨v, r, rfl, h1, h2⟩
      rw [dg_int.mp h1, dgs_ints.mp h2]; rfl
    · rintro rfl
      exact ⟨_, _, rfl, dg_int.mpr rfl, dgs_ints.mpr rfl⟩
theorem Dgs.append : ∀ {ds es : List PyData} {vs us : List V}, Dgs L T ds vs → Dgs L T es us → Dgs L T (ds ++ es) (vs ++ us)
  | [], _, _, _, h, k => by rw [dgs_nil.mp h]; exact k
  | d :: ds, _, _, _, h, k => by
    obtain ⟨v, r, rfl, h1, q⟩ := dgs_cons.mp h
    exact dgs_cons.mpr ⟨v, _, rfl, h1, Dgs.append q k⟩
theorem Dgs.one {d : PyData} {v : V} (h : Dg L T d v) : Dgs L T [d] [v] := dgs_cons.mpr ⟨v, [], rfl, h, dgs_nil.mpr rfl⟩
theorem Dgs.two {d e : PyData} {v u : V} (h : Dg L T d v) (k : Dg L T e u) : Dgs L T [d, e] [v, u] := dgs_cons.mpr ⟨v, [u], rfl, h, .one k⟩
theorem Dgs.get : ∀ {ds : List PyData} {vs : List V} {i : Nat} {v : V}, Dgs L T ds vs → vs[i]? = some v → ∃ d, ds[i]? = some d ∧ Dg L T d v
  | [], _, _, _, h, e => by rw [dgs_nil.mp h] at e; simp at e
  | d :: ds, _, 0, v, h, e => by
    obtain ⟨x, r, rfl, h1, q⟩ := dgs_cons.mp h
    simp at e; subst e
    exact ⟨d, rfl, h1⟩
  | d :: ds, _, i + 1, v, h, e => by
    obtain ⟨x, r, rfl, h1, q⟩ := dgs_cons.mp h
    obtain ⟨d', e1, e2⟩ := Dgs.get (i := i) (v := v) q (by simpa using e)
    exact ⟨d', by simpa using e1, e2⟩
theorem Dgs.insert : ∀ {ds : List PyData} {vs : List V} (i : Nat) {d : PyData} {v : V}, Dgs L T ds vs → Dg L T d v → Dgs L T (ds.take i ++ d :: ds.drop i) (vs.take i ++ v :: vs.drop i)
  | ds, vs, 0, d, v, h, k => dgs_cons.mpr ⟨v, vs, by simp, k, by simpa using h⟩
  | [], vs, i + 1, d, v, h, k => by rw [dgs_nil.mp h]; simpa using Dgs.one k
  | x :: ds, vs, i + 1, d, v, h, k => by
    obtain ⟨y, r, rfl, h1, q⟩ := dgs_cons.mp h
    exact dgs_cons.mpr ⟨y, _, rfl, h1, Dgs.insert i q k⟩
end

/-- data as it may be read -/
abbrev Da (K : PySem.W.Frag) (H : Hp) : PyData → V → Prop := Dg (SqL K H) (SqT K H)
abbrev Das (K : PySem.W.Frag) (H : Hp) : List PyData → List V → Prop := Dgs (SqL K H) (SqT K H)
theorem same_tseq {K : PySem.W.Frag} {H H' : Hp} {a : Addr} {xs : List V} (e : Same H H') (h : SqT K H a xs) : SqT K H' a xs := by
  rcases h with (h | ⟨o, h⟩) | h
  · exact .inl (.inl (e _ _ h))
  · exact .inl (.inr ⟨o, e _ _ h⟩)
  · exact .inr h
theorem Da.same {K : PySem.W.Frag} {H H' : Hp} (e : Same H H') {d : PyData} {v : V} (h : Da K H d v) : Da K H' d v := Dg.mono (fun _ _ q => e.seq q) (fun _ _ q => same_tseq e q) h
theorem Das.same {K : PySem.W.Frag} {H H' : Hp} (e : Same H H') {d : List PyData} {v : List V} (h : Das K H d v) : Das K H' d v := Dgs.mono (fun _ _ q => e.seq q) (fun _ _ q => same_tseq e q) h

section
variable {X : Cx} {pins : List (Addr × Obj)} {σ : St} {H : Hp} {s : Shared}
mutual
theorem Da.reads (I : Inv X pins σ H s) : ∀ {d : PyData} {v : V} {u : Value}, Da X.K H d v → RelV v u → ∃ as, Reads s.heap u d as
  | .none, v, u, h, r => by
    have e : v = .non := by simpa only [Dg] using h
    subst e; cases r; exact ⟨_, .none⟩
  | .bool b, v, u, h, r => by
    have e : v = .bl b := by simpa only [Dg] using h
    subst e; cases r; exact ⟨_, .bool b⟩
  | .int i, v, u, h, r => by
    have e : v = .int i := by simpa only [Dg] using h
    subst e; obtain ⟨t, rfl⟩ := r; exact ⟨_, .int i t⟩
  | .str i, v, u, h, r => by
    have e : v = .str i := by simpa only [Dg] using h
    subst e; obtain ⟨t, rfl⟩ := r; exact ⟨_, .str i t⟩
  | .list ds, v, u, h, r => by
    obtain ⟨a, vs, rfl, l, q⟩ := dg_list.mp h
    cases r
    obtain ⟨its, rv, p, hz⟩ := I.list l
    obtain ⟨as, rs⟩ := Das.reads I q rv
    obtain ⟨o, ho, hc, n, hd⟩ := p.isList
    exact ⟨_, .list ho hc hd (by simpa using rs)⟩
  | .tuple ds, v, u, h, r => by
    obtain ⟨a, vs, rfl, l, q⟩ := dg_tuple.mp h
    cases r
    obtain ⟨its, rv, p, hz⟩ := I.tuple l
    obtain ⟨as, rs⟩ := Das.reads I q rv
    obtain ⟨o, ho, hc, n, hd⟩ := p
    exact ⟨_, .tuple ho hc hd (by simpa using rs)⟩
  | .dict _, v, u, h, r => by simp only [Dg] at h
theorem Das.reads (I : Inv X pins σ H s) : ∀ {ds : List PyData} {vs : List V} {us : List Value}, Das X.K H ds vs → Vals vs us → ∃ as, ReadsAll s.heap us ds as
  | [], vs, us, h, r => by
    rw [dgs_nil.mp h] at r; cases r; exact ⟨_, .nil⟩
  | d :: ds, vs, us, h, r => by
    obtain ⟨v, w, rfl, h1, q⟩ := dgs_cons.mp h
    cases r with
    | cons r1 r2 =>
      obtain ⟨as, e1⟩ := Da.reads I h1 r1
      obtain ⟨bs, e2⟩ := Das.reads I q r2
      exact ⟨_, .cons e1 e2⟩
end
end

/-! ### ==, !=, in, not in over data -/
section
variable {X : Cx}
def OkD (d : PyData) : Prop := d.canLay0 = true ∧ d.depth ≤ 20
def rEqD (K : PySem.W.Frag) : R2 := fun x y H Q => ∃ d e, Da K H d x ∧ Da K H e y ∧ OkD d ∧ OkD e ∧ Q (.bl (PyData.eqv d e)) H
def rNeD (K : PySem.W.Frag) : R2 := fun x y H Q => ∃ d e, Da K H d x ∧ Da K H e y ∧ OkD d ∧ OkD e ∧ Q (.bl (!PyData.eqv d e)) H
theorem op_eqD (hu : X.A.units + 64 < cLine) : OpR X (compareOp .Eq) (rEqD X.K) := by
  intro pins s σ H x y v u Q I rx ry h
  obtain ⟨d, e, h1, h2, o1, o2, q⟩ := h
  obtain ⟨as, r1⟩ := Da.reads I h1 rx
  obtain ⟨bs, r2⟩ := Da.reads I h2 ry
  exact SeqAt.compareEq_reads r1 r2 o1.1 o2.1 (by have := o1.2; have := o2.2; omega) ⟨.bl _, H, I, rfl, q⟩
theorem op_neD (hu : X.A.units + 64 < cLine) : OpR X (compareOp .NotEq) (rNeD X.K) := by
  intro pins s σ H x y v u Q I rx ry h
  obtain ⟨d, e, h1, h2, o1, o2, q⟩ := h
  obtain ⟨as, r1⟩ := Da.reads I h1 rx
  obtain ⟨bs, r2⟩ := Da.reads I h2 ry
  exact SeqAt.compareNe_reads r1 r2 o1.1 o2.1 (by have := o1.2; have := o2.2; omega) ⟨.bl _, H, I, rfl, q⟩
def OkDs (ds : List PyData) : Prop := PyData.canLayAll0 ds = true ∧ PyData.depthAll ds ≤ 20
def rInD (K : PySem.W.Frag) (neg : Bool) : R2 := fun x y H Q => ∃ ds d, Da K H (.list ds) y ∧ Da K H d x ∧ OkDs ds ∧ OkD d ∧ Q (.bl (if neg then !(ds.any fun z => PyData.eqv z d) else ds.any fun z => PyData.eqv z d)) H
theorem op_notInD (hu : X.A.units + 64 < cLine) : OpR X (compareOp .NotIn) (rInD X.K true) := by
  intro pins s σ H x y v u Q I rx ry h
  obtain ⟨ds, d, h1, h2, o1, o2, q⟩ := h
  obtain ⟨as, r1⟩ := Da.reads I h1 ry
  obtain ⟨bs, r2⟩ := Da.reads I h2 rx
  exact SeqAt.notIn_list_reads r1 r2 o1.1 o2.1 (by have := o1.2; have := o2.2; omega) ⟨.bl _, H, I, rfl, q⟩
end

/-! ### shapes -/
theorem canLayAll0_map {α : Type} {f : α → PyData} (h : ∀ x, (f x).canLay0 = true) : ∀ l : List α, PyData.canLayAll0 (l.map f) = true
  | [] => by simp [PyData.canLayAll0]
  | x :: l => by simp [PyData.canLayAll0, h x, canLayAll0_map h l]
theorem depthAll_map {α : Type} {f : α → PyData} {k : Nat} (h : ∀ x, (f x).depth ≤ k) : ∀ l : List α, PyData.depthAll (l.map f) ≤ k
  | [] => by simp [PyData.depthAll]
  | x :: l => by
    simp only [List.map_cons, PyData.depthAll]
    exact Nat.max_le.mpr ⟨h x, depthAll_map h l⟩
def dI (ns : List Int) : PyData := .list (ns.map .int)
def dP (p : Int × Int) : PyData := .tuple [.int p.1, .int p.2]
def dJ (js : List (Int × Int)) : PyData := .list (js.map dP)
def dL (l : Int × List (Int × Int)) : PyData := .tuple [.int l.1, dJ l.2]
theorem okD_int (i : Int) : OkD (.int i) := ⟨rfl, by simp [PyData.depth]⟩
theorem okD_ints (ns : List Int) : OkD (dI ns) := ⟨by simp only [dI, PyData.canLay0]; exact canLayAll0_map (fun _ => rfl) ns, by
  simp only [dI, PyData.depth]
  have := depthAll_map (f := PyData.int) (k := 0) (fun _ => by simp [PyData.depth]) ns
  omega⟩
theorem canLay_P (p : Int × Int) : (dP p).canLay0 = true := by simp [dP, PyData.canLay0, PyData.canLayAll0]
theorem depth_P (p : Int × Int) : (dP p).depth ≤ 1 := by simp [dP, PyData.depth, PyData.depthAll]
theorem okD_P (p : Int × Int) : OkD (dP p) := ⟨canLay_P p, by have := depth_P p; omega⟩
theorem okDs_P (js : List (Int × Int)) : OkDs (js.map dP) := ⟨canLayAll0_map canLay_P js, by have := depthAll_map depth_P js; omega⟩
theorem eqv_same {d : PyData} (h : OkD d) : PyData.eqv d d = true := SeqAt.eqv_refl d h.1
theorem eqv_list_nil (ds : List PyData) : PyData.eqv (.list ds) (.list []) = ds.isEmpty := by
  cases ds <;> simp [PyData.eqv, PyData.eqvAll]
theorem okD_nil : OkD (.list []) := okD_ints []
end TL
set_option Elab.async false
set_option linter.all false
set_option maxRecDepth 100000
set_option maxHeartbeats 4000000
namespace TL
open PySem PySem.Spec PyProof.Rows L2

/-! ### xs.insert(i, y), 0 ≤ i -/
section
variable {X : Cx}
theorem ins_arr (its : List Value) (k : Nat) (y : Value) : (its.toArray.extract 0 k).push y ++ its.toArray.extract k = (its.take k ++ y :: its.drop k).toArray := PySem.W.kl_ins_eq its k y
def rInsert : V → List V → Hp → VK → Prop := fun x vs H Q => ∃ l xs i y, x = .ref l ∧ vs = [.int i, y] ∧ H l = some (.lst xs) ∧ 0 ≤ i ∧ i ≤ xs.length ∧ xs.length < sizeLine ∧ Q .non (upd H l (.lst (xs.take i.toNat ++ y :: xs.drop i.toNat)))
theorem mt_insert : MtM X "list.insert" rInsert := by
  intro pins s σ H x vs v us Q I rx rv h
  obtain ⟨l, xs, i, y, rfl, rfl, hH, h0, h1, hz, q⟩ := h
  cases rx
  obtain ⟨ui, u, rfl, ri, ru⟩ := rv.two
  obtain ⟨t, rfl⟩ := ri
  obtain ⟨z, its, n, r, hl, e⟩ := I.lstM hH
  have hs : its.toArray.size ≤ sizeLine := by rw [List.size_toArray]; omega
  have hf : Builtin.List.listFitsIndex i = true := by
    unfold Builtin.List.listFitsIndex
    have h63 : (sizeLine : Nat) < 2 ^ 62 := by rw [sizeLine_eq]; decide
    simp only [Bool.and_eq_true, decide_eq_true_eq]
    constructor <;> omega
  refine call_meets PySem.F.slot_list_insert ⟨_, e, rfl⟩ PySem.F.entry_list_insert (PySem.F.args_list_insert_3 _ _ _) (PySem.AutoSeq1.list_insert_list_int_val_1 l its.toArray n i t u (by simp [hf]) hs) ⟨e, ?_⟩
  refine ⟨.non, _, I.lset (its' := its.take i.toNat ++ u :: its.drop i.toNat) (ys := xs.take i.toNat ++ y :: xs.drop i.toNat) hH e ?_ ((r.take i.toNat).append (.cons ru (r.drop i.toNat))) ?_, rfl, q⟩
  · have hk : (if i < 0 then (i + (its.toArray.size : Int)).toNat else min i.toNat its.toArray.size) = i.toNat := by
      rw [if_neg (by omega), List.size_toArray]
      omega
    show (its.toArray.extract 0 (if i < 0 then (i + (its.toArray.size : Int)).toNat else min i.toNat its.toArray.size)).push u ++ its.toArray.extract (if i < 0 then (i + (its.toArray.size : Int)).toNat else min i.toNat its.toArray.size) = _
    rw [hk, ins_arr]
  · rw [List.length_append, List.length_cons, List.length_take, List.length_drop]
    omega
end

/-! ### sorted(list of ints) -/
def srt (ns : List Int) : List Int := ns.mergeSort (fun a b => decide (a ≤ b))
theorem srt_perm (ns : List Int) : (srt ns).Perm ns := List.mergeSort_perm ns _
theorem srt_pair (ns : List Int) : (srt ns).Pairwise (· ≤ ·) := by
  have h := List.pairwise_mergeSort (le := fun a b : Int => decide (a ≤ b)) (by intro a b c h1 h2; simp only [decide_eq_true_eq] at *; omega) (by intro a b; simp only [Bool.or_eq_true, decide_eq_true_eq]; omega) ns
  exact h.imp (by intro a b h; simpa using h)
theorem srt_unique {a b : List Int} (hp : a.Perm b) (ha : a.Pairwise (· ≤ ·)) (hb : b.Pairwise (· ≤ ·)) : a = b := PySem.W.ksm_same hp ha hb
theorem srt_eq {a ns : List Int} (hp : a.Perm ns) (ha : a.Pairwise (· ≤ ·)) : a = srt ns := srt_unique (hp.trans (srt_perm ns).symm) ha (srt_pair ns)
theorem srt_congr {a b : List Int} (hp : a.Perm b) : srt a = srt b := srt_eq ((srt_perm a).trans hp) (srt_pair a)
theorem srt_mem {ns : List Int} {x : Int} : x ∈ srt ns ↔ x ∈ ns := (srt_perm ns).mem_iff
theorem srt_length (ns : List Int) : (srt ns).length = ns.length := (srt_perm ns).length_eq
section
variable {X : Cx}
theorem call_sorted : CallR X (.builtin "sorted") (fun xs H Q => ∃ a ns, xs = [.ref a] ∧ SqL X.K H a (ns.map V.int) ∧ ns.length < 64 ∧ ∀ p, H p = none → Q (.ref p) (upd H p (.lst ((srt ns).map V.int)))) := by
  intro pins s σ H xs us Q I r h
  obtain ⟨a, ns, rfl, hx, h64, q⟩ := h
  obtain ⟨u, rfl, ru⟩ := vals1 r
  cases ru
  obtain ⟨its, rv, p, hz⟩ := I.list hx
  have hlen := rv.length
  rw [List.length_map] at hlen
  refine sorted_ints p.isList (intsAre_of rv) (by omega) fun out ns' h1 h2 h3 => ?_
  obtain ⟨e, he⟩ := sortedAll_at s.heap its out
  have e' : ns' = srt ns := srt_eq h2 h3
  subst e'
  have vo : Vals ((srt ns).map V.int) out.toList := vals_ints h1
  refine ⟨.ref (s.heap.objs.size + 1), _, I.laid (t' := s.toks) (o := .lst ((srt ns).map V.int)) (fun b ob q => sortedAll_old q) (Nat.le_succ _) ⟨?_, out.toList, e, vo, ?_⟩, rfl, q _ (I.hok.fresh (Nat.le_succ _))⟩
  · rw [List.length_map, srt_length]
    rw [List.length_map] at hz
    exact hz
  · rw [he, Array.toArray_toList]
end

/-! ### an iterator has turned and handed out a new tuple -/
theorem Inv.turnedTup {X : Cx} {pins : List (Addr × Obj)} {σ : St} {H : Hp} {s : Shared} {h' : Heap} {t' : Nat} {ch : List Addr} {xs : List V} {us : List Value} (I : Inv X pins σ H s) (hf : ∀ b ∈ ch, FpOk X pins H b)
    (keep : ∀ b o, b ∉ ch → s.heap.get? b = some o → h'.get? b = some o) (r : Vals xs us) (hz : xs.length ≤ sizeLine) (ht : h'.get? s.heap.objs.size = some { cls := .type "tuple", data := .seq us.toArray }) :
    Inv X pins σ (upd H s.heap.objs.size (.tup xs)) { s with heap := h', toks := t' } := by
  have hn : H s.heap.objs.size = none := I.fresh
  have nch : ∀ b u, H b = some u → b ∉ ch := fun b u q z => by rw [(hf b z).1] at q; cases q
  refine I.step (g' := s.gens) (d' := s.drawn) (ch := ch) (fun b hb => ?_) (fun b o _ _ hc q _ => keep b o hc q) (fun b o _ _ hc q _ => ⟨o.slots, keep b o hc q⟩) (fun b o _ q n => ?_)
    (fun b o hc q => ⟨o, keep b o hc q⟩) (fun b ys q => by rw [upd_ne (ne_of_none q hn)]; exact q) (fun b o ys q => by rw [upd_ne (ne_of_none q hn)]; exact q) (fun b ps q => ⟨#[], by rw [upd_ne (ne_of_none q hn), q]; simp⟩) (fun m hm => ?_) (fun b u q => ?_) I.bare
  · obtain ⟨f0, f1, f2, f3, f4, f5⟩ := hf b hb
    exact ⟨f3, f1, f4, f5⟩
  · rw [upd_ne (Nat.ne_of_lt (Heap.lt_size q))]; exact n
  · obtain ⟨o, es, ep, ho, r⟩ := hm
    exact ⟨o, es, ep, keep _ o (fun z => (hf _ z).2.1 rfl) ho, r⟩
  · by_cases hb : b = s.heap.objs.size
    · subst hb
      rw [upd_same] at q
      cases q
      exact ⟨hz, us, r, ⟨_, ht, rfl, _, rfl⟩⟩
    · rw [upd_ne hb] at q
      refine (I.hok b u q).stay (fun c v hc q' => keep c v ?_ q') (fun c z => by rw [upd_ne (ne_of_none z hn)]; exact z) fun c ys z => by rw [upd_ne (ne_of_none z hn)]; exact z
      rcases hc with z | z
      · rw [z]; exact nch b u q
      · exact nch c _ z

/-! ### enumerate(list), a tuple as target -/
def Ite (K : PySem.W.Frag) (a : Addr) : It :=
  ⟨fun i H => ∃ xs x, SqL K H a xs ∧ xs[i]? = some x, fun i H x H' => ∃ p, H p = none ∧ x = .ref p ∧ ∀ xs y, SqL K H a xs → xs[i]? = some y → H' = upd H p (.tup [.int i, y]), fun i H => ∃ xs, SqL K H a xs ∧ xs.length ≤ i⟩
theorem turn_enum {P : Program} {w : World} {K : PySem.W.Frag} {es : List Expr} {x1 : Nat} {pt : Pos} (a e it : Addr) (hne : e ≠ it) :
    Turn P w K (.Tuple es x1 pt) (Ite K a) [e, it] e (fun i h => ∃ old, IsEnum h e it i old ∧ h.IsListIter it a i) where
  mem := by simp
  obj := fun i h st b hb => by
    obtain ⟨old, h1, h2⟩ := st
    rcases List.mem_cons.mp hb with z | z
    · subst z; exact ⟨_, h1, fun v z => by cases z⟩
    · have z : b = it := by simpa using z
      subst z
      obtain ⟨o, ho, c, d⟩ := h2
      exact ⟨o, ho, fun v z => by rw [d] at z; cases z⟩
  keep := fun i h h' ⟨old, h1, h2⟩ k => ⟨old, k e (by simp) _ h1, h2.at fun o q => k it (by simp) o q⟩
  item := by
    intro X hP hw hK hc i pins s σ H E I hf st hg
    subst hP hw hK
    obtain ⟨old, h1, h2⟩ := st
    obtain ⟨xs, x, hq, hx⟩ := hg
    obtain ⟨its, rv, p, hz⟩ := I.list hq
    obtain ⟨u, hu, ru⟩ := rv.get hx
    have lt1 : e < s.heap.objs.size := Heap.lt_size h1
    refine wpAny_pyNext_enum_item h1 h2 p.isList (x := u) (by simpa using hu) hne fun h' k1 k2 k3 k4 k5 => ?_
    refine ⟨_, rfl, ?_⟩
    refine wpAny_letOwnedTupleGo_enum (s := { s with heap := h', toks := s.toks + 1 }) k1 fun h'' m1 m2 => ?_
    have keep : ∀ b o, b ∉ [e, it] → s.heap.get? b = some o → h''.get? b = some o := fun b o hb q => m2.extBut b o (fun z => hb (by simp [z])) (k5 b o (fun z => hb (by simp [z])) (fun z => hb (by simp [z])) q)
    have ht : h''.get? s.heap.objs.size = some { cls := .type "tuple", data := .seq [Value.int i s.toks, u].toArray } := m2.extBut _ _ (Nat.ne_of_gt lt1) k3
    have J1 : Inv X pins σ (upd H s.heap.objs.size (.tup [.int i, x])) { s with heap := h'', toks := s.toks + 1 } := Inv.turnedTup I hf keep (.cons ⟨_, rfl⟩ (.cons ru .nil)) (by show 2 ≤ sizeLine; decide) ht
    have hn : H s.heap.objs.size = none := I.fresh
    refine ⟨.ref s.heap.objs.size, _, J1, rfl, ⟨_, hn, rfl, fun ys y hy h => ?_⟩, ⟨u, ?_, ?_⟩, fun b hb => ?_⟩
    · have e1 := I.list_inj hy hq
      subst e1
      rw [hx] at h
      cases h
      rfl
    · have e1 : ((i + 1 : Nat) : Int) = (i : Int) + 1 := by omega
      rw [e1]; exact m1
    · exact k2.extBut m2.extBut (Ne.symm hne)
    · obtain ⟨o, q, _⟩ : ∃ o, s.heap.get? b = some o ∧ True := by
        rcases List.mem_cons.mp hb with z | z
        · subst z; exact ⟨_, h1, trivial⟩
        · have z : b = it := by simpa using z
          subst z
          obtain ⟨o, ho, _⟩ := h2
          exact ⟨o, ho, trivial⟩
      rw [upd_ne (Nat.ne_of_lt (Heap.lt_size q))]
      exact (hf b hb).1
  done := by
    intro X hP hw hK hc i pins s σ H E I hf st hg
    subst hP hw hK
    obtain ⟨old, h1, h2⟩ := st
    obtain ⟨xs, hq, hx⟩ := hg
    obtain ⟨its, rv, p, hz⟩ := I.list hq
    obtain ⟨g0, g1, g2, g3, g4, g5⟩ := hf it (by simp)
    have hl := rv.length
    exact wpAny_pyNext_enum_end (I.ok.hd hc) h1 h2 p.isList (by simp; omega) fun h' eb => ⟨rfl, I.turned (t' := s.toks) (fun b o hb e => eb b o hb e) g0 g1 g3 g4 g5⟩
  self := fun _ _ _ _ _ ⟨old, h1, h2⟩ h => wpAny_pyIter_enum h1 h
section
variable {X : Cx}
def iEnum (K : PySem.W.Frag) (ta : TA) : TI := fun σ H R => ta σ H fun vs H1 => ∃ a, vs = [.ref a] ∧ (∃ xs, SqL K H1 a xs) ∧ R (Ite K a) H1
theorem pi_enum {a : Expr} {ta : TA} {p pos : Pos} {es : List Expr} {x1 : Nat} {pt : Pos} (hg : Gl X "enumerate") (hm : X.mg "enumerate" = none) (ha : PA X [a] ta) (hs : starEach [a] X.env = [(false, eval a X.env)] := by rfl) : PI X (.Tuple es x1 pt) (.Call (.Name "enumerate" p) [a] [] pos) (iEnum X.K ta) := by
  intro pins s σ H R I h
  refine Call_ (ld_blt I hg hm boot_enumerate (PyProof.Rows.callWith_type1 (thn (ha pos pins s σ H _ I h) fun us s1 ⟨vs, H1, I1, r1, q1⟩ => ?_) hs rfl))
  obtain ⟨a, e, ⟨xs, hq⟩, q⟩ := q1
  subst e
  obtain ⟨u, rfl, ru⟩ := vals1 r1
  cases ru
  obtain ⟨its, rv, pl, hz⟩ := I1.list hq
  refine call_enumerate_list pl.isList fun h' k1 k2 k3 k4 => ?_
  refine wpAny_pyIter_enum (s := { s1 with heap := h' }) k1 ?_
  refine ⟨s1.heap.objs.size + 1, [s1.heap.objs.size + 1, s1.heap.objs.size], _, _, H1, rfl, I1.kept (t' := s1.toks) k4, turn_enum a _ _ (Nat.succ_ne_self _), ⟨.none, k1, k2⟩, fun b hb => ?_, q⟩
  have hb' : s1.heap.objs.size ≤ b := by
    rcases List.mem_cons.mp hb with z | z
    · rw [z]; exact Nat.le_succ _
    · have z : b = s1.heap.objs.size := by simpa using z
      rw [z]; exact Nat.le_refl _
  exact I1.fpOk hb' (I1.hok.fresh hb')
end
/-- over enumerate of a list that the body leaves as it is -/
theorem for_enum {K : PySem.W.Frag} {a : Addr} {xs : List V} {g : TG} {tb : TS} {D : Ends} {σ : St} {H : Hp} (Pv : Nat → St → Hp → Prop) (h0 : Pv 0 σ H) (hl : ∀ i σ H, i ≤ xs.length → Pv i σ H → SqL K H a xs)
    (hs : ∀ i x σ H p, xs[i]? = some x → Pv i σ H → H p = none → g (.ref p) σ (upd H p (.tup [.int i, x])) fun σ2 H2 => tb { D with nx := Pv (i + 1), ct := Pv (i + 1), bk := D.nx } σ2 H2) (hd : ∀ σ H, Pv xs.length σ H → D.nx σ H) :
    ∃ W : Nat → Nat → St → Hp → Prop, (∃ m, W 0 m σ H) ∧ ∀ i m σ H, W i m σ H →
      ((Ite K a).stop i H ∧ D.nx σ H) ∨ ((Ite K a).go i H ∧ ∃ N : St → Hp → Prop, (∀ σ' H', N σ' H' → ∃ m', m' < m ∧ W (i + 1) m' σ' H') ∧ ∀ x H', (Ite K a).yld i H x H' → g x σ H' fun σ2 H2 => tb { D with nx := N, ct := N, bk := D.nx } σ2 H2) := by
  refine ⟨fun i m σ H => m = xs.length - i ∧ i ≤ xs.length ∧ Pv i σ H, ⟨xs.length, by simp, Nat.zero_le _, h0⟩, ?_⟩
  rintro i m σ H ⟨rfl, hi, p⟩
  have q := hl i σ H hi p
  by_cases hlt : i < xs.length
  · refine .inr ⟨⟨xs, xs[i], q, by simp [hlt]⟩, Pv (i + 1), fun σ' H' p' => ⟨xs.length - (i + 1), by omega, rfl, hlt, p'⟩, fun x H' y => ?_⟩
    obtain ⟨pa, hp, e, y⟩ := y
    subst e
    have hx : xs[i]? = some xs[i] := by simp [hlt]
    rw [y xs _ q hx]
    exact hs i _ σ H pa hx p hp
  · have e : i = xs.length := by omega
    subst e
    exact .inl ⟨⟨xs, q, Nat.le_refl _⟩, hd σ H p⟩

/-! ### reversed(list) -/
def Itv (K : PySem.W.Frag) (a : Addr) : It :=
  ⟨fun i H => ∃ xs x, SqL K H a xs ∧ xs.reverse[i]? = some x, fun i H x H' => H' = H ∧ ∀ xs, SqL K H a xs → xs.reverse[i]? = some x, fun i H => ∃ xs, SqL K H a xs ∧ xs.length = i⟩
theorem turn_rev {P : Program} {w : World} {K : PySem.W.Frag} {tg : Expr} (a it : Addr) (n : Nat) : Turn P w K tg ⟨fun i H => (Itv K a).go i H ∧ ∃ xs, SqL K H a xs ∧ xs.length = n, (Itv K a).yld, fun i H => i = n⟩ [it] it (fun i h => i ≤ n ∧ h.IsRevIter it a ((n : Int) - 1 - (i : Int))) where
  mem := by simp
  obj := fun i h st b hb => by
    have e : b = it := by simpa using hb
    subst e
    obtain ⟨_, o, e, c, d⟩ := st
    exact ⟨o, e, fun v z => by rw [d] at z; cases z⟩
  keep := fun i h h' st k => ⟨st.1, st.2.at fun o e => k it (by simp) o e⟩
  item := by
    intro X hP hw hK hc i pins s σ H E I hf st hg
    subst hP hw hK
    obtain ⟨⟨xs, x, hq, hx⟩, ys, hq2, hn⟩ := hg
    have e0 := I.list_inj hq2 hq
    subst e0
    obtain ⟨its, rv, p, hz⟩ := I.list hq
    have hil : i < ys.length := by have := (List.getElem?_eq_some_iff.mp hx).1; rwa [List.length_reverse] at this
    have hx' : ys[ys.length - 1 - i]? = some x := by rw [List.getElem?_reverse hil] at hx; exact hx
    obtain ⟨u, hu, ru⟩ := rv.get hx'
    obtain ⟨f0, f1, f2, f3, f4, f5⟩ := hf it (by simp)
    have e1 : (n : Int) - 1 - (i : Int) = ((ys.length - 1 - i : Nat) : Int) := by omega
    have st2 := st.2
    rw [e1] at st2
    refine wpAny_pyNext_rev_item st2 p.isList (x := u) (by simpa using hu) fun h' st' sb => ?_
    have I1 : Inv X pins σ H { s with heap := h' } := I.turned (t' := s.toks) (fun b o hb e => (sb.2 b hb).trans e) f0 f1 f3 f4 f5
    have e2 : ((ys.length - 1 - i : Nat) : Int) - 1 = (n : Int) - 1 - ((i + 1 : Nat) : Int) := by omega
    rw [e2] at st'
    obtain ⟨o, e, c, d⟩ := id st'
    exact ⟨u, rfl, go_of (s := { s with heap := h' }) e c d (by decide) ⟨x, H, I1, ru, ⟨rfl, fun zs hy => by rw [I.list_inj hy hq]; exact hx⟩, ⟨by omega, st'⟩, fun b hb => (hf b hb).1⟩⟩
  done := by
    intro X hP hw hK hc i pins s σ H E I hf st hg
    subst hP hw hK
    have hg : i = n := hg
    subst hg
    obtain ⟨f0, f1, f2, f3, f4, f5⟩ := hf it (by simp)
    have e1 : (i : Int) - 1 - (i : Int) = -1 := by omega
    have st2 := st.2
    rw [e1] at st2
    exact wpAny_pyNext_rev_end (I.ok.hd hc) st2 fun h' eb => ⟨rfl, I.turned (t' := s.toks) (fun b o hb e => eb b o hb e) f0 f1 f3 f4 f5⟩
  self := fun _ _ _ _ _ st h => wpAny_pyIter_revIter st.2 h
section
variable {X : Cx} {tg : Expr}
def iRev (K : PySem.W.Frag) (ta : TA) : TI := fun σ H R => ta σ H fun vs H1 => ∃ a xs, vs = [.ref a] ∧ SqL K H1 a xs ∧ R ⟨fun i H => (Itv K a).go i H ∧ ∃ ys, SqL K H a ys ∧ ys.length = xs.length, (Itv K a).yld, fun i H => i = xs.length⟩ H1
theorem pi_rev {a : Expr} {ta : TA} {p pos : Pos} (hg : Gl X "reversed") (hm : X.mg "reversed" = none) (ha : PA X [a] ta) (hs : starEach [a] X.env = [(false, eval a X.env)] := by rfl) : PI X tg (.Call (.Name "reversed" p) [a] [] pos) (iRev X.K ta) := by
  intro pins s σ H R I h
  refine Call_ (ld_blt I hg hm boot_reversed (PyProof.Rows.callWith_type1 (thn (ha pos pins s σ H _ I h) fun us s1 ⟨vs, H1, I1, r1, q1⟩ => ?_) hs rfl))
  obtain ⟨a, xs, e, hq, q⟩ := q1
  subst e
  obtain ⟨u, rfl, ru⟩ := vals1 r1
  cases ru
  obtain ⟨its, rv, pl, hz⟩ := I1.list hq
  have hl := rv.length
  refine call_reversed_list pl.isList ?_
  have hit : Heap.IsRevIter (s1.heap.push (revObj a ((its.toArray.size : Int) - 1))) s1.heap.objs.size a (((xs.length : Nat) : Int) - 1 - ((0 : Nat) : Int)) := by
    refine ⟨_, Heap.get?_push_size _ rfl, rfl, ?_⟩
    have e1 : ((xs.length : Nat) : Int) - 1 - ((0 : Nat) : Int) = (its.toArray.size : Int) - 1 := by rw [List.size_toArray]; omega
    rw [e1]; rfl
  refine wpAny_pyIter_revIter (s := { s1 with heap := s1.heap.push (revObj a ((its.toArray.size : Int) - 1)) }) hit ?_
  refine ⟨s1.heap.objs.size, [s1.heap.objs.size], _, _, H1, rfl, I1.kept (t' := s1.toks) (fun b o e => Heap.get?_push_of_some _ e), turn_rev a _ xs.length, ⟨Nat.zero_le _, hit⟩, fun b hb => ?_, q⟩
  have e : b = s1.heap.objs.size := by simpa using hb
  subst e
  exact I1.fpOk (Nat.le_refl _) (I1.hok.fresh (Nat.le_refl _))
end

/-! ### xs[::-1] -/
section
variable {X : Cx} {e : Expr} {te : TE} {pos p2 : Pos}
end
end TL
set_option Elab.async false
set_option linter.all false
set_option maxRecDepth 100000
set_option maxHeartbeats 4000000
namespace TL
open PySem PySem.Spec PyProof.Rows L2

/-! ### isinstance(x, T), T a built-in type -/
/-! ### names of the module that are the builtins' own -/
structure Bl (mg : Str → Option Value) : Prop where
  len : mg "len" = none
  range : mg "range" = none
  sorted : mg "sorted" = none
  enumerate : mg "enumerate" = none
  reversed : mg "reversed" = none
  min : mg "min" = none
  max : mg "max" = none
  list : mg "list" = none
  int : mg "int" = none
  isinstance : mg "isinstance" = none
/-- a def of the module -/
structure Fn (K : PySem.W.Frag) (mg : Str → Option Value) (x : Str) (st : Stmt) (ps : List Str) (f : Addr) (fd : FuncData) : Prop where
  F : Fun K x x st f fd
  m : mg x = some (.ref f)
  b : Binds K fd ps []

/-! ### the mathematics of a line -/
def below (js : List (Int × Int)) (e : Int) : List Int := (js.filter fun p => decide (p.2 = e)).map (·.1)
def above (js : List (Int × Int)) (e : Int) : List Int := (js.filter fun p => decide (p.1 = e)).map (·.2)
def inc (js : List (Int × Int)) (e : Int) : Nat := (below js e).length + (above js e).length
def jn (js : List (Int × Int)) (e : Int) : List Int := srt (below js e ++ above js e)
theorem jn_eq (js : List (Int × Int)) (e : Int) : srt (above js e ++ below js e) = jn js e := srt_congr List.perm_append_comm
/-- what the makers of lines keep -/
structure LineOk (l : Int × List (Int × Int)) : Prop where
  one : 1 ≤ l.1
  most : l.1 ≤ 40
  len : l.2.length ≤ 80
  inc : ∀ e, inc l.2 e ≤ 60
  ends : ∀ p ∈ l.2, 0 ≤ p.1 ∧ p.1 ≤ p.2 ∧ p.2 < 2 * l.1
theorem inc_le (js : List (Int × Int)) (e : Int) : inc js e ≤ 2 * js.length := by
  unfold inc below above
  rw [List.length_map, List.length_map]
  have h1 := List.length_filter_le (fun p : Int × Int => decide (p.2 = e)) js
  have h2 := List.length_filter_le (fun p : Int × Int => decide (p.1 = e)) js
  omega
/-! ### new lists of ints -/
/-- a new list of these ints has come, nothing else is changed -/
def NewInts (H : Hp) (ns : List Int) (Q : VK) : Prop := ∀ (p : Addr) (H' : Hp), Same H H' → H p = none → H' p = some (.lst (ns.map V.int)) → Q (.ref p) H'
theorem Same.upd {H H' : Hp} {l : Addr} {o : HO} (s : Same H H') (hn : H l = none) : Same H (upd H' l o) := fun b u e => by rw [upd_ne (ne_of_none e hn)]; exact s b u e
theorem da_ints {K : PySem.W.Frag} {H : Hp} {ns : List Int} {v : V} : Da K H (dI ns) v ↔ ∃ a, v = .ref a ∧ SqL K H a (ns.map V.int) := by
  unfold dI
  refine Iff.trans dg_list ?_
  constructor
  · rintro ⟨a, vs, rfl, h, q⟩
    rw [dgs_ints.mp q] at h
    exact ⟨a, rfl, h⟩
  · rintro ⟨a, rfl, h⟩
    exact ⟨a, _, rfl, h, dgs_ints.mpr rfl⟩
theorem da_new {K : PySem.W.Frag} {H : Hp} {ns : List Int} {p : Addr} (h : H p = some (.lst (ns.map V.int))) : Da K H (dI ns) (.ref p) := da_ints.mpr ⟨p, rfl, SqL.of h⟩
/-- the joints of a line, pair by pair -/
theorem da_line {K : PySem.W.Frag} {H : Hp} {l : Int × List (Int × Int)} {v : V} (h : Da K H (dL l) v) : ∃ a b, v = .ref a ∧ SqT K H a [.int l.1, .ref b] ∧ ∃ vs, SqL K H b vs ∧ Das K H (l.2.map dP) vs := by
  unfold dL at h
  obtain ⟨a, vs, rfl, ht, q⟩ := dg_tuple.mp h
  obtain ⟨v1, r, rfl, h1, q⟩ := dgs_cons.mp q
  obtain ⟨v2, r, rfl, h2, q⟩ := dgs_cons.mp q
  cases dgs_nil.mp q
  cases dg_int.mp h1
  unfold dJ at h2
  obtain ⟨b, us, rfl, hl, q⟩ := dg_list.mp h2
  exact ⟨a, b, rfl, ht, us, hl, q⟩
theorem das_pair {K : PySem.W.Frag} {H : Hp} {js : List (Int × Int)} {vs : List V} {i : Nat} {x : V} (h : Das K H (js.map dP) vs) (e : vs[i]? = some x) : ∃ a p, js[i]? = some p ∧ x = .ref a ∧ SqT K H a [.int p.1, .int p.2] := by
  obtain ⟨d, e1, hd⟩ := Dgs.get h e
  rw [List.getElem?_map] at e1
  cases q : js[i]? with
  | none => rw [q] at e1; cases e1
  | some p =>
    rw [q] at e1
    cases e1
    unfold dP at hd
    obtain ⟨a, us, rfl, ht, q⟩ := dg_tuple.mp hd
    obtain ⟨v1, r, rfl, h1, q⟩ := dgs_cons.mp q
    obtain ⟨v2, r, rfl, h2, q⟩ := dgs_cons.mp q
    cases dgs_nil.mp q
    cases dg_int.mp h1
    cases dg_int.mp h2
    exact ⟨a, p, rfl, rfl, ht⟩
theorem okDs_I (ms : List Int) : OkDs (ms.map PyData.int) := ⟨canLayAll0_map (fun _ => rfl) ms, by have := depthAll_map (f := PyData.int) (k := 0) (fun _ => by simp [PyData.depth]) ms; omega⟩
theorem any_I (ms : List Int) (x : Int) : ((ms.map PyData.int).any fun z => PyData.eqv z (.int x)) = decide (x ∈ ms) := by
  rw [List.any_map, Bool.eq_iff_iff, List.any_eq_true, decide_eq_true_iff]
  constructor
  · rintro ⟨y, hy, e⟩
    have e' : PyData.eqv (.int y) (.int x) = true := e
    simp only [PyData.eqv, beq_iff_eq] at e'
    rw [← e']; exact hy
  · intro h
    exact ⟨x, h, by show PyData.eqv (.int x) (.int x) = true; simp [PyData.eqv]⟩

theorem name_yes {i : Nat} {x : V} {σ : St} {H : Hp} {te : TE} {P1 : VK} {P0 : Hp → Prop} (h : te (σ.set i (some x)) H P1) : gName i x σ H (fun σ2 H2 => tYes σ2 H2 fun b H3 => if b = true then te σ2 H3 P1 else P0 H3) := iteT (A := te (σ.set i (some x)) H P1) (B := P0 H) h
theorem filt_true {α : Type} (xs : List α) : (xs.filter fun _ => true) = xs := by simp
/-! ### the rules that name K, for a comprehension's block (K := K) rfl -/
section
variable {X : Cx} {K : PySem.W.Frag}
theorem op_notInDk (hK : X.K = K) (hu : X.A.units + 64 < cLine) : OpR X (compareOp .NotIn) (rInD K true) := hK ▸ op_notInD hu
theorem ix_listk (hK : X.K = K) : IxR X (rIxL K) := hK ▸ ix_list
theorem ix_tupk (hK : X.K = K) : IxR X (rIxT K) := hK ▸ ix_tup
end

/-! ### a comprehension over any iterator that leaves the heap as it is -/
structure JS (J : It) (n : Nat) (H1 : Hp) (it : Nat → V → Prop) : Prop where
  go : ∀ i H, Same H1 H → i < n → J.go i H
  yld : ∀ i H x H', Same H1 H → i < n → J.yld i H x H' → H' = H ∧ it i x
  stop : ∀ H, Same H1 H → J.stop n H
theorem js_list {K : PySem.W.Frag} {a : Addr} {xs : List V} {H1 : Hp} (hx : SqL K H1 a xs) : JS (Itl K a) xs.length H1 (fun i x => xs[i]? = some x) :=
  ⟨fun i H s hi => ⟨xs, xs[i], s.seq hx, by simp⟩, fun i H x H' s hi y => ⟨y.1, y.2 xs (s.seq hx)⟩, fun H s => ⟨xs, s.seq hx, Nat.le_refl _⟩⟩
theorem js_rev {K : PySem.W.Frag} {a : Addr} {xs : List V} {H1 : Hp} (hx : SqL K H1 a xs) : JS ⟨fun i H => (Itv K a).go i H ∧ ∃ ys, SqL K H a ys ∧ ys.length = xs.length, (Itv K a).yld, fun i H => i = xs.length⟩ xs.length H1 (fun i x => xs.reverse[i]? = some x) :=
  ⟨fun i H s hi => ⟨⟨xs, xs.reverse[i]'(by rw [List.length_reverse]; exact hi), s.seq hx, List.getElem?_eq_getElem _⟩, xs, s.seq hx, rfl⟩, fun i H x H' s hi y => ⟨y.1, y.2 xs (s.seq hx)⟩, fun H s => rfl⟩
theorem lc_pureJ {α : Type} {J : It} {n : Nat} {it : Nat → V → Prop} {l : Addr} {g : TG} {tt : TT} {te : TE} {cap : List (Option Nat)} {σ : St} {Q : VK} {H1 : Hp} (S : JS J n H1 it) (ds : List α) (p : α → Bool) (f : α → V) (hn : H1 l = none) (hlen : n = ds.length) (hz : n < sizeLine)
    (hs : ∀ (i : Nat) x d H, it i x → ds[i]? = some d → Same H1 H → ∀ (P1 : VK) (P0 : Hp → Prop), (p d = true → P1 (f d) H) → (p d = false → P0 H) →
      g x (capSt cap σ) H fun σ2 H2 => tt σ2 H2 fun b H3 => if b = true then te σ2 H3 P1 else P0 H3)
    (hq : Q (.ref l) (upd H1 l (.lst ((ds.filter p).map f)))) : LcW J g tt te cap σ Q l H1 := by
  refine ⟨fun i m acc H => m = n - i ∧ i ≤ n ∧ acc = ((ds.take i).filter p).map f ∧ H = upd H1 l (.lst acc), ⟨n, by simp, Nat.zero_le _, rfl, rfl⟩, ?_⟩
  rintro i m acc H ⟨rfl, hi, e1, e2⟩
  have sm : Same H1 H := by rw [e2]; exact same_upd hn
  by_cases hlt : i < n
  · refine .inr ⟨S.go i H sm hlt, fun acc' H' => acc' = ((ds.take (i + 1)).filter p).map f ∧ H' = upd H1 l (.lst acc'), fun acc' H' ⟨p1, p2⟩ => ⟨n - (i + 1), by omega, rfl, hlt, p1, p2⟩, fun x H' y0 => ?_⟩
    obtain ⟨e, y⟩ := S.yld i H x H' sm hlt y0
    clear y0
    subst e
    have hd : ds[i]? = some (ds[i]'(by omega)) := by simp
    generalize ds[i]'(by omega) = d at hd
    have step : ((ds.take (i + 1)).filter p).map f = acc ++ (if p d = true then [f d] else []) := by
      rw [take_succ_filter p ds i d hd, List.map_append, e1]
      cases p d <;> rfl
    refine hs i x d H' y hd sm _ _ (fun hp => ?_) (fun hp => ?_)
    · refine ⟨by rw [e2, upd_same], ?_, ?_, ?_⟩
      · have h1 : acc.length ≤ i := by
          rw [e1, List.length_map]
          exact Nat.le_trans (List.length_filter_le _ _) (by rw [List.length_take]; omega)
        omega
      · rw [step, hp]; rfl
      · rw [e2, upd_upd]
    · refine ⟨?_, e2⟩
      rw [step, hp, if_neg Bool.false_ne_true, List.append_nil]
  · have e : i = n := by omega
    subst e
    refine .inl ⟨S.stop H sm, ?_⟩
    rw [hlen, List.take_length] at e1
    rw [e2, e1]
    exact hq
end TL
set_option Elab.async false
set_option linter.all false
set_option maxRecDepth 100000
set_option maxHeartbeats 4000000
namespace TL
open PySem PySem.Spec PyProof.Rows L2

/-! ### moves -/
abbrev Mv := (Str × Int) × List Int
def dMv (m : Mv) : PyData := .tuple [.tuple [.str m.1.1, .int m.1.2], dI m.2]
def fr (l : Int × List (Int × Int)) (ns : List Int) (e : Int) : List Int := (jn l.2 e).filter fun t => !decide (t / 2 ∈ ns.map (· / 2))
def onM (ns : List Int) (e : Int) : Mv := (("on", e), ns.drop 1 ++ [e])
def backM (ns : List Int) (e : Int) : Mv := (("back", e), oth e :: ns.dropLast)
def mvs (l : Int × List (Int × Int)) (ns : List Int) : List Mv := (fr l ns (oth (ns.getLastD 0))).map (onM ns) ++ (fr l ns (ns.headD 0)).map (backM ns)
/-- a list within: tracked, new since H, not at t -/
def Lf (H H2 : Hp) (t : Addr) : Addr → List V → Prop := fun a us => H2 a = some (.lst us) ∧ H a = none ∧ a ≠ t
theorem sqt_upd {K : PySem.W.Frag} {H : Hp} {t b : Addr} {vs xs : List V} {o : HO} (ht : H t = some (.lst vs)) (h : SqT K H b xs) : SqT K (upd H t o) b xs := by
  rcases h with (h | ⟨o, h⟩) | h
  · exact .inl (.inl (by rw [upd_ne (ne_of h ht (by intro z; cases z))]; exact h))
  · exact .inl (.inr ⟨o, by rw [upd_ne (ne_of h ht (by intro z; cases z))]; exact h⟩)
  · exact .inr h
theorem Dgs.grow {K : PySem.W.Frag} {H H2 H5 : Hp} {t : Addr} {o : HO} {vs : List V} {ds : List PyData} {us : List V} (D : Dgs (Lf H H2 t) (SqT K H2) ds us) (S5 : Same H2 H5) (ht : H5 t = some (.lst vs)) :
    Dgs (Lf H (upd H5 t o) t) (SqT K (upd H5 t o)) ds us :=
  Dgs.mono (fun a us ⟨h1, h2, h3⟩ => ⟨by rw [upd_ne h3]; exact S5 _ _ h1, h2, h3⟩) (fun a us h => sqt_upd ht (same_tseq S5 h)) D
/-- one move more -/
theorem push_move {K : PySem.W.Frag} {H H2 H5 : Hp} {t p1 p4 p5 : Addr} {vs : List V} {ms : List Mv} {w : Str} {e : Int} {xs : List Int} (S : Same H H2) (hn : H t = none) (ht : H2 t = some (.lst vs)) (D : Dgs (Lf H H2 t) (SqT K H2) (ms.map dMv) vs)
    (S5 : Same H2 H5) (h1 : H5 p1 = some (.tup [.str w, .int e])) (n4 : H2 p4 = none) (h4 : H5 p4 = some (.lst (xs.map V.int))) (h5 : H5 p5 = some (.tup [.ref p1, .ref p4])) :
    Same H (upd H5 t (.lst (vs ++ [.ref p5]))) ∧ (upd H5 t (.lst (vs ++ [.ref p5]))) t = some (.lst (vs ++ [.ref p5])) ∧
      Dgs (Lf H (upd H5 t (.lst (vs ++ [.ref p5]))) t) (SqT K (upd H5 t (.lst (vs ++ [.ref p5])))) ((ms ++ [((w, e), xs)]).map dMv) (vs ++ [.ref p5]) := by
  have ht5 := S5 _ _ ht
  have q4 : p4 ≠ t := (ne_of_none ht n4).symm
  refine ⟨Same.upd (S.trans S5) hn, upd_same, ?_⟩
  rw [List.map_append]
  refine Dgs.append (D.grow S5 ht5) (Dgs.one ?_)
  refine dg_tuple.mpr ⟨p5, _, rfl, sqt_upd ht5 (SqT.of h5), Dgs.two ?_ ?_⟩
  · exact dg_tuple.mpr ⟨p1, _, rfl, sqt_upd ht5 (SqT.of h1), Dgs.two (dg_str.mpr rfl) (dg_int.mpr rfl)⟩
  · exact dg_list.mpr ⟨p4, _, rfl, ⟨by rw [upd_ne q4]; exact h4, Same.free S n4, q4⟩, dgs_ints.mpr rfl⟩
/-- a new list of moves has come -/
def NewMoves (K : PySem.W.Frag) (H : Hp) (ms : List Mv) (Q : VK) : Prop := ∀ (p : Addr) (vs : List V) (H' : Hp), Same H H' → H p = none → H' p = some (.lst vs) → Dgs (Lf H H' p) (SqT K H') (ms.map dMv) vs → Q (.ref p) H'
/-! ### slices and places -/
theorem cut_tail (ns : List Int) : cutV (ns.map V.int) (some 1) none = (ns.drop 1).map V.int := by
  unfold cutV
  rw [HT.sIx_none]
  have e : HT.sIx (ns.map V.int).length 0 (some 1) = min 1 (ns.map V.int).length := HT.sIx_nat _ _ 1
  rw [e, List.length_map, List.map_drop]
  cases ns with
  | nil => rfl
  | cons a r =>
    have e1 : min 1 (a :: r).length = 1 := by simp
    rw [e1]
    simp
    exact List.take_of_length_le (by simp)
theorem cut_init (ns : List Int) : cutV (ns.map V.int) none (some (-1)) = ns.dropLast.map V.int := by
  unfold cutV
  have e : HT.sIx (ns.map V.int).length (ns.map V.int).length (some (-1)) = ns.length - 1 := by
    have h := HT.clip_eq (-1) (ns.map V.int).length (ns.map V.int).length
    rw [List.length_map] at h ⊢
    rw [if_pos (by decide)] at h
    omega
  rw [e, HT.sIx_none, List.drop_zero, Nat.sub_zero, ← List.map_take, List.dropLast_eq_take]
theorem at_last {ns : List Int} (h : ns ≠ []) : atI (ns.map V.int) (-1) = some (V.int (ns.getLastD 0)) := by
  obtain ⟨r, x, rfl⟩ : ∃ r x, ns = r ++ [x] := ⟨ns.dropLast, ns.getLast h, (List.dropLast_concat_getLast h).symm⟩
  rw [List.map_append]
  show atI (r.map V.int ++ [V.int x]) (-1) = _
  rw [atI_last]
  have e : (r ++ [x]).getLastD 0 = x := by simp [List.getLastD_eq_getLast?]
  rw [e]
theorem at_first {ns : List Int} (h : ns ≠ []) : atI (ns.map V.int) 0 = some (V.int (ns.headD 0)) := by
  cases ns with
  | nil => exact absurd rfl h
  | cons a r => exact atI_nat (j := 0) rfl
end TL
set_option Elab.async false
set_option linter.all false
set_option maxRecDepth 100000
set_option maxHeartbeats 4000000
namespace TL
open PySem PySem.Spec PyProof.Rows L2
/-! ### lists of pairs that are being built: no list stands within -/
abbrev NoL : Addr → List V → Prop := fun _ _ => False
abbrev Ps (K : PySem.W.Frag) (H : Hp) (js : List (Int × Int)) (vs : List V) : Prop := Dgs NoL (SqT K H) (js.map dP) vs
theorem Ps.same {K : PySem.W.Frag} {H H' : Hp} {js : List (Int × Int)} {vs : List V} (D : Ps K H js vs) (S : Same H H') : Ps K H' js vs := Dgs.mono (fun _ _ h => h) (fun _ _ h => same_tseq S h) D
theorem Ps.updt {K : PySem.W.Frag} {H : Hp} {js : List (Int × Int)} {vs us : List V} {t : Addr} {o : HO} (D : Ps K H js vs) (ht : H t = some (.lst us)) : Ps K (upd H t o) js vs := Dgs.mono (fun _ _ h => h) (fun _ _ h => sqt_upd ht h) D
theorem Ps.das {K : PySem.W.Frag} {H : Hp} {js : List (Int × Int)} {vs : List V} (D : Ps K H js vs) : Das K H (js.map dP) vs := Dgs.mono (fun _ _ h => h.elim) (fun _ _ h => h) D
theorem Ps.da {K : PySem.W.Frag} {H : Hp} {js : List (Int × Int)} {vs : List V} {t : Addr} (D : Ps K H js vs) (ht : H t = some (.lst vs)) : Da K H (dJ js) (.ref t) := dg_list.mpr ⟨t, vs, rfl, SqL.of ht, D.das⟩
theorem Ps.len {K : PySem.W.Frag} {H : Hp} {js : List (Int × Int)} {vs : List V} (D : Ps K H js vs) : vs.length = js.length := by rw [D.length, List.length_map]
theorem pair_dg {K : PySem.W.Frag} {H : Hp} {p : Addr} {x : Int × Int} (h : H p = some (.tup [.int x.1, .int x.2])) : Dg NoL (SqT K H) (dP x) (.ref p) := dg_tuple.mpr ⟨p, _, rfl, SqT.of h, Dgs.two (dg_int.mpr rfl) (dg_int.mpr rfl)⟩
theorem Ps.push {K : PySem.W.Frag} {H : Hp} {js : List (Int × Int)} {vs : List V} {t p : Addr} {x : Int × Int} {o : HO} (D : Ps K H js vs) (ht : H t = some (.lst vs)) (hp : H p = some (.tup [.int x.1, .int x.2])) : Ps K (upd H t o) (js ++ [x]) (vs ++ [.ref p]) := by
  show Dgs _ _ ((js ++ [x]).map dP) _
  rw [List.map_append]
  exact (D.updt ht).append (.one (Dg.mono (fun _ _ h => h) (fun _ _ h => sqt_upd ht h) (pair_dg hp)))
theorem Ps.ins {K : PySem.W.Frag} {H : Hp} {js : List (Int × Int)} {vs : List V} {t p : Addr} {x : Int × Int} {o : HO} (i : Nat) (D : Ps K H js vs) (ht : H t = some (.lst vs)) (hp : H p = some (.tup [.int x.1, .int x.2])) : Ps K (upd H t o) (js.take i ++ x :: js.drop i) (vs.take i ++ .ref p :: vs.drop i) := by
  show Dgs _ _ ((js.take i ++ x :: js.drop i).map dP) _
  rw [List.map_append, List.map_cons, List.map_take, List.map_drop]
  exact Dgs.insert i (D.updt ht) (Dg.mono (fun _ _ h => h) (fun _ _ h => sqt_upd ht h) (pair_dg hp))
theorem da_mkline {K : PySem.W.Frag} {H : Hp} {l : Int × List (Int × Int)} {p t : Addr} (h : H p = some (.tup [.int l.1, .ref t])) (hd : Da K H (dJ l.2) (.ref t)) : Da K H (dL l) (.ref p) := dg_tuple.mpr ⟨p, _, rfl, SqT.of h, Dgs.two (dg_int.mpr rfl) hd⟩
theorem perm_ins {α : Type} (l : List α) (i : Nat) (x : α) : (l.take i ++ x :: l.drop i).Perm (x :: l) := by
  have h := List.perm_middle (a := x) (l₁ := l.take i) (l₂ := l.drop i)
  rw [List.take_append_drop] at h
  exact h
theorem min_if (i j : Int) : (if j < i then j else i) = min i j := by omega
theorem max_if (i j : Int) : (if j > i then j else i) = max i j := by omega
theorem at_int {ns : List Int} {i : Int} (h0 : 0 ≤ i) (h1 : i < ns.length) : ∃ x, ns[i.toNat]? = some x ∧ x ∈ ns ∧ atI (ns.map V.int) i = some (V.int x) := by
  have hlt : i.toNat < ns.length := by omega
  refine ⟨ns[i.toNat], by simp, List.getElem_mem _, ?_⟩
  have h := atI_nat (xs := ns.map V.int) (j := i.toNat) (v := V.int ns[i.toNat]) (by rw [List.getElem?_map]; simp)
  have e1 : ((i.toNat : Nat) : Int) = i := by omega
  rw [e1] at h
  exact h
end TL
set_option maxRecDepth 100000
namespace L2
open PySem PySem.Spec PySem.Calls PyProof.Rows PySem.W

section
variable {prog : Program} {w : World} {A : Around} {E : Value → Shared → Prop} {s : Shared} {K : Frag} {a C : Addr} {o : Obj}

/-- the facts of an own exception's class -/
structure ExC (K : Frag) (C : Addr) : Prop where
  obj : mroIn K C (.type "object") = some true
  bex : mroIn K C (.type "BaseException") = some true
  cls : findIn K (.ref C) "__class__" = some (some (.builtin "object.__class__"))
  ga : findIn K (.ref C) "__getattribute__" = some (some (.builtin "BaseException.__getattribute__"))
  gn : findIn K (.ref C) "__getattr__" = some none
  isc : (clsIn K C).isSome = true

end
end L2
set_option maxRecDepth 100000
set_option linter.all false
namespace L2
open PySem PySem.Spec PySem.Calls PyProof.Rows PySem.W

/-! ### exceptions: how one lies behind a call -/
section
variable {P : Program} {w : World} {H H1 : Hp} {h : Heap} {a : Addr} {o : HO}
theorem ObjOk.some (x : ObjOk P w H h a o) : ∃ u, h.get? a = Option.some u := by
  cases o with
  | lst xs => obtain ⟨_, _, _, _, e⟩ := x; exact ⟨_, e⟩
  | tup xs => obtain ⟨_, _, _, p⟩ := x; obtain ⟨u, e, _⟩ := p; exact ⟨u, e⟩
  | dK kvs => obtain ⟨_, _, _, _, o, _, _, e, _⟩ := x; exact ⟨_, e⟩
  | dT kvs => obtain ⟨_, _, _, _, o, _, _, e, _⟩ := x; exact ⟨_, e⟩
  | set S n => obtain ⟨o, _, _, _, e, _⟩ := x; exact ⟨_, e⟩
  | ins C dx fs => obtain ⟨_, _, _, e, _⟩ := x; exact ⟨_, e⟩
  | own y => obtain ⟨_, e⟩ := x; exact ⟨_, e⟩
  | xd fs => obtain ⟨_, ⟨_, _, _, e, _⟩, _⟩ := x; exact ⟨_, e⟩
  | rng lo hi => obtain ⟨_, _, _, e⟩ := x; exact ⟨_, e⟩
  | frz ob u => obtain ⟨e, _⟩ := x; exact ⟨_, e⟩
  | tbl ps => exact ⟨_, (show h.get? a = Option.some _ from x)⟩
  | met f y => exact ⟨_, (show h.get? a = Option.some _ from x)⟩
  | ext φ => obtain ⟨_, ⟨_, e⟩, _⟩ := x; exact ⟨_, e⟩
theorem HOk.none_of (x : HOk P w H h) (e : h.get? a = Option.none) : H a = Option.none := by
  cases q : H a with
  | none => rfl
  | some u => obtain ⟨v, z⟩ := (x a u q).some; rw [e] at z; cases z
end

/-- what is kept by an exception that flies: B holds all but the frames and what is made for the exception -/
structure Fl0 (P : Program) (w : World) (base : Heap) (l : List Env) (H H1 : Hp) (h0 B h : Heap) : Prop where
  bas : base.StaysIn B
  hok : HOk P w H1 B
  kp : ∀ b o, h0.get? b = some o → H b = none → b ∉ frs l → B.get? b = some o
  thr : ∀ b o, h0.get? b = some o → b ∉ frs l → ∃ o', B.get? b = some o'
  un : Un (frs l) [] H H1 h0 h
theorem Fl0.step {P : Program} {w : World} {base : Heap} {l : List Env} {H H1 : Hp} {h0 B h h' : Heap} (x : Fl0 P w base l H H1 h0 B h) (st : B.StaysIn h') (ff : h.FunFrames B l) (ff' : h'.FunFrames B l) (sm : h.UpToSlots h') :
    Fl0 P w base l H H1 h0 B h' := by
  refine ⟨x.bas, x.hok, x.kp, x.thr, ⟨fun b o q n hb _ => st b o (x.kp b o q n hb), fun b o q n hb _ => ?_, x.un.free, fun b o q _ => ?_, x.un.tups, x.un.frzs, x.un.tbls⟩⟩
  · obtain ⟨sl, e⟩ := x.un.slot b o q n hb (by simp)
    obtain ⟨_, o2, e2, nf⟩ := ff.mem hb
    rw [e] at e2; cases e2
    obtain ⟨sl', e'⟩ := sm b _ e nf
    exact ⟨sl', e'⟩
  · by_cases hb : b ∈ frs l
    · obtain ⟨_, o2, e2, _⟩ := ff'.mem hb
      exact ⟨o2, e2⟩
    · obtain ⟨o', e⟩ := x.thr b o q hb
      exact ⟨o', st b o' e⟩

structure Fl (P : Program) (w : World) (base : Heap) (l : List Env) (H H1 : Hp) (h0 : Heap) (e C : Addr) (B h : Heap) : Prop extends Fl0 P w base l H H1 h0 B h where
  fly : ∃ a0, Heap.FlyingW B l e (.ref C) a0 h

def CXr (P : Program) (w : World) (base : Heap) : CXT := fun l H s E ev s' =>
  ∃ e C H1 B, ev = .ref e ∧ s'.os = s.os ∧ AllBare s'.gens ∧ Fl P w base l H H1 s.heap e C B s'.heap ∧ E (.ref C) (some e) H1

section
variable {X : Cx} {pins : List (Addr × Obj)} {σ : St} {H H1 : Hp} {s s' : Shared} {e C : Addr} {B : Heap}

/-- a def's own exception -/
theorem raise_fl {M : Model} {E : Value → Shared → Prop} {Q : Unit → Shared → Prop} {h' : Heap} {vs : List Value} (I : Inv X pins σ H s) (hst : X.stack = X.env :: X.outer) (hf : X.env.frame = some X.env.locals) (hex : X.ex = [])
    (hx : Heap.MadeExcOf s.heap h' e (.ref C) vs) (hQ : ∀ B h'', Fl X.prog X.w X.base X.outer X.H₀ H X.s₀.heap e C B h'' → Q () { s with heap := h'' }) :
    wpAny M X.A (leaving X.env (.ref e)) Q E { s with heap := h' } := by
  have hfr := I.ok.frames
  rw [hst] at hfr
  have hstk := I.stack
  rw [hst] at hstk
  have hin : ∀ env ∈ (X.env :: X.outer), ∀ b, env.frame = some b → b ∈ frs (X.env :: X.outer) := fun env he b hb => List.mem_filterMap.mpr ⟨env, he, hb⟩
  have nb : ∀ b, b ≠ X.env.locals → b ∉ X.fs → b ∉ frs (X.env :: X.outer) := fun b h1 h2 hb => by
    unfold frs at hb
    rw [List.filterMap_cons, hf] at hb
    rcases List.mem_cons.mp hb with z | z
    · exact h1 z
    · exact h2 z
  have neL : ∀ b o, X.s₀.heap.get? b = some o → b ≠ X.env.locals := fun b o e => Nat.ne_of_lt (Nat.lt_of_lt_of_le (Heap.lt_size e) I.ok.above)
  refine wpAny_leaves_madeW (base := hideAll s.heap (frs (X.env :: X.outer))) hfr hf (fun b o q => of_hideAll _ q) (funFrames_hide hstk hin) hx fun h'' t x1 x2 x3 x4 => ?_
  have hok : HOk X.prog X.w H (hideAll s.heap (frs (X.env :: X.outer))) := fun b u q => by
    refine (I.hok b u q).stay (fun c v hc z => hideAll_get _ z fun hm => ?_) (fun _ z => z) fun _ _ z => z
    have hn : H c = none := I.stkFree c (by rw [hst]; exact hm)
    rcases hc with rfl | hc
    · rw [hn] at q; cases q
    · rw [hn] at hc; cases hc
  have z0 : Fl0 X.prog X.w X.base X.outer X.H₀ H X.s₀.heap (hideAll s.heap (frs (X.env :: X.outer))) h' := by
    have ub : Un X.fs [] X.H₀ H X.s₀.heap s.heap := by have := I.base; rw [hex] at this; exact this
    refine ⟨fun b o q => hideAll_get _ (I.bk b o q) fun hm => ?_, hok, fun b o q n hb => hideAll_get _ (ub.keep b o q n hb (by simp)) (nb b (neL b o q) hb), fun b o q hb => ?_, ub.trans (Un.kept hx.keeps)⟩
    · have := (hstk.mem hm).1
      rw [q] at this; cases this
    · obtain ⟨o', e1⟩ := ub.there b o q (by simp)
      exact ⟨o', hideAll_get _ e1 (nb b (neL b o q) hb)⟩
  have ff : h'.FunFrames (hideAll s.heap (frs (X.env :: X.outer))) X.outer := by
    obtain ⟨_, _, z⟩ := (funFrames_hide hstk hin).of_keeps fun b o hb _ => ⟨o, hx.keeps b o hb, rfl⟩
    exact z
  exact hQ _ h'' ⟨z0.step x1.1 ff x1.2.2.1 x4, _, x1⟩

end

section
variable {P : Program} {w : World} {K : PySem.W.Frag} {mg : Str → Option Value} {base : Heap} {N : List Str} {qual : Str} {scope : Scope} {f : Addr} {cd : Value} {A : Around} {outer : List Env} {s₀ : Shared} {H₀ : Hp} {E : XK}

/-- what a def wants of a raise -/
def Raises (X : Cx) (E : XK) : Prop := ∀ (pins : List (Addr × Obj)) (σ : St) (H : Hp) (s : Shared) (h' : Heap) (e C : Addr) (vs : List Value), Inv X pins σ H s → Heap.MadeExcOf s.heap h' e (.ref C) vs → E (.ref C) (some e) H → X.xe (.ref e) { s with heap := h' }

theorem raises_cx : Raises (cxOf (CXr P w base) P w K mg base N qual scope f cd A outer s₀ H₀ E) E := fun pins σ H s h' e C vs I hx q =>
  raise_fl I rfl rfl rfl hx fun B h'' z => ⟨e, C, H, B, rfl, I.os, I.bare, z, q⟩
end
end L2
set_option maxRecDepth 100000
set_option linter.all false
namespace L2
open PySem PySem.Spec PySem.Calls PyProof.Rows PySem.W

/-- an own exception's class, by the fragment -/
theorem exc_obj {K : Frag} {h : Heap} {C : Addr} {bmB : List Value} {newId : String} (X : K.In h) (q : excIn K C bmB newId = true) :
    ∃ bm N nm qn bs hdct sn sub ab col dd k0 k1 k2 k3 k5 mN, h.get? C = some (excClassObj nm qn C N bs bm hdct sn sub ab col dd k0 k1 k2 k3 k5 newId) ∧ h.Ns N mN ∧ mN "__init__" = none ∧ OwnTail h bmB bm := by
  unfold excIn at q
  split at q
  · rename_i d1 c1 l1 lk
    split at q
    · rename_i D1 tl j0 j1 j2 j3 nn j5 e1 e2
      simp only [Bool.and_eq_true, beq_iff_eq, Bool.not_eq_true'] at q
      obtain ⟨⟨⟨⟨⟨q1, q2⟩, q3⟩, q4⟩, q5⟩, q6⟩ := q
      subst q1 q2
      cases c1
      dsimp only at e1 q3 q5 q6
      subst e1 q3
      cases l1
      dsimp only at e2
      subst e2
      exact ⟨tl, _, _, _, _, _, _, _, _, _, d1, j0, j1, j2, j3, j5, _, X _ _ lk, .of_isNs (isNs_of_in X q5), nsMap_none_of_in X q5 q6, tail_of_in X q4⟩
    · cases q
  · cases q

section
variable {X : Cx} {E : XK} {x : Str} {np cpos pos : Pos} {C : Addr} {bmB : List Value} {Bn newId initId : String} {e₀ : Expr} {rest : List Expr} {ta : TA}
/-- raise C(..) -/
def tRaise (C : Addr) (E : XK) (ta : TA) : TS := fun _ σ H => ta σ H fun vs H1 => vs.length ≤ sizeLine ∧ ∀ e, H1 e = none → E (.ref C) (some e) H1
theorem ps_raise (hR : Raises X E) (hc : X.calm = true) (hg : Gl X x) (hm : X.mg x = some (.ref C)) (q : excIn X.K C bmB newId = true) (FB : ExcBaseFacts Bn newId initId bmB) (ha : PA X (e₀ :: rest) ta)
    (he : starEach (e₀ :: rest) X.env = (false, eval e₀ X.env) :: starEach rest X.env := by rfl) (hpl : (backTo cpos (starEach rest X.env)).any (·.1) = false := by rfl) (hd : (x == ("__debug__" : Str)) = false := by decide) :
    PS X (.Raise (some (.Call (.Name x np) (e₀ :: rest) [] cpos)) none pos) (tRaise C E ta) := by
  intro pins s σ H D I h
  obtain ⟨tl, N, nm, qn, bs, hdct, sn, sub, ab, col, dd, k0, k1, k2, k3, k5, mN, hC, hN, hni, T⟩ := exc_obj I.mod.kin q
  refine wpAny_Raise_call_subT (C := C) (nm := nm) (q := qn) (N := N) (bs := bs) (bm := tl) (hdct := hdct) (sn := sn) (sub := sub) (ab := ab) (col := col) (dd := dd) (k0 := k0) (k1 := k1) (k2 := k2) (k3 := k3) (k5 := k5)
    FB (mN := mN) (T.hasType FB.hasBase) (I.ok.hd hc) (by rw [he]; show (false || (backTo cpos (starEach rest X.env)).any (·.1)) = false; rw [hpl]; rfl) hni (ld_glob I hg hm ⟨rfl, ?_⟩ hd)
  have h2 := ha cpos pins s σ H _ I h
  rw [he] at h2 ⊢
  exact Calls.evalArgs_plain (wpAny_mono h2 (fun us s1 ⟨vs, H1, I1, r, z1, z2⟩ => ⟨rfl, r.length ▸ z1, I1.bk _ _ hC, hN.keeps I1.bk, T.keeps I1.bk, fun h' e hx => hR pins σ H1 s1 h' e C us I1 hx (z2 e (I1.hok.none_of hx.new))⟩) fun _ _ y => y)
end

/-! ### an exception that is kept -/
section
variable {X : Cx} {pins : List (Addr × Obj)} {σ : St} {H H1 : Hp} {s s' : Shared} {e C : Addr} {B : Heap}
end

end L2
set_option maxRecDepth 100000
set_option linter.all false
namespace L2
open PySem PySem.Spec PySem.Calls PyProof.Rows PySem.W

/-! ### calls within try: the wish about exceptions may look at the names -/
section
variable {X : Cx} {CX : CXT} {k : Nat} {f : Addr} {fd : FuncData} {ps : List Str} {sp : Sp} {dvs : List V} {ds : List Value} {E : St → XK} {x : Str} {p pos : Pos} {e : Expr} {es : List Expr} {t : TA}
end

/-! ### try: .. except T as n: .. -/
section
variable {X : Cx} {pins pn : List (Addr × Obj)} {σ : St} {H : Hp} {s : Shared} {W : Value → Shared → Prop}
end

/-- T catches C -/
structure Catches (K : Frag) (D C : Addr) : Prop where
  ty : typeIn K (.ref D) = some (.type "type")
  isc : (clsIn K D).isSome = true
  bex : mroIn K D (.type "BaseException") = some true
  mro : mroIn K C (.ref D) = some true

section
variable {X : Cx} {body suite : List Stmt} {b₀ : Stmt} {x n : Str} {np hpos pos : Pos} {D : Addr} {j : Nat} {tb : (St → XK) → TS} {th : TS}
end

/-! ### isinstance of a kept exception -/
end L2
set_option maxRecDepth 100000
set_option linter.all false
namespace L2
open PySem PySem.Spec PySem.Calls PyProof.Rows PySem.W TL

/-! ### a def that may raise -/
section
variable {P : Program} {w : World} {K : PySem.W.Frag} {mg : Str → Option Value} {base : Heap}
theorem Fun.okX {x qual : Str} {st : Stmt} {f : Addr} {fd : FuncData} {N ps : List Str} {k : Nat} {sp : Sp} (F : Fun K x qual st f fd) (S : FnScope N ps (defScope st)) (len : ∀ vs H Q E, sp vs H Q E → vs.length = ps.length)
    (hbody : ∀ (cdv : Value) (A : Around) (outer : List Env) (s : Shared) (H : Hp) (vs : List V) (Q : VK) (E : XK), Room k (A.deeper (envOfC qual (defScope st) s.heap.objs.size f cdv)) → sp vs H Q E →
      ∃ t, PSs (cxOf (CXr P w base) P w K mg base N qual (defScope st) f cdv A outer s H E) (defBody st) t ∧ t { nx := fun _ H' => Q .non H', rt := Q } (start N vs) H) : FnOk P w K mg base (CXr P w base) (k + 1) f fd ps sp := by
  obtain ⟨oc, od, kV, doc, pm, an, cdv, ct, osl, rfl, lk, hcd⟩ := F.ex
  exact fn_of lk hcd S len fun A outer s H vs Q E hr hsp => hbody cdv A outer s H vs Q E hr hsp
end

/-- an own exception's class -/
abbrev bmV : List Value := [.type "ValueError", .type "Exception", .type "BaseException", .type "object"]
structure Xc (K : Frag) (mg : Str → Option Value) (x : Str) (C : Addr) : Prop where
  m : mg x = some (.ref C)
  q : excIn K C bmV "ValueError.__new__" = true
  e : ExC K C
/-- all that a law asks of the refusals -/
structure Xs (K : Frag) (mg : Str → Option Value) (D c1 c2 c3 c4 c5 c6 c7 : Addr) : Prop where
  VE : mg "ValueError" = none
  TurnError : Xc K mg "TurnError" D
  NoLine : Xc K mg "NoLine" c1
  NoTrain : Xc K mg "NoTrain" c2
  NoMove : Xc K mg "NoMove" c3
  NoPiece : Xc K mg "NoPiece" c4
  TooMany : Xc K mg "TooMany" c5
  NoText : Xc K mg "NoText" c6
  NoRow : Xc K mg "NoRow" c7
  cat : ∀ c ∈ [c1, c2, c3, c4, c5, c6, c7], Catches K D c
  val : ∀ c ∈ [c1, c2, c3, c4, c5, c6, c7], kitOne K (.ref c) (.type "ValueError") = some true
  eq : ∀ c ∈ [c1, c2, c3, c4, c5, c6, c7], ∀ d ∈ [c1, c2, c3, c4, c5, c6, c7], kitOne K (.ref c) (.ref d) = some (decide (c = d))
  nd : [c1, c2, c3, c4, c5, c6, c7].Nodup
/-! ### count and index of truths -/
section
variable {X : Cx}
end
end L2
set_option maxRecDepth 100000
set_option linter.all false
namespace L2
open PySem PySem.Spec PySem.Calls PyProof.Rows PySem.W TL

/-- the refusals' classes, by the fragment's deciders -/
structure XcIn (K : Frag) (x : Str) (C : Addr) : Prop where
  b : nsIn K mainGlobals x = some (some (.ref C))
  q : excIn K C bmV "ValueError.__new__" = true
  o : mroIn K C (.type "object") = some true
  p : mroIn K C (.type "BaseException") = some true
  r : findIn K (.ref C) "__class__" = some (some (.builtin "object.__class__"))
  g : findIn K (.ref C) "__getattribute__" = some (some (.builtin "BaseException.__getattribute__"))
  h : findIn K (.ref C) "__getattr__" = some none
  i : isClsIn K C = true
  t : typeIn K (.ref C) = some (.type "type")
structure XdIn (K : Frag) (D C : Addr) : Prop where
  m : mroIn K C (.ref D) = some true
  v : subIn K (.ref C) (.type "ValueError") = some true
structure XeIn (K : Frag) (c d1 d2 d3 d4 d5 d6 : Addr) : Prop where
  e1 : subIn K (.ref c) (.ref d1) = some false
  e2 : subIn K (.ref c) (.ref d2) = some false
  e3 : subIn K (.ref c) (.ref d3) = some false
  e4 : subIn K (.ref c) (.ref d4) = some false
  e5 : subIn K (.ref c) (.ref d5) = some false
  e6 : subIn K (.ref c) (.ref d6) = some false
section
variable {K : Frag} {h : Heap} {mg : Str → Option Value} {x : Str} {C D : Addr}
theorem XcIn.isc (a : XcIn K x C) : (clsIn K C).isSome = true := by
  have := a.i
  unfold isClsIn at this
  exact this
theorem XcIn.ex (a : XcIn K x C) : ExC K C := ⟨a.o, a.p, a.r, a.g, a.h, a.isc⟩
theorem XcIn.xc (a : XcIn K x C) (X : K.In h) (G : h.Ns mainGlobals mg) : Xc K mg x C := ⟨mg_of X G a.b, a.q, a.ex⟩
variable {c1 c2 c3 c4 c5 c6 c7 : Addr}
end
end L2
set_option Elab.async false
set_option linter.all false
set_option maxRecDepth 100000
set_option maxHeartbeats 4000000
namespace TL
open PySem PySem.Spec PyProof.Rows L2

/-- more of the built-in names -/
structure Bm (mg : Str → Option Value) : Prop extends Bl mg where
  zip : mg "zip" = none
  sum : mg "sum" = none
  all : mg "all" = none
  set : mg "set" = none
  tuple : mg "tuple" = none
  abs : mg "abs" = none
  bool : mg "bool" = none
  dict : mg "dict" = none
  str : mg "str" = none

/-! ### an iterator has turned: some of its own objects are changed -/
theorem Inv.turnedN {X : Cx} {pins : List (Addr × Obj)} {σ : St} {H : Hp} {s : Shared} {h' : Heap} {t' : Nat} {ch : List Addr} (I : Inv X pins σ H s) (hf : ∀ b ∈ ch, FpOk X pins H b)
    (keep : ∀ b o, b ∉ ch → s.heap.get? b = some o → h'.get? b = some o) : Inv X pins σ H { s with heap := h', toks := t' } := by
  have nch : ∀ b u, H b = some u → b ∉ ch := fun b u q z => by rw [(hf b z).1] at q; cases q
  refine I.step (g' := s.gens) (d' := s.drawn) (ch := ch) (fun b hb => ?_) (fun b o _ _ hc q _ => keep b o hc q) (fun b o _ _ hc q _ => ⟨o.slots, keep b o hc q⟩) (fun _ _ _ _ n => n)
    (fun b o hc q => ⟨o, keep b o hc q⟩) (fun _ _ e => e) (fun _ _ _ e => e) (fun b ps e => ⟨#[], by rw [e]; simp⟩) (fun m hm => ?_) (fun b u q => ?_) I.bare
  · obtain ⟨f0, f1, f2, f3, f4, f5⟩ := hf b hb
    exact ⟨f3, f1, f4, f5⟩
  · obtain ⟨o, es, ep, ho, r⟩ := hm
    exact ⟨o, es, ep, keep _ o (fun z => (hf _ z).2.1 rfl) ho, r⟩
  · refine (I.hok b u q).stay (fun c v hc q' => keep c v ?_ q') (fun c z => z) fun c ys z => z
    rcases hc with z | z
    · rw [z]; exact nch b u q
    · exact nch c _ z

/-! ### zip(list, list), a tuple as target -/
def Itz (K : PySem.W.Frag) (a b : Addr) : It :=
  ⟨fun i H => ∃ xs ys x y, SqL K H a xs ∧ SqL K H b ys ∧ xs[i]? = some x ∧ ys[i]? = some y,
   fun i H v H' => ∃ p, H p = none ∧ v = .ref p ∧ ∀ xs ys x y, SqL K H a xs → SqL K H b ys → xs[i]? = some x → ys[i]? = some y → H' = upd H p (.tup [x, y]),
   fun i H => ∃ xs ys, SqL K H a xs ∧ SqL K H b ys ∧ (xs.length ≤ i ∨ ys.length ≤ i)⟩
theorem turn_zip {P : Program} {w : World} {K : PySem.W.Frag} {es : List Expr} {x1 : Nat} {pt : Pos} {a b z TI TO i1 i2 : Addr} (D : ZipApart z TI TO i1 i2 a b) :
    Turn P w K (.Tuple es x1 pt) (Itz K a b) [z, TI, TO, i1, i2] z (fun i h => IsZip h z TI TO .none ∧ IsPair h TI (.ref i1) (.ref i2) ∧ (∃ u v, IsPair h TO u v) ∧ h.IsListIter i1 a i ∧ h.IsListIter i2 b i) where
  mem := by simp
  obj := fun i h st c hc => by
    obtain ⟨hz, h1, ⟨u, v, h2⟩, h3, h4⟩ := st
    obtain ⟨o3, q3, _, d3⟩ := h3
    obtain ⟨o4, q4, _, d4⟩ := h4
    simp only [List.mem_cons, List.not_mem_nil, or_false] at hc
    rcases hc with rfl | rfl | rfl | rfl | rfl
    · exact ⟨_, hz, fun v z => by cases z⟩
    · exact ⟨_, h1, fun v z => by cases z⟩
    · exact ⟨_, h2, fun v z => by cases z⟩
    · exact ⟨_, q3, fun v z => by rw [d3] at z; cases z⟩
    · exact ⟨_, q4, fun v z => by rw [d4] at z; cases z⟩
  keep := fun i h h' ⟨hz, h1, ⟨u, v, h2⟩, h3, h4⟩ k => ⟨k z (by simp) _ hz, k TI (by simp) _ h1, ⟨u, v, k TO (by simp) _ h2⟩, h3.at fun o q => k i1 (by simp) o q, h4.at fun o q => k i2 (by simp) o q⟩
  item := by
    intro X hP hw hK hc i pins s σ H E I hf st hg
    subst hP hw hK
    obtain ⟨hz, h1, ⟨u0, v0, h2⟩, h3, h4⟩ := st
    obtain ⟨xs, ys, x, y, hx, hy, ex, ey⟩ := hg
    obtain ⟨its, rv, p, hzx⟩ := I.list hx
    obtain ⟨jts, rw', p', hzy⟩ := I.list hy
    obtain ⟨u, hu, ru⟩ := rv.get ex
    obtain ⟨v, hv, rv'⟩ := rw'.get ey
    refine wpAny_pyNext_zip_item D hz h1 h2 h3 h4 p.isList p'.isList (x := u) (y := v) (by simpa using hu) (by simpa using hv) fun h' a1 a2 a3 a4 a5 a6 hk => ?_
    refine ⟨_, rfl, ?_⟩
    refine wpAny_letOwnedTupleGo_zip (s := { s with heap := h' }) a1 fun h'' m1 m2 => ?_
    have lt : ∀ {c o}, s.heap.get? c = some o → s.heap.objs.size ≠ c := fun e => Nat.ne_of_gt (Heap.lt_size e)
    have keep : ∀ b o, b ∉ [z, TI, TO, i1, i2] → s.heap.get? b = some o → h''.get? b = some o := fun b o hb q => m2.extBut b o (fun z => hb (by simp [z])) (hk b o (fun z => hb (by simp [z])) (fun z => hb (by simp [z])) (fun z => hb (by simp [z])) (fun z => hb (by simp [z])) q)
    have ht : h''.get? s.heap.objs.size = some { cls := .type "tuple", data := .seq [u, v].toArray } := m2.extBut _ _ (lt hz) a5
    have J1 : Inv X pins σ (upd H s.heap.objs.size (.tup [x, y])) { s with heap := h'', toks := s.toks } := Inv.turnedTup I hf keep (.cons ru (.cons rv' .nil)) (by show 2 ≤ sizeLine; decide) ht
    have hn : H s.heap.objs.size = none := I.fresh
    refine ⟨.ref s.heap.objs.size, _, J1, rfl, ⟨_, hn, rfl, fun xs' ys' x' y' q1 q2 q3 q4 => ?_⟩, ⟨m1, ?_, ⟨_, _, m2.extBut _ _ D.TOz a2⟩, a3.extBut m2.extBut D.i1z, a4.extBut m2.extBut D.i2z⟩, fun c hb => ?_⟩
    · have e1 := I.list_inj q1 hx
      have e2 := I.list_inj q2 hy
      subst e1 e2
      rw [ex] at q3
      rw [ey] at q4
      cases q3
      cases q4
      rfl
    · exact m2.extBut _ _ D.TIz (hk _ _ D.TIz D.TITO D.TIi1 D.TIi2 h1)
    · have q : ∃ o, s.heap.get? c = some o := by
        obtain ⟨o3, q3, _, d3⟩ := h3
        obtain ⟨o4, q4, _, d4⟩ := h4
        have hb' := hb
        simp only [List.mem_cons, List.not_mem_nil, or_false] at hb'
        rcases hb' with rfl | rfl | rfl | rfl | rfl
        · exact ⟨_, hz⟩
        · exact ⟨_, h1⟩
        · exact ⟨_, h2⟩
        · exact ⟨_, q3⟩
        · exact ⟨_, q4⟩
      obtain ⟨o, q⟩ := q
      rw [upd_ne (Nat.ne_of_lt (Heap.lt_size q))]
      exact (hf c hb).1
  done := by
    intro X hP hw hK hc i pins s σ H E I hf st hg
    subst hP hw hK
    obtain ⟨hz, h1, ⟨u0, v0, h2⟩, h3, h4⟩ := st
    obtain ⟨xs, ys, hx, hy, e⟩ := hg
    obtain ⟨its, rv, p, hzx⟩ := I.list hx
    obtain ⟨jts, rw', p', hzy⟩ := I.list hy
    have l1 := rv.length
    have l2 := rw'.length
    refine wpAny_pyNext_zip_end (I.ok.hd hc) D hz h1 h2 h3 h4 p.isList p'.isList ?_ fun h' hk => ⟨rfl, Inv.turnedN (t' := s.toks) I hf fun b o hb q => hk b o (fun z => hb (by simp [z])) (fun z => hb (by simp [z])) (fun z => hb (by simp [z])) (fun z => hb (by simp [z])) q⟩
    rcases e with e | e
    · left; simp; omega
    · right; simp; omega
  self := fun _ _ _ _ _ ⟨hz, _⟩ h => wpAny_pyIter_zip hz h
section
variable {X : Cx}
def iZip (K : PySem.W.Frag) (ta : TA) : TI := fun σ H R => ta σ H fun vs H1 => ∃ a b, vs = [.ref a, .ref b] ∧ (∃ xs, SqL K H1 a xs) ∧ (∃ ys, SqL K H1 b ys) ∧ R (Itz K a b) H1
theorem pi_zip {a b : Expr} {ta : TA} {p pos : Pos} {es : List Expr} {x1 : Nat} {pt : Pos} (hg : Gl X "zip") (hm : X.mg "zip" = none) (ha : PA X [a, b] ta) (hs : starEach [a, b] X.env = [(false, eval a X.env), (false, eval b X.env)] := by rfl) (hs2 : starEach [b] X.env = [(false, eval b X.env)] := by rfl) :
    PI X (.Tuple es x1 pt) (.Call (.Name "zip" p) [a, b] [] pos) (iZip X.K ta) := by
  intro pins s σ H R I h
  refine Call_ (ld_blt I hg hm boot_zip (PyProof.Rows.callWith_type1 (thn (ha pos pins s σ H _ I h) fun us s1 ⟨vs, H1, I1, r1, q1⟩ => ?_) (by rw [hs, hs2]) (by rw [hs2]; rfl)))
  obtain ⟨a, b, e, ⟨xs, hx⟩, ⟨ys, hy⟩, q⟩ := q1
  subst e
  obtain ⟨u, v, rfl, ru, rv⟩ := vals2 r1
  cases ru
  cases rv
  obtain ⟨its, rv, p, hzx⟩ := I1.list hx
  obtain ⟨jts, rw', p', hzy⟩ := I1.list hy
  have la : a < s1.heap.objs.size := by obtain ⟨o, n, e, _⟩ := p; exact Heap.lt_size e
  have lb : b < s1.heap.objs.size := by obtain ⟨o, n, e, _⟩ := p'; exact Heap.lt_size e
  refine call_zip_2 p.isList p'.isList fun h' k1 k2 k3 k4 k5 k6 k7 => ?_
  refine wpAny_pyIter_zip (s := { s1 with heap := h' }) k1 ?_
  have D : ZipApart (s1.heap.objs.size + 4) (s1.heap.objs.size + 2) (s1.heap.objs.size + 3) s1.heap.objs.size (s1.heap.objs.size + 1) a b := by
    generalize s1.heap.objs.size = z at la lb
    have la' : @LT.lt Nat _ a z := la
    have lb' : @LT.lt Nat _ b z := lb
    constructor <;> first | exact (show @Ne Nat _ _ by omega)
  refine ⟨s1.heap.objs.size + 4, [s1.heap.objs.size + 4, s1.heap.objs.size + 2, s1.heap.objs.size + 3, s1.heap.objs.size, s1.heap.objs.size + 1], _, _, H1, rfl, I1.kept (t' := s1.toks) k7, turn_zip D, ⟨k1, k2, ⟨_, _, k3⟩, k4, k5⟩, fun c hc => ?_, q⟩
  have hb' : s1.heap.objs.size ≤ c := by
    simp only [List.mem_cons, List.not_mem_nil, or_false] at hc
    rcases hc with rfl | rfl | rfl | rfl | rfl
    · exact Nat.le_add_right _ _
    · exact Nat.le_add_right _ _
    · exact Nat.le_add_right _ _
    · exact Nat.le_refl _
    · exact Nat.le_add_right _ _
  exact I1.fpOk hb' (I1.hok.fresh hb')
theorem for_zip {K : PySem.W.Frag} {a b : Addr} {xs ys : List V} {g : TG} {tb : TS} {D : Ends} {σ : St} {H : Hp} (n : Nat) (hn : n = min xs.length ys.length) (Pv : Nat → St → Hp → Prop) (h0 : Pv 0 σ H) (hl : ∀ i σ H, i ≤ n → Pv i σ H → SqL K H a xs ∧ SqL K H b ys)
    (hs : ∀ i x y σ H p, xs[i]? = some x → ys[i]? = some y → Pv i σ H → H p = none → g (.ref p) σ (upd H p (.tup [x, y])) fun σ2 H2 => tb { D with nx := Pv (i + 1), ct := Pv (i + 1), bk := D.nx } σ2 H2) (hd : ∀ σ H, Pv n σ H → D.nx σ H) :
    ∃ W : Nat → Nat → St → Hp → Prop, (∃ m, W 0 m σ H) ∧ ∀ i m σ H, W i m σ H →
      ((Itz K a b).stop i H ∧ D.nx σ H) ∨ ((Itz K a b).go i H ∧ ∃ N : St → Hp → Prop, (∀ σ' H', N σ' H' → ∃ m', m' < m ∧ W (i + 1) m' σ' H') ∧ ∀ x H', (Itz K a b).yld i H x H' → g x σ H' fun σ2 H2 => tb { D with nx := N, ct := N, bk := D.nx } σ2 H2) := by
  refine ⟨fun i m σ H => m = n - i ∧ i ≤ n ∧ Pv i σ H, ⟨n, by simp, Nat.zero_le _, h0⟩, ?_⟩
  rintro i m σ H ⟨rfl, hi, p⟩
  obtain ⟨q1, q2⟩ := hl i σ H hi p
  by_cases hlt : i < n
  · have h1 : i < xs.length := by omega
    have h2 : i < ys.length := by omega
    refine .inr ⟨⟨xs, ys, xs[i], ys[i], q1, q2, by simp [h1], by simp [h2]⟩, Pv (i + 1), fun σ' H' p' => ⟨n - (i + 1), by omega, rfl, hlt, p'⟩, fun x H' y => ?_⟩
    obtain ⟨pa, hp, e, y⟩ := y
    subst e
    have hx : xs[i]? = some xs[i] := by simp [h1]
    have hy : ys[i]? = some ys[i] := by simp [h2]
    rw [y xs ys _ _ q1 q2 hx hy]
    exact hs i _ _ σ H pa hx hy p hp
  · have e : i = n := by omega
    subst e
    exact .inl ⟨⟨xs, ys, q1, q2, by omega⟩, hd σ H p⟩

/-! ### sum, all of a list -/
end

/-! ### a comprehension by an invariant, any iterator -/
section
variable {K : PySem.W.Frag} {l : Addr} {g : TG} {tt : TT} {te : TE} {cap : List (Option Nat)} {σ : St} {Q : VK} {H1 : Hp} {J : It}
theorem lc_any (n : Nat) (Pv : Nat → List V → Hp → Prop) (h0 : Pv 0 [] (upd H1 l (.lst []))) (go : ∀ i acc H, i < n → Pv i acc H → J.go i H) (st : ∀ acc H, Pv n acc H → J.stop n H)
    (hs : ∀ i x acc H H', i < n → Pv i acc H → J.yld i H x H' → g x (capSt cap σ) H' fun σ2 H2 => tt σ2 H2 fun b H3 =>
        if b = true then te σ2 H3 fun y H4 => H4 l = some (.lst acc) ∧ acc.length < sizeLine ∧ Pv (i + 1) (acc ++ [y]) (upd H4 l (.lst (acc ++ [y])))
        else Pv (i + 1) acc H3) (hd : ∀ acc H, Pv n acc H → Q (.ref l) H) : LcW J g tt te cap σ Q l H1 := by
  refine ⟨fun i m acc H => m = n - i ∧ i ≤ n ∧ Pv i acc H, ⟨n, by simp, Nat.zero_le _, h0⟩, ?_⟩
  rintro i m acc H ⟨rfl, hi, p⟩
  by_cases hlt : i < n
  · exact .inr ⟨go i acc H hlt p, fun acc' H' => Pv (i + 1) acc' H', fun acc' H' p' => ⟨n - (i + 1), by omega, rfl, hlt, p'⟩, fun x H' y => hs i x acc H H' hlt p y⟩
  · have e : i = n := by omega
    subst e
    exact .inl ⟨st acc H p, hd acc H p⟩
end
end TL
set_option Elab.async false
set_option linter.all false
set_option maxRecDepth 100000
set_option maxHeartbeats 4000000
namespace TL
open PySem PySem.Spec PyProof.Rows L2

/-! ### sets of ints -/
def sPut (S : Int → Bool) (k : Int) : Int → Bool := fun k' => S k' || decide (k' = k)
def nPut (S : Int → Bool) (n : Nat) (k : Int) : Nat := if S k = true then n else n + 1
section
variable {X : Cx} {pins : List (Addr × Obj)} {σ : St} {H : Hp} {s : Shared}
theorem Inv.setM {l : Addr} {S : Int → Bool} {n : Nat} (I : Inv X pins σ H s) (h : H l = some (.set S n)) : s.heap.SetOf (intKind X.prog X.w) l S n := I.hok l _ h
theorem isInt_self (k : Int) (t : Tok) : Value.isInt k (.int k t) = true := by simp [Value.isInt]
def rSAdd : V → List V → Hp → VK → Prop := fun x vs H Q => ∃ l S n k, x = .ref l ∧ vs = [.int k] ∧ H l = some (.set S n) ∧ n + 1 < scanBound ∧ Q .non (upd H l (.set (sPut S k) (nPut S n k)))
theorem mt_sadd : MtR X "set.add" rSAdd := by
  intro pins s σ H x vs v us Q I rx rv h
  obtain ⟨l, S, n, k, rfl, rfl, hH, hb, q⟩ := h
  cases rx
  obtain ⟨u, rfl, t, rfl⟩ := rv.one
  have hS := Inv.setM I hH
  refine call_set_add (knd := intKind X.prog X.w) (k := k) (isInt_self k t) rfl hS hb fun h' sb hS' => ?_
  refine ⟨.non, _, I.write (t' := s.toks + 1) (o := .set (sPut S k) (nPut S n k)) (x := l) (e := l) (by rw [hH]; exact trivial) (.inl rfl) (fun b u hb e => sb.extBut b u hb e) ?_ ?_, rfl, q⟩
  · obtain ⟨o, _, _, _, e, _⟩ := hS'; exact ⟨o, e⟩
  · exact hS'
theorem call_lenS : CallR X (.builtin "len") (fun xs H Q => ∃ p S n, xs = [.ref p] ∧ H p = some (.set S n) ∧ Q (.int n) H) := by
  intro pins s σ H xs us Q I r h
  obtain ⟨p, S, n, rfl, hH, q⟩ := h
  obtain ⟨u, rfl, rx⟩ := vals1 r
  cases rx
  obtain ⟨o, es, ep, t, e, hex, hd, hel, hm, hb, hf, hn⟩ := Inv.setM I hH
  refine call_len_set e hex hd hf ?_ ⟨.int n, H, I.tok _, ⟨_, by rw [hn]⟩, q⟩
  have : scanBound = 4096 := rfl
  omega
end

section
variable {X : Cx} {pins : List (Addr × Obj)} {σ : St} {H1 : Hp} {s2 : Shared} {scope : Scope} {N : List Str} {own : Nat} {cap : List (Option Nat)} {cl : List (Str × Addr)} {fp : List Addr}
  {tg iter elt : Expr} {ifs : List Expr} {pos : Pos} {g : TG} {tt : TT} {te : TE} {wi : TI}
/-- a set comprehension of ints -/
def ScW (J : It) (g : TG) (tt : TT) (te : TE) (cap : List (Option Nat)) (σ : St) (Q : VK) (l : Addr) (H1 : Hp) : Prop :=
  ∃ W : Nat → Nat → Hp → Prop, (∃ m, W 0 m (upd H1 l (.set (fun _ => false) 0))) ∧ ∀ i m H, W i m H →
    (J.stop i H ∧ Q (.ref l) H) ∨ (J.go i H ∧ ∃ N : Hp → Prop, (∀ H', N H' → ∃ m', m' < m ∧ W (i + 1) m' H') ∧
      ∀ x H', J.yld i H x H' → g x (capSt cap σ) H' fun σ2 H2 => tt σ2 H2 fun b H3 =>
        if b = true then te σ2 H3 fun y H4 => ∃ S n k, y = .int k ∧ H4 l = some (.set S n) ∧ n + 1 < scanBound ∧ N (upd H4 l (.set (sPut S k) (nPut S n k)))
        else N H3)
def tSC (wi : TI) (cap : List (Option Nat)) (g : TG) (tt : TT) (te : TE) : TE := fun σ H Q => wi σ H fun J H1 => ∀ l, H1 l = none →
  ScW J g tt te cap σ Q l H1
theorem comp_runS {it : Addr} {tn : Nat → Heap → Prop} {J : It} {Q : VK} {RR : Value → Addr → Result → Shared → Prop} {E : Value → Shared → Prop} (I : Inv X pins σ H1 s2) (T : Turn X.prog X.w X.K tg J fp it tn) (t0 : tn 0 s2.heap)
    (f : ∀ b ∈ fp, FpOk X pins H1 b) (hc : X.calm = true) (C : CompOk X.env.scope X.N scope N own cap) (ho : GOwn own g)
    (hcl1 : ∀ x c, cl.lookup x = some c → X.env.cells.lookup x = some c) (hcl2 : ∀ y ∈ scope.names, y.2 = .free → ∃ c, cl.lookup y.1 = some c)
    (hg : ∀ s3 H3, PG (cxComp X scope cl N fp s3 H3) tg g) (ht : ∀ s3 H3, PIfs (cxComp X scope cl N fp s3 H3) ifs tt) (he : ∀ s3 H3, PE (cxComp X scope cl N fp s3 H3) elt te)
    (hw : ∀ l, H1 l = none → ScW J g tt te cap σ Q l H1)
    (fin : ∀ l C s' H' m', Inv X pins σ H' s' → s'.heap.Ns C m' → H' C = none → Apart X pins C → Q (.ref l) H' → RR (.ref l) C (.ok .next) s') :
    wpAny (model X.prog X.w) X.A (newSet (.type "set")) (fun acc s₃ => wpAny (model X.prog X.w) X.A (newFunctionEnv scope X.env.globals cl [] X.env.qual none .none (some X.env)) (fun cenv s₄ =>
      codeAny (model X.prog X.w) X.A (.compStart (.SetComp elt [⟨tg, iter, ifs, 0⟩] scope pos) 0 (.ref it) acc { cenv with scope := relabel scope X.env }) (RR acc cenv.locals) s₄) E s₃) E s2 := by
  refine wpAny_newSet_of (knd := intKind X.prog X.w) fun led hset => ?_
  refine wpAny_newFunctionEnv C.nocell (by intro y hy; simp at hy) (fun h₁ hns₁ hsb₁ => ?_) C.kind
  dsimp only at hns₁ hsb₁ ⊢
  obtain ⟨W, ⟨m0, w0⟩, turn⟩ := hw s2.heap.objs.size I.fresh
  have I3 : Inv X pins σ (upd H1 s2.heap.objs.size (.set (fun _ => false) 0)) { s2 with heap := s2.heap.push { cls := .type "set", dict := none, data := .set #[] 0 (.fresh 0 0 led) } } :=
    I.laid (t' := s2.toks) (fun b u e => Heap.get?_push_of_some _ e) (Nat.le_refl _) hset
  generalize hs3 : ({ s2 with heap := s2.heap.push { cls := .type "set", dict := none, data := .set #[] 0 (.fresh 0 0 led) } } : Shared) = s3 at I3
  have hh3 : s3.heap = s2.heap.push { cls := .type "set", dict := none, data := .set #[] 0 (.fresh 0 0 led) } := by rw [← hs3]
  rw [← hh3] at hns₁ hsb₁ ⊢
  have e4 : ({ s2 with heap := h₁, toks := s2.toks + ([] : List (Str × Value)).length } : Shared) = { s3 with heap := h₁, toks := s2.toks } := by rw [← hs3]; rfl
  rw [e4]
  have k4 : ∀ b u, s3.heap.get? b = some u → h₁.get? b = some u := fun b u e => hsb₁.extBut b u (Nat.ne_of_lt (Heap.lt_size e)) (Heap.get?_push_of_some _ e)
  have k3 : ∀ b u, s2.heap.get? b = some u → s3.heap.get? b = some u := fun b u e => by rw [hh3]; exact Heap.get?_push_of_some _ e
  have hb2 : ∀ b ∈ fp, b < s2.heap.objs.size := fun b hb => by obtain ⟨o, e, _⟩ := T.obj _ _ t0 b hb; exact Heap.lt_size e
  have f3 : ∀ b ∈ fp, FpOk X pins (upd H1 s2.heap.objs.size (.set (fun _ => false) 0)) b := fun b hb => by
    obtain ⟨f0, fr⟩ := f b hb
    exact ⟨by rw [upd_ne (Nat.ne_of_lt (hb2 b hb))]; exact f0, fr⟩
  have hb3 : ∀ b ∈ fp, b < s3.heap.objs.size := fun b hb => by obtain ⟨o, e, _⟩ := T.obj _ _ t0 b hb; exact Heap.lt_size (k3 b o e)
  have I4 := inv_comp (tk := s2.toks) I3 C hcl1 hcl2 (fun b hb => ⟨f3 b hb, hb3 b hb⟩) hns₁ k4
  generalize hH3 : upd H1 s2.heap.objs.size (.set (fun _ => false) 0) = H3 at *
  have st4 : tn 0 h₁ := T.keep _ _ _ t0 fun b hb o e => k4 b o (k3 b o e)
  have fpX : ∀ {H' : Hp}, (∀ b ∈ fp, H' b = none) → ∀ b ∈ fp, FpOk (cxComp X scope cl N fp s3 H3) [] H' b := fun {H'} hn b hb => by
    obtain ⟨f0, f1, f2, f3', f4, f5⟩ := f3 b hb
    refine ⟨hn b hb, Nat.ne_of_lt (hb3 b hb), fun hz => ?_, .inl hb, fun x c e => f4 x c (hcl1 x c e), fun p hp => absurd (show p ∈ ([] : List (Addr × Obj)) from hp) (by simp)⟩
    rcases List.mem_cons.mp (I3.stkSub b hz) with z | z
    · exact f1 z
    · exact f2 z
  have loop : codeAny (model X.prog X.w) X.A (.compLoop (.SetComp elt [⟨tg, iter, ifs, 0⟩] scope pos) 0 (.ref it) (.ref s2.heap.objs.size) (compEnvC scope cl s3.heap.objs.size X.env)) (RR (.ref s2.heap.objs.size) s3.heap.objs.size) { s3 with heap := h₁, toks := s2.toks } := by
    refine compLoop_goS (fun n s' => ∃ i H', Inv (cxComp X scope cl N fp s3 H3) [] (capSt cap σ) H' s' ∧ tn i s'.heap ∧ (∀ b ∈ fp, H' b = none) ∧ W i n H') ?_ m0 ⟨0, H3, I4, st4, fun b hb => (f3 b hb).1, w0⟩
    rintro n s' ⟨i, H', I', st, fr, w⟩
    rcases turn i n H' w with ⟨stop, q⟩ | ⟨go, NN, hNN, step⟩
    · refine thn (T.done (cxComp X scope cl N fp s3 H3) rfl rfl rfl hc i [] s' _ H' (fun _ _ => False) I' (fpX fr) st stop) fun r s5 ⟨hr, I5⟩ => ?_
      subst hr
      obtain ⟨m5, hn5, _⟩ := id I5.loc
      exact fin _ _ s5 H' m5 (comp_back I3 f3 I5) hn5 I5.free (TL.Inv.apart I3) q
    · refine thn (T.item (cxComp X scope cl N fp s3 H3) rfl rfl rfl hc i [] s' _ H' (fun _ _ => False) I' (fpX fr) st go) fun r s5 ⟨u, hr, h5⟩ => ?_
      subst hr
      refine thn h5 fun _ s6 ⟨x, H6, I6, r6, y6, st6, fr6⟩ => ?_
      have I6' := I6.pinned (fpX fr6) (T.obj _ _ st6)
      refine thn (hg s3 H3 _ s6 _ H6 x u _ I6' r6 (ho.own _ _ _ _ (step x H6 y6))) fun _ s7 ⟨σ7, H7, I7, q7, l7, o7⟩ => ?_
      have cov : ∀ (i : Nat) v, (capSt cap σ)[i]? = some (some v) → σ7[i]? = some (some v) := fun i v e => by
        obtain ⟨j, c1, c2⟩ := capSt_get e
        by_cases hi : i < own
        · exact (C.own_none hi c1).elim
        · rw [o7 i (by omega)]; exact e
      have back : ∀ {H8 : Hp} {s8 : Shared}, Inv (cxComp X scope cl N fp s3 H3) ([] ++ pinsAt fp s6.heap) σ7 H8 s8 → Inv (cxComp X scope cl N fp s3 H3) [] (capSt cap σ) H8 s8 ∧ tn (i + 1) s8.heap ∧ ∀ b ∈ fp, H8 b = none := fun {H8 s8} I8 => by
        refine ⟨(Inv.unpinned (pins := []) I8).weak l7.symm cov, T.keep _ _ _ st6 fun b hb o e => (I8.pin (b, o) (List.mem_append_right _ (List.mem_append_right _ (mem_pinsAt hb e)))).1, fun b hb => ?_⟩
        obtain ⟨o, e, d⟩ := T.obj _ _ st6 b hb
        exact (I8.pin (b, o) (List.mem_append_right _ (List.mem_append_right _ (mem_pinsAt hb e)))).2.1
      refine thn (ht s3 H3 _ s7 σ7 H7 _ I7 q7) fun b s8 ⟨H8, I8, q8⟩ => ?_
      cases b with
      | false =>
        rw [if_neg Bool.false_ne_true] at q8 ⊢
        obtain ⟨m', hm, w8⟩ := hNN _ q8
        obtain ⟨J1, J2, J3⟩ := back I8
        exact ⟨m', hm, i + 1, H8, J1, J2, J3, w8⟩
      | true =>
        rw [if_pos rfl] at q8 ⊢
        refine thn (he s3 H3 _ s8 σ7 H8 _ I8 q8) fun v s9 ⟨y, H9, I9, r9, S, nn, k, ey, ha, hz, n9⟩ => ?_
        obtain ⟨m', hm, w9⟩ := hNN _ n9
        subst ey
        refine thn (mt_sadd _ s9 σ7 H9 (.ref s2.heap.objs.size) [.int k] (.ref s2.heap.objs.size) [v] (fun _ H10 => W (i + 1) m' H10) I9 rfl (.cons r9 .nil) ⟨_, S, nn, k, rfl, rfl, ha, hz, w9⟩) fun _ s10 ⟨_, H10, I10, _, w10⟩ => ?_
        obtain ⟨J1, J2, J3⟩ := back I10
        exact ⟨m', hm, i + 1, H10, J1, J2, J3, w10⟩
  exact compStart_set loop (T.self X.A 0 _ _ _ st4 loop)
theorem pe_sc (hi : PI X tg iter wi) (hc : X.calm = true) (C : CompOk X.env.scope X.N scope N own cap) (ho : GOwn own g)
    (hg : ∀ cl fp s3 H3, PG (cxComp X scope cl N fp s3 H3) tg g) (ht : ∀ cl fp s3 H3, PIfs (cxComp X scope cl N fp s3 H3) ifs tt) (he : ∀ cl fp s3 H3, PE (cxComp X scope cl N fp s3 H3) elt te)
    (hs : ∀ x, foldedSetIterable iter X.env x = pure x := by intro _; rfl) : PE X (.SetComp elt [⟨tg, iter, ifs, 0⟩] scope pos) (tSC wi cap g tt te) := by
  intro pins s σ H Q I h
  obtain ⟨cl, ecl, hcl1, hcl2⟩ := closure_ok (scope := scope) (env := X.env) fun y hy hf => I.ok.has y.1 (C.fre y hy hf)
  rw [arm_eval_SetComp]
  refine wpAny_comprehension_free (use := none) rfl hs ecl C.kind C.loc (thn (hi pins s σ H _ I h) fun xv s1 h1 => thn h1 fun itv s2 h2 => ?_)
  obtain ⟨it, fp, tn, J, H2, e, I2, T, st2, f2, hw⟩ := h2
  subst e
  refine comp_runS (RR := fun acc C => compPost (model X.prog X.w) X.A X.xe none (EP X pins σ Q) acc C) I2 T st2 f2 hc C ho hcl1 hcl2 (hg cl fp) (ht cl fp) (he cl fp) hw fun l Ca s' H' m' I' hn hfree hP q => ?_
  exact ⟨m', hn, fun h'' hs'' => ⟨.ref l, H', comp_gone I' hP hfree hs'', rfl, q⟩⟩
end

/-! ### how many unlike ones -/
def dn (ks : List Int) : Nat → Nat
  | 0 => 0
  | i + 1 => if ks.getD i 0 ∈ ks.take i then dn ks i else dn ks i + 1
theorem dn_le (ks : List Int) : ∀ i, dn ks i ≤ i
  | 0 => Nat.le_refl _
  | i + 1 => by
    have := dn_le ks i
    unfold dn
    split <;> omega
theorem dn_eq {ks : List Int} : ∀ {i}, dn ks i = i ↔ ∀ j, j < i → ks.getD j 0 ∉ ks.take j
  | 0 => ⟨fun _ j h => absurd h (Nat.not_lt_zero j), fun _ => rfl⟩
  | i + 1 => by
    have h1 := dn_le ks i
    have h2 := @dn_eq ks i
    unfold dn
    constructor
    · intro h j hj
      split at h
      · omega
      · rcases Nat.lt_succ_iff_lt_or_eq.mp hj with z | z
        · exact h2.mp (by omega) j z
        · subst z; assumption
    · intro h
      rw [if_neg (h i (by omega)), h2.mpr fun j hj => h j (by omega)]
theorem nodup_take (ks : List Int) : ks.Nodup ↔ ∀ j, j < ks.length → ks.getD j 0 ∉ ks.take j := by
  constructor
  · intro h j hj hm
    obtain ⟨i, hi, e⟩ := List.mem_iff_getElem.mp hm
    rw [List.length_take] at hi
    rw [List.getElem_take] at e
    have e2 : ks.getD j 0 = ks[j] := by rw [List.getD_eq_getElem?_getD, List.getElem?_eq_getElem hj]; rfl
    rw [e2] at e
    have := (List.getElem_inj h).mp e
    omega
  · intro h
    rw [List.Nodup, List.pairwise_iff_getElem]
    intro i j hi hj hij e
    refine h j hj ?_
    have e2 : ks.getD j 0 = ks[j] := by rw [List.getD_eq_getElem?_getD, List.getElem?_eq_getElem hj]; rfl
    rw [e2, ← e]
    exact List.mem_iff_getElem.mpr ⟨i, by rw [List.length_take]; omega, by rw [List.getElem_take]⟩
theorem dn_nodup (ks : List Int) : dn ks ks.length = ks.length ↔ ks.Nodup := dn_eq.trans (nodup_take ks).symm
theorem dn_lt (ks : List Int) : dn ks ks.length < ks.length ↔ ¬ ks.Nodup := by
  rw [← dn_nodup]
  have := dn_le ks ks.length
  omega
theorem take_snoc {ks : List Int} {i : Nat} (hi : i < ks.length) : ks.take (i + 1) = ks.take i ++ [ks.getD i 0] := by
  rw [List.take_add_one, List.getD_eq_getElem?_getD, List.getElem?_eq_getElem hi]; rfl
theorem sPut_take {ks : List Int} {i : Nat} (hi : i < ks.length) : sPut (fun k => decide (k ∈ ks.take i)) (ks.getD i 0) = fun k => decide (k ∈ ks.take (i + 1)) := by
  funext k
  rw [take_snoc hi]
  simp [sPut]
theorem nPut_take (ks : List Int) (i : Nat) : nPut (fun k => decide (k ∈ ks.take i)) (dn ks i) (ks.getD i 0) = dn ks (i + 1) := by
  unfold nPut
  rw [dn]
  by_cases h : ks.getD i 0 ∈ ks.take i
  · rw [if_pos h, if_pos (by simpa using h)]
  · rw [if_neg h, if_neg (by simpa using h)]
section
variable {X : Cx}
end
section
variable {l : Addr} {g : TG} {tt : TT} {te : TE} {cap : List (Option Nat)} {σ : St} {Q : VK} {H1 : Hp} {J : It}
theorem sc_pureJ {α : Type} {n : Nat} {it : Nat → V → Prop} (S : JS J n H1 it) (ds : List α) (f : α → Int) (hn : H1 l = none) (hlen : n = ds.length) (hz : n + 1 < scanBound)
    (hs : ∀ (i : Nat) x d H, it i x → ds[i]? = some d → Same H1 H → ∀ (P1 : VK) (P0 : Hp → Prop), P1 (.int (f d)) H →
      g x (capSt cap σ) H fun σ2 H2 => tt σ2 H2 fun b H3 => if b = true then te σ2 H3 P1 else P0 H3)
    (hq : Q (.ref l) (upd H1 l (.set (fun k => decide (k ∈ ds.map f)) (dn (ds.map f) n)))) : ScW J g tt te cap σ Q l H1 := by
  refine ⟨fun i m H => m = n - i ∧ i ≤ n ∧ H = upd H1 l (.set (fun k => decide (k ∈ (ds.map f).take i)) (dn (ds.map f) i)), ⟨n, by simp, Nat.zero_le _, ?_⟩, ?_⟩
  · congr 2
  rintro i m H ⟨rfl, hi, e2⟩
  have sm : Same H1 H := by rw [e2]; exact same_upd hn
  by_cases hlt : i < n
  · refine .inr ⟨S.go i H sm hlt, fun H' => H' = upd H1 l (.set (fun k => decide (k ∈ (ds.map f).take (i + 1))) (dn (ds.map f) (i + 1))), fun H' p2 => ⟨n - (i + 1), by omega, rfl, hlt, p2⟩, fun x H' y0 => ?_⟩
    obtain ⟨e, y⟩ := S.yld i H x H' sm hlt y0
    clear y0
    subst e
    have hd : ds[i]? = some (ds[i]'(by omega)) := by simp
    generalize ds[i]'(by omega) = d at hd
    refine hs i x d H' y hd sm _ _ ⟨_, _, f d, rfl, by rw [e2]; exact upd_same, ?_, ?_⟩
    · have := dn_le (ds.map f) i
      omega
    · have e3 : (ds.map f).getD i 0 = f d := by rw [List.getD_eq_getElem?_getD, List.getElem?_map, hd]; rfl
      have h1 := sPut_take (ks := ds.map f) (i := i) (by rw [List.length_map]; omega)
      have h2 := nPut_take (ds.map f) i
      rw [e3] at h1 h2
      rw [h1, h2, e2, upd_upd]
  · have e : i = n := by omega
    subst e
    refine .inl ⟨S.stop H sm, ?_⟩
    rw [e2, List.take_of_length_le (by rw [List.length_map]; omega)]
    exact hq
end
end TL
set_option Elab.async false
set_option linter.all false
set_option maxRecDepth 100000
set_option maxHeartbeats 4000000
namespace TL
open PySem PySem.Spec PyProof.Rows L2

/-! ### the heap but for one address -/
def hid (p : Addr) (H : Hp) : Hp := fun b => if b = p then none else H b
theorem hid_same {p : Addr} {H : Hp} : Same (hid p H) H := fun b o h => by
  unfold hid at h
  by_cases e : b = p
  · rw [if_pos e] at h; cases h
  · rw [if_neg e] at h; exact h
theorem hid_ne {p b : Addr} {H : Hp} (h : b ≠ p) : hid p H b = H b := by unfold hid; rw [if_neg h]
theorem hid_self {p : Addr} {H : Hp} : hid p H p = none := by unfold hid; rw [if_pos rfl]
theorem hid_mono {p : Addr} {H H' : Hp} (s : Same H H') : Same (hid p H) (hid p H') := fun b o h => by
  by_cases e : b = p
  · subst e; rw [hid_self] at h; cases h
  · rw [hid_ne e] at h ⊢; exact s _ _ h
theorem hid_upd {p : Addr} {H : Hp} {o : HO} : hid p (upd H p o) = hid p H := by
  funext b
  by_cases e : b = p
  · subst e; rw [hid_self, hid_self]
  · rw [hid_ne e, hid_ne e, upd_ne e]
/-! ### slices by nats -/
section
variable {L T : Addr → List V → Prop}
end
theorem at_neg1 {xs : List V} {v : V} (h : xs[xs.length - 1]? = some v) : atI xs (-1) = some v := by
  have h1 := (List.getElem?_eq_some_iff.mp h).1
  have hne : xs ≠ [] := fun e => by rw [e] at h1; simp at h1
  have e : xs.getLast hne = v := by
    rw [List.getLast_eq_getElem]
    exact (List.getElem?_eq_some_iff.mp h).2
  rw [← List.dropLast_concat_getLast hne, e]
  exact atI_last _ _
theorem at_nat {xs : List V} {v : V} {i : Int} (h0 : 0 ≤ i) (h : xs[i.toNat]? = some v) : atI xs i = some v := by
  have := atI_nat h
  rw [show ((i.toNat : Nat) : Int) = i by omega] at this
  exact this

/-! ### a comprehension that yields data -/
section
variable {K : PySem.W.Frag} {l : Addr} {g : TG} {tt : TT} {te : TE} {cap : List (Option Nat)} {σ : St} {Q : VK} {H1 : Hp} {J : It}
theorem lc_data {α : Type} (n : Nat) (ds : List α) (d' : α → PyData) (hn : H1 l = none) (hlen : n = ds.length) (hz : n < sizeLine) (go : ∀ i H, Same H1 H → i < n → J.go i H) (st : ∀ H, Same H1 H → J.stop n H)
    (hs : ∀ i x d H H', Same H1 H → (∃ us, H l = some (.lst us)) → J.yld i H x H' → ds[i]? = some d → ∀ (P1 : VK) (P0 : Hp → Prop), (∀ v H2, Same H H2 → Da K (hid l H2) (d' d) v → P1 v H2) →
      g x (capSt cap σ) H' fun σ2 H2 => tt σ2 H2 fun b H3 => if b = true then te σ2 H3 P1 else P0 H3)
    (hq : ∀ vs H', Same H1 H' → H' l = some (.lst vs) → Das K (hid l H') (ds.map d') vs → Q (.ref l) H') : LcW J g tt te cap σ Q l H1 := by
  refine lc_any n (fun i acc H => Das K (hid l H) ((ds.take i).map d') acc ∧ Same H1 H ∧ H l = some (.lst acc)) ⟨dgs_nil.mpr rfl, same_upd hn, upd_same⟩ (fun i acc H hi ⟨_, s, _⟩ => go i H s hi) (fun acc H ⟨_, s, _⟩ => st H s) ?_ ?_
  · rintro i x acc H H' hi ⟨e1, s, hl⟩ y
    have hd : ds[i]? = some (ds[i]'(by omega)) := by simp
    generalize ds[i]'(by omega) = d at hd
    refine hs i x d H H' s ⟨_, hl⟩ y hd _ _ (fun v H2 s2 dv => ?_)
    have la := Dgs.length e1
    rw [List.length_map, List.length_take] at la
    refine ⟨s2 _ _ hl, by omega, ?_, Same.upd (s.trans s2) hn, upd_same⟩
    rw [hid_upd, List.take_add_one, hd, List.map_append]
    exact Dgs.append (Das.same (hid_mono s2) e1) (Dgs.one dv)
  · rintro acc H ⟨e1, s, hl⟩
    rw [List.take_of_length_le (by omega)] at e1
    exact hq acc H s hl e1
end
end TL
set_option Elab.async false
set_option linter.all false
set_option maxRecDepth 100000
set_option maxHeartbeats 4000000
namespace TL
open PySem PySem.Spec PyProof.Rows L2

/-! ### a call that could raise, but doesn't -/
theorem passes_no {P : Program} {w : World} {base : Heap} {X : Cx} : Passes (CXr P w base) X E0 := fun _ _ _ _ _ _ _ hx => by
  obtain ⟨_, _, _, _, _, _, _, _, q⟩ := hx
  exact q.elim

/-! ### a dict is known while it is walked -/
section
variable {X : Cx} {pins : List (Addr × Obj)} {σ : St} {H : Hp} {s : Shared} {a : Addr} {kvs : List (List Key × V)}
end

/-! ### the keys of a dict, whatever they are -/
section
variable {prog : Program} {w : World} {A : Around} {E : Value → Shared → Prop} {s : Shared} {d it : Addr} {o : Obj} {es : Array DictEntry} {ep i : Nat}
end
section
variable {X : Cx}
end
end TL
set_option Elab.async false
set_option linter.all false
set_option maxRecDepth 100000
set_option maxHeartbeats 4000000
namespace TL
open PySem PySem.Spec PyProof.Rows L2
section
variable {X : Cx} {pins : List (Addr × Obj)} {σ : St} {H : Hp} {s : Shared} {a b : Addr} {kvs : List (List Key × V)} {k : List Key} {v : V} {r : Value} {A : Around} {E : Value → Shared → Prop}
end

/-! ### the rules that name K, once more -/
section
variable {X : Cx} {K : PySem.W.Frag}
end
end TL
set_option Elab.async false
set_option linter.all false
set_option maxRecDepth 100000
set_option maxHeartbeats 4000000
namespace TL
open PySem PySem.Spec PyProof.Rows L2
abbrev Ln := Int × List (Int × Int)
/-! ### trains, as lists -/
structure TrOk (l : Ln) (ns : List Int) : Prop where
  ends : ∀ e ∈ ns, 0 ≤ e ∧ e < 2 * l.1
  nd : (ns.map (· / 2)).Nodup
  ch : ∀ (i : Nat) x y, ns[i]? = some x → ns[i + 1]? = some y → y ∈ jn l.2 (oth x)
theorem jn_iff {l : Ln} (ok : LineOk l) {e x : Int} : x ∈ jn l.2 e ↔ (min e x, max e x) ∈ l.2 := by
  unfold jn
  rw [srt_mem, List.mem_append]
  constructor
  · rintro (z | z)
    · obtain ⟨p, hp, rfl⟩ := List.mem_map.mp z
      obtain ⟨h1, h2⟩ := List.mem_filter.mp hp
      have h2 : p.2 = e := by simpa using h2
      have := ok.ends p h1
      have e1 : (min e p.1, max e p.1) = p := Prod.ext (by show min e p.1 = p.1; omega) (by show max e p.1 = p.2; omega)
      rw [e1]; exact h1
    · obtain ⟨p, hp, rfl⟩ := List.mem_map.mp z
      obtain ⟨h1, h2⟩ := List.mem_filter.mp hp
      have h2 : p.1 = e := by simpa using h2
      have := ok.ends p h1
      have e1 : (min e p.2, max e p.2) = p := Prod.ext (by show min e p.2 = p.1; omega) (by show max e p.2 = p.2; omega)
      rw [e1]; exact h1
  · intro h
    by_cases hx : e ≤ x
    · have e1 : (min e x, max e x) = (e, x) := Prod.ext (by show min e x = e; omega) (by show max e x = x; omega)
      rw [e1] at h
      exact .inr (List.mem_map.mpr ⟨(e, x), List.mem_filter.mpr ⟨h, by simp⟩, rfl⟩)
    · have e1 : (min e x, max e x) = (x, e) := Prod.ext (by show min e x = x; omega) (by show max e x = e; omega)
      rw [e1] at h
      exact .inl (List.mem_map.mpr ⟨(x, e), List.mem_filter.mpr ⟨h, by simp⟩, rfl⟩)
theorem jn_symm {l : Ln} (ok : LineOk l) {e x : Int} (h : x ∈ jn l.2 e) : e ∈ jn l.2 x := by
  rw [jn_iff ok] at h ⊢
  rw [show min x e = min e x by omega, show max x e = max e x by omega]; exact h
theorem jn_end {l : Ln} (ok : LineOk l) {e x : Int} (h : x ∈ jn l.2 e) : 0 ≤ x ∧ x < 2 * l.1 := by
  have := ok.ends _ ((jn_iff ok).mp h)
  dsimp only at this
  omega
theorem fr_mem {l : Ln} {ns : List Int} {e x : Int} (h : x ∈ fr l ns e) : x ∈ jn l.2 e ∧ x / 2 ∉ ns.map (· / 2) := by
  obtain ⟨h1, h2⟩ := List.mem_filter.mp h
  exact ⟨h1, by simpa using h2⟩
theorem TrOk.on {l : Ln} {ns : List Int} {e : Int} (ok : LineOk l) (T : TrOk l ns) (hne : ns ≠ []) (he : e ∈ fr l ns (oth (ns.getLastD 0))) : TrOk l (ns.drop 1 ++ [e]) := by
  obtain ⟨h1, h2⟩ := fr_mem he
  have hl : 1 ≤ ns.length := by cases ns with | nil => exact absurd rfl hne | cons x r => simp
  refine ⟨fun x hx => ?_, ?_, fun i x y hx hy => ?_⟩
  · rcases List.mem_append.mp hx with z | z
    · exact T.ends x (List.mem_of_mem_drop z)
    · have z : x = e := by simpa using z
      rw [z]; exact jn_end ok h1
  · rw [List.map_append, List.nodup_append]
    refine ⟨by rw [List.map_drop]; exact T.nd.sublist (List.drop_sublist _ _), by simp, fun a ha b hb z => ?_⟩
    have hb : b = e / 2 := by simpa using hb
    rw [List.map_drop] at ha
    exact h2 (by rw [← hb, ← z]; exact List.mem_of_mem_drop ha)
  · have ld : (ns.drop 1).length = ns.length - 1 := List.length_drop
    by_cases hi : i + 1 < (ns.drop 1).length
    · rw [List.getElem?_append_left hi, List.getElem?_drop] at hy
      rw [List.getElem?_append_left (by omega), List.getElem?_drop] at hx
      exact T.ch (1 + i) x y hx (by rw [← hy]; congr 1)
    · have hlt := (List.getElem?_eq_some_iff.mp hy).1
      rw [List.length_append, List.length_singleton] at hlt
      have e1 : i + 1 = (ns.drop 1).length := by omega
      rw [e1, List.getElem?_append_right (Nat.le_refl _), Nat.sub_self] at hy
      cases hy
      rw [List.getElem?_append_left (by omega), List.getElem?_drop] at hx
      have e2 : ns.getLastD 0 = x := by
        rw [List.getLastD_eq_getLast?, List.getLast?_eq_getElem?, show ns.length - 1 = 1 + i by omega, hx]; rfl
      rw [e2] at h1
      exact h1
theorem TrOk.back {l : Ln} {ns : List Int} {e : Int} (ok : LineOk l) (T : TrOk l ns) (hne : ns ≠ []) (he : e ∈ fr l ns (ns.headD 0)) : TrOk l (oth e :: ns.dropLast) := by
  obtain ⟨h1, h2⟩ := fr_mem he
  have hl : 1 ≤ ns.length := by cases ns with | nil => exact absurd rfl hne | cons x r => simp
  refine ⟨fun x hx => ?_, ?_, fun i x y hx hy => ?_⟩
  · rcases List.mem_cons.mp hx with z | z
    · rw [z]
      have := jn_end ok h1
      unfold oth
      omega
    · exact T.ends x ((List.dropLast_sublist ns).subset z)
  · rw [List.map_cons, List.nodup_cons]
    refine ⟨fun z => h2 ?_, ?_⟩
    · rw [oth_half] at z
      have := (List.dropLast_sublist ns).map (· / 2)
      exact this.subset z
    · exact T.nd.sublist ((List.dropLast_sublist ns).map _)
  · cases i with
    | zero =>
      cases hx
      have hy : ns.dropLast[0]? = some y := hy
      rw [oth_oth]
      have hy2 : ns[0]? = some y := by
        have := (List.getElem?_eq_some_iff.mp hy).1
        rw [List.getElem?_dropLast] at hy
        split at hy
        · exact hy
        · cases hy
      have e2 : ns.headD 0 = y := by cases ns with | nil => cases hy2 | cons a r => cases hy2; rfl
      rw [e2] at h1
      exact jn_symm ok h1
    | succ j =>
      have hx : ns.dropLast[j]? = some x := hx
      have hy : ns.dropLast[j + 1]? = some y := hy
      rw [List.getElem?_dropLast] at hx hy
      split at hx
      · split at hy
        · exact T.ch j x y hx hy
        · cases hy
      · cases hx
theorem mvs_ok {l : Ln} {ns : List Int} {m : Mv} (ok : LineOk l) (T : TrOk l ns) (hne : ns ≠ []) (hm : m ∈ mvs l ns) : TrOk l m.2 ∧ m.2.length = ns.length ∧ m.2 ≠ [] := by
  have hl : 1 ≤ ns.length := by cases ns with | nil => exact absurd rfl hne | cons x r => simp
  rcases List.mem_append.mp hm with z | z
  · obtain ⟨e, he, rfl⟩ := List.mem_map.mp z
    refine ⟨T.on ok hne he, ?_, fun e => ?_⟩
    · simp only [onM, List.length_append, List.length_drop, List.length_cons, List.length_nil]; omega
    · simp [onM] at e
  · obtain ⟨e, he, rfl⟩ := List.mem_map.mp z
    refine ⟨T.back ok hne he, ?_, fun e => ?_⟩
    · simp only [backM, List.length_cons, List.length_dropLast]; omega
    · simp [backM] at e

/-! ### how many there can be -/
end TL
namespace TL
open PySem PySem.Spec PyProof.Rows L2
/-! ### the standings, in order -/
/-- what each listed one is -/
abbrev Ent := List Int × Option (List Int × (Str × Int))
structure EntOk (l : Ln) (ns : List Int) (es : List Ent) : Prop where
  tr : ∀ e ∈ es, TrOk l e.1 ∧ e.1.length = ns.length ∧ e.1 ≠ []
  nd : (es.map (·.1)).Nodup
  ne : es ≠ []
end TL
set_option Elab.async false
set_option linter.all false
set_option maxRecDepth 100000
set_option maxHeartbeats 4000000
namespace TL
open PySem PySem.Spec PyProof.Rows L2
/-! ### the items of a dict, whatever its keys are -/
section
variable {prog : Program} {w : World} {A : Around} {E : Value → Shared → Prop} {s : Shared} {d it vw : Addr} {o : Obj} {es : Array DictEntry} {ep i : Nat} {ok ov : Value}
end
section
variable {X : Cx}
end
end TL
set_option Elab.async false
set_option linter.all false
set_option maxRecDepth 100000
set_option maxHeartbeats 4000000
namespace TL
open PySem PySem.Spec PyProof.Rows L2
/-! ### the way back -/
structure Backs (es : List Ent) : Prop where
  back : ∀ (j : Nat) t' t k, es[j]? = some (t', some (t, k)) → ∃ i e, i < j ∧ es[i]? = some e ∧ e.1 = t
  ok : ∀ (j : Nat) t' t k, es[j]? = some (t', some (t, k)) → PyData.strOk k.1 = true
/-- the run of the moves by which the steps lead to a standing -/
inductive PathTo (es : List Ent) : List Int → List (Str × Int) → Prop
  | nil {t : List Int} : (t, none) ∈ es → PathTo es t []
  | snoc {t' t : List Int} {k : Str × Int} {r : List (Str × Int)} : (t', some (t, k)) ∈ es → PathTo es t r → PathTo es t' (r ++ [k])
end TL
set_option Elab.async false
set_option linter.all false
set_option maxRecDepth 100000
set_option maxHeartbeats 4000000
namespace TL
open PySem PySem.Spec PyProof.Rows L2
end TL
set_option Elab.async false
set_option linter.all false
set_option maxRecDepth 100000
set_option maxHeartbeats 4000000
namespace TL
open PySem PySem.W PyProof.Rows
/-! ### sorted, by what the comparisons answer: less than 64 -/
structure Pm (N : Nat) (p : Array Nat) : Prop where
  perm : p.toList.Perm (List.range N)
theorem Pm.size {N : Nat} {p : Array Nat} (h : Pm N p) : p.size = N := by
  have := h.perm.length_eq
  rw [List.length_range, Array.length_toList] at this
  exact this
theorem Pm.getD {N : Nat} {p : Array Nat} (h : Pm N p) {i : Nat} (hi : i < N) : ∃ hi' : i < p.toList.length, p.getD i 0 = p.toList[i] := by
  have hs := h.size
  refine ⟨by rw [Array.length_toList, hs]; exact hi, ?_⟩
  rw [Array.getD_eq_getD_getElem?, Array.getElem?_eq_getElem (by rw [hs]; exact hi)]
  simp
theorem Pm.lt {N : Nat} {p : Array Nat} (h : Pm N p) {i : Nat} (hi : i < N) : p.getD i 0 < N := by
  obtain ⟨hi', e⟩ := h.getD hi
  rw [e]
  exact List.mem_range.mp (h.perm.mem_iff.mp (List.getElem_mem _))
theorem Pm.inj {N : Nat} {p : Array Nat} (h : Pm N p) {i j : Nat} (hi : i < N) (hj : j < N) (e : p.getD i 0 = p.getD j 0) : i = j := by
  obtain ⟨hi', e1⟩ := h.getD hi
  obtain ⟨hj', e2⟩ := h.getD hj
  rw [e1, e2] at e
  have nd : p.toList.Nodup := h.perm.nodup_iff.mpr List.nodup_range
  exact (List.getElem_inj nd).mp e
theorem Pm.of {N : Nat} {p q : Array Nat} (h : Pm N p) (e : q.Perm p) : Pm N q := ⟨(Array.perm_iff_toList_perm.mp e).trans h.perm⟩
section
variable {N : Nat} {key : Nat → Int} {cmp : Nat → Nat → (Bool → Shared → Prop) → Shared → Prop} {R : Shared → Prop}
/-- what a comparison of two items answers -/
def Asks (N : Nat) (key : Nat → Int) (R : Shared → Prop) (cmp : Nat → Nat → (Bool → Shared → Prop) → Shared → Prop) : Prop :=
  ∀ i j, i < N → j < N → i ≠ j → ∀ C s, R s → (∀ s', R s' → C (decide (key i < key j)) s') → cmp i j C s
def Gk (key : Nat → Int) (p : Array Nat) (i : Nat) : Int := key (p.getD i 0)
def Srt (key : Nat → Int) (p : Array Nat) (r : Nat) : Prop := ∀ i, 1 ≤ i → i < r → Gk key p (i - 1) ≤ Gk key p i
theorem Srt.lt {p : Array Nat} {r : Nat} (h : Srt key p r) {i : Nat} : ∀ {j : Nat}, i < j → j < r → Gk key p i ≤ Gk key p j
  | 0, h1, _ => absurd h1 (Nat.not_lt_zero _)
  | j + 1, h1, h2 => by
    have h3 := h (j + 1) (by omega) h2
    rw [Nat.add_sub_cancel] at h3
    by_cases e : i = j
    · rw [e]; exact h3
    · have := Srt.lt (i := i) (j := j) h (by omega) (by omega)
      omega
theorem ask_two (ha : Asks N key R cmp) {p : Array Nat} (hp : Pm N p) {i j : Nat} (hi : i < N) (hj : j < N) (hij : i ≠ j) {C : Bool → Shared → Prop} {s : Shared} (hR : R s) (k : ∀ s', R s' → C (decide (Gk key p i < Gk key p j)) s') : cmp (p.getD i 0) (p.getD j 0) C s :=
  ha _ _ (hp.lt hi) (hp.lt hj) (fun e => hij (hp.inj hi hj e)) C s hR k
theorem asc_wp (ha : Asks N key R cmp) {p : Array Nat} (hp : Pm N p) : ∀ (f a : Nat) {Q : Nat → Shared → Prop} {s : Shared}, 1 ≤ a → a + f ≤ N → R s →
    (∀ m s', R s' → a ≤ m → m ≤ a + f → (∀ i, a ≤ i → i < m → Gk key p (i - 1) ≤ Gk key p i) → (m < a + f → Gk key p m < Gk key p (m - 1)) → Q m s') → (kas_asc p f a).kasWp cmp Q s
  | 0, a, Q, s, h1, hf, hR, k => k a s hR (Nat.le_refl _) (Nat.le_refl _) (fun i h h' => absurd h' (by omega)) (fun h => absurd h (by omega))
  | f + 1, a, Q, s, h1, hf, hR, k => by
    refine ask_two ha hp (by omega) (by omega) (by omega) hR fun s' hR' => ?_
    by_cases hc : Gk key p a < Gk key p (a - 1)
    · rw [decide_eq_true hc]
      exact k a s' hR' (Nat.le_refl _) (by omega) (fun i h h' => absurd h' (by omega)) (fun _ => hc)
    · rw [decide_eq_false hc]
      refine asc_wp ha hp f (a + 1) (by omega) (by omega) hR' fun m s2 hR2 h3 h4 h5 h6 => k m s2 hR2 (by omega) (by omega) (fun i hi hm => ?_) (fun h => h6 (by omega))
      by_cases e : i = a
      · rw [e]; omega
      · exact h5 i (by omega) hm
theorem Gk_rev {p : Array Nat} {a m i : Nat} (hm : m ≤ p.size) : Gk key (kas_rev p a m) i = if a ≤ i ∧ i < m then Gk key p (a + m - 1 - i) else Gk key p i := by
  unfold Gk kas_rev
  rw [Array.getD_eq_getD_getElem?, getElem?_mirror_all hm]
  by_cases h : a ≤ i ∧ i < m
  · rw [if_pos h, if_pos h, Array.getD_eq_getD_getElem?]
  · rw [if_neg h, if_neg h, Array.getD_eq_getD_getElem?]
/-- a part of like keys turned about: the keys stay -/
theorem Gk_rev_eq {p : Array Nat} {a m : Nat} (hm : m ≤ p.size) (he : ∀ i, a ≤ i → i < m → Gk key p i = Gk key p (m - 1)) (i : Nat) : Gk key (kas_rev p a m) i = Gk key p i := by
  rw [Gk_rev hm]
  by_cases h : a ≤ i ∧ i < m
  · rw [if_pos h, he i h.1 h.2, he (a + m - 1 - i) (by omega) (by omega)]
  · rw [if_neg h]
theorem desc_wp (ha : Asks N key R cmp) : ∀ (f a q : Nat) {p : Array Nat} {Q : Array Nat × Nat × Nat → Shared → Prop} {s : Shared}, Pm N p → q + 1 ≤ a → a + f ≤ N → (∀ i, a - (q + 1) ≤ i → i < a → Gk key p i = Gk key p (a - 1)) → (∀ i, 1 ≤ i → i < a → Gk key p i ≤ Gk key p (i - 1)) → R s →
    (∀ p' m q' s', R s' → Pm N p' → q' + 1 ≤ m → m ≤ a + f → a ≤ m → (∀ i, m - (q' + 1) ≤ i → i < m → Gk key p' i = Gk key p' (m - 1)) → (∀ i, 1 ≤ i → i < m → Gk key p' i ≤ Gk key p' (i - 1)) → Q (p', m, q') s') → (kas_desc f p a q).kasWp cmp Q s
  | 0, a, q, p, Q, s, hp, h1, hf, he, hd, hR, k => k p a q s hR hp h1 (by omega) (Nat.le_refl _) he hd
  | f + 1, a, q, p, Q, s, hp, h1, hf, he, hd, hR, k => by
    have hs : a ≤ p.size := by rw [hp.size]; omega
    refine ask_two ha hp (by omega) (by omega) (by omega) hR fun s' hR' => ?_
    by_cases hc : Gk key p a < Gk key p (a - 1)
    · rw [decide_eq_true hc]
      show KasT.kasWp cmp (if q > 0 then kas_desc f (kas_rev p (a - (q + 1)) a) (a + 1) 0 else kas_desc f p (a + 1) 0) Q s'
      by_cases hq : q > 0
      · rw [if_pos hq]
        have G := Gk_rev_eq hs he
        refine desc_wp ha f (a + 1) 0 (hp.of (mirror_perm _ _ _ _)) (by omega) (by omega) (fun i h2 h3 => by rw [show i = a by omega]; rfl) (fun i h2 h3 => ?_) hR' fun p' m q' s2 b1 b2 b3 b4 b5 b6 b7 => k p' m q' s2 b1 b2 b3 (by omega) (by omega) b6 b7
        rw [G, G]
        by_cases e : i = a
        · rw [e]; omega
        · exact hd i h2 (by omega)
      · rw [if_neg hq]
        refine desc_wp ha f (a + 1) 0 hp (by omega) (by omega) (fun i h2 h3 => by rw [show i = a by omega]; rfl) (fun i h2 h3 => ?_) hR' fun p' m q' s2 b1 b2 b3 b4 b5 b6 b7 => k p' m q' s2 b1 b2 b3 (by omega) (by omega) b6 b7
        by_cases e : i = a
        · rw [e]; omega
        · exact hd i h2 (by omega)
    · rw [decide_eq_false hc]
      refine ask_two ha hp (i := a - 1) (j := a) (by omega) (by omega) (by omega) hR' fun s2 hR2 => ?_
      by_cases hc2 : Gk key p (a - 1) < Gk key p a
      · rw [decide_eq_true hc2]
        exact k p a q s2 hR2 hp h1 (by omega) (Nat.le_refl _) he hd
      · rw [decide_eq_false hc2]
        refine desc_wp ha f (a + 1) (q + 1) hp (by omega) (by omega) (fun i h2 h3 => ?_) (fun i h2 h3 => ?_) hR2 fun p' m q' s2 b1 b2 b3 b4 b5 b6 b7 => k p' m q' s2 b1 b2 b3 (by omega) (by omega) b6 b7
        · rw [Nat.add_sub_cancel]
          by_cases e : i = a
          · rw [e]
          · rw [he i (by omega) (by omega)]; omega
        · by_cases e : i = a
          · rw [e]; omega
          · exact hd i h2 (by omega)
theorem tail3_wp (ha : Asks N key R cmp) {p : Array Nat} (hp : Pm N p) {m : Nat} (h1 : 1 ≤ m) (hm : m ≤ N) (hd : ∀ i, 1 ≤ i → i < m → Gk key p i ≤ Gk key p (i - 1)) {Q : Nat × Array Nat → Shared → Prop} {s : Shared} (hR : R s)
    (k : ∀ r p' s', R s' → Pm N p' → 1 ≤ r → r ≤ N → Srt key p' r → Q (r, p') s') : (kas_tail3 m N p).kasWp cmp Q s := by
  have hp' : Pm N (kas_rev p 0 m) := hp.of (mirror_perm _ _ _ _)
  have hs : m ≤ p.size := by rw [hp.size]; exact hm
  unfold kas_tail3
  rw [KasT.kasWp_bind]
  refine asc_wp ha hp' (N - m) m h1 (by omega) hR fun r s' hR' h3 h4 h5 _ => k r _ s' hR' hp' (by omega) (by omega) fun i hi hir => ?_
  by_cases e : i < m
  · rw [Gk_rev hs, Gk_rev hs, if_pos (by omega), if_pos (by omega)]
    have := hd (0 + m - 1 - (i - 1)) (by omega) (by omega)
    rw [show 0 + m - 1 - (i - 1) - 1 = 0 + m - 1 - i by omega] at this
    exact this
  · exact h5 i (by omega) hir
theorem descPart_wp (ha : Asks N key R cmp) {p : Array Nat} (hp : Pm N p) {n : Nat} (h1 : 1 ≤ n) (hn : n + 1 ≤ N) (hd : ∀ i, 1 ≤ i → i < n + 1 → Gk key p i ≤ Gk key p (i - 1)) {Q : Nat × Array Nat → Shared → Prop} {s : Shared} (hR : R s)
    (k : ∀ r p' s', R s' → Pm N p' → 1 ≤ r → r ≤ N → Srt key p' r → Q (r, p') s') : (kas_descPart n N p).kasWp cmp Q s := by
  unfold kas_descPart
  rw [KasT.kasWp_bind]
  refine desc_wp ha (N - (n + 1)) (n + 1) 0 hp (by omega) (by omega) (fun i h2 h3 => by rw [show i = n by omega]; rfl) hd hR fun p' m q' s2 hR2 hp' b3 b4 b5 b6 b7 => ?_
  show KasT.kasWp cmp (if q' > 0 then kas_tail3 m N (kas_rev p' (m - (q' + 1)) m) else kas_tail3 m N p') Q s2
  have hs : m ≤ p'.size := by rw [hp'.size]; omega
  by_cases hq : q' > 0
  · rw [if_pos hq]
    have G := Gk_rev_eq hs b6
    have hp2 : Pm N (kas_rev p' (m - (q' + 1)) m) := hp'.of (mirror_perm _ _ _ _)
    exact tail3_wp ha hp2 (by omega) (by omega) (fun i h2 h3 => by rw [G, G]; exact b7 i h2 h3) hR2 k
  · rw [if_neg hq]
    exact tail3_wp ha hp' (by omega) (by omega) b7 hR2 k
theorem count_wp (ha : Asks N key R cmp) {p : Array Nat} (hp : Pm N p) (hN : 1 ≤ N) {Q : Nat × Array Nat → Shared → Prop} {s : Shared} (hR : R s)
    (k : ∀ r p' s', R s' → Pm N p' → 1 ≤ r → r ≤ N → Srt key p' r → Q (r, p') s') : (kas_count N p).kasWp cmp Q s := by
  unfold kas_count
  rw [KasT.kasWp_bind]
  refine asc_wp ha hp (N - 1) 1 (Nat.le_refl _) (by omega) hR fun n s1 hR1 h1 h2 st h4 => ?_
  have st : Srt key p n := st
  by_cases e : n = N
  · rw [if_pos (by simp [e])]
    exact k n p s1 hR1 hp h1 (by omega) st
  · rw [if_neg (by simp [e])]
    have d1 := h4 (by omega)
    by_cases g : n > 1
    · rw [if_pos g]
      refine ask_two ha hp (i := 0) (j := n - 1) (by omega) (by omega) (by omega) hR1 fun s2 hR2 => ?_
      by_cases hc : Gk key p 0 < Gk key p (n - 1)
      · rw [decide_eq_true hc]
        exact k n p s2 hR2 hp h1 (by omega) st
      · rw [decide_eq_false hc]
        show KasT.kasWp cmp (kas_descPart n N (kas_rev p 0 n)) Q s2
        have hs : n ≤ p.size := by rw [hp.size]; omega
        have all : ∀ i, 0 ≤ i → i < n → Gk key p i = Gk key p (n - 1) := fun i _ hi => by
          have a1 : Gk key p 0 ≤ Gk key p i := by
            by_cases e0 : i = 0
            · rw [e0]; omega
            · exact st.lt (by omega) hi
          have a2 : Gk key p i ≤ Gk key p (n - 1) := by
            by_cases e0 : i = n - 1
            · rw [← e0]; omega
            · exact st.lt (by omega) (by omega)
          omega
        have G := Gk_rev_eq hs all
        have hp2 : Pm N (kas_rev p 0 n) := hp.of (mirror_perm _ _ _ _)
        refine descPart_wp ha hp2 h1 (by omega) (fun i h2 h3 => ?_) hR2 k
        rw [G, G]
        by_cases e1 : i = n
        · rw [e1]; omega
        · rw [all i (by omega) (by omega), all (i - 1) (by omega) (by omega)]; omega
    · rw [if_neg g]
      have n1 : n = 1 := by omega
      subst n1
      refine descPart_wp ha hp (Nat.le_refl _) (by omega) (fun i h2 h3 => ?_) hR1 k
      rw [show i = 1 by omega]; omega
theorem place_wp (ha : Asks N key R cmp) {p : Array Nat} (hp : Pm N p) {k : Nat} (hk : k < N) (st : Srt key p k) : ∀ (f l r : Nat) {Q : Nat → Shared → Prop} {s : Shared}, l ≤ r → r ≤ k → r - l ≤ f → (∀ i, i < l → Gk key p i ≤ Gk key p k) → (∀ i, r ≤ i → i < k → Gk key p k ≤ Gk key p i) → R s →
    (∀ m s', R s' → m ≤ k → (∀ i, i < m → Gk key p i ≤ Gk key p k) → (∀ i, m ≤ i → i < k → Gk key p k ≤ Gk key p i) → Q m s') → (kas_place p k f l r).kasWp cmp Q s
  | 0, l, r, Q, s, h1, h2, h3, h4, h5, hR, kk => kk l s hR (by omega) h4 (fun i hi => h5 i (by omega))
  | f + 1, l, r, Q, s, h1, h2, h3, h4, h5, hR, kk => by
    unfold kas_place
    by_cases e : l ≥ r
    · rw [if_pos e]
      exact kk l s hR (by omega) h4 (fun i hi => h5 i (by omega))
    · rw [if_neg e]
      refine ask_two ha hp (i := k) (j := (l + r) / 2) hk (by omega) (by omega) hR fun s' hR' => ?_
      by_cases hc : Gk key p k < Gk key p ((l + r) / 2)
      · rw [decide_eq_true hc]
        refine place_wp ha hp hk st f l ((l + r) / 2) (by omega) (by omega) (by omega) h4 (fun i hi hik => ?_) hR' kk
        by_cases e1 : i = (l + r) / 2
        · rw [e1]; omega
        · have := st.lt (show (l + r) / 2 < i by omega) hik
          omega
      · rw [decide_eq_false hc]
        refine place_wp ha hp hk st f ((l + r) / 2 + 1) r (by omega) (by omega) (by omega) (fun i hi => ?_) h5 hR' kk
        by_cases e1 : i = (l + r) / 2
        · rw [e1]; omega
        · have := st.lt (show i < (l + r) / 2 by omega) (by omega)
          omega
theorem Gk_bubble {p : Array Nat} {k m i : Nat} (hk : k < p.size) (hm : m ≤ k) : Gk key (bubble p k (k - m)) i = if i = m then Gk key p k else if m < i ∧ i ≤ k then Gk key p (i - 1) else Gk key p i := by
  unfold Gk
  rw [Array.getD_eq_getD_getElem?, getElem?_bubble hk _ (by omega), show k - (k - m) = m by omega]
  by_cases h1 : i = m
  · rw [if_pos h1, if_pos h1, Array.getD_eq_getD_getElem?]
  · rw [if_neg h1, if_neg h1]
    by_cases h2 : m < i ∧ i ≤ k
    · rw [if_pos h2, if_pos h2, Array.getD_eq_getD_getElem?]
    · rw [if_neg h2, if_neg h2, Array.getD_eq_getD_getElem?]
theorem bin_wp (ha : Asks N key R cmp) : ∀ (f k : Nat) {p : Array Nat} {Q : Array Nat → Shared → Prop} {s : Shared}, Pm N p → k + f = N → Srt key p k → R s → (∀ p' s', R s' → Pm N p' → Srt key p' N → Q p' s') → (kas_bin f p k).kasWp cmp Q s
  | 0, k, p, Q, s, hp, hk, st, hR, kk => kk p s hR hp (by rw [← hk]; exact st)
  | f + 1, k, p, Q, s, hp, hk, st, hR, kk => by
    have hkN : k < N := by omega
    have hks : k < p.size := by rw [hp.size]; exact hkN
    unfold kas_bin
    rw [KasT.kasWp_bind]
    refine place_wp ha hp hkN st k 0 k (Nat.zero_le _) (Nat.le_refl _) (by omega) (fun i hi => absurd hi (by omega)) (fun i h1 h2 => absurd h1 (by omega)) hR fun m s' hR' h1 h2 h3 => ?_
    refine bin_wp ha f (k + 1) (hp.of (bubble_perm _ _ _)) (by omega) (fun i hi hik => ?_) hR' kk
    rw [Gk_bubble hks h1, Gk_bubble hks h1]
    by_cases a1 : i < m
    · rw [if_neg (by omega), if_neg (by omega), if_neg (by omega), if_neg (by omega)]
      exact st i hi (by omega)
    · by_cases a2 : i = m
      · rw [if_neg (by omega), if_neg (by omega), if_pos a2]
        exact h2 (i - 1) (by omega)
      · rw [if_neg a2, if_pos (show m < i ∧ i ≤ k by omega)]
        by_cases a3 : i - 1 = m
        · rw [if_pos a3]
          exact h3 (i - 1) (by omega) (by omega)
        · rw [if_neg a3, if_pos (show m < i - 1 ∧ i - 1 ≤ k by omega)]
          exact st (i - 1) (by omega) (by omega)
theorem sort_wp (ha : Asks N key R cmp) (hN : 1 ≤ N) {Q : Array Nat → Shared → Prop} {s : Shared} (hR : R s) (k : ∀ p s', R s' → Pm N p → Srt key p N → Q p s') : (kas_sort N).kasWp cmp Q s := by
  unfold kas_sort
  rw [KasT.kasWp_bind]
  have hp : Pm N (List.toArray (List.range N)) := ⟨by simp⟩
  refine count_wp ha hp hN hR fun r p' s' hR' hp' h1 h2 st => ?_
  show KasT.kasWp cmp (if r < N then kas_bin (N - max r 1) p' (max r 1) else .ret p') Q s'
  by_cases e : r < N
  · rw [if_pos e, show max r 1 = r by omega]
    exact bin_wp ha (N - r) r hp' (by omega) st hR' k
  · rw [if_neg e]
    have : r = N := by omega
    subst this
    exact k p' s' hR' hp' st
end
end TL
set_option Elab.async false
set_option linter.all false
set_option maxRecDepth 100000
set_option maxHeartbeats 4000000
namespace TL
open PySem PySem.Spec PyProof.Rows L2
/-! ### < of two moves -/
def mvLt (x y : Str × Int) : Bool := if x.1 = y.1 then decide (x.2 < y.2) else decide (x.1.cps.toList < y.1.cps.toList)
/-- a move, as a tuple in the heap -/
def MvAt (h : Heap) (a : Addr) (m : Str × Int) : Prop := ∃ (t u : Tok) (n : Nat) (o : Obj), h.get? a = some o ∧ o.cls = .type "tuple" ∧ o.data = .seq #[.str m.1 t, .int m.2 u] n
section
variable {prog : Program} {w : World} {A : Around} {E : Value → Shared → Prop} {s : Shared}
theorem MvAt.typeIs {a : Addr} {m : Str × Int} (h : MvAt s.heap a m) : s.TypeIs (.ref a) "tuple" := by
  obtain ⟨t, u, n, o, ho, hc, hd⟩ := h
  exact ⟨o, ho, hc⟩
theorem mv_lt_tree {x y : Str × Int} {a b : Addr} {P : Fin → Shared → Prop} (hx : MvAt s.heap a x) (hy : MvAt s.heap b y) (h : P (.done (.ret (.bool (mvLt x y)))) s) :
    wpAny (model prog w) A (Builtin.«tuple.__lt__» ⟨[.ref a, .ref b], []⟩) P E s := by
  have hTb := hy.typeIs
  obtain ⟨ta, ua, na, oa, hoa, _, hda⟩ := hx
  obtain ⟨tb, ub, nb, ob, hob, _, hdb⟩ := hy
  show wpAny _ _ (isInstance (.ref b) (.type "tuple") >>= _) _ _ s
  refine wpAny_bind (wpAny_isInstance hTb isSubtype_tuple_tuple ?_)
  simp only [Bool.not_true, Bool.false_eq_true, if_false]
  refine wpAny_bind (wpAny_tupleItemsOf hoa hda ?_)
  refine wpAny_bind (wpAny_tupleItemsOf hob hdb ?_)
  refine wpAny_bind ?_
  rw [show (#[Value.str x.1 ta, Value.int x.2 ua].toList.zip #[Value.str y.1 tb, Value.int y.2 ub].toList) = [(Value.str x.1 ta, Value.str y.1 tb), (Value.int x.2 ua, Value.int y.2 ub)] from rfl]
  rw [List.forIn_cons]
  refine wpAny_bind ?_
  refine wpAny_bind (wpAny_eqBool_str ?_)
  unfold mvLt at h
  by_cases e : x.1 = y.1
  · rw [if_pos e] at h
    rw [decide_eq_true e]
    simp only [Bool.not_true, Bool.false_eq_true, if_false]
    refine wpAny_pure ?_
    dsimp only
    rw [List.forIn_cons]
    refine wpAny_bind ?_
    refine wpAny_bind (wpAny_eqBool_int ?_)
    by_cases e2 : x.2 = y.2
    · rw [show (x.2 == y.2) = true by simp [e2]]
      simp only [Bool.not_true, Bool.false_eq_true, if_false]
      refine wpAny_pure ?_
      dsimp only
      rw [List.forIn_nil]
      refine wpAny_pure (wpAny_pure ?_)
      rw [decide_eq_false (by omega)] at h
      exact h
    · rw [show (x.2 == y.2) = false by simp [e2]]
      simp only [Bool.not_false, if_true]
      refine wpAny_bind (wpAny_rule (wpAny_bind (wpAny_lt_int ?_)))
      exact wpAny_bind (wpAny_pure (wpAny_pure (wpAny_pure (wpAny_pure h))))
  · rw [if_neg e] at h
    rw [decide_eq_false e]
    simp only [Bool.not_false, if_true]
    refine wpAny_bind (wpAny_rule (wpAny_bind (PyProof.Rows.lt_str ?_)))
    exact wpAny_bind (wpAny_pure (wpAny_pure (wpAny_pure (wpAny_pure h))))
theorem mv_lt {x y : Str × Int} {a b : Addr} {Q : Value → Shared → Prop} (hu : A.units < cLine) (hx : MvAt s.heap a x) (hy : MvAt s.heap b y) (h : Q (.bool (mvLt x y)) s) : wpAny (model prog w) A (compareOp .Lt (.ref a) (.ref b)) Q E s :=
  PySem.W.cmp_ofLt (wpAny_richCompare_same_room (op := .Lt) hx.typeIs hy.typeIs F.slot_tuple_lt (wpAny_call_entry F.slot_tuple_lt hx.typeIs F.entry_tuple_lt (mv_lt_tree hx hy ⟨_, rfl, (fun e => nomatch e), h⟩) (F.args_tuple_lt_2 _ _)) hu)
end
end TL
set_option Elab.async false
set_option linter.all false
set_option maxRecDepth 100000
set_option maxHeartbeats 4000000
namespace TL
open PySem PySem.Spec PyProof.Rows L2 PySem.W
section
variable {prog : Program} {w : World} {A : Around} {E : Value → Shared → Prop} {s : Shared}
/-- in a heap that keeps all but a: the kind of the keys is found, the comparisons answer by the keys, nothing changes -/
def Cmps (prog : Program) (w : World) (A : Around) (s : Shared) (a : Addr) (vs : List Value) (key : Nat → Int) : Prop :=
  ∀ h', (∀ b ob, b ≠ a → s.heap.get? b = some ob → h'.get? b = some ob) → ∃ κ, (∀ (E : Value → Shared → Prop) (Q : SortKind → Shared → Prop), Q κ { s with heap := h' } → wpAny (model prog w) A (keyKind' vs.toArray) Q E { s with heap := h' }) ∧
    Asks vs.length key (fun s' => s' = { s with heap := h' }) (kas_ask prog w A κ vs)
theorem pm_one {n : Nat} (h : n < 2) (key : Nat → Int) : Pm n (List.toArray (List.range n)) ∧ Srt key (List.toArray (List.range n)) n := ⟨⟨by simp⟩, fun i h1 h2 => absurd h1 (by omega)⟩
theorem range_getD (vs : List Value) : (List.range vs.length).map (fun i => vs.getD i Value.none) = vs := by
  refine List.ext_getElem (by simp) fun i h1 h2 => ?_
  rw [List.getElem_map, List.getElem_range]
  simp [h2]
theorem list_sort_by {a : Addr} {vs : List Value} {n : Nat} {P : Fin → Shared → Prop} {key : Nat → Int} (ho : s.heap.get? a = some (seqObj "list" vs.toArray n)) (h64 : vs.length < 64) (hk : 2 ≤ vs.length → Cmps prog w A s a vs key)
    (h : ∀ p : Array Nat, Pm vs.length p → Srt key p vs.length → P (.done (.ret .none)) { s with heap := sortedHeap s.heap a vs (List.toArray (p.toList.map fun i => vs.getD i Value.none)) }) :
    wpAny (model prog w) A (Builtin.«list.sort» ⟨[.ref a], []⟩) P E s := by
  rw [list_sort_plain]
  have ha : a < s.heap.objs.size := Heap.lt_size ho
  refine wpAny_bind (listItems_at ho rfl ?_)
  refine wpAny_bind (listUpdate_at ho rfl ?_ (by rw [List.size_toArray, sizeLine_eq]; omega) (Nat.zero_le _))
  obtain ⟨e1, ho1⟩ : ∃ e1, (s.heap.update a (Obj.mapSeq fun _ => #[])).get? a = some (seqObj "list" #[] e1) := ⟨_, get?_update_seq ho (fun _ => #[])⟩
  refine wpAny_bind (seqEpoch_at ho1 rfl ?_)
  refine wpAny_bind (wpAny_newTuple ?_ (by show vs.length ≤ _; rw [sizeLine_eq]; omega))
  refine wpAny_bind (wpAny_newList ?_ (Nat.zero_le _))
  refine wpAny_holding ?_
  have ho6 : (((s.heap.update a (Obj.mapSeq fun _ => #[])).push (seqObj "tuple" vs.toArray 0)).push (seqObj "list" #[] 0)).get? a = some (seqObj "list" #[] e1) := Heap.get?_push_of_some _ (Heap.get?_push_of_some _ ho1)
  have keep : ∀ b ob, b ≠ a → s.heap.get? b = some ob → (((s.heap.update a (Obj.mapSeq fun _ => #[])).push (seqObj "tuple" vs.toArray 0)).push (seqObj "list" #[] 0)).get? b = some ob := fun b ob hb e =>
    Heap.get?_push_of_some _ (Heap.get?_push_of_some _ ((Heap.SameBut.update s.heap a (Obj.mapSeq fun _ => (#[] : Array Value))).extBut b ob hb e))
  show wpAny (model prog w) A _ P E { s with heap := ((s.heap.update a (Obj.mapSeq fun _ => #[])).push (seqObj "tuple" vs.toArray 0)).push (seqObj "list" #[] 0) }
  dsimp only
  by_cases h2 : vs.toArray.size < 2
  · rw [if_pos h2, if_pos h2]
    refine wpAny_bind (wpAny_pure ?_)
    rw [StateT.run_pure]
    refine wpAny_bind (wpAny_pure ?_)
    dsimp only
    refine wpAny_bind (seqEpoch_at ho6 rfl ?_)
    have eo : (arrOf (SortSt.mk' general' (vs.toArray.zip vs.toArray) #[] 7 none)).map (·.2) = vs.toArray := by
      show (vs.toArray.zip vs.toArray).map (·.2) = vs.toArray
      exact Array.map_snd_zip (Nat.le_refl _)
    rw [eo]
    refine wpAny_bind (listUpdate_at ho6 rfl ?_ (Nat.zero_le _) (by rw [List.size_toArray, sizeLine_eq]; omega))
    simp only [bne_self_eq_false, Bool.false_eq_true, if_false]
    have h2' : vs.length < 2 := by rw [List.size_toArray] at h2; exact h2
    obtain ⟨g1, g2⟩ := pm_one h2' key
    have h3 := h _ g1 g2
    rw [show (List.toArray (List.range vs.length)).toList = List.range vs.length from rfl, range_getD] at h3
    exact wpAny_pure h3
  · rw [if_neg h2, if_neg h2]
    have h2' : 2 ≤ vs.length := by rw [List.size_toArray] at h2; omega
    obtain ⟨κ, k1, k2⟩ := hk h2' _ keep
    refine wpAny_bind (k1 _ _ ?_)
    refine wpAny_bind (wpAny_mono (kat_run (Q := fun st' s' => s' = { s with heap := ((s.heap.update a (Obj.mapSeq fun _ => #[])).push (seqObj "tuple" vs.toArray 0)).push (seqObj "list" #[] 0) } ∧ ∃ p : Array Nat, Pm vs.length p ∧ Srt key p vs.length ∧ arrOf st' = p.map (kas_item (vs.toArray.zip vs.toArray)) ∧ failedOf st' = none)
      (G := fun p s' => s' = { s with heap := ((s.heap.update a (Obj.mapSeq fun _ => #[])).push (seqObj "tuple" vs.toArray 0)).push (seqObj "list" #[] 0) } ∧ Pm vs.length p ∧ Srt key p vs.length)
      rfl h2' h64 (fun p' st' s' a1 a2 a3 a4 => ⟨a4.1, p', a4.2.1, a4.2.2, a2, a3⟩) (sort_wp k2 (by omega) rfl fun p s' hR hp hs => ⟨hR, hp, hs⟩)) ?_ fun _ _ e => e)
    rintro ⟨⟨⟩, st'⟩ s' ⟨rfl, p, hp, hs, har, hf⟩
    dsimp only
    have hout := kat_snds rfl har
    rw [hout]
    refine wpAny_bind (seqEpoch_at ho6 rfl ?_)
    refine wpAny_bind (listUpdate_at ho6 rfl ?_ (Nat.zero_le _) (by rw [List.size_toArray, List.length_map, Array.length_toList, hp.size, sizeLine_eq]; omega))
    rw [hf]
    simp only [bne_self_eq_false, Bool.false_eq_true, if_false]
    exact wpAny_pure (h p hp hs)
theorem sorted_by {l : Addr} {vs : List Value} {Q : Value → Shared → Prop} {key : Nat → Int} (hl : s.heap.IsList l vs.toArray) (h64 : vs.length < 64)
    (hk : 2 ≤ vs.length → ∀ h', (∀ b ob, s.heap.get? b = some ob → h'.get? b = some ob) → Cmps prog w A.in1.in1 { s with heap := h' } (s.heap.objs.size + 1) vs key)
    (h : ∀ p : Array Nat, Pm vs.length p → Srt key p vs.length → Q (.ref (s.heap.objs.size + 1)) { s with heap := sortedAll s.heap vs (List.toArray (p.toList.map fun i => vs.getD i Value.none)) }) :
    wpAny (model prog w) A (call (.builtin "sorted") [.ref l]) Q E s := by
  refine Calls.call_function_entry kind_sorted plain_sorted entry_sorted (args_sorted1 _) ?_
  unfold Builtin.«sorted»
  refine wpAny_bind (m := checkCount "sorted" 1 1 _) (wpAny_pure ?_)
  refine wpAny_bind (collect_list hl ?_ (by rw [sizeLine_eq]; omega))
  refine wpAny_bind (wpAny_newList ?_ (by rw [sizeLine_eq]; omega))
  have hsz : ((s.heap.push (seqObj "list" #[] 0)).update s.heap.objs.size (Obj.mapSeq (· ++ vs.toArray))).objs.size = s.heap.objs.size + 1 := by
    rw [Heap.size_update, size_push']
  have hoL : (((s.heap.push (seqObj "list" #[] 0)).update s.heap.objs.size (Obj.mapSeq (· ++ vs.toArray))).push (seqObj "list" vs.toArray 0)).get? (s.heap.objs.size + 1) = some (seqObj "list" vs.toArray 0) := by
    rw [← hsz]; exact Heap.get?_push_size _ rfl
  have keep : ∀ b o, s.heap.get? b = some o → (((s.heap.push (seqObj "list" #[] 0)).update s.heap.objs.size (Obj.mapSeq (· ++ vs.toArray))).push (seqObj "list" vs.toArray 0)).get? b = some o := fun b o q => by
    have hlt : b < s.heap.objs.size := Heap.lt_size q
    rw [Heap.get?_push_ne _ _ _ (by rw [hsz]; exact Nat.ne_of_lt (Nat.lt_succ_of_lt hlt)), Heap.get?_update_ne _ _ _ _ (Nat.ne_of_lt hlt), Heap.get?_push_ne _ _ _ (Nat.ne_of_lt hlt)]
    exact q
  show wpAny _ _ _ _ _ { s with heap := ((s.heap.push (seqObj "list" #[] 0)).update s.heap.objs.size (Obj.mapSeq (· ++ vs.toArray))).push (seqObj "list" vs.toArray 0) }
  rw [hsz]
  refine wpAny_bind (wpAny_holding (wpAny_call_entry slot_list_sort ⟨_, hoL, rfl⟩ entry_list_sort (list_sort_by (key := key) hoL h64 (fun h2 => hk h2 _ keep) fun p a1 a2 => ⟨_, rfl, ?_⟩) (args_list_sort _)))
  exact wpAny_pure ⟨_, rfl, h p a1 a2⟩
end
end TL
set_option Elab.async false
set_option linter.all false
set_option maxRecDepth 100000
set_option maxHeartbeats 4000000
namespace TL
open PySem PySem.Spec PyProof.Rows L2 PySem.W
/-! ### sorted(moves) -/
def mKey (k : Str × Int) : Int := (if k.1 = ("on" : Str) then 1000 else 0) + k.2
def MvOk (k : Str × Int) : Prop := (k.1 = ("on" : Str) ∨ k.1 = ("back" : Str)) ∧ 0 ≤ k.2 ∧ k.2 < 1000
theorem mvLt_key {x y : Str × Int} (hx : MvOk x) (hy : MvOk y) : mvLt x y = decide (mKey x < mKey y) := by
  obtain ⟨x1, x2⟩ := x
  obtain ⟨y1, y2⟩ := y
  obtain ⟨h1, h2, h3⟩ := hx
  obtain ⟨g1, g2, g3⟩ := hy
  dsimp only at h1 h2 h3 g1 g2 g3
  have nb : ¬ (("back" : Str) = ("on" : Str)) := by decide +kernel
  have no : ¬ (("on" : Str) = ("back" : Str)) := by decide +kernel
  have lt1 : decide (("back" : Str).cps.toList < ("on" : Str).cps.toList) = true := by decide +kernel
  have lt2 : decide (("on" : Str).cps.toList < ("back" : Str).cps.toList) = false := by decide +kernel
  unfold mvLt mKey
  rcases h1 with rfl | rfl <;> rcases g1 with rfl | rfl
  · simp
  · simp only [if_neg no, if_pos, if_neg nb, if_true]
    rw [lt2]; symm; rw [decide_eq_false_iff_not]; omega
  · simp only [if_neg no, if_pos, if_neg nb, if_true]
    rw [lt1]; symm; rw [decide_eq_true_iff]; omega
  · simp [nb]
theorem mKey_inj {x y : Str × Int} (hx : MvOk x) (hy : MvOk y) (h : mKey x = mKey y) : x = y := by
  obtain ⟨x1, x2⟩ := x
  obtain ⟨y1, y2⟩ := y
  obtain ⟨h1, h2, h3⟩ := hx
  obtain ⟨g1, g2, g3⟩ := hy
  dsimp only at h1 h2 h3 g1 g2 g3
  have nb : ¬ (("back" : Str) = ("on" : Str)) := by decide +kernel
  unfold mKey at h
  rcases h1 with rfl | rfl <;> rcases g1 with rfl | rfl
  · simp at h; rw [h]
  · simp [nb] at h; omega
  · simp [nb] at h; omega
  · simp [nb] at h; rw [h]
theorem reads_tup {h : Heap} {v : Value} {ds : List PyData} {as : List Addr} (r : Reads h v (.tuple ds) as) : ∃ a o its n as', v = .ref a ∧ h.get? a = some o ∧ o.cls = .type "tuple" ∧ o.data = .seq its n ∧ ReadsAll h its.toList ds as' := by
  cases r with
  | tuple ho hc hd rs => exact ⟨_, _, _, _, _, rfl, ho, hc, hd, rs⟩
theorem reads_two {h : Heap} {vs : List Value} {d e : PyData} {as : List Addr} (r : ReadsAll h vs [d, e] as) : ∃ x y a1 a2, vs = [x, y] ∧ Reads h x d a1 ∧ Reads h y e a2 := by
  cases r with
  | cons r1 r2 =>
    cases r2 with
    | cons r3 r4 =>
      cases r4
      exact ⟨_, _, _, _, rfl, r1, r3⟩
theorem mvAt_of {h : Heap} {v : Value} {k : Str × Int} {as : List Addr} (r : Reads h v (.tuple [.str k.1, .int k.2]) as) : ∃ a, v = .ref a ∧ MvAt h a k := by
  obtain ⟨a, o, its, n, as', rfl, ho, hc, hd, rs⟩ := reads_tup r
  obtain ⟨x, y, a1, a2, e, r1, r2⟩ := reads_two rs
  cases r1
  cases r2
  rename_i t u
  refine ⟨a, rfl, t, u, n, o, ho, hc, ?_⟩
  rw [hd]
  congr 1
  exact Array.toList_inj.mp (by rw [e])
section
variable {prog : Program} {w : World} {A : Around} {s : Shared}
/-- a list of moves and where they lead, as it is read -/
def MvsRead (h : Heap) (vs : List Value) (ms : List Mv) : Prop := vs.length = ms.length ∧ ∀ (i : Nat) v m, vs[i]? = some v → ms[i]? = some m → ∃ as, Reads h v (dMv m) as
theorem okD_mv (k : Str × Int) (hk : PyData.strOk k.1 = true) : OkD (.tuple [.str k.1, .int k.2]) := ⟨by simp [PyData.canLay0, PyData.canLayAll0, hk], by simp [PyData.depth, PyData.depthAll]⟩
theorem eqv_mv (a b : Str × Int) : PyData.eqv (.tuple [.str a.1, .int a.2]) (.tuple [.str b.1, .int b.2]) = decide (a = b) := by
  obtain ⟨a1, a2⟩ := a
  obtain ⟨b1, b2⟩ := b
  simp only [PyData.eqv, PyData.eqvAll, Bool.and_true]
  by_cases h : a1 = b1 <;> by_cases h' : a2 = b2 <;> simp [h, h']
theorem mvs_tups {h : Heap} : ∀ {vs : List Value} {ms : List Mv}, MvsRead h vs ms → ∃ fs, KatTups h vs fs ∧ fs.length = vs.length ∧ ∀ v ∈ fs, ∃ a o, v = .ref a ∧ h.get? a = some o ∧ o.cls = .type "tuple"
  | [], ms, _ => ⟨[], KatTups.nil, rfl, fun v hv => by cases hv⟩
  | v :: vs, [], r => absurd r.1 (by simp)
  | v :: vs, m :: ms, r => by
    obtain ⟨fs, f1, f2, f3⟩ := mvs_tups (vs := vs) (ms := ms) ⟨by have := r.1; simpa using this, fun i v' m' h1 h2 => r.2 (i + 1) v' m' h1 h2⟩
    obtain ⟨as, rd⟩ := r.2 0 v m rfl rfl
    obtain ⟨a, o, its, n, as', rfl, ho, hc, hd, rs⟩ := reads_tup rd
    obtain ⟨x, y, a1, a2, e, r1, r2⟩ := reads_two rs
    obtain ⟨b, rfl, mb⟩ := mvAt_of (k := m.1) r1
    obtain ⟨t, u, n2, o2, ho2, hc2, hd2⟩ := mb
    refine ⟨.ref b :: fs, KatTups.cons ho hc hd (by rw [← Array.getElem?_toList, e]; rfl) f1, by simp [f2], fun v hv => ?_⟩
    rcases List.mem_cons.mp hv with rfl | hv
    · exact ⟨b, o2, rfl, ho2, hc2⟩
    · exact f3 v hv
def mKeyAt (ms : List Mv) (i : Nat) : Int := mKey ((ms.map (·.1)).getD i (("on" : Str), 0))
theorem mvs_kind {E : Value → Shared → Prop} {Q : SortKind → Shared → Prop} {vs : List Value} {ms : List Mv} (hr : MvsRead s.heap vs ms) (h2 : 2 ≤ vs.length) (h : Q (tuples' false) s) : wpAny (model prog w) A (keyKind' vs.toArray) Q E s := by
  obtain ⟨fs, f1, f2, f3⟩ := mvs_tups hr
  refine kat_kind (T := Value.type "tuple") f1 (by omega) (fun v hv => ?_) (by decide +kernel) ?_
  · obtain ⟨a, o, rfl, ho, hc⟩ := f3 v hv
    rw [← hc]
    exact (Looks.ld ho).andThen .now
  · rw [show (Value.type "tuple" != Value.type "tuple") = false by decide +kernel]
    exact h
theorem mvs_asks {vs : List Value} {ms : List Mv} (hu : A.units + 20 < cLine) (hr : MvsRead s.heap vs ms) (hok : ∀ m ∈ ms, MvOk m.1 ∧ PyData.strOk m.1.1 = true) (hdet : ∀ m ∈ ms, ∀ m' ∈ ms, m.1 = m'.1 → m.2 = m'.2) :
    Asks vs.length (mKeyAt ms) (fun s' => s' = s) (kas_ask prog w A (tuples' false) vs) := by
  intro i j hi hj hij C s' e k
  subst e
  have hi2 : i < ms.length := by rw [← hr.1]; exact hi
  have hj2 : j < ms.length := by rw [← hr.1]; exact hj
  have ki : mKeyAt ms i = mKey (ms[i]).1 := by unfold mKeyAt; simp [hi2]
  have kj : mKeyAt ms j = mKey (ms[j]).1 := by unfold mKeyAt; simp [hj2]
  rw [ki, kj] at k
  obtain ⟨as1, rd1⟩ := hr.2 i vs[i] ms[i] (List.getElem?_eq_getElem _) (List.getElem?_eq_getElem _)
  obtain ⟨as2, rd2⟩ := hr.2 j vs[j] ms[j] (List.getElem?_eq_getElem _) (List.getElem?_eq_getElem _)
  have mi := List.getElem_mem hi2
  have mj := List.getElem_mem hj2
  have ok1 := hok _ mi
  have ok2 := hok _ mj
  have dt := hdet _ mi _ mj
  have v1 : vs.getD i Value.none = vs[i] := by simp [hi]
  have v2 : vs.getD j Value.none = vs[j] := by simp [hj]
  unfold kas_ask
  rw [v1, v2]
  generalize vs[i] = x at rd1
  generalize vs[j] = y at rd2
  generalize ms[i] = m1 at rd1 ok1 dt k
  generalize ms[j] = m2 at rd2 ok2 dt k
  obtain ⟨a, o, its, n, as', rfl, ho, hc, hd, rs⟩ := reads_tup rd1
  obtain ⟨b1, c1, b1a, c1a, e1, rb1, rc1⟩ := reads_two rs
  obtain ⟨a', o', its', n', as'', rfl, ho', hc', hd', rs'⟩ := reads_tup rd2
  obtain ⟨b2, c2, b2a, c2a, e2, rb2, rc2⟩ := reads_two rs'
  refine kat_lt ho hd ho' hd' ?_
  have sz : its.size = 2 := by rw [← Array.length_toList, e1]; rfl
  have sz' : its'.size = 2 := by rw [← Array.length_toList, e2]; rfl
  rw [e1, e2, sz, sz', show decide (2 < 2) = false from rfl]
  refine kat_cons (SeqAt.eqBoolOverData prog w A _ s' b1 b2 _ _ _ _ _ rb1 rb2 (okD_mv _ ok1.2).1 (okD_mv _ ok2.2).1 (by have := (okD_mv _ ok1.2).2; simp only [PyData.depth, PyData.depthAll]; omega) ?_)
  rw [eqv_mv]
  by_cases em : m1.1 = m2.1
  · rw [decide_eq_true em]
    refine kat_yes (kat_cons (SeqAt.eqBoolOverData prog w A _ s' c1 c2 _ _ _ _ _ rc1 rc2 (okD_ints _).1 (okD_ints _).1 (by have := (okD_ints m1.2).2; omega) ?_))
    rw [dt em, eqv_same (okD_ints _)]
    refine kat_yes (kat_nil ?_)
    have := k s' rfl
    rw [em, decide_eq_false (by omega)] at this
    exact this
  · rw [decide_eq_false em]
    obtain ⟨p1, rfl, q1⟩ := mvAt_of (k := m1.1) rb1
    obtain ⟨p2, rfl, q2⟩ := mvAt_of (k := m2.1) rb2
    refine kat_no (kat_one _ _ (mv_lt (by omega) q1 q2 ?_))
    rw [mvLt_key ok1.1 ok2.1]
    exact k s' rfl
end
end TL
set_option Elab.async false
set_option linter.all false
set_option maxRecDepth 100000
set_option maxHeartbeats 4000000
namespace TL
open PySem PySem.Spec PyProof.Rows L2 PySem.W
theorem reads_at {h : Heap} : ∀ {vs : List Value} {ds : List PyData} {as : List Addr} {i : Nat} {v : Value} {d : PyData}, ReadsAll h vs ds as → vs[i]? = some v → ds[i]? = some d → ∃ as', Reads h v d as'
  | [], _, _, i, v, d, _, h1, _ => by simp at h1
  | x :: vs, ds, as, i, v, d, r, h1, h2 => by
    cases r with
    | cons r1 r2 =>
      cases i with
      | zero => cases h1; cases h2; exact ⟨_, r1⟩
      | succ i => exact reads_at r2 (by simpa using h1) (by simpa using h2)
theorem reads_len {h : Heap} : ∀ {vs : List Value} {ds : List PyData} {as : List Addr}, ReadsAll h vs ds as → vs.length = ds.length
  | [], _, _, r => by cases r; rfl
  | x :: vs, ds, as, r => by
    cases r with
    | cons r1 r2 => simp [reads_len r2]
theorem das_map {K : PySem.W.Frag} {H : Hp} {f : Nat → PyData} {g : Nat → V} : ∀ {l : List Nat}, (∀ i ∈ l, Da K H (f i) (g i)) → Das K H (l.map f) (l.map g)
  | [], _ => dgs_nil.mpr rfl
  | i :: l, h => dgs_cons.mpr ⟨_, _, rfl, h i List.mem_cons_self, das_map fun j hj => h j (List.mem_cons_of_mem _ hj)⟩
theorem vals_map {f : Nat → V} {g : Nat → Value} : ∀ {l : List Nat}, (∀ i ∈ l, RelV (f i) (g i)) → Vals (l.map f) (l.map g)
  | [], _ => .nil
  | i :: l, h => .cons (h i List.mem_cons_self) (vals_map fun j hj => h j (List.mem_cons_of_mem _ hj))
theorem vals_at : ∀ {vs : List V} {us : List Value} {i : Nat} {v : V} {u : Value}, Vals vs us → vs[i]? = some v → us[i]? = some u → RelV v u
  | [], _, i, v, u, r, h1, _ => by simp at h1
  | x :: vs, us, i, v, u, r, h1, h2 => by
    cases r with
    | cons r1 r2 =>
      cases i with
      | zero => cases h1; cases h2; exact r1
      | succ i => exact vals_at r2 (by simpa using h1) (by simpa using h2)
section
variable {X : Cx}
def rSortM (K : PySem.W.Frag) : List V → Hp → VK → Prop := fun xs H Q => ∃ (p : Addr) (ms : List Mv) (vs : List V), xs = [.ref p] ∧ SqL K H p vs ∧ Das K H (ms.map dMv) vs ∧ ms.length < 64 ∧ (∀ m ∈ ms, MvOk m.1 ∧ PyData.strOk m.1.1 = true) ∧ (∀ m ∈ ms, ∀ m' ∈ ms, m.1 = m'.1 → m.2 = m'.2) ∧
  ∀ (q : Addr) (vs' : List V) (ms' : List Mv), H q = none → ms'.Perm ms → ms'.Pairwise (fun a b => mKey a.1 ≤ mKey b.1) → Das K H (ms'.map dMv) vs' → Q (.ref q) (upd H q (.lst vs'))
theorem call_sortM (hu : X.A.units + 64 < cLine) : CallR X (.builtin "sorted") (rSortM X.K) := by
  intro pins s σ H xs us Q I r h
  obtain ⟨a, ms, vs, rfl, hx, hd, h64, hok, hdet, q⟩ := h
  obtain ⟨u, rfl, ru⟩ := vals1 r
  cases ru
  obtain ⟨its, rv, p, hz⟩ := I.list hx
  have hlen := rv.length
  obtain ⟨as, rds⟩ := Das.reads I hd rv
  have il : its.length = ms.length := by rw [reads_len rds, List.length_map]
  have hr : MvsRead s.heap its ms := ⟨il, fun i v m h1 h2 => reads_at rds h1 (by rw [List.getElem?_map, h2]; rfl)⟩
  refine sorted_by (key := mKeyAt ms) p.isList (by omega) (fun h2 h' keep h'' keep2 => ?_) fun pp hp hs => ?_
  · have hr2 : MvsRead h'' its ms := ⟨il, fun i v m h1 h2 => by
      obtain ⟨as, rd⟩ := hr.2 i v m h1 h2
      exact ⟨as, Reads.keeps (fun b o e => keep2 b o (fun z => Nat.lt_irrefl b (Nat.lt_of_lt_of_le (Heap.lt_size e) (by rw [z]; exact Nat.le_succ _))) (keep b o e)) rd⟩⟩
    exact ⟨tuples' false, fun E Q hq => mvs_kind (s := { s with heap := h'' }) hr2 h2 hq, mvs_asks (s := { s with heap := h'' }) (by simp only [Around.in1_units]; omega) hr2 hok hdet⟩
  · have pl : ∀ i ∈ pp.toList, i < ms.length := fun i hi => by rw [← il]; exact List.mem_range.mp (hp.perm.mem_iff.mp hi)
    obtain ⟨e, he⟩ := sortedAll_at s.heap its (List.toArray (pp.toList.map fun i => its.getD i Value.none))
    have vo : Vals (pp.toList.map fun i => vs.getD i .non) (pp.toList.map fun i => its.getD i Value.none) := vals_map fun i hi => by
      have h1 : i < vs.length := by rw [hlen, il]; exact pl i hi
      have h2 : i < its.length := by rw [il]; exact pl i hi
      exact vals_at rv (i := i) (by rw [List.getElem?_eq_getElem h1]; simp [h1]) (by rw [List.getElem?_eq_getElem h2]; simp [h2])
    refine ⟨.ref (s.heap.objs.size + 1), _, I.laid (t' := s.toks) (o := .lst (pp.toList.map fun i => vs.getD i .non)) (fun b ob q => sortedAll_old q) (Nat.le_succ _) ⟨?_, _, e, vo, ?_⟩, rfl, q _ _ (pp.toList.map fun i => ms.getD i ((("on" : Str), 0), [])) (I.hok.fresh (Nat.le_succ _)) ?_ ?_ ?_⟩
    · rw [List.length_map, Array.length_toList, hp.size]
      rw [← hlen]; exact hz
    · rw [he]
    · have h1 := hp.perm.map (fun i => ms.getD i ((("on" : Str), 0), []))
      have h2 : (List.range its.length).map (fun i => ms.getD i ((("on" : Str), 0), [])) = ms := by
        refine List.ext_getElem (by simp [il]) fun i h1 h2 => ?_
        rw [List.getElem_map, List.getElem_range]
        simp [h2]
      rw [h2] at h1
      exact h1
    · rw [List.pairwise_iff_getElem]
      intro i j hi hj hij
      rw [List.length_map, Array.length_toList] at hi hj
      rw [List.getElem_map, List.getElem_map]
      have hN := hp.size
      have g := hs.lt hij (by rw [← hN]; exact hj)
      have key : ∀ i (h : i < pp.size), Gk (mKeyAt ms) pp i = mKey (ms.getD (pp.toList[i]'(by rw [Array.length_toList]; exact h)) ((("on" : Str), 0), [])).1 := fun i h => by
        have hm := pl _ (List.getElem_mem (by rw [Array.length_toList]; exact h))
        obtain ⟨h3, h4⟩ := hp.getD (i := i) (by rw [← hN]; exact h)
        unfold Gk mKeyAt
        rw [h4]
        simp only [List.getD_eq_getElem?_getD, List.getElem?_map, List.getElem?_eq_getElem hm]
        rfl
      rw [key i hi, key j hj] at g
      exact g
    · rw [List.map_map]
      refine das_map fun i hi => ?_
      have h1 : i < vs.length := by rw [hlen, il]; exact pl i hi
      have h2 := pl i hi
      obtain ⟨d, e1, hdd⟩ := Dgs.get hd (show vs[i]? = some vs[i] from List.getElem?_eq_getElem h1)
      rw [List.getElem?_map, List.getElem?_eq_getElem h2] at e1
      cases e1
      show Da X.K H (dMv (ms.getD i _)) (vs.getD i .non)
      rw [show ms.getD i ((("on" : Str), 0), []) = ms[i] by simp [h2], show vs.getD i V.non = vs[i] by simp [h1]]
      exact hdd
end
end TL
set_option Elab.async false
set_option linter.all false
set_option maxRecDepth 100000
set_option maxHeartbeats 4000000
namespace TL
open PySem PySem.Spec PyProof.Rows L2
/-! ### moves undone, and turned round -/
theorem fr_iff {l : Ln} {ns : List Int} {e x : Int} : x ∈ fr l ns e ↔ x ∈ jn l.2 e ∧ x / 2 ∉ ns.map (· / 2) := by
  unfold fr
  rw [List.mem_filter]
  constructor
  · rintro ⟨h1, h2⟩; exact ⟨h1, by simpa using h2⟩
  · rintro ⟨h1, h2⟩; exact ⟨h1, by simpa using h2⟩
theorem undo_on {l : Ln} {ns : List Int} {e : Int} (ok : LineOk l) (T : TrOk l ns) (hne : ns ≠ []) (he : e ∈ fr l ns (oth (ns.getLastD 0))) : (((("back" : Str), oth (ns.headD 0)), ns) : Mv) ∈ mvs l (ns.drop 1 ++ [e]) := by
  obtain ⟨h1, h2⟩ := fr_mem he
  obtain ⟨h, r, rfl⟩ : ∃ h r, ns = h :: r := by cases ns with | nil => exact absurd rfl hne | cons x r => exact ⟨x, r, rfl⟩
  refine List.mem_append.mpr (.inr (List.mem_map.mpr ⟨oth h, fr_iff.mpr ⟨?_, ?_⟩, ?_⟩))
  · cases r with
    | nil => exact jn_symm ok h1
    | cons y r => exact jn_symm ok (T.ch 0 h y rfl rfl)
  · rw [oth_half]
    have nd := T.nd
    rw [List.map_cons, List.nodup_cons] at nd
    intro z
    rw [List.map_append] at z
    rcases List.mem_append.mp z with z | z
    · exact nd.1 z
    · have z : h / 2 = e / 2 := by simpa using z
      exact h2 (by rw [← z]; simp)
  · unfold backM
    rw [oth_oth]
    simp
theorem undo_back {l : Ln} {ns : List Int} {e : Int} (ok : LineOk l) (T : TrOk l ns) (hne : ns ≠ []) (he : e ∈ fr l ns (ns.headD 0)) : (((("on" : Str), ns.getLastD 0), ns) : Mv) ∈ mvs l (oth e :: ns.dropLast) := by
  obtain ⟨h1, h2⟩ := fr_mem he
  obtain ⟨r, z, rfl⟩ : ∃ r z, ns = r ++ [z] := ⟨ns.dropLast, ns.getLast hne, (List.dropLast_concat_getLast hne).symm⟩
  have hz : (r ++ [z]).getLastD 0 = z := by simp
  have hd : (r ++ [z]).dropLast = r := by simp
  rw [hz, hd]
  refine List.mem_append.mpr (.inl (List.mem_map.mpr ⟨z, fr_iff.mpr ⟨?_, ?_⟩, ?_⟩))
  · rcases List.eq_nil_or_concat r with e1 | ⟨r', y, e1⟩
    · subst e1
      show z ∈ jn l.2 (oth (oth e))
      rw [oth_oth]
      exact jn_symm ok h1
    · rw [List.concat_eq_append] at e1
      subst e1
      have : (oth e :: (r' ++ [y])).getLastD 0 = y := by rw [← List.cons_append, List.getLastD_eq_getLast?, List.getLast?_concat]; rfl
      rw [this]
      exact T.ch r'.length y z (by simp) (by simp)
  · intro q
    rw [List.map_cons, oth_half] at q
    rcases List.mem_cons.mp q with q | q
    · exact h2 (by rw [← q]; simp)
    · have nd := T.nd
      rw [List.map_append, List.nodup_append] at nd
      exact nd.2.2 _ q (z / 2) (by simp) rfl
  · unfold onM; simp
/-- a move and where it leads, turned round -/
def turnM (m : Mv) : Mv := ((if m.1.1 = "on" then "back" else "on", m.1.2), m.2.reverse.map oth)
theorem turn_on (ns : List Int) (e : Int) : turnM (onM ns e) = backM (ns.reverse.map oth) e := by
  unfold turnM onM backM
  simp [List.reverse_append, ← List.map_dropLast, List.dropLast_reverse]
theorem turn_back {ns : List Int} (e : Int) : turnM (backM ns e) = onM (ns.reverse.map oth) e := by
  unfold turnM onM backM
  have : ("back" : Str) ≠ "on" := by decide +kernel
  simp [this, oth_oth, List.map_drop, List.drop_reverse, List.dropLast_eq_take]
theorem fr_turn (l : Ln) (ns : List Int) (x : Int) : fr l (ns.reverse.map oth) x = fr l ns x := by
  unfold fr
  congr 1
  funext t
  congr 2
  refine propext ?_
  rw [List.map_map]
  constructor
  · intro h
    obtain ⟨y, hy, e⟩ := List.mem_map.mp h
    exact List.mem_map.mpr ⟨y, by simpa using hy, by rw [← e]; exact (oth_half y).symm⟩
  · intro h
    obtain ⟨y, hy, e⟩ := List.mem_map.mp h
    exact List.mem_map.mpr ⟨y, by simpa using hy, by rw [← e]; exact oth_half y⟩
theorem head_turn {ns : List Int} (hne : ns ≠ []) : (ns.reverse.map oth).headD 0 = oth (ns.getLastD 0) := by
  obtain ⟨r, z, rfl⟩ : ∃ r z, ns = r ++ [z] := ⟨ns.dropLast, ns.getLast hne, (List.dropLast_concat_getLast hne).symm⟩
  simp
theorem last_turn {ns : List Int} (hne : ns ≠ []) : oth ((ns.reverse.map oth).getLastD 0) = ns.headD 0 := by
  obtain ⟨h, r, rfl⟩ : ∃ h r, ns = h :: r := by cases ns with | nil => exact absurd rfl hne | cons x r => exact ⟨x, r, rfl⟩
  simp [oth_oth]
/-- the moves of the train turned round are the moves turned round, those back first -/
theorem mvs_turn {l : Ln} {ns : List Int} (hne : ns ≠ []) : mvs l (ns.reverse.map oth) = ((fr l ns (ns.headD 0)).map (backM ns)).map turnM ++ ((fr l ns (oth (ns.getLastD 0))).map (onM ns)).map turnM := by
  unfold mvs
  rw [fr_turn, fr_turn, head_turn hne, last_turn hne, List.map_map, List.map_map]
  congr 1
  · exact List.map_congr_left fun e _ => (turn_back e).symm
  · exact List.map_congr_left fun e _ => (turn_on ns e).symm
end TL
set_option Elab.async false
set_option linter.all false
set_option maxRecDepth 100000
set_option maxHeartbeats 4000000
namespace K07
open PySem L2 TL PyProof.Rows
def top (i : Nat) : Stmt := PySem.Challenge.pw_turnline_k07_whole_moves_undone_and_turn.main.body.getD i (.Pass ⟨0, 0, 0, 0⟩)

def sp_other : Sp := fun vs H Q _ => ∃ e : Int, vs = [.int e] ∧ Q (.int (oth e)) H
def sp_half : Sp := fun vs H Q _ => ∃ e : Int, vs = [.int e] ∧ Q (.int (e / 2)) H
def sp_cell (K : PySem.W.Frag) : Sp := fun vs H Q _ => ∃ (a : Addr) (ns : List Int) (k : Int), vs = [.ref a, .int k] ∧ SqL K H a (ns.map V.int) ∧ 0 ≤ k ∧ ∀ c, Q (.int c) H
def sp_mix : Sp := fun vs H Q _ => ∃ c k : Int, vs = [.int c, .int k] ∧ 0 ≤ k ∧ k ≤ 1000 ∧ ∀ n, 0 ≤ n → n < 2147483648 → Q (.int n) H

abbrev s_other_end : Stmt := top 5
theorem sc_other_end : FnScope ["end"] ["end"] (defScope s_other_end) := ⟨rfl, rfl, rfl, by decide +kernel, rfl, by decide +kernel, by decide +kernel⟩

abbrev s_piece_of : Stmt := top 6
theorem sc_piece_of : FnScope ["end"] ["end"] (defScope s_piece_of) := ⟨rfl, rfl, rfl, by decide +kernel, rfl, by decide +kernel, by decide +kernel⟩

abbrev s_law_other : Stmt := top 19
theorem sc_law_other : FnScope ["_law_end"] ["_law_end"] (defScope s_law_other) := ⟨rfl, rfl, rfl, by decide +kernel, rfl, by decide +kernel, by decide +kernel⟩

abbrev s_law_cell_at : Stmt := top 16
theorem sc_law_cell_at : FnScope ["_law_script", "_law_k"] ["_law_script", "_law_k"] (defScope s_law_cell_at) := ⟨rfl, rfl, rfl, by decide +kernel, rfl, by decide +kernel, by decide +kernel⟩

abbrev s_law_mix : Stmt := top 17
theorem sc_law_mix : FnScope ["_law_cell", "_law_k", "_law_again", "_law_number"] ["_law_cell", "_law_k"] (defScope s_law_mix) := ⟨rfl, rfl, rfl, by decide +kernel, rfl, by decide +kernel, by decide +kernel⟩

section
variable {P : Program} {w : World} {K : PySem.W.Frag} {mg : Str → Option Value} {base : Heap} {f : Addr} {fd : FuncData}
theorem ok_other_end (F : Fn K mg "other_end" s_other_end ["end"] f fd) : FnOk P w K mg base CX0 1 f fd ["end"] sp_other := by
  refine F.F.ok sc_other_end (fun vs H Q E h => ?_) (fun cdv A outer s H vs Q E hr h => ?_)
  · obtain ⟨e, rfl, _⟩ := h; rfl
  · obtain ⟨e, rfl, k⟩ := h
    refine ⟨_, (pss_one (ps_ret (pe_op op_xor (pv 0) pe_int))), ?_⟩
    refine ⟨_, rfl, _, _, rfl, rfl, ?_⟩
    show Q (.int (Builtin.bitXor e 1)) H
    rw [xor_one]; exact k
theorem ok_piece_of (F : Fn K mg "piece_of" s_piece_of ["end"] f fd) : FnOk P w K mg base CX0 1 f fd ["end"] sp_half := by
  refine F.F.ok sc_piece_of (fun vs H Q E h => ?_) (fun cdv A outer s H vs Q E hr h => ?_)
  · obtain ⟨e, rfl, _⟩ := h; rfl
  · obtain ⟨e, rfl, k⟩ := h
    refine ⟨_, (pss_one (ps_ret (pe_op op_fdiv (pv 0) pe_int))), ?_⟩
    exact ⟨_, rfl, _, _, rfl, rfl, ⟨by decide, by decide⟩, k⟩
theorem ok_law_other (F : Fn K mg "_law_other" s_law_other ["_law_end"] f fd) : FnOk P w K mg base CX0 1 f fd ["_law_end"] sp_other := by
  refine F.F.ok sc_law_other (fun vs H Q E h => ?_) (fun cdv A outer s H vs Q E hr h => ?_)
  · obtain ⟨e, rfl, _⟩ := h; rfl
  · obtain ⟨e, rfl, k⟩ := h
    refine ⟨_, (pss_one (ps_ret (pe_op op_sub (pe_op op_add (pv 0) pe_int) (pe_op op_mul pe_int (pe_op op_mod (pv 0) pe_int))))), ?_⟩
    exact ⟨_, rfl, _, _, rfl, rfl, _, rfl, _, _, rfl, rfl, by show (0 : Int) < 2; decide, _, _, rfl, rfl, .inl ⟨by decide, by decide⟩, _, _, rfl, rfl, k⟩
theorem ok_law_cell_at (F : Fn K mg "_law_cell_at" s_law_cell_at ["_law_script", "_law_k"] f fd) (B : Bl mg) : FnOk P w K mg base CX0 1 f fd ["_law_script", "_law_k"] (sp_cell K) := by
  refine F.F.ok sc_law_cell_at (fun vs H Q E h => ?_) (fun cdv A outer s H vs Q E hr h => ?_)
  · obtain ⟨a, ns, k, rfl, _⟩ := h; rfl
  · obtain ⟨a, ns, k, rfl, hS, h0, q⟩ := h
    refine ⟨_, (pss_cons (ps_if (pt_cmp (pc_lt (pv 1) (pe_callB call_len_seq rfl B.len boot_len (pa_cons (pv 0) pa_nil))))
  (pss_one (ps_ret (pe_ix ix_list (pv 0) (pv 1) (fun _ _ => rfl)))) pss_nil)
 (pss_one (ps_ret pe_int))), ?_⟩
    refine ⟨_, rfl, _, rfl, a, _, rfl, .inl hS, _, _, rfl, rfl, _, rfl, ite2 (fun hlt => ?_) (fun _ => ?_)⟩
    · have hlt : k < ((ns.map V.int).length : Int) := by simpa using hlt
      rw [List.length_map] at hlt
      have hg : (ns.map V.int)[k.toNat]? = some (V.int (ns.getD k.toNat 0)) := by
        rw [List.getElem?_map, List.getD_eq_getElem?_getD]
        have : k.toNat < ns.length := by omega
        simp [this]
      have e1 : ((k.toNat : Nat) : Int) = k := by omega
      exact ⟨_, rfl, _, rfl, a, _, k, _, rfl, rfl, hS, by have h := atI_nat hg; rw [e1] at h; exact h, q _⟩
    · exact q _
theorem ok_law_mix (F : Fn K mg "_law_mix" s_law_mix ["_law_cell", "_law_k"] f fd) (B : Bl mg) : FnOk P w K mg base CX0 1 f fd ["_law_cell", "_law_k"] sp_mix := by
  refine F.F.ok sc_law_mix (fun vs H Q E h => ?_) (fun cdv A outer s H vs Q E hr h => ?_)
  · obtain ⟨c, k, rfl, _⟩ := h; rfl
  · obtain ⟨c, k, rfl, h0, h1, q⟩ := h
    refine ⟨_, (pss_cons (ps_if (pt_cmp (pc_ge (pv 0) (pe_op op_pow pe_int pe_int)))
  (pss_cons (ps_for PassesOwn.never rfl (pi_range1 rfl B.range (pa_cons (pv 1) pa_nil)) (pg_name (i := 2) sc_law_mix.nd rfl (Or.inl rfl))
  (pss_one (ps_set (i := 0) sc_law_mix.nd rfl (Or.inl rfl) (pe_op op_fdiv (pv 0) (pe_op op_pow pe_int pe_int)))))
 (pss_one (ps_ret (pe_op op_mod (pv 0) (pe_op op_pow pe_int pe_int))))) pss_nil)
 (pss_cons (ps_set (i := 3) sc_law_mix.nd rfl (Or.inl rfl) (pe_op op_mod (pe_op op_mul (pe_op op_add (pe_op op_add (pe_op op_mod (pv 0) pe_int) (pe_op op_mul (pe_op op_mul (pv 1) (pv 1)) pe_int)) (pv 1)) pe_int) pe_int))
 (pss_cons (ps_set (i := 3) sc_law_mix.nd rfl (Or.inl rfl) (pe_op op_mod (pe_op op_mul (pv 3) (pv 3)) pe_int))
 (pss_one (ps_ret (pe_op op_fdiv (pe_op op_mod (pe_op op_mul (pv 3) (pe_op op_add (pv 3) pe_int)) pe_int) pe_int)))))), ?_⟩
    refine ⟨_, rfl, _, _, rfl, rfl, ⟨by decide, by decide, by decide⟩, _, _, rfl, rfl, _, rfl, ite2 (fun hlt => ?_) (fun _ => ?_)⟩
    · refine ⟨_, rfl, _, rfl, by omega, by omega, for_range (fun i σ H2 => H2 = H ∧ ∃ (c : Int) (x : Option V), σ = [some (.int c), some (.int k), x, none]) ⟨rfl, c, none, rfl⟩ ?_ ?_⟩
      · rintro i σ H2 hi ⟨rfl, c, x, rfl⟩
        exact ⟨_, rfl, _, _, rfl, rfl, ⟨by decide, by decide, by decide⟩, _, _, rfl, rfl, ⟨by decide, by decide⟩, rfl, _, _, rfl⟩
      · rintro σ H2 ⟨rfl, c, x, rfl⟩
        refine ⟨_, rfl, _, _, rfl, rfl, ⟨by decide, by decide, by decide⟩, _, _, rfl, rfl, (by show (0 : Int) < _; decide), q _ ?_ ?_⟩
        · show 0 ≤ c % (10 ^ 6); omega
        · show c % (10 ^ 6) < _; omega
    · refine ⟨_, rfl, _, _, rfl, rfl, (by show (0 : Int) < _; decide), _, rfl, _, rfl, _, _, rfl, rfl, .inl ⟨by omega, by omega⟩, _, _, rfl, rfl, .inr ⟨by decide, by decide⟩, _, _, rfl, rfl, _, rfl, _, _, rfl, rfl, _, _, rfl, rfl, .inr ⟨by decide, by decide⟩, _, _, rfl, rfl, (by show (0 : Int) < _; decide), ?_⟩
      dsimp only
      generalize hn : (c % 1000003 + k * k * 7919 + k) * 48271 % 2147483629 = n
      have n0 : 0 ≤ n := by omega
      have n1 : n < 2147483629 := by omega
      refine ⟨_, rfl, _, rfl, _, _, rfl, rfl, .inl ⟨by omega, by omega⟩, _, _, rfl, rfl, (by show (0 : Int) < _; decide), ?_⟩
      dsimp only
      generalize hm : n * n % 2147483587 = m
      have m0 : 0 ≤ m := by omega
      have m1 : m < 2147483587 := by omega
      refine ⟨_, rfl, _, rfl, _, _, rfl, rfl, _, _, rfl, rfl, .inl ⟨by omega, by omega⟩, _, _, rfl, rfl, (by show (0 : Int) < _; decide), _, _, rfl, rfl, ⟨by decide, by decide⟩, q _ ?_ ?_⟩
      · show 0 ≤ m * (m + 2) % 2147483579 / 7; omega
      · show m * (m + 2) % 2147483579 / 7 < _; omega
end
end K07
set_option Elab.async false
set_option linter.all false
set_option maxRecDepth 100000
set_option maxHeartbeats 4000000
namespace K07
open PySem L2 TL PyProof.Rows

def sp_joined (K : PySem.W.Frag) : Sp := fun vs H Q _ => ∃ (v : V) (l : Int × List (Int × Int)) (e : Int), vs = [v, .int e] ∧ Da K H (dL l) v ∧ LineOk l ∧ NewInts H (jn l.2 e) Q
def sp_round (K : PySem.W.Frag) : Sp := fun vs H Q _ => ∃ (v : V) (ns : List Int), vs = [v] ∧ Da K H (dI ns) v ∧ ns.length ≤ 1000 ∧ NewInts H (ns.reverse.map oth) Q
def fr (l : Int × List (Int × Int)) (ns : List Int) (e : Int) : List Int := (jn l.2 e).filter fun t => !decide (t / 2 ∈ ns.map (· / 2))
def sp_free (K : PySem.W.Frag) : Sp := fun vs H Q _ => ∃ (v u : V) (l : Int × List (Int × Int)) (ns : List Int) (e : Int), vs = [v, u, .int e] ∧ Da K H (dL l) v ∧ Da K H (dI ns) u ∧ LineOk l ∧ ns.length ≤ 1000 ∧ NewInts H (fr l ns e) Q

abbrev s_joined : Stmt := top 8
theorem sc_joined : FnScope ["line", "end", "joints", "above", "below"] ["line", "end"] (defScope s_joined) := ⟨rfl, rfl, rfl, by decide +kernel, rfl, by decide +kernel, by decide +kernel⟩
theorem cc_joined_0 : CompOk (defScope s_joined) ["line", "end", "joints", "above", "below"] { kind := .function, names := [(Str.ofString ".0", .local), (Str.ofString "low", .local), (Str.ofString "high", .local), (Str.ofString "end", .free)], isGenerator := false, isCoroutine := false, more := [] } ["low", "high", "end"] 2 [none, none, some 1] := ⟨rfl, by decide +kernel, by decide +kernel, by decide +kernel, rfl, by decide +kernel, rfl, by decide +kernel⟩
theorem cc_joined_1 : CompOk (defScope s_joined) ["line", "end", "joints", "above", "below"] { kind := .function, names := [(Str.ofString ".0", .local), (Str.ofString "low", .local), (Str.ofString "high", .local), (Str.ofString "end", .free)], isGenerator := false, isCoroutine := false, more := [] } ["low", "high", "end"] 2 [none, none, some 1] := ⟨rfl, by decide +kernel, by decide +kernel, by decide +kernel, rfl, by decide +kernel, rfl, by decide +kernel⟩

abbrev s_law_joined : Stmt := top 20
theorem sc_law_joined : FnScope ["_law_line_here", "_law_end"] ["_law_line_here", "_law_end"] (defScope s_law_joined) := ⟨rfl, rfl, rfl, by decide +kernel, rfl, by decide +kernel, by decide +kernel⟩
theorem cc_law_joined_0 : CompOk (defScope s_law_joined) ["_law_line_here", "_law_end"] { kind := .function, names := [(Str.ofString ".0", .local), (Str.ofString "_law_a", .local), (Str.ofString "_law_b", .local), (Str.ofString "_law_end", .free)], isGenerator := false, isCoroutine := false, more := [] } ["_law_a", "_law_b", "_law_end"] 2 [none, none, some 1] := ⟨rfl, by decide +kernel, by decide +kernel, by decide +kernel, rfl, by decide +kernel, rfl, by decide +kernel⟩
theorem cc_law_joined_1 : CompOk (defScope s_law_joined) ["_law_line_here", "_law_end"] { kind := .function, names := [(Str.ofString ".0", .local), (Str.ofString "_law_a", .local), (Str.ofString "_law_b", .local), (Str.ofString "_law_end", .free)], isGenerator := false, isCoroutine := false, more := [] } ["_law_a", "_law_b", "_law_end"] 2 [none, none, some 1] := ⟨rfl, by decide +kernel, by decide +kernel, by decide +kernel, rfl, by decide +kernel, rfl, by decide +kernel⟩

abbrev s_turned : Stmt := top 11
theorem sc_turned : FnScope ["train"] ["train"] (defScope s_turned) := ⟨rfl, rfl, rfl, by decide +kernel, rfl, by decide +kernel, by decide +kernel⟩
theorem cc_turned_0 : CompOk (defScope s_turned) ["train"] { kind := .function, names := [(Str.ofString ".0", .local), (Str.ofString "end", .local), (Str.ofString "other_end", .globalImplicit)], isGenerator := false, isCoroutine := false, more := [] } ["end"] 1 [none] := ⟨rfl, by decide +kernel, by decide +kernel, by decide +kernel, rfl, by decide +kernel, rfl, by decide +kernel⟩

abbrev s_free_ends : Stmt := top 12
theorem sc_free_ends : FnScope ["line", "train", "end", "pieces"] ["line", "train", "end"] (defScope s_free_ends) := ⟨rfl, rfl, rfl, by decide +kernel, rfl, by decide +kernel, by decide +kernel⟩
theorem cc_free_ends_0 : CompOk (defScope s_free_ends) ["line", "train", "end", "pieces"] { kind := .function, names := [(Str.ofString ".0", .local), (Str.ofString "own", .local), (Str.ofString "piece_of", .globalImplicit)], isGenerator := false, isCoroutine := false, more := [] } ["own"] 1 [none] := ⟨rfl, by decide +kernel, by decide +kernel, by decide +kernel, rfl, by decide +kernel, rfl, by decide +kernel⟩
theorem cc_free_ends_1 : CompOk (defScope s_free_ends) ["line", "train", "end", "pieces"] { kind := .function, names := [(Str.ofString ".0", .local), (Str.ofString "there", .local), (Str.ofString "piece_of", .globalImplicit), (Str.ofString "pieces", .free)], isGenerator := false, isCoroutine := false, more := [] } ["there", "pieces"] 1 [none, some 3] := ⟨rfl, by decide +kernel, by decide +kernel, by decide +kernel, rfl, by decide +kernel, rfl, by decide +kernel⟩

theorem small_line {n : Nat} (h : n ≤ 1000) : n < sizeLine := Nat.lt_of_le_of_lt h (by decide)
theorem das_ints_len {K : PySem.W.Frag} {H : Hp} {js : List (Int × Int)} {vs : List V} (h : Das K H (js.map dP) vs) : vs.length = js.length := by rw [Dgs.length h, List.length_map]
section
variable {P : Program} {w : World} {K : PySem.W.Frag} {mg : Str → Option Value} {base : Heap} {f : Addr} {fd : FuncData}
theorem below_len {l : Int × List (Int × Int)} (h : LineOk l) (e : Int) : (below l.2 e).length + (above l.2 e).length ≤ 60 := h.inc e
theorem ok_joined (F : Fn K mg "joined" s_joined ["line", "end"] f fd) (B : Bl mg) : FnOk P w K mg base CX0 1 f fd ["line", "end"] (sp_joined K) := by
  refine F.F.ok sc_joined (fun vs H Q E h => ?_) (fun cdv A outer s H vs Q E hr h => ?_)
  · obtain ⟨v, l, e, rfl, _⟩ := h; rfl
  · obtain ⟨v, l, e, rfl, hv, ok, k⟩ := h
    obtain ⟨a, b, rfl, ht, us, hl, hq⟩ := da_line hv
    have hlen := das_ints_len hq
    have hz : us.length < sizeLine := small_line (by rw [hlen]; have := ok.len; omega)
    refine ⟨_, (pss_cons (ps_set (i := 2) sc_joined.nd rfl (Or.inl rfl) (pe_ix ix_tup (pv 0) pe_int (fun _ _ => rfl)))
 (pss_cons (ps_lc (i := 3) sc_joined.nd rfl rfl (pi_list (pv 2)) rfl cc_joined_0 (.tup (.cons (.name (by decide)) (.cons (.name (by decide)) .nil))) (fun _ _ _ _ => (pg_tup (n := 2) rfl (pgs_cons (pg_name (i := 0) cc_joined_0.nd rfl (Or.inl rfl)) (pgs_cons (pg_name (i := 1) cc_joined_0.nd rfl (Or.inl rfl)) pgs_nil)))) (fun _ _ _ _ => (pifs_one (pt_cmp (pc_eqI (pv 0) (pv 2))))) (fun _ _ _ _ => (pv 1)))
 (pss_cons (ps_lc (i := 4) sc_joined.nd rfl rfl (pi_list (pv 2)) rfl cc_joined_1 (.tup (.cons (.name (by decide)) (.cons (.name (by decide)) .nil))) (fun _ _ _ _ => (pg_tup (n := 2) rfl (pgs_cons (pg_name (i := 0) cc_joined_1.nd rfl (Or.inl rfl)) (pgs_cons (pg_name (i := 1) cc_joined_1.nd rfl (Or.inl rfl)) pgs_nil)))) (fun _ _ _ _ => (pifs_one (pt_cmp (pc_eqI (pv 1) (pv 2))))) (fun _ _ _ _ => (pv 0)))
 (pss_one (ps_ret (pe_callB call_sorted rfl B.sorted boot_sorted (pa_cons (pe_op op_cat (pv 4) (pv 3)) pa_nil))))))), ?_⟩
    -- joints = line[1]
    refine ⟨_, rfl, a, _, _, _, rfl, rfl, ht, rfl, ?_⟩
    -- above
    refine ⟨_, rfl, b, rfl, ⟨us, hl⟩, fun l1 n1 => lc_pure l.2 (fun p => decide (p.1 = e)) (fun p => V.int p.2) n1 hl hlen hz ?_ ?_⟩
    · intro i x d H' hx hd sm P1 P0 k1 k0
      obtain ⟨ad, p, e1, rfl, hp⟩ := das_pair (Das.same sm hq) hx
      rw [hd] at e1; cases e1
      refine ⟨ad, _, rfl, hp, rfl, _, _, rfl, _, _, rfl, rfl, _, rfl, _, rfl, _, _, rfl, rfl, _, rfl, ite2 (fun h => ⟨_, rfl, k1 h⟩) (fun h => k0 (by simpa using h))⟩
    have s1 : Same H (upd H l1 (.lst (above l.2 e |>.map V.int))) := same_upd n1
    have e1 : ((l.2.filter fun p => decide (p.1 = e)).map fun p => V.int p.2) = (above l.2 e).map V.int := by unfold above; rw [List.map_map]; rfl
    rw [e1]
    -- below
    refine ⟨_, rfl, b, rfl, ⟨us, s1.seq hl⟩, fun l2 n2 => lc_pure l.2 (fun p => decide (p.2 = e)) (fun p => V.int p.1) n2 (s1.seq hl) hlen hz ?_ ?_⟩
    · intro i x d H' hx hd sm P1 P0 k1 k0
      obtain ⟨ad, p, e1, rfl, hp⟩ := das_pair (Das.same (s1.trans sm) hq) hx
      rw [hd] at e1; cases e1
      refine ⟨ad, _, rfl, hp, rfl, _, _, rfl, _, _, rfl, rfl, _, rfl, _, rfl, _, _, rfl, rfl, _, rfl, ite2 (fun h => ⟨_, rfl, k1 h⟩) (fun h => k0 (by simpa using h))⟩
    have e2 : ((l.2.filter fun p => decide (p.2 = e)).map fun p => V.int p.1) = (below l.2 e).map V.int := by unfold below; rw [List.map_map]; rfl
    rw [e2]
    have g1 : (upd (upd H l1 (.lst (above l.2 e |>.map V.int))) l2 (.lst (below l.2 e |>.map V.int))) l1 = some (.lst (above l.2 e |>.map V.int)) := by
      rw [upd_ne (ne_of_none upd_same n2), upd_same]
    have hb := below_len ok e
    have s2 : Same H (upd (upd H l1 (.lst (above l.2 e |>.map V.int))) l2 (.lst (below l.2 e |>.map V.int))) := s1.trans (same_upd n2)
    -- sorted(below + above)
    refine ⟨_, rfl, _, rfl, l2, l1, _, _, rfl, rfl, upd_same, g1, Nat.le_of_lt (small_line (by rw [List.length_map, List.length_map]; omega)), fun p hp => ?_⟩
    refine ⟨p, below l.2 e ++ above l.2 e, rfl, SqL.of (by rw [upd_same, List.map_append]), (by rw [List.length_append]; omega), fun p2 hp2 => ?_⟩
    refine k p2 _ (s2.trans ((same_upd hp).trans (same_upd hp2))) (Same.free (s2.trans (same_upd hp)) hp2) upd_same
theorem ok_law_joined (F : Fn K mg "_law_joined" s_law_joined ["_law_line_here", "_law_end"] f fd) (B : Bl mg) : FnOk P w K mg base CX0 1 f fd ["_law_line_here", "_law_end"] (sp_joined K) := by
  refine F.F.ok sc_law_joined (fun vs H Q E h => ?_) (fun cdv A outer s H vs Q E hr h => ?_)
  · obtain ⟨v, l, e, rfl, _⟩ := h; rfl
  · obtain ⟨v, l, e, rfl, hv, ok, k⟩ := h
    obtain ⟨a, b, rfl, ht, us, hl, hq⟩ := da_line hv
    have hlen := das_ints_len hq
    have hz : us.length < sizeLine := small_line (by rw [hlen]; have := ok.len; omega)
    refine ⟨_, (pss_one (ps_ret (pe_callB call_sorted rfl B.sorted boot_sorted (pa_cons (pe_op op_cat (pe_lc (pi_list (pe_ix ix_tup (pv 0) pe_int (fun _ _ => rfl))) rfl cc_law_joined_0 (.tup (.cons (.name (by decide)) (.cons (.name (by decide)) .nil))) (fun _ _ _ _ => (pg_tup (n := 2) rfl (pgs_cons (pg_name (i := 0) cc_law_joined_0.nd rfl (Or.inl rfl)) (pgs_cons (pg_name (i := 1) cc_law_joined_0.nd rfl (Or.inl rfl)) pgs_nil)))) (fun _ _ _ _ => (pifs_one (pt_cmp (pc_eqI (pv 0) (pv 2))))) (fun _ _ _ _ => (pv 1))) (pe_lc (pi_list (pe_ix ix_tup (pv 0) pe_int (fun _ _ => rfl))) rfl cc_law_joined_1 (.tup (.cons (.name (by decide)) (.cons (.name (by decide)) .nil))) (fun _ _ _ _ => (pg_tup (n := 2) rfl (pgs_cons (pg_name (i := 0) cc_law_joined_1.nd rfl (Or.inl rfl)) (pgs_cons (pg_name (i := 1) cc_law_joined_1.nd rfl (Or.inl rfl)) pgs_nil)))) (fun _ _ _ _ => (pifs_one (pt_cmp (pc_eqI (pv 1) (pv 2))))) (fun _ _ _ _ => (pv 0)))) pa_nil)))), ?_⟩
    refine ⟨_, rfl, a, _, _, _, rfl, rfl, ht, rfl, b, rfl, ⟨us, hl⟩, fun l1 n1 => lc_pure l.2 (fun p => decide (p.1 = e)) (fun p => V.int p.2) n1 hl hlen hz ?_ ?_⟩
    · intro i x d H' hx hd sm P1 P0 k1 k0
      obtain ⟨ad, p, e1, rfl, hp⟩ := das_pair (Das.same sm hq) hx
      rw [hd] at e1; cases e1
      refine ⟨ad, _, rfl, hp, rfl, _, _, rfl, _, _, rfl, rfl, _, rfl, _, rfl, _, _, rfl, rfl, _, rfl, ite2 (fun h => ⟨_, rfl, k1 h⟩) (fun h => k0 (by simpa using h))⟩
    have s1 : Same H (upd H l1 (.lst (above l.2 e |>.map V.int))) := same_upd n1
    have e1 : ((l.2.filter fun p => decide (p.1 = e)).map fun p => V.int p.2) = (above l.2 e).map V.int := by unfold above; rw [List.map_map]; rfl
    rw [e1]
    refine ⟨_, rfl, a, _, _, _, rfl, rfl, same_tseq s1 ht, rfl, b, rfl, ⟨us, s1.seq hl⟩, fun l2 n2 => lc_pure l.2 (fun p => decide (p.2 = e)) (fun p => V.int p.1) n2 (s1.seq hl) hlen hz ?_ ?_⟩
    · intro i x d H' hx hd sm P1 P0 k1 k0
      obtain ⟨ad, p, e1, rfl, hp⟩ := das_pair (Das.same (s1.trans sm) hq) hx
      rw [hd] at e1; cases e1
      refine ⟨ad, _, rfl, hp, rfl, _, _, rfl, _, _, rfl, rfl, _, rfl, _, rfl, _, _, rfl, rfl, _, rfl, ite2 (fun h => ⟨_, rfl, k1 h⟩) (fun h => k0 (by simpa using h))⟩
    have e2 : ((l.2.filter fun p => decide (p.2 = e)).map fun p => V.int p.1) = (below l.2 e).map V.int := by unfold below; rw [List.map_map]; rfl
    rw [e2]
    have g1 : (upd (upd H l1 (.lst (above l.2 e |>.map V.int))) l2 (.lst (below l.2 e |>.map V.int))) l1 = some (.lst (above l.2 e |>.map V.int)) := by
      rw [upd_ne (ne_of_none upd_same n2), upd_same]
    have hb := below_len ok e
    have s2 : Same H (upd (upd H l1 (.lst (above l.2 e |>.map V.int))) l2 (.lst (below l.2 e |>.map V.int))) := s1.trans (same_upd n2)
    refine ⟨l1, l2, _, _, rfl, rfl, g1, upd_same, Nat.le_of_lt (small_line (by rw [List.length_map, List.length_map]; omega)), fun p hp => ?_⟩
    refine ⟨p, above l.2 e ++ below l.2 e, rfl, SqL.of (by rw [upd_same, List.map_append]), (by rw [List.length_append]; omega), fun p2 hp2 => ?_⟩
    rw [jn_eq]
    exact k p2 _ (s2.trans ((same_upd hp).trans (same_upd hp2))) (Same.free (s2.trans (same_upd hp)) hp2) upd_same
theorem ok_turned {f1 : Addr} {fd1 : FuncData} (F : Fn K mg "turned" s_turned ["train"] f fd) (B : Bl mg) (F_other_end : Fn K mg "other_end" s_other_end ["end"] f1 fd1) : FnOk P w K mg base CX0 2 f fd ["train"] (sp_round K) := by
  have G_other_end : FnOk P w K mg base CX0 1 f1 fd1 ["end"] sp_other := ok_other_end F_other_end
  refine F.F.ok sc_turned (fun vs H Q E h => ?_) (fun cdv A outer s H vs Q E hr h => ?_)
  · obtain ⟨v, l, rfl, _⟩ := h; rfl
  · obtain ⟨v, ns, rfl, hv, hz, k⟩ := h
    obtain ⟨a, rfl, hS⟩ := da_ints.mp hv
    refine ⟨_, (pss_one (ps_ret (pe_lc (pi_rev rfl B.reversed (pa_cons (pv 0) pa_nil)) rfl cc_turned_0 (.name (by decide)) (fun _ _ _ _ => (pg_name (i := 0) cc_turned_0.nd rfl (Or.inl rfl))) (fun _ _ _ _ => pifs_nil) (fun _ _ _ _ => (pe_call G_other_end (hr.mono (by decide)) rfl F_other_end.m F_other_end.F.kp F_other_end.b .nil pass0 (pa_cons (pv 0) pa_nil)))))), ?_⟩
    refine ⟨_, rfl, a, _, rfl, hS, fun l1 n1 => lc_pureJ (js_rev hS) ns.reverse (fun _ => true) (fun e => V.int (oth e)) n1 (by rw [List.length_map, List.length_reverse]) (by rw [List.length_map]; exact small_line hz) ?_ ?_⟩
    · intro i x d H' hx hd sm P1 P0 k1 k0
      rw [← List.map_reverse, List.getElem?_map, hd] at hx
      cases hx
      refine name_yes ?_
      exact ⟨_, rfl, d, rfl, k1 rfl⟩
    rw [filt_true]
    refine k l1 _ (same_upd n1) n1 ?_
    rw [upd_same, List.map_map]; rfl
theorem ok_free_ends {f1 f2 : Addr} {fd1 fd2 : FuncData} (F : Fn K mg "free_ends" s_free_ends ["line", "train", "end"] f fd) (B : Bl mg) (F_piece_of : Fn K mg "piece_of" s_piece_of ["end"] f1 fd1) (F_joined : Fn K mg "joined" s_joined ["line", "end"] f2 fd2) :
    FnOk P w K mg base CX0 2 f fd ["line", "train", "end"] (sp_free K) := by
  have G_piece_of : FnOk P w K mg base CX0 1 f1 fd1 ["end"] sp_half := ok_piece_of F_piece_of
  have G_joined : FnOk P w K mg base CX0 1 f2 fd2 ["line", "end"] (sp_joined K) := ok_joined F_joined B
  refine F.F.ok sc_free_ends (fun vs H Q E h => ?_) (fun cdv A outer s H vs Q E hr h => ?_)
  · obtain ⟨v, u, l, ns, e, rfl, _⟩ := h; rfl
  · obtain ⟨v, u, l, ns, e, rfl, hv, hu, ok, hz, k⟩ := h
    obtain ⟨a, rfl, hS⟩ := da_ints.mp hu
    refine ⟨_, (pss_cons (ps_set (i := 3) sc_free_ends.nd rfl (Or.inr rfl) (pe_lc (pi_list (pv 1)) rfl cc_free_ends_0 (.name (by decide)) (fun _ _ _ _ => (pg_name (i := 0) cc_free_ends_0.nd rfl (Or.inl rfl))) (fun _ _ _ _ => pifs_nil) (fun _ _ _ _ => (pe_call G_piece_of (hr.mono (by decide)) rfl F_piece_of.m F_piece_of.F.kp F_piece_of.b .nil pass0 (pa_cons (pv 0) pa_nil)))))
 (pss_one (ps_ret (pe_lc (pi_list (pe_call G_joined (hr.mono (by decide)) rfl F_joined.m F_joined.F.kp F_joined.b .nil pass0 (pa_cons (pv 0) (pa_cons (pv 2) pa_nil)))) rfl cc_free_ends_1 (.name (by decide)) (fun _ _ _ _ => (pg_name (i := 0) cc_free_ends_1.nd rfl (Or.inl rfl))) (fun _ _ _ _ => (pifs_one (pt_cmpR (op_notInDk (K := K) rfl hr.units) (pe_call G_piece_of (hr.mono (by decide)) rfl F_piece_of.m F_piece_of.F.kp F_piece_of.b .nil pass0 (pa_cons (pv 0) pa_nil)) (pv 1) (by with_unfolding_all rfl)))) (fun _ _ _ _ => (pv 0)))))), ?_⟩
    -- pieces
    refine ⟨_, rfl, a, rfl, ⟨_, hS⟩, fun l1 n1 => lc_pure ns (fun _ => true) (fun e => V.int (e / 2)) n1 hS (by rw [List.length_map]) (by rw [List.length_map]; exact small_line hz) ?_ ?_⟩
    · intro i x d H' hx hd sm P1 P0 k1 k0
      rw [List.getElem?_map, hd] at hx
      cases hx
      refine name_yes ?_
      exact ⟨_, rfl, d, rfl, k1 rfl⟩
    rw [filt_true]
    have e1 : (ns.map fun e => V.int (e / 2)) = (ns.map (· / 2)).map V.int := by rw [List.map_map]; rfl
    rw [e1]
    have s1 : Same H (upd H l1 (.lst ((ns.map (· / 2)).map V.int))) := same_upd n1
    -- the ends
    refine ⟨_, rfl, _, rfl, v, l, e, rfl, Da.same s1 hv, ok, fun p H2 s2 hp hp2 => ⟨p, rfl, ⟨_, SqL.of hp2⟩, fun l2 n2 => lc_pure (jn l.2 e) (fun t => !decide (t / 2 ∈ ns.map (· / 2))) (fun t => V.int t) n2 (SqL.of hp2) (by rw [List.length_map]) ?_ ?_ ?_⟩⟩
    · rw [List.length_map]
      refine small_line ?_
      unfold jn
      rw [srt_length, List.length_append]
      have := below_len ok e
      omega
    · intro i x d H' hx hd sm P1 P0 k1 k0
      rw [List.getElem?_map, hd] at hx
      cases hx
      have hD : Da K H' (.list ((ns.map (· / 2)).map .int)) (.ref l1) := Da.same (s2.trans sm) (da_new upd_same)
      refine ⟨_, rfl, d, rfl, _, rfl, _, .int (d / 2), hD, dg_int.mpr rfl, okDs_I _, okD_int _, _, rfl, ?_⟩
      rw [any_I]
      exact ite2 (fun h => ⟨_, rfl, k1 h⟩) (fun h => k0 (by simpa using h))
    exact k l2 _ ((s1.trans s2).trans (same_upd n2)) (Same.free (s1.trans s2) n2) upd_same
end
end K07
set_option Elab.async false
set_option linter.all false
set_option maxRecDepth 100000
set_option maxHeartbeats 4000000
namespace K07
open PySem L2 TL PyProof.Rows
def sp_moves (K : PySem.W.Frag) : Sp := fun vs H Q _ => ∃ (v u : V) (l : Int × List (Int × Int)) (ns : List Int), vs = [v, u] ∧ Da K H (dL l) v ∧ Da K H (dI ns) u ∧ LineOk l ∧ ns ≠ [] ∧ ns.length ≤ 900 ∧ NewMoves K H (mvs l ns) Q
theorem jn_len {l : Int × List (Int × Int)} (h : LineOk l) (e : Int) : (jn l.2 e).length ≤ 60 := by
  unfold jn
  rw [srt_length, List.length_append]
  exact h.inc e
theorem fr_len {l : Int × List (Int × Int)} (h : LineOk l) (ns : List Int) (e : Int) : (fr l ns e).length ≤ 60 := Nat.le_trans (List.length_filter_le _ _) (jn_len h e)
theorem take_map_snoc {α β : Type} (f : α → β) (l : List α) (i : Nat) (x : α) (h : l[i]? = some x) : (l.take (i + 1)).map f = (l.take i).map f ++ [f x] := by
  rw [List.take_add_one, h, List.map_append]; rfl

abbrev s_moves_of : Stmt := top 13
theorem sc_moves_of : FnScope ["line", "train", "told", "end"] ["line", "train"] (defScope s_moves_of) := ⟨rfl, rfl, rfl, by decide +kernel, rfl, by decide +kernel, by decide +kernel⟩

section
variable {P : Program} {w : World} {K : PySem.W.Frag} {mg : Str → Option Value} {base : Heap} {f : Addr} {fd : FuncData}
theorem ok_moves_of {f1 f2 : Addr} {fd1 fd2 : FuncData} (F : Fn K mg "moves_of" s_moves_of ["line", "train"] f fd) (F_other_end : Fn K mg "other_end" s_other_end ["end"] f1 fd1) (F_free_ends : Fn K mg "free_ends" s_free_ends ["line", "train", "end"] f2 fd2)
    (G_free_ends : FnOk P w K mg base CX0 2 f2 fd2 ["line", "train", "end"] (sp_free K)) : FnOk P w K mg base CX0 3 f fd ["line", "train"] (sp_moves K) := by
  have G_other_end : FnOk P w K mg base CX0 1 f1 fd1 ["end"] sp_other := ok_other_end F_other_end
  refine F.F.ok sc_moves_of (fun vs H Q E h => ?_) (fun cdv A outer s H vs Q E hr h => ?_)
  · obtain ⟨v, u, l, ns, rfl, _⟩ := h; rfl
  · obtain ⟨v, u, l, ns, rfl, hv, hu, ok, hne, hz, k⟩ := h
    obtain ⟨a, rfl, hS⟩ := da_ints.mp hu
    refine ⟨_, (pss_cons (ps_set (i := 2) sc_moves_of.nd rfl (Or.inl rfl) (pe_lst pa_nil))
 (pss_cons (ps_for PassesOwn.never rfl (pi_list (pe_call G_free_ends (hr.mono (by decide)) rfl F_free_ends.m F_free_ends.F.kp F_free_ends.b .nil pass0 (pa_cons (pv 0) (pa_cons (pv 1) (pa_cons (pe_call G_other_end (hr.mono (by decide)) rfl F_other_end.m F_other_end.F.kp F_other_end.b .nil pass0 (pa_cons (pe_ix ix_list (pv 1) (pe_un un_neg pe_int) (fun _ _ => rfl)) pa_nil)) pa_nil))))) (pg_name (i := 3) sc_moves_of.nd rfl (Or.inl rfl))
  (pss_one (ps_expr (pe_bm PySem.F.plainAttrs_list PySem.F.slot_list_append PySem.F.type_list_append mt_append (pv 2) (pa_cons (pe_tup (pa_cons (pe_tup (pa_cons pe_str (pa_cons (pv 3) pa_nil))) (pa_cons (pe_op op_cat (pe_slice sl_list (pv 1) (po_some pe_int) po_none) (pe_lst (pa_cons (pv 3) pa_nil))) pa_nil))) pa_nil)))))
 (pss_cons (ps_for PassesOwn.never rfl (pi_list (pe_call G_free_ends (hr.mono (by decide)) rfl F_free_ends.m F_free_ends.F.kp F_free_ends.b .nil pass0 (pa_cons (pv 0) (pa_cons (pv 1) (pa_cons (pe_ix ix_list (pv 1) pe_int (fun _ _ => rfl)) pa_nil))))) (pg_name (i := 3) sc_moves_of.nd rfl (Or.inl rfl))
  (pss_one (ps_expr (pe_bm PySem.F.plainAttrs_list PySem.F.slot_list_append PySem.F.type_list_append mt_append (pv 2) (pa_cons (pe_tup (pa_cons (pe_tup (pa_cons pe_str (pa_cons (pv 3) pa_nil))) (pa_cons (pe_op op_cat (pe_lst (pa_cons (pe_call G_other_end (hr.mono (by decide)) rfl F_other_end.m F_other_end.F.kp F_other_end.b .nil pass0 (pa_cons (pv 3) pa_nil)) pa_nil)) (pe_slice sl_list (pv 1) po_none (po_some (pe_un un_neg pe_int)))) pa_nil))) pa_nil)))))
 (pss_one (ps_ret (pv 2)))))), ?_⟩
    -- told = []
    refine ⟨Nat.zero_le _, fun t ht => ?_⟩
    have s1 : Same H (upd H t (.lst [])) := same_upd ht
    -- on
    refine ⟨_, rfl, _, rfl, _, rfl, _, rfl, a, _, _, _, rfl, rfl, s1.seq hS, at_last hne, _, rfl, v, _, l, ns, _, rfl, Da.same s1 hv, Da.same s1 hu, ok, by omega, fun p H2 s2 hp hp2 => ?_⟩
    have nt : p ≠ t := (ne_of_none upd_same hp).symm
    have lenO := fr_len ok ns (oth (ns.getLastD 0))
    have lenB := fr_len ok ns (ns.headD 0)
    refine ⟨p, rfl, ⟨_, SqL.of hp2⟩, for_list (K := K) (a := p) (xs := (fr l ns (oth (ns.getLastD 0))).map V.int) (fun i σ H3 => ∃ (vs : List V) (x : Option V), σ = [some v, some (.ref a), some (.ref t), x] ∧ Same H H3 ∧ H3 p = some (.lst ((fr l ns (oth (ns.getLastD 0))).map V.int)) ∧ H3 t = some (.lst vs) ∧
        Dgs (Lf H H3 t) (SqT K H3) ((((fr l ns (oth (ns.getLastD 0))).take i).map (onM ns)).map dMv) vs)
      ⟨[], none, rfl, s1.trans s2, hp2, s2 _ _ upd_same, dgs_nil.mpr rfl⟩ (fun i σ H3 _ ⟨_, _, _, _, h, _⟩ => SqL.of h) ?_ ?_⟩
    · rintro i y σ H3 hi ⟨vs, x, rfl, S3, hp3, ht3, D⟩
      rw [List.getElem?_map] at hi
      cases q : (fr l ns (oth (ns.getLastD 0)))[i]? with
      | none => rw [q] at hi; cases hi
      | some e =>
        rw [q] at hi
        cases hi
        have hil : i < (fr l ns (oth (ns.getLastD 0))).length := (List.getElem?_eq_some_iff.mp q).1
        refine ⟨_, rfl, .inl ⟨rfl, _, SqL.of ht3⟩, _, rfl, by show 2 ≤ sizeLine; decide, fun p1 n1 => ?_⟩
        refine ⟨_, rfl, _, rfl, a, _, rfl, (S3.trans (same_upd n1)).seq hS, fun p2 n2 => ?_⟩
        refine ⟨_, rfl, by show 1 ≤ sizeLine; decide, fun p3 n3 => ?_⟩
        rw [cut_tail] at n3 ⊢
        refine ⟨p2, p3, _, _, rfl, rfl, by rw [upd_ne (ne_of_none upd_same n3), upd_same], upd_same, ?_, fun p4 n4 => ?_⟩
        · refine Nat.le_of_lt (small_line ?_)
          rw [List.length_map, List.length_drop]
          show ns.length - 1 + 1 ≤ 1000
          omega
        refine ⟨by show 2 ≤ sizeLine; decide, fun p5 n5 => ?_⟩
        have S5 : Same H3 _ := (same_upd n1).trans ((same_upd n2).trans ((same_upd n3).trans ((same_upd n4).trans (same_upd (o := .tup [.ref p1, .ref p4]) n5))))
        have lv : vs.length ≤ 60 := by rw [D.length, List.length_map, List.length_map, List.length_take]; omega
        refine ⟨t, vs, _, rfl, rfl, S5 _ _ ht3, small_line (by omega), ?_⟩
        have g1 : Same (upd H3 p1 (.tup [.str "on", .int e])) _ := (same_upd n2).trans ((same_upd n3).trans ((same_upd n4).trans (same_upd (o := .tup [.ref p1, .ref p4]) n5)))
        have := push_move (w := "on") (e := e) (xs := ns.drop 1 ++ [e]) S3 ht ht3 D S5 (g1 _ _ upd_same) (Same.free ((same_upd n1).trans ((same_upd n2).trans (same_upd n3))) n4) (by rw [upd_ne (ne_of_none upd_same n5), upd_same, List.map_append]; rfl) upd_same
        obtain ⟨r1, r2, r3⟩ := this
        refine ⟨_, _, rfl, r1, ?_, r2, ?_⟩
        · rw [upd_ne nt]; exact S5 _ _ hp3
        · rw [take_map_snoc (onM ns) _ i e q]; exact r3
    -- back
    rintro σ H3 ⟨vs, x, rfl, S3, hp3, ht3, D⟩
    rw [List.length_map, List.take_length] at D
    refine ⟨_, rfl, _, rfl, _, rfl, a, _, _, _, rfl, rfl, S3.seq hS, at_first hne, v, _, l, ns, _, rfl, Da.same S3 hv, Da.same S3 hu, ok, by omega, fun p' H4 s4 hp' hp4 => ?_⟩
    have nt' : p' ≠ t := (ne_of_none ht3 hp').symm
    have D4 : Dgs (Lf H H4 t) (SqT K H4) (((fr l ns (oth (ns.getLastD 0))).map (onM ns)).map dMv) vs := Dgs.mono (fun a us ⟨h1, h2, h3⟩ => ⟨s4 _ _ h1, h2, h3⟩) (fun a us h => same_tseq s4 h) D
    refine ⟨p', rfl, ⟨_, SqL.of hp4⟩, for_list (K := K) (a := p') (xs := (fr l ns (ns.headD 0)).map V.int) (fun i σ H3 => ∃ (vs : List V) (x : Option V), σ = [some v, some (.ref a), some (.ref t), x] ∧ Same H H3 ∧ H3 p' = some (.lst ((fr l ns (ns.headD 0)).map V.int)) ∧ H3 t = some (.lst vs) ∧
        Dgs (Lf H H3 t) (SqT K H3) (((fr l ns (oth (ns.getLastD 0))).map (onM ns) ++ ((fr l ns (ns.headD 0)).take i).map (backM ns)).map dMv) vs)
      ⟨vs, x, rfl, S3.trans s4, hp4, s4 _ _ ht3, by simpa using D4⟩ (fun i σ H3 _ ⟨_, _, _, _, h, _⟩ => SqL.of h) ?_ ?_⟩
    · rintro i y σ H3 hi ⟨vs, x, rfl, S3, hp3, ht3, D⟩
      rw [List.getElem?_map] at hi
      cases q : (fr l ns (ns.headD 0))[i]? with
      | none => rw [q] at hi; cases hi
      | some e =>
        rw [q] at hi
        cases hi
        have hil : i < (fr l ns (ns.headD 0)).length := (List.getElem?_eq_some_iff.mp q).1
        refine ⟨_, rfl, .inl ⟨rfl, _, SqL.of ht3⟩, _, rfl, by show 2 ≤ sizeLine; decide, fun p1 n1 => ?_⟩
        refine ⟨_, rfl, e, rfl, by show 1 ≤ sizeLine; decide, fun p2 n2 => ?_⟩
        refine ⟨_, rfl, _, rfl, _, rfl, a, _, rfl, (S3.trans ((same_upd n1).trans (same_upd n2))).seq hS, fun p3 n3 => ?_⟩
        have ec : cutV (ns.map V.int) none (some (-1)) = ns.dropLast.map V.int := cut_init ns
        refine ⟨p2, p3, _, _, rfl, rfl, by rw [upd_ne (ne_of_none upd_same n3), upd_same], upd_same, ?_, fun p4 n4 => ?_⟩
        · refine Nat.le_of_lt (small_line ?_)
          show 1 + (cutV (ns.map V.int) none (some (-1))).length ≤ 1000
          rw [ec, List.length_map, List.length_dropLast]
          omega
        refine ⟨by show 2 ≤ sizeLine; decide, fun p5 n5 => ?_⟩
        have S5 : Same H3 _ := (same_upd n1).trans ((same_upd n2).trans ((same_upd n3).trans ((same_upd n4).trans (same_upd (o := .tup [.ref p1, .ref p4]) n5))))
        have lv : vs.length ≤ 120 := by rw [D.length, List.length_map, List.length_append, List.length_map, List.length_map, List.length_take]; omega
        refine ⟨t, vs, _, rfl, rfl, S5 _ _ ht3, small_line (by omega), ?_⟩
        have g1 : Same (upd H3 p1 (.tup [.str "back", .int e])) _ := (same_upd n2).trans ((same_upd n3).trans ((same_upd n4).trans (same_upd (o := .tup [.ref p1, .ref p4]) n5)))
        have := push_move (w := "back") (e := e) (xs := oth e :: ns.dropLast) S3 ht ht3 D S5 (g1 _ _ upd_same) (Same.free ((same_upd n1).trans ((same_upd n2).trans (same_upd n3))) n4) (by
          rw [upd_ne (ne_of_none upd_same n5), upd_same]
          show some (HO.lst ([V.int (oth e)] ++ cutV (ns.map V.int) none (some (-1)))) = _
          rw [ec]; rfl) upd_same
        obtain ⟨r1, r2, r3⟩ := this
        refine ⟨_, _, rfl, r1, ?_, r2, ?_⟩
        · rw [upd_ne nt']; exact S5 _ _ hp3
        · rw [take_map_snoc (backM ns) _ i e q, ← List.append_assoc]; exact r3
    rintro σ H3 ⟨vs, x, rfl, S3, hp3, ht3, D⟩
    rw [List.length_map, List.take_length] at D
    exact ⟨_, rfl, k t vs H3 S3 ht ht3 D⟩
end
end K07
set_option Elab.async false
set_option linter.all false
set_option maxRecDepth 100000
set_option maxHeartbeats 4000000
namespace K07
open PySem L2 TL PyProof.Rows
theorem small_l {n : Nat} (h : n ≤ 1000) : n < sizeLine := Nat.lt_of_le_of_lt h (by decide)
def sp_row (K : PySem.W.Frag) : Sp := fun vs H Q _ => ∃ n m : Int, vs = [.int n, .int m] ∧ 0 ≤ m ∧ m ≤ 40 ∧ ∀ (p : Addr) (ns : List Int) (H' : Hp), Same H H' → H p = none → H' p = some (.lst (ns.map V.int)) → (ns.length : Int) = m → (∀ x ∈ ns, 0 ≤ x ∧ x < m) → ns.Nodup → Q (.ref p) H'
def NewLine (K : PySem.W.Frag) (H : Hp) (Q : VK) : Prop := ∀ (v : V) (l : Int × List (Int × Int)) (H' : Hp), Same H H' → Da K H' (dL l) v → LineOk l → l.2.length ≤ 24 → Q v H'
def sp_renamed (K : PySem.W.Frag) : Sp := fun vs H Q _ => ∃ (v : V) (l : Int × List (Int × Int)) (c : Int), vs = [v, .int c] ∧ Da K H (dL l) v ∧ 1 ≤ l.1 ∧ l.1 ≤ 40 ∧ l.2.length ≤ 24 ∧ (∀ p ∈ l.2, (0 ≤ p.1 ∧ p.1 < 2 * l.1) ∧ (0 ≤ p.2 ∧ p.2 < 2 * l.1)) ∧ K07.NewLine K H Q
abbrev s_law_turned_row : Stmt := top 18
theorem sc_law_turned_row : FnScope ["_law_number", "_law_many", "_law_told", "_law_k"] ["_law_number", "_law_many"] (defScope s_law_turned_row) := ⟨rfl, rfl, rfl, by decide +kernel, rfl, by decide +kernel, by decide +kernel⟩

abbrev s_law_renamed : Stmt := top 22
theorem sc_law_renamed : FnScope ["_law_line_here", "_law_cell", "_law_many", "_law_joints", "_law_names", "_law_ends", "_law_piece", "_law_flip", "_law_made", "_law_k", "_law_a", "_law_b", "_law_joint"] ["_law_line_here", "_law_cell"] (defScope s_law_renamed) := ⟨rfl, rfl, rfl, by decide +kernel, rfl, by decide +kernel, by decide +kernel⟩

section
variable {P : Program} {w : World} {K : PySem.W.Frag} {mg : Str → Option Value} {base : Heap} {f : Addr} {fd : FuncData}
theorem ok_law_turned_row (F : Fn K mg "_law_turned_row" s_law_turned_row ["_law_number", "_law_many"] f fd) (B : Bl mg) : FnOk P w K mg base CX0 1 f fd ["_law_number", "_law_many"] (sp_row K) := by
  refine F.F.ok sc_law_turned_row (fun vs H Q E h => ?_) (fun cdv A outer s H vs Q E hr h => ?_)
  · obtain ⟨n, m, rfl, _⟩ := h; rfl
  · obtain ⟨n, m, rfl, h0, h1, k⟩ := h
    refine ⟨_, (pss_cons (ps_set (i := 2) sc_law_turned_row.nd rfl (Or.inl rfl) (pe_lst pa_nil))
 (pss_cons (ps_for PassesOwn.never rfl (pi_range1 rfl B.range (pa_cons (pv 1) pa_nil)) (pg_name (i := 3) sc_law_turned_row.nd rfl (Or.inl rfl))
  (pss_cons (ps_expr (pe_bm PySem.F.plainAttrs_list PySem.F.slot_list_insert PySem.F.type_list_insert mt_insert (pv 2) (pa_cons (pe_op op_mod (pv 0) (pe_op op_add (pv 3) pe_int)) (pa_cons (pv 3) pa_nil))))
 (pss_one (ps_set (i := 0) sc_law_turned_row.nd rfl (Or.inl rfl) (pe_op op_fdiv (pv 0) (pe_op op_add (pv 3) pe_int))))))
 (pss_one (ps_ret (pv 2))))), ?_⟩
    refine ⟨Nat.zero_le _, fun t ht => ?_⟩
    refine ⟨_, rfl, m, rfl, by omega, by omega, for_range (fun i σ H3 => ∃ (n : Int) (ns : List Int) (x : Option V), σ = [some (.int n), some (.int m), some (.ref t), x] ∧ H3 = upd H t (.lst (ns.map V.int)) ∧ ns.length = i ∧ (∀ x ∈ ns, 0 ≤ x ∧ x < (i : Int)) ∧ ns.Nodup)
      ⟨n, [], none, rfl, rfl, rfl, fun x hx => (nomatch hx), List.nodup_nil⟩ ?_ ?_⟩
    · rintro i σ H3 hi ⟨n, ns, x, rfl, rfl, hlen, hb, hnd⟩
      have i0 : (0 : Int) + (i : Nat) = (i : Int) := by omega
      rw [i0]
      have r0 : 0 ≤ n % ((i : Int) + 1) := Int.emod_nonneg _ (by omega)
      have r1 : n % ((i : Int) + 1) < (i : Int) + 1 := Int.emod_lt_of_pos _ (by omega)
      refine ⟨_, rfl, .inl ⟨rfl, _, SqL.of upd_same⟩, _, rfl, _, rfl, _, _, rfl, rfl, _, _, rfl, rfl, (by show (0 : Int) < (i : Int) + 1; omega), _, rfl, t, _, _, _, rfl, rfl, upd_same, r0, ?_, ?_, ?_⟩
      · show n % ((i : Int) + 1) ≤ ((ns.map V.int).length : Int)
        rw [List.length_map, hlen]; omega
      · rw [List.length_map, hlen]; exact small_l (by omega)
      refine ⟨_, rfl, _, rfl, _, _, rfl, rfl, _, _, rfl, rfl, ⟨by show (0 : Int) < (i : Int) + 1; omega, by show (i : Int) + 1 < 1073741824; omega⟩, ?_⟩
      have pm := perm_ins ns (n % ((i : Int) + 1)).toNat (i : Int)
      refine ⟨_, ns.take (n % ((i : Int) + 1)).toNat ++ (i : Int) :: ns.drop (n % ((i : Int) + 1)).toNat, _, rfl, ?_, ?_, ?_, ?_⟩
      · rw [upd_upd, List.map_append, List.map_cons, List.map_take, List.map_drop]
      · rw [pm.length_eq, List.length_cons, hlen]
      · intro x hx
        rcases List.mem_cons.mp (pm.mem_iff.mp hx) with z | z
        · omega
        · have := hb x z; omega
      · refine pm.nodup_iff.mpr (List.nodup_cons.mpr ⟨fun z => ?_, hnd⟩)
        have := (hb _ z).2
        omega
    · rintro σ H3 ⟨n, ns, x, rfl, rfl, hlen, hb, hnd⟩
      exact ⟨_, rfl, k t ns _ (same_upd ht) ht upd_same (by omega) (fun x hx => by have := hb x hx; omega) hnd⟩
end
end K07
set_option Elab.async false
set_option linter.all false
set_option maxRecDepth 100000
set_option maxHeartbeats 4000000
namespace K07
open PySem L2 TL PyProof.Rows
section
variable {P : Program} {w : World} {K : PySem.W.Frag} {mg : Str → Option Value} {base : Heap} {f : Addr} {fd : FuncData}
theorem ok_law_renamed {f1 f2 : Addr} {fd1 fd2 : FuncData} (F : Fn K mg "_law_renamed" s_law_renamed ["_law_line_here", "_law_cell"] f fd) (F_law_mix : Fn K mg "_law_mix" s_law_mix ["_law_cell", "_law_k"] f1 fd1) (F_law_turned_row : Fn K mg "_law_turned_row" s_law_turned_row ["_law_number", "_law_many"] f2 fd2)
    (B : Bl mg) : FnOk P w K mg base CX0 2 f fd ["_law_line_here", "_law_cell"] (sp_renamed K) := by
  have G_law_mix : FnOk P w K mg base CX0 1 f1 fd1 ["_law_cell", "_law_k"] sp_mix := ok_law_mix F_law_mix B
  have G_law_turned_row : FnOk P w K mg base CX0 1 f2 fd2 ["_law_number", "_law_many"] (sp_row K) := ok_law_turned_row F_law_turned_row B
  refine F.F.ok sc_law_renamed (fun vs H Q E h => ?_) (fun cdv A outer s H vs Q E hr h => ?_)
  · obtain ⟨v, l, c, rfl, _⟩ := h; rfl
  · obtain ⟨v, ⟨m, js⟩, c, rfl, hv, h1, h40, hjl, hjb, k⟩ := h
    obtain ⟨a, b, rfl, ht, us, hl, hq⟩ := da_line hv
    dsimp only at ht h1 h40 hjl hjb hq
    refine ⟨_, (pss_cons (ps_asg (pv 0) (pg_tup (n := 2) rfl (pgs_cons (pg_name (i := 2) sc_law_renamed.nd rfl (Or.inl rfl)) (pgs_cons (pg_name (i := 3) sc_law_renamed.nd rfl (Or.inl rfl)) pgs_nil))))
 (pss_cons (ps_set (i := 4) sc_law_renamed.nd rfl (Or.inl rfl) (pe_call G_law_turned_row (hr.mono (by decide)) rfl F_law_turned_row.m F_law_turned_row.F.kp F_law_turned_row.b .nil pass0 (pa_cons (pe_call G_law_mix (hr.mono (by decide)) rfl F_law_mix.m F_law_mix.F.kp F_law_mix.b .nil pass0 (pa_cons (pv 1) (pa_cons pe_int pa_nil))) (pa_cons (pv 2) pa_nil))))
 (pss_cons (ps_set (i := 5) sc_law_renamed.nd rfl (Or.inl rfl) (pe_lst pa_nil))
 (pss_cons (ps_for PassesOwn.never rfl (pi_range1 rfl B.range (pa_cons (pv 2) pa_nil)) (pg_name (i := 6) sc_law_renamed.nd rfl (Or.inl rfl))
  (pss_cons (ps_set (i := 7) sc_law_renamed.nd rfl (Or.inl rfl) (pe_op op_mod (pe_call G_law_mix (hr.mono (by decide)) rfl F_law_mix.m F_law_mix.F.kp F_law_mix.b .nil pass0 (pa_cons (pv 1) (pa_cons (pe_op op_add pe_int (pv 6)) pa_nil))) pe_int))
 (pss_one (ps_set (i := 5) sc_law_renamed.nd rfl (Or.inl rfl) (pe_op op_cat (pv 5) (pe_lst (pa_cons (pe_op op_add (pe_op op_mul pe_int (pe_ix ix_list (pv 4) (pv 6) (fun _ _ => rfl))) (pv 7)) (pa_cons (pe_op op_sub (pe_op op_add (pe_op op_mul pe_int (pe_ix ix_list (pv 4) (pv 6) (fun _ _ => rfl))) pe_int) (pv 7)) pa_nil))))))))
 (pss_cons (ps_set (i := 8) sc_law_renamed.nd rfl (Or.inl rfl) (pe_lst pa_nil))
 (pss_cons (ps_for PassesOwn.never rfl (pi_enum rfl B.enumerate (pa_cons (pv 3) pa_nil)) (pg_tup (n := 2) rfl (pgs_cons (pg_name (i := 9) sc_law_renamed.nd rfl (Or.inl rfl)) (pgs_cons (pg_tup (n := 2) rfl (pgs_cons (pg_name (i := 10) sc_law_renamed.nd rfl (Or.inl rfl)) (pgs_cons (pg_name (i := 11) sc_law_renamed.nd rfl (Or.inl rfl)) pgs_nil))) pgs_nil)))
  (pss_cons (ps_set (i := 12) sc_law_renamed.nd rfl (Or.inl rfl) (pe_tup (pa_cons (pe_callB (call_min2 rfl) rfl B.min boot_min (pa_cons (pe_ix ix_list (pv 5) (pv 10) (fun _ _ => rfl)) (pa_cons (pe_ix ix_list (pv 5) (pv 11) (fun _ _ => rfl)) pa_nil))) (pa_cons (pe_callB (call_max2 rfl) rfl B.max boot_max (pa_cons (pe_ix ix_list (pv 5) (pv 10) (fun _ _ => rfl)) (pa_cons (pe_ix ix_list (pv 5) (pv 11) (fun _ _ => rfl)) pa_nil))) pa_nil))))
 (pss_one (ps_expr (pe_bm PySem.F.plainAttrs_list PySem.F.slot_list_insert PySem.F.type_list_insert mt_insert (pv 8) (pa_cons (pe_op op_mod (pe_call G_law_mix (hr.mono (by decide)) rfl F_law_mix.m F_law_mix.F.kp F_law_mix.b .nil pass0 (pa_cons (pv 1) (pa_cons (pe_op op_add pe_int (pv 9)) pa_nil))) (pe_op op_add (pv 9) pe_int)) (pa_cons (pv 12) pa_nil)))))))
 (pss_one (ps_ret (pe_tup (pa_cons (pv 2) (pa_cons (pv 8) pa_nil))))))))))), ?_⟩
    refine ⟨_, rfl, a, _, rfl, ht, rfl, _, _, rfl, _, _, rfl, rfl, ?_⟩
    refine ⟨_, rfl, c, 0, rfl, by decide, by decide, fun n n0 n1 => ⟨_, rfl, n, m, rfl, by omega, h40, fun pn nm H1 s1 hn1 hn2 nlen nb nnd => ?_⟩⟩
    refine ⟨Nat.zero_le _, fun q0 nq0 => ?_⟩
    refine ⟨_, rfl, m, rfl, by omega, by omega, for_range (fun i σ H3 => ∃ (q : Addr) (es : List Int) (x6 x7 : Option V), σ = [some (.ref a), some (.int c), some (.int m), some (.ref b), some (.ref pn), some (.ref q), x6, x7, none, none, none, none, none] ∧ Same H1 H3 ∧ H3 q = some (.lst (es.map V.int)) ∧ es.length = 2 * i ∧ (∀ x ∈ es, 0 ≤ x ∧ x < 2 * m))
      ⟨q0, [], none, none, rfl, same_upd nq0, upd_same, rfl, fun x hx => (nomatch hx)⟩ ?_ ?_⟩
    · rintro i σ H3 hi ⟨q, es, x6, x7, rfl, S3, hq3, elen, eb⟩
      have i0 : (0 : Int) + (i : Nat) = (i : Int) := by omega
      rw [i0]
      obtain ⟨nx, hnx, hmem, hat⟩ := at_int (ns := nm) (i := (i : Int)) (by omega) (by omega)
      have nbx := nb nx hmem
      have hSn : SqL K H3 pn (nm.map V.int) := SqL.of (S3 _ _ hn2)
      refine ⟨_, rfl, _, rfl, _, _, rfl, rfl, c, _, rfl, by show (0 : Int) ≤ 20 + i; omega, by show 20 + (i : Int) ≤ 1000; omega, fun n n0 n1 => ⟨_, _, rfl, rfl, (by show (0 : Int) < _; decide), ?_⟩⟩
      refine ⟨_, rfl, _, rfl, _, rfl, pn, _, _, _, rfl, rfl, hSn, hat, _, _, rfl, rfl, .inl ⟨by decide, by decide⟩, _, rfl, _, _, rfl, rfl, _, rfl, _, rfl, pn, _, _, _, rfl, rfl, hSn, hat, _, _, rfl, rfl, .inl ⟨by decide, by decide⟩, _, _, rfl, rfl, _, rfl, _, _, rfl, rfl, by show 2 ≤ sizeLine; decide, fun q1 nq1 => ?_⟩
      refine ⟨q, q1, _, _, rfl, rfl, by rw [upd_ne (ne_of_none hq3 nq1)]; exact hq3, upd_same, ?_, fun q2 nq2 => ?_⟩
      · refine Nat.le_of_lt (small_l ?_)
        rw [List.length_map, elen]
        show 2 * i + 2 ≤ 1000
        omega
      refine ⟨q2, es ++ [2 * nx + n % 2, 2 * nx + 1 - n % 2], _, _, rfl, S3.trans ((same_upd nq1).trans (same_upd nq2)), ?_, ?_, ?_⟩
      · rw [upd_same, List.map_append]; rfl
      · rw [List.length_append, elen]; show 2 * i + 2 = _; omega
      · intro x hx
        rcases List.mem_append.mp hx with z | z
        · exact eb x z
        · have z : x = 2 * nx + n % 2 ∨ x = 2 * nx + 1 - n % 2 := by simpa using z
          omega
    rintro σ H3 ⟨q, es, x6, x7, rfl, S3, hq3, elen, eb⟩
    refine ⟨Nat.zero_le _, fun t nt => ?_⟩
    have hl3 : SqL K H3 b us := (s1.trans S3).seq hl
    have hq4 : Das K H3 (js.map dP) us := Das.same (s1.trans S3) hq
    have hul : us.length = js.length := by rw [Dgs.length hq, List.length_map]
    refine ⟨_, rfl, b, rfl, ⟨us, (same_upd nt).seq hl3⟩, for_enum (K := K) (a := b) (xs := us) (fun i σ H4 => ∃ (vs : List V) (js' : List (Int × Int)) (x9 x10 x11 x12 : Option V), σ = [some (.ref a), some (.int c), some (.int m), some (.ref b), some (.ref pn), some (.ref q), x6, x7, some (.ref t), x9, x10, x11, x12] ∧ Same H3 H4 ∧ H4 t = some (.lst vs) ∧ Ps K H4 js' vs ∧ js'.length = i ∧ ∀ p ∈ js', 0 ≤ p.1 ∧ p.1 ≤ p.2 ∧ p.2 < 2 * m)
      ⟨[], [], none, none, none, none, rfl, same_upd nt, upd_same, dgs_nil.mpr rfl, rfl, fun p hp => (nomatch hp)⟩ (fun i σ H4 _ ⟨_, _, _, _, _, _, _, S4, _⟩ => S4.seq hl3) ?_ ?_⟩
    · rintro i x σ H4 p0 hi ⟨vs, js', x9, x10, x11, x12, rfl, S4, ht4, D, jlen, jb⟩ n0
      have hil : i < us.length := (List.getElem?_eq_some_iff.mp hi).1
      have S5 : Same H3 (upd H4 p0 (.tup [.int i, x])) := S4.trans (same_upd n0)
      obtain ⟨ad, ⟨ea, eb'⟩, e1, rfl, hpr⟩ := das_pair (Das.same S5 hq4) hi
      dsimp only at hpr
      have hbd := hjb (ea, eb') (List.mem_of_getElem? e1)
      dsimp only at hbd
      obtain ⟨xa, _, ma, hata⟩ := at_int (ns := es) (i := ea) hbd.1.1 (by omega)
      obtain ⟨xb, _, mb, hatb⟩ := at_int (ns := es) (i := eb') hbd.2.1 (by omega)
      have ba := eb xa ma
      have bb := eb xb mb
      refine ⟨p0, _, rfl, SqT.of upd_same, rfl, _, _, rfl, _, _, rfl, ad, _, rfl, hpr, rfl, _, _, rfl, _, _, rfl, rfl, rfl, ?_⟩
      have hSe : SqL K (upd H4 p0 (.tup [.int i, .ref ad])) q (es.map V.int) := SqL.of (S5 _ _ hq3)
      refine ⟨_, rfl, _, rfl, q, _, _, _, rfl, rfl, hSe, hata, _, rfl, _, rfl, q, _, _, _, rfl, rfl, hSe, hatb, _, _, rfl, ?_⟩
      refine ⟨_, rfl, _, rfl, q, _, _, _, rfl, rfl, hSe, hata, _, rfl, _, rfl, q, _, _, _, rfl, rfl, hSe, hatb, _, _, rfl, by show 2 ≤ sizeLine; decide, fun p1 n1 => ?_⟩
      rw [min_if, max_if]
      have ht5 : (upd (upd H4 p0 (.tup [.int i, .ref ad])) p1 (.tup [.int (min xa xb), .int (max xa xb)])) t = some (.lst vs) := ((same_upd n0).trans (same_upd n1)) _ _ ht4
      have vl : vs.length = i := by rw [D.len, jlen]
      refine ⟨_, rfl, .inl ⟨rfl, _, SqL.of ht5⟩, _, rfl, _, rfl, _, _, rfl, rfl, c, _, rfl, by show (0 : Int) ≤ 40 + i; omega, by show 40 + (i : Int) ≤ 1000; omega, fun n n0' n1' => ⟨_, rfl, _, _, rfl, rfl, _, _, rfl, rfl, (by show (0 : Int) < (i : Int) + 1; omega), _, rfl, t, vs, _, _, rfl, rfl, ht5, ?_, ?_, small_l (by omega), ?_⟩⟩
      · exact Int.emod_nonneg _ (by omega)
      · have := Int.emod_lt_of_pos n (show (0 : Int) < (i : Int) + 1 by omega)
        show n % ((i : Int) + 1) ≤ (vs.length : Int)
        omega
      have pm := perm_ins js' (n % ((i : Int) + 1)).toNat (min xa xb, max xa xb)
      refine ⟨_, js'.take (n % ((i : Int) + 1)).toNat ++ (min xa xb, max xa xb) :: js'.drop (n % ((i : Int) + 1)).toNat, _, _, _, _, rfl, Same.upd (S4.trans ((same_upd n0).trans (same_upd n1))) nt, upd_same, ?_, ?_, ?_⟩
      · exact Ps.ins (x := (min xa xb, max xa xb)) _ (D.same ((same_upd n0).trans (same_upd n1))) ht5 upd_same
      · rw [pm.length_eq, List.length_cons, jlen]
      · intro p hp
        rcases List.mem_cons.mp (pm.mem_iff.mp hp) with z | z
        · subst z
          dsimp only
          omega
        · exact jb p z
    rintro σ H4 ⟨vs, js', x9, x10, x11, x12, rfl, S4, ht4, D, jlen, jb⟩
    refine ⟨_, rfl, _, rfl, by show 2 ≤ sizeLine; decide, fun p np => ?_⟩
    have S5 := (same_upd (o := .tup [.int m, .ref t]) np)
    refine k _ (m, js') _ (s1.trans (S3.trans (S4.trans S5))) (da_mkline upd_same ((D.same S5).da (S5 _ _ ht4))) ⟨h1, h40, ?_, fun e => ?_, jb⟩ (by show js'.length ≤ 24; omega)
    · show js'.length ≤ 80; omega
    · have := inc_le js' e
      show inc js' e ≤ 60
      omega
end
end K07
set_option Elab.async false
set_option linter.all false
set_option maxRecDepth 100000
set_option maxHeartbeats 4000000
namespace K07
open PySem L2 TL PyProof.Rows
def sp_line (K : PySem.W.Frag) : Sp := fun vs H Q _ => ∃ (a : Addr) (ns : List Int), vs = [.ref a] ∧ SqL K H a (ns.map V.int) ∧ K07.NewLine K H Q
abbrev s_law_line : Stmt := top 21
theorem sc_law_line : FnScope ["_law_script", "_law_cell", "_law_many", "_law_joints", "_law_k", "_law_number", "_law_one", "_law_other_here"] ["_law_script"] (defScope s_law_line) := ⟨rfl, rfl, rfl, by decide +kernel, rfl, by decide +kernel, by decide +kernel⟩

section
variable {P : Program} {w : World} {K : PySem.W.Frag} {mg : Str → Option Value} {base : Heap} {f : Addr} {fd : FuncData}
theorem ok_law_line {f1 f2 f3 f4 : Addr} {fd1 fd2 fd3 fd4 : FuncData} (F : Fn K mg "_law_line" s_law_line ["_law_script"] f fd) (F_law_mix : Fn K mg "_law_mix" s_law_mix ["_law_cell", "_law_k"] f1 fd1) (F_law_cell_at : Fn K mg "_law_cell_at" s_law_cell_at ["_law_script", "_law_k"] f2 fd2)
    (F_law_other : Fn K mg "_law_other" s_law_other ["_law_end"] f3 fd3) (F_law_renamed : Fn K mg "_law_renamed" s_law_renamed ["_law_line_here", "_law_cell"] f4 fd4) (G_law_renamed : FnOk P w K mg base CX0 2 f4 fd4 ["_law_line_here", "_law_cell"] (sp_renamed K))
    (B : Bl mg) : FnOk P w K mg base CX0 3 f fd ["_law_script"] (sp_line K) := by
  have G_law_mix : FnOk P w K mg base CX0 1 f1 fd1 ["_law_cell", "_law_k"] sp_mix := ok_law_mix F_law_mix B
  have G_law_cell_at : FnOk P w K mg base CX0 1 f2 fd2 ["_law_script", "_law_k"] (sp_cell K) := ok_law_cell_at F_law_cell_at B
  have G_law_other : FnOk P w K mg base CX0 1 f3 fd3 ["_law_end"] sp_other := ok_law_other F_law_other
  refine F.F.ok sc_law_line (fun vs H Q E h => ?_) (fun cdv A outer s H vs Q E hr h => ?_)
  · obtain ⟨a, ns, rfl, _⟩ := h; rfl
  · obtain ⟨a, ns, rfl, hS, k⟩ := h
    refine ⟨_, (pss_cons (ps_set (i := 1) sc_law_line.nd rfl (Or.inl rfl) (pe_call G_law_cell_at (hr.mono (by decide)) rfl F_law_cell_at.m F_law_cell_at.F.kp F_law_cell_at.b .nil pass0 (pa_cons (pv 0) (pa_cons pe_int pa_nil))))
 (pss_cons (ps_set (i := 2) sc_law_line.nd rfl (Or.inl rfl) (pe_op op_add pe_int (pe_op op_mod (pe_call G_law_mix (hr.mono (by decide)) rfl F_law_mix.m F_law_mix.F.kp F_law_mix.b .nil pass0 (pa_cons (pv 1) (pa_cons pe_int pa_nil))) pe_int)))
 (pss_cons (ps_if (pt_cmp (pc_eqI (pe_op op_mod (pe_call G_law_mix (hr.mono (by decide)) rfl F_law_mix.m F_law_mix.F.kp F_law_mix.b .nil pass0 (pa_cons (pv 1) (pa_cons pe_int pa_nil))) pe_int) pe_int))
  (pss_one (ps_set (i := 2) sc_law_line.nd rfl (Or.inl rfl) (pe_op op_add pe_int (pe_op op_mod (pe_call G_law_mix (hr.mono (by decide)) rfl F_law_mix.m F_law_mix.F.kp F_law_mix.b .nil pass0 (pa_cons (pv 1) (pa_cons pe_int pa_nil))) pe_int)))) pss_nil)
 (pss_cons (ps_set (i := 3) sc_law_line.nd rfl (Or.inl rfl) (pe_lst pa_nil))
 (pss_cons (ps_for PassesOwn.never rfl (pi_range1 rfl B.range (pa_cons (pe_op op_mod (pe_call G_law_mix (hr.mono (by decide)) rfl F_law_mix.m F_law_mix.F.kp F_law_mix.b .nil pass0 (pa_cons (pv 1) (pa_cons pe_int pa_nil))) (pe_op op_add (pe_op op_mul pe_int (pv 2)) pe_int)) pa_nil)) (pg_name (i := 4) sc_law_line.nd rfl (Or.inl rfl))
  (pss_cons (ps_set (i := 5) sc_law_line.nd rfl (Or.inl rfl) (pe_call G_law_mix (hr.mono (by decide)) rfl F_law_mix.m F_law_mix.F.kp F_law_mix.b .nil pass0 (pa_cons (pe_call G_law_cell_at (hr.mono (by decide)) rfl F_law_cell_at.m F_law_cell_at.F.kp F_law_cell_at.b .nil pass0 (pa_cons (pv 0) (pa_cons (pe_op op_add pe_int (pe_op op_mod (pv 4) pe_int)) pa_nil))) (pa_cons (pe_op op_add pe_int (pv 4)) pa_nil))))
 (pss_cons (ps_set (i := 6) sc_law_line.nd rfl (Or.inl rfl) (pe_op op_mod (pv 5) (pe_op op_mul pe_int (pv 2))))
 (pss_cons (ps_set (i := 7) sc_law_line.nd rfl (Or.inl rfl) (pe_op op_mod (pe_op op_fdiv (pv 5) pe_int) (pe_op op_mul pe_int (pv 2))))
 (pss_cons (ps_if (PW.pt (pw_and (pt_cmp (pc_eqI (pe_op op_mod (pe_call G_law_mix (hr.mono (by decide)) rfl F_law_mix.m F_law_mix.F.kp F_law_mix.b .nil pass0 (pa_cons (pv 1) (pa_cons pe_int pa_nil))) pe_int) pe_int)) (pw_and1 (pt_cmp (pc_eqI (pe_op op_mod (pv 6) pe_int) (pe_op op_mod (pv 7) pe_int))))))
  (pss_one (ps_set (i := 7) sc_law_line.nd rfl (Or.inl rfl) (pe_call G_law_other (hr.mono (by decide)) rfl F_law_other.m F_law_other.F.kp F_law_other.b .nil pass0 (pa_cons (pv 7) pa_nil)))) pss_nil)
 (pss_one (ps_if (PW.pt (pw_and (pt_cmp (pc_neI (pe_op op_fdiv (pv 6) pe_int) (pe_op op_fdiv (pv 7) pe_int))) (pw_and (pt_cmpR (op_notInD hr.units) (pe_tup (pa_cons (pe_callB (call_min2 rfl) rfl B.min boot_min (pa_cons (pv 6) (pa_cons (pv 7) pa_nil))) (pa_cons (pe_callB (call_max2 rfl) rfl B.max boot_max (pa_cons (pv 6) (pa_cons (pv 7) pa_nil))) pa_nil))) (pv 3) (by with_unfolding_all rfl)) (pw_and1 (pt_cmp (pc_lt (pe_callB call_len_seq rfl B.len boot_len (pa_cons (pv 3) pa_nil)) pe_int))))))
  (pss_one (ps_expr (pe_bm PySem.F.plainAttrs_list PySem.F.slot_list_append PySem.F.type_list_append mt_append (pv 3) (pa_cons (pe_tup (pa_cons (pe_callB (call_min2 rfl) rfl B.min boot_min (pa_cons (pv 6) (pa_cons (pv 7) pa_nil))) (pa_cons (pe_callB (call_max2 rfl) rfl B.max boot_max (pa_cons (pv 6) (pa_cons (pv 7) pa_nil))) pa_nil))) pa_nil)))) pss_nil)))))))
 (pss_one (ps_ret (pe_call G_law_renamed (hr.mono (by decide)) rfl F_law_renamed.m F_law_renamed.F.kp F_law_renamed.b .nil pass0 (pa_cons (pe_tup (pa_cons (pv 2) (pa_cons (pv 3) pa_nil))) (pa_cons (pe_call G_law_cell_at (hr.mono (by decide)) rfl F_law_cell_at.m F_law_cell_at.F.kp F_law_cell_at.b .nil pass0 (pa_cons (pv 0) (pa_cons pe_int pa_nil))) pa_nil)))))))))), ?_⟩
    -- cell, many
    refine ⟨_, rfl, a, ns, 0, rfl, hS, by decide, fun cell => ?_⟩
    refine ⟨_, rfl, cell, 0, rfl, by decide, by decide, fun n1 _ _ => ⟨_, _, rfl, rfl, (by show (0 : Int) < _; decide), _, _, rfl, rfl, ?_⟩⟩
    refine ⟨_, rfl, cell, 1, rfl, by decide, by decide, fun n2 _ _ => ⟨_, _, rfl, rfl, (by show (0 : Int) < _; decide), _, _, rfl, rfl, _, rfl, ?_⟩⟩
    -- behind the if: any many from 1 to 14
    refine ite2 (fun _ => ?g1) (fun _ => ?g2)
    case g1 =>
      refine ⟨_, rfl, cell, 0, rfl, by decide, by decide, fun n3 _ _ => ⟨_, _, rfl, rfl, (by show (0 : Int) < _; decide), _, _, rfl, rfl, ?_⟩⟩
      dsimp only
      generalize hm : 9 + n3 % 6 = m
      have m1 : 1 ≤ m := by omega
      have m2 : m ≤ 14 := by omega
      refine ⟨Nat.zero_le _, fun t nt => ?_⟩
      refine ⟨_, rfl, cell, 2, rfl, by decide, by decide, fun n4 n40 _ => ⟨_, rfl, _, _, rfl, rfl, .inl ⟨by decide, by decide⟩, _, _, rfl, rfl, _, _, rfl, rfl, (by show (0 : Int) < 2 * m + 4; omega), ?_⟩⟩
      have q0 : 0 ≤ n4 % (2 * m + 4) := Int.emod_nonneg _ (by omega)
      have q1 : n4 % (2 * m + 4) < 2 * m + 4 := Int.emod_lt_of_pos _ (by omega)
      refine ⟨_, rfl, by show -(2 ^ 62) ≤ n4 % (2 * m + 4); omega, by show n4 % (2 * m + 4) < 2 ^ 62; omega, for_range (fun i σ H3 => ∃ (vs : List V) (js : List (Int × Int)) (x4 x5 x6 x7 : Option V), σ = [some (.ref a), some (.int cell), some (.int m), some (.ref t), x4, x5, x6, x7] ∧ Same H H3 ∧ H3 t = some (.lst vs) ∧ Ps K H3 js vs ∧ js.length ≤ 24 ∧ ∀ p ∈ js, (0 ≤ p.1 ∧ p.1 < 2 * m) ∧ (0 ≤ p.2 ∧ p.2 < 2 * m))
        ⟨[], [], none, none, none, none, rfl, same_upd nt, upd_same, dgs_nil.mpr rfl, by simp, fun p hp => (nomatch hp)⟩ ?_ ?_⟩
      · rintro i σ H3 hi ⟨vs, js, x4, x5, x6, x7, rfl, S3, ht3, D, jl, jb⟩
        have i0 : (0 : Int) + (i : Nat) = (i : Int) := by omega
        rw [i0]
        have hi' : (i : Int) < 32 := by
          have : (i : Int) < n4 % (2 * m + 4) := by
            have h : i < (n4 % (2 * m + 4)).toNat := hi
            omega
          omega
        refine ⟨_, rfl, _, rfl, _, _, rfl, rfl, (by show (0 : Int) < _; decide), _, _, rfl, rfl, a, ns, _, rfl, S3.seq hS, by show (0 : Int) ≤ 2 + (i : Int) % 8; omega, fun c5 => ⟨_, rfl, _, _, rfl, rfl, c5, _, rfl, by show (0 : Int) ≤ 10 + (i : Int); omega, by show 10 + (i : Int) ≤ 1000; omega, fun n5 n50 n51 => ?_⟩⟩
        refine ⟨_, rfl, _, rfl, _, _, rfl, rfl, .inl ⟨by decide, by decide⟩, _, _, rfl, rfl, (by show (0 : Int) < 2 * m; omega), ?_⟩
        refine ⟨_, rfl, _, _, rfl, rfl, ⟨by decide, by decide⟩, _, rfl, _, _, rfl, rfl, .inl ⟨by decide, by decide⟩, _, _, rfl, rfl, (by show (0 : Int) < 2 * m; omega), ?_⟩
        dsimp only
        have o0 : 0 ≤ n5 % (2 * m) := Int.emod_nonneg _ (by omega)
        have o1 : n5 % (2 * m) < 2 * m := Int.emod_lt_of_pos _ (by omega)
        have r0 : 0 ≤ n5 / 64 % (2 * m) := Int.emod_nonneg _ (by omega)
        have r1 : n5 / 64 % (2 * m) < 2 * m := Int.emod_lt_of_pos _ (by omega)
        generalize n5 % (2 * m) = one at o0 o1
        generalize n5 / 64 % (2 * m) = oh at r0 r1
        refine ⟨_, rfl, cell, 3, rfl, by decide, by decide, fun n6 _ _ => ⟨_, _, rfl, rfl, (by show (0 : Int) < _; decide), _, _, rfl, rfl, _, rfl, ?_⟩⟩
        -- the test of the direction; then any other end within bounds
        refine ite2 (fun _ => ?e1a) (fun _ => ?e2a)
        case' e1a =>
          refine ⟨_, rfl, _, _, rfl, rfl, (by show (0 : Int) < _; decide), _, rfl, _, _, rfl, rfl, (by show (0 : Int) < _; decide), _, _, rfl, rfl, _, rfl, ?_⟩
          refine ite2 (fun _ => ?e3a) (fun _ => ?e4a)
          case' e3a =>
            refine ⟨_, rfl, oh, rfl, ?_⟩
            have r0' : 0 ≤ oth oh := oth_nonneg r0
            have r1' : oth oh < 2 * m := by unfold oth; omega
            generalize oth oh = oh' at r0' r1'
          case' e4a =>
            have r0' := r0
            have r1' := r1
            generalize hh : oh = oh' at r0' r1'
        case' e2a =>
          refine iteF ?_
          have r0' := r0
          have r1' := r1
          generalize hh : oh = oh' at r0' r1'
        all_goals
          refine ⟨_, rfl, _, _, rfl, rfl, ⟨by decide, by decide⟩, _, rfl, _, _, rfl, rfl, ⟨by decide, by decide⟩, _, _, rfl, rfl, _, rfl, ?_⟩
          refine ite2 (fun hne => ?_) (fun _ => ?_)
          · refine ⟨_, rfl, _, rfl, _, _, rfl, _, rfl, _, rfl, _, _, rfl, by show 2 ≤ sizeLine; decide, fun p1 n1 => ?_⟩
            rw [min_if, max_if]
            have ht4 := (same_upd (o := .tup [.int (min one oh'), .int (max one oh')]) n1) _ _ ht3
            have D4 := D.same (same_upd (o := .tup [.int (min one oh'), .int (max one oh')]) n1)
            refine ⟨_, rfl, _, _, D4.da ht4, dg_tuple.mpr ⟨p1, _, rfl, SqT.of upd_same, Dgs.two (dg_int.mpr rfl) (dg_int.mpr rfl)⟩, okDs_P js, okD_P (_, _), _, rfl, ?_⟩
            refine ite2 (fun _ => ?_) (fun _ => ?_)
            · refine ⟨_, rfl, t, _, rfl, .inl (SqL.of ht4), _, _, rfl, rfl, _, rfl, ?_⟩
              refine ite2 (fun hlt => ?_) (fun _ => ?_)
              · have hlt : (vs.length : Int) < 24 := by simpa using hlt
                have vl := D.len
                refine ⟨_, rfl, .inl ⟨rfl, _, SqL.of ht4⟩, _, rfl, _, rfl, _, _, rfl, _, rfl, _, rfl, _, _, rfl, by show 2 ≤ sizeLine; decide, fun p2 n2 => ?_⟩
                rw [min_if, max_if]
                have S5 := (same_upd n1).trans (same_upd (o := .tup [.int (min one oh'), .int (max one oh')]) n2)
                refine ⟨t, vs, _, rfl, rfl, S5 _ _ ht3, small_l (by omega), ?_⟩
                refine ⟨_, js ++ [(min one oh', max one oh')], _, _, _, _, rfl, Same.upd (S3.trans S5) nt, upd_same, Ps.push (x := (min one oh', max one oh')) (D.same S5) (S5 _ _ ht3) upd_same, ?_, ?_⟩
                · rw [List.length_append]; show js.length + 1 ≤ 24; omega
                · intro p hp
                  rcases List.mem_append.mp hp with z | z
                  · exact jb p z
                  · have z : p = (min one oh', max one oh') := by simpa using z
                    subst z
                    dsimp only
                    omega
              · exact ⟨vs, js, _, _, _, _, rfl, S3.trans (same_upd n1), ht4, D4, jl, jb⟩
            · exact iteF ⟨vs, js, _, _, _, _, rfl, S3.trans (same_upd n1), ht4, D4, jl, jb⟩
          · exact iteF ⟨vs, js, _, _, _, _, rfl, S3, ht3, D, jl, jb⟩
      · rintro σ H3 ⟨vs, js, x4, x5, x6, x7, rfl, S3, ht3, D, jl, jb⟩
        refine ⟨_, rfl, _, rfl, by show 2 ≤ sizeLine; decide, fun p np => ?_⟩
        have S4 := same_upd (o := .tup [.int m, .ref t]) np
        refine ⟨_, rfl, a, ns, 1, rfl, (S3.trans S4).seq hS, by decide, fun c7 => ?_⟩
        refine ⟨_, (m, js), c7, rfl, da_mkline upd_same ((D.same S4).da (S4 _ _ ht3)), m1, by omega, jl, jb, fun v l H' s5 d5 o5 => k v l H' (S3.trans (S4.trans s5)) d5 o5⟩
    case g2 =>
      dsimp only
      generalize hm : 1 + n1 % 8 = m
      have m1 : 1 ≤ m := by omega
      have m2 : m ≤ 14 := by omega
      refine ⟨Nat.zero_le _, fun t nt => ?_⟩
      refine ⟨_, rfl, cell, 2, rfl, by decide, by decide, fun n4 n40 _ => ⟨_, rfl, _, _, rfl, rfl, .inl ⟨by decide, by decide⟩, _, _, rfl, rfl, _, _, rfl, rfl, (by show (0 : Int) < 2 * m + 4; omega), ?_⟩⟩
      have q0 : 0 ≤ n4 % (2 * m + 4) := Int.emod_nonneg _ (by omega)
      have q1 : n4 % (2 * m + 4) < 2 * m + 4 := Int.emod_lt_of_pos _ (by omega)
      refine ⟨_, rfl, by show -(2 ^ 62) ≤ n4 % (2 * m + 4); omega, by show n4 % (2 * m + 4) < 2 ^ 62; omega, for_range (fun i σ H3 => ∃ (vs : List V) (js : List (Int × Int)) (x4 x5 x6 x7 : Option V), σ = [some (.ref a), some (.int cell), some (.int m), some (.ref t), x4, x5, x6, x7] ∧ Same H H3 ∧ H3 t = some (.lst vs) ∧ Ps K H3 js vs ∧ js.length ≤ 24 ∧ ∀ p ∈ js, (0 ≤ p.1 ∧ p.1 < 2 * m) ∧ (0 ≤ p.2 ∧ p.2 < 2 * m))
        ⟨[], [], none, none, none, none, rfl, same_upd nt, upd_same, dgs_nil.mpr rfl, by simp, fun p hp => (nomatch hp)⟩ ?_ ?_⟩
      · rintro i σ H3 hi ⟨vs, js, x4, x5, x6, x7, rfl, S3, ht3, D, jl, jb⟩
        have i0 : (0 : Int) + (i : Nat) = (i : Int) := by omega
        rw [i0]
        have hi' : (i : Int) < 32 := by
          have : (i : Int) < n4 % (2 * m + 4) := by
            have h : i < (n4 % (2 * m + 4)).toNat := hi
            omega
          omega
        refine ⟨_, rfl, _, rfl, _, _, rfl, rfl, (by show (0 : Int) < _; decide), _, _, rfl, rfl, a, ns, _, rfl, S3.seq hS, by show (0 : Int) ≤ 2 + (i : Int) % 8; omega, fun c5 => ⟨_, rfl, _, _, rfl, rfl, c5, _, rfl, by show (0 : Int) ≤ 10 + (i : Int); omega, by show 10 + (i : Int) ≤ 1000; omega, fun n5 n50 n51 => ?_⟩⟩
        refine ⟨_, rfl, _, rfl, _, _, rfl, rfl, .inl ⟨by decide, by decide⟩, _, _, rfl, rfl, (by show (0 : Int) < 2 * m; omega), ?_⟩
        refine ⟨_, rfl, _, _, rfl, rfl, ⟨by decide, by decide⟩, _, rfl, _, _, rfl, rfl, .inl ⟨by decide, by decide⟩, _, _, rfl, rfl, (by show (0 : Int) < 2 * m; omega), ?_⟩
        dsimp only
        have o0 : 0 ≤ n5 % (2 * m) := Int.emod_nonneg _ (by omega)
        have o1 : n5 % (2 * m) < 2 * m := Int.emod_lt_of_pos _ (by omega)
        have r0 : 0 ≤ n5 / 64 % (2 * m) := Int.emod_nonneg _ (by omega)
        have r1 : n5 / 64 % (2 * m) < 2 * m := Int.emod_lt_of_pos _ (by omega)
        generalize n5 % (2 * m) = one at o0 o1
        generalize n5 / 64 % (2 * m) = oh at r0 r1
        refine ⟨_, rfl, cell, 3, rfl, by decide, by decide, fun n6 _ _ => ⟨_, _, rfl, rfl, (by show (0 : Int) < _; decide), _, _, rfl, rfl, _, rfl, ?_⟩⟩
        -- the test of the direction; then any other end within bounds
        refine ite2 (fun _ => ?e1b) (fun _ => ?e2b)
        case' e1b =>
          refine ⟨_, rfl, _, _, rfl, rfl, (by show (0 : Int) < _; decide), _, rfl, _, _, rfl, rfl, (by show (0 : Int) < _; decide), _, _, rfl, rfl, _, rfl, ?_⟩
          refine ite2 (fun _ => ?e3b) (fun _ => ?e4b)
          case' e3b =>
            refine ⟨_, rfl, oh, rfl, ?_⟩
            have r0' : 0 ≤ oth oh := oth_nonneg r0
            have r1' : oth oh < 2 * m := by unfold oth; omega
            generalize oth oh = oh' at r0' r1'
          case' e4b =>
            have r0' := r0
            have r1' := r1
            generalize hh : oh = oh' at r0' r1'
        case' e2b =>
          refine iteF ?_
          have r0' := r0
          have r1' := r1
          generalize hh : oh = oh' at r0' r1'
        all_goals
          refine ⟨_, rfl, _, _, rfl, rfl, ⟨by decide, by decide⟩, _, rfl, _, _, rfl, rfl, ⟨by decide, by decide⟩, _, _, rfl, rfl, _, rfl, ?_⟩
          refine ite2 (fun hne => ?_) (fun _ => ?_)
          · refine ⟨_, rfl, _, rfl, _, _, rfl, _, rfl, _, rfl, _, _, rfl, by show 2 ≤ sizeLine; decide, fun p1 n1 => ?_⟩
            rw [min_if, max_if]
            have ht4 := (same_upd (o := .tup [.int (min one oh'), .int (max one oh')]) n1) _ _ ht3
            have D4 := D.same (same_upd (o := .tup [.int (min one oh'), .int (max one oh')]) n1)
            refine ⟨_, rfl, _, _, D4.da ht4, dg_tuple.mpr ⟨p1, _, rfl, SqT.of upd_same, Dgs.two (dg_int.mpr rfl) (dg_int.mpr rfl)⟩, okDs_P js, okD_P (_, _), _, rfl, ?_⟩
            refine ite2 (fun _ => ?_) (fun _ => ?_)
            · refine ⟨_, rfl, t, _, rfl, .inl (SqL.of ht4), _, _, rfl, rfl, _, rfl, ?_⟩
              refine ite2 (fun hlt => ?_) (fun _ => ?_)
              · have hlt : (vs.length : Int) < 24 := by simpa using hlt
                have vl := D.len
                refine ⟨_, rfl, .inl ⟨rfl, _, SqL.of ht4⟩, _, rfl, _, rfl, _, _, rfl, _, rfl, _, rfl, _, _, rfl, by show 2 ≤ sizeLine; decide, fun p2 n2 => ?_⟩
                rw [min_if, max_if]
                have S5 := (same_upd n1).trans (same_upd (o := .tup [.int (min one oh'), .int (max one oh')]) n2)
                refine ⟨t, vs, _, rfl, rfl, S5 _ _ ht3, small_l (by omega), ?_⟩
                refine ⟨_, js ++ [(min one oh', max one oh')], _, _, _, _, rfl, Same.upd (S3.trans S5) nt, upd_same, Ps.push (x := (min one oh', max one oh')) (D.same S5) (S5 _ _ ht3) upd_same, ?_, ?_⟩
                · rw [List.length_append]; show js.length + 1 ≤ 24; omega
                · intro p hp
                  rcases List.mem_append.mp hp with z | z
                  · exact jb p z
                  · have z : p = (min one oh', max one oh') := by simpa using z
                    subst z
                    dsimp only
                    omega
              · exact ⟨vs, js, _, _, _, _, rfl, S3.trans (same_upd n1), ht4, D4, jl, jb⟩
            · exact iteF ⟨vs, js, _, _, _, _, rfl, S3.trans (same_upd n1), ht4, D4, jl, jb⟩
          · exact iteF ⟨vs, js, _, _, _, _, rfl, S3, ht3, D, jl, jb⟩
      · rintro σ H3 ⟨vs, js, x4, x5, x6, x7, rfl, S3, ht3, D, jl, jb⟩
        refine ⟨_, rfl, _, rfl, by show 2 ≤ sizeLine; decide, fun p np => ?_⟩
        have S4 := same_upd (o := .tup [.int m, .ref t]) np
        refine ⟨_, rfl, a, ns, 1, rfl, (S3.trans S4).seq hS, by decide, fun c7 => ?_⟩
        refine ⟨_, (m, js), c7, rfl, da_mkline upd_same ((D.same S4).da (S4 _ _ ht3)), m1, by omega, jl, jb, fun v l H' s5 d5 o5 => k v l H' (S3.trans (S4.trans s5)) d5 o5⟩
end
end K07
set_option Elab.async false
set_option linter.all false
set_option maxRecDepth 100000
set_option maxHeartbeats 4000000
namespace K07
open PySem L2 TL PyProof.Rows
section
variable {P : Program} {w : World} {K : PySem.W.Frag} {mg : Str → Option Value} {base : Heap} {f : Addr} {fd : FuncData}
end
end K07
set_option Elab.async false
set_option linter.all false
set_option maxRecDepth 100000
set_option maxHeartbeats 4000000
namespace K07
open PySem L2 TL PyProof.Rows
/-- what the maker of trains keeps -/
structure TrainOk (l : Int × List (Int × Int)) (ns : List Int) : Prop where
  ends : ∀ e ∈ ns, 0 ≤ e ∧ e < 2 * l.1
  nd : (ns.map (· / 2)).Nodup
  ch : ∀ (i : Nat) x y, ns[i]? = some x → ns[i + 1]? = some y → y ∈ jn l.2 (oth x)
def sp_train (K : PySem.W.Frag) : Sp := fun vs H Q _ => ∃ (v : V) (l : Int × List (Int × Int)) (c n : Int), vs = [v, .int c, .int n] ∧ Da K H (dL l) v ∧ LineOk l ∧ 1 ≤ n ∧ n ≤ 40 ∧
  ∀ (p : Addr) (ns : List Int) (H' : Hp), Same H H' → H p = none → H' p = some (.lst (ns.map V.int)) → ns ≠ [] → ns.length ≤ 40 → (ns.length : Int) ≤ n → TrainOk l ns → Q (.ref p) H'
theorem jn_mem {l : Int × List (Int × Int)} (ok : LineOk l) {e x : Int} (h : x ∈ jn l.2 e) : 0 ≤ x ∧ x < 2 * l.1 := by
  unfold jn at h
  rcases List.mem_append.mp (srt_mem.mp h) with z | z
  · obtain ⟨p, hp, rfl⟩ := List.mem_map.mp z
    have := ok.ends p (List.mem_filter.mp hp).1
    omega
  · obtain ⟨p, hp, rfl⟩ := List.mem_map.mp z
    have := ok.ends p (List.mem_filter.mp hp).1
    omega
theorem TrainOk.snoc {l : Int × List (Int × Int)} {ns : List Int} {x : Int} (ok : LineOk l) (T : TrainOk l ns) (hne : ns ≠ []) (hx : x ∈ fr l ns (oth (ns.getLastD 0))) : TrainOk l (ns ++ [x]) := by
  obtain ⟨h1, h2⟩ := List.mem_filter.mp hx
  have h2 : ¬ x / 2 ∈ ns.map (· / 2) := by simpa using h2
  refine ⟨fun e he => ?_, ?_, fun i a b ha hb => ?_⟩
  · rcases List.mem_append.mp he with z | z
    · exact T.ends e z
    · have z : e = x := by simpa using z
      rw [z]; exact jn_mem ok h1
  · rw [List.map_append, List.nodup_append]
    refine ⟨T.nd, by simp, fun a ha b hb => ?_⟩
    have hb : b = x / 2 := by simpa using hb
    intro z
    exact h2 (by rw [← hb, ← z]; exact ha)
  · by_cases hi : i + 1 < ns.length
    · rw [List.getElem?_append_left hi] at hb
      rw [List.getElem?_append_left (by omega)] at ha
      exact T.ch i a b ha hb
    · have hlt : i + 1 < (ns ++ [x]).length := (List.getElem?_eq_some_iff.mp hb).1
      rw [List.length_append, List.length_singleton] at hlt
      have e1 : i + 1 = ns.length := by omega
      rw [e1, List.getElem?_append_right (Nat.le_refl _), Nat.sub_self] at hb
      cases hb
      rw [List.getElem?_append_left (by omega)] at ha
      have e2 : ns.getLastD 0 = a := by
        rw [List.getLastD_eq_getLast?, List.getLast?_eq_getElem?]
        have : ns.length - 1 = i := by omega
        rw [this, ha]; rfl
      rw [e2] at h1
      exact h1
abbrev s_law_train : Stmt := top 23
theorem sc_law_train : FnScope ["_law_line_here", "_law_cell", "_law_length", "_law_train_here", "_law_k", "_law_pieces", "_law_some"] ["_law_line_here", "_law_cell", "_law_length"] (defScope s_law_train) := ⟨rfl, rfl, rfl, by decide +kernel, rfl, by decide +kernel, by decide +kernel⟩
theorem cc_law_train_0 : CompOk (defScope s_law_train) ["_law_line_here", "_law_cell", "_law_length", "_law_train_here", "_law_k", "_law_pieces", "_law_some"] { kind := .function, names := [(Str.ofString ".0", .local), (Str.ofString "_law_end", .local)], isGenerator := false, isCoroutine := false, more := [] } ["_law_end"] 1 [none] := ⟨rfl, by decide +kernel, by decide +kernel, by decide +kernel, rfl, by decide +kernel, rfl, by decide +kernel⟩
theorem cc_law_train_1 : CompOk (defScope s_law_train) ["_law_line_here", "_law_cell", "_law_length", "_law_train_here", "_law_k", "_law_pieces", "_law_some"] { kind := .function, names := [(Str.ofString ".0", .local), (Str.ofString "_law_end", .local), (Str.ofString "_law_pieces", .free)], isGenerator := false, isCoroutine := false, more := [] } ["_law_end", "_law_pieces"] 1 [none, some 5] := ⟨rfl, by decide +kernel, by decide +kernel, by decide +kernel, rfl, by decide +kernel, rfl, by decide +kernel⟩

section
variable {P : Program} {w : World} {K : PySem.W.Frag} {mg : Str → Option Value} {base : Heap} {f : Addr} {fd : FuncData}
theorem ok_law_train {f1 f2 f3 : Addr} {fd1 fd2 fd3 : FuncData} (F : Fn K mg "_law_train" s_law_train ["_law_line_here", "_law_cell", "_law_length"] f fd) (F_law_mix : Fn K mg "_law_mix" s_law_mix ["_law_cell", "_law_k"] f1 fd1) (F_law_other : Fn K mg "_law_other" s_law_other ["_law_end"] f2 fd2)
    (F_law_joined : Fn K mg "_law_joined" s_law_joined ["_law_line_here", "_law_end"] f3 fd3) (B : Bl mg) : FnOk P w K mg base CX0 2 f fd ["_law_line_here", "_law_cell", "_law_length"] (sp_train K) := by
  have G_law_mix : FnOk P w K mg base CX0 1 f1 fd1 ["_law_cell", "_law_k"] sp_mix := ok_law_mix F_law_mix B
  have G_law_other : FnOk P w K mg base CX0 1 f2 fd2 ["_law_end"] sp_other := ok_law_other F_law_other
  have G_law_joined : FnOk P w K mg base CX0 1 f3 fd3 ["_law_line_here", "_law_end"] (sp_joined K) := ok_law_joined F_law_joined B
  refine F.F.ok sc_law_train (fun vs H Q E h => ?_) (fun cdv A outer s H vs Q E hr h => ?_)
  · obtain ⟨v, l, c, n, rfl, _⟩ := h; rfl
  · obtain ⟨v, l, c, n, rfl, hv, ok, h1, h40, k⟩ := h
    obtain ⟨a, b, rfl, ht, us, hl, hq⟩ := da_line hv
    have o1 := ok.one
    refine ⟨_, (pss_cons (ps_set (i := 3) sc_law_train.nd rfl (Or.inl rfl) (pe_lst (pa_cons (pe_op op_mod (pe_call G_law_mix (hr.mono (by decide)) rfl F_law_mix.m F_law_mix.F.kp F_law_mix.b .nil pass0 (pa_cons (pv 1) (pa_cons pe_int pa_nil))) (pe_op op_mul pe_int (pe_ix ix_tup (pv 0) pe_int (fun _ _ => rfl)))) pa_nil)))
 (pss_cons (ps_for PassesOwn.never rfl (pi_range2 rfl B.range (pa_cons pe_int (pa_cons (pv 2) pa_nil))) (pg_name (i := 4) sc_law_train.nd rfl (Or.inl rfl))
  (pss_cons (ps_set (i := 5) sc_law_train.nd rfl (Or.inr rfl) (pe_lc (pi_list (pv 3)) rfl cc_law_train_0 (.name (by decide)) (fun _ _ _ _ => (pg_name (i := 0) cc_law_train_0.nd rfl (Or.inl rfl))) (fun _ _ _ _ => pifs_nil) (fun _ _ _ _ => (pe_op op_fdiv (pv 0) pe_int))))
 (pss_cons (ps_lc (i := 6) sc_law_train.nd rfl rfl (pi_list (pe_call G_law_joined (hr.mono (by decide)) rfl F_law_joined.m F_law_joined.F.kp F_law_joined.b .nil pass0 (pa_cons (pv 0) (pa_cons (pe_call G_law_other (hr.mono (by decide)) rfl F_law_other.m F_law_other.F.kp F_law_other.b .nil pass0 (pa_cons (pe_ix ix_list (pv 3) (pe_un un_neg pe_int) (fun _ _ => rfl)) pa_nil)) pa_nil)))) rfl cc_law_train_1 (.name (by decide)) (fun _ _ _ _ => (pg_name (i := 0) cc_law_train_1.nd rfl (Or.inl rfl))) (fun _ _ _ _ => (pifs_one (pt_cmpR (op_notInDk (K := K) rfl hr.units) (pe_op op_fdiv (pv 0) pe_int) (pv 1) (by with_unfolding_all rfl)))) (fun _ _ _ _ => (pv 0)))
 (pss_cons (ps_if (pt_cmpR (op_eqD hr.units) (pv 6) (pe_lst pa_nil) (nomark _))
  (pss_one (ps_ret (pv 3))) pss_nil)
 (pss_one (ps_expr (pe_bm PySem.F.plainAttrs_list PySem.F.slot_list_append PySem.F.type_list_append mt_append (pv 3) (pa_cons (pe_ix ix_list (pv 6) (pe_op op_mod (pe_call G_law_mix (hr.mono (by decide)) rfl F_law_mix.m F_law_mix.F.kp F_law_mix.b .nil pass0 (pa_cons (pv 1) (pa_cons (pv 4) pa_nil))) (pe_callB call_len_seq rfl B.len boot_len (pa_cons (pv 6) pa_nil))) (fun _ _ => rfl)) pa_nil))))))))
 (pss_one (ps_ret (pv 3))))), ?_⟩
    refine ⟨_, rfl, c, 0, rfl, by decide, by decide, fun m m0 m1 => ⟨_, rfl, a, _, _, _, rfl, rfl, ht, rfl, _, _, rfl, rfl, .inl ⟨by decide, by decide⟩, _, _, rfl, rfl, (by show (0 : Int) < 2 * l.1; omega), by show 1 ≤ sizeLine; decide, fun t nt => ?_⟩⟩
    have e0 : 0 ≤ m % (2 * l.1) := Int.emod_nonneg _ (by omega)
    have e1 : m % (2 * l.1) < 2 * l.1 := Int.emod_lt_of_pos _ (by omega)
    refine ⟨_, rfl, 1, n, rfl, ⟨by decide, by decide, by omega, by omega⟩, for_range (fun i σ H3 => ∃ (ns : List Int) (x4 x5 x6 : Option V), σ = [some (.ref a), some (.int c), some (.int n), some (.ref t), x4, x5, x6] ∧ Same H H3 ∧ H3 t = some (.lst (ns.map V.int)) ∧ ns ≠ [] ∧ ns.length = i + 1 ∧ TrainOk l ns)
      ⟨[m % (2 * l.1)], none, none, none, rfl, same_upd nt, upd_same, by simp, rfl, ⟨fun e he => (by rw [List.mem_singleton.mp he]; exact ⟨e0, e1⟩), by simp, fun i x y hx hy => by simp at hy⟩⟩ ?_ ?_⟩
    · rintro i σ H3 hi ⟨ns, x4, x5, x6, rfl, S3, ht3, hne, nl, T⟩
      have hi' : i + 1 ≤ 39 := by
        have h : i < (n - 1).toNat := hi
        omega
      -- pieces
      refine ⟨_, rfl, t, rfl, ⟨_, SqL.of ht3⟩, fun pc npc => lc_pure ns (fun _ => true) (fun e => V.int (e / 2)) npc (SqL.of ht3) (by rw [List.length_map]) (by rw [List.length_map]; exact small_l (by omega)) ?_ ?_⟩
      · intro j x d H' hx hd sm P1 P0 k1 k0
        rw [List.getElem?_map, hd] at hx
        cases hx
        refine name_yes ?_
        exact ⟨_, rfl, _, _, rfl, rfl, ⟨by decide, by decide⟩, k1 rfl⟩
      rw [filt_true]
      have e1 : (ns.map fun e => V.int (e / 2)) = (ns.map (· / 2)).map V.int := by rw [List.map_map]; rfl
      rw [e1]
      have s4 : Same H3 (upd H3 pc (.lst ((ns.map (· / 2)).map V.int))) := same_upd npc
      -- some
      refine ⟨_, rfl, _, rfl, _, rfl, t, _, _, _, rfl, rfl, SqL.of (s4 _ _ ht3), at_last hne, _, rfl, _, l, _, rfl, Da.same (S3.trans s4) hv, ok, fun p H5 s5 hp hp2 => ⟨p, rfl, ⟨_, SqL.of hp2⟩, fun q nq => lc_pure (jn l.2 (oth (ns.getLastD 0))) (fun t => !decide (t / 2 ∈ ns.map (· / 2))) (fun t => V.int t) nq (SqL.of hp2) (by rw [List.length_map]) ?_ ?_ ?_⟩⟩
      · rw [List.length_map]
        refine small_l ?_
        unfold jn
        rw [srt_length, List.length_append]
        have := below_len ok (oth (ns.getLastD 0))
        omega
      · intro j x d H' hx hd sm P1 P0 k1 k0
        rw [List.getElem?_map, hd] at hx
        cases hx
        have hD : Da K H' (.list ((ns.map (· / 2)).map .int)) (.ref pc) := Da.same (s5.trans sm) (da_new upd_same)
        refine ⟨_, rfl, _, _, rfl, rfl, ⟨by decide, by decide⟩, _, rfl, _, .int (d / 2), hD, dg_int.mpr rfl, okDs_I _, okD_int _, _, rfl, ?_⟩
        rw [any_I]
        exact ite2 (fun h => ⟨_, rfl, k1 h⟩) (fun h => k0 (by simpa using h))
      have efr : ((jn l.2 (oth (ns.getLastD 0))).filter fun t => !decide (t / 2 ∈ ns.map (· / 2))) = fr l ns (oth (ns.getLastD 0)) := rfl
      rw [efr]
      have S6 : Same H3 (upd H5 q (.lst ((fr l ns (oth (ns.getLastD 0))).map V.int))) := (s4.trans s5).trans (same_upd nq)
      -- if some == []
      refine ⟨_, rfl, Nat.zero_le _, fun e ne => ?_⟩
      have s7 := same_upd (o := .lst []) ne
      have hq7 := s7 _ _ (upd_same (H := H5) (a := q) (o := .lst ((fr l ns (oth (ns.getLastD 0))).map V.int)))
      refine ⟨dI (fr l ns (oth (ns.getLastD 0))), .list [], da_new hq7, da_new (ns := []) upd_same, okD_ints _, okD_nil, _, rfl, ?_⟩
      have ee : PyData.eqv (dI (fr l ns (oth (ns.getLastD 0)))) (.list []) = ((fr l ns (oth (ns.getLastD 0))).map PyData.int).isEmpty := eqv_list_nil _
      rw [ee]
      refine ite2 (fun _ => ?_) (fun hem => ?_)
      · exact ⟨_, rfl, k t ns _ (S3.trans (S6.trans s7)) nt (s7 _ _ (S6 _ _ ht3)) hne (by omega) (by have h : i < (n - 1).toNat := hi; omega) T⟩
      · have hpos : 0 < (fr l ns (oth (ns.getLastD 0))).length := by
          cases hh : fr l ns (oth (ns.getLastD 0)) with
          | nil => rw [hh] at hem; exact absurd rfl hem
          | cons x r => simp
        refine ⟨_, rfl, .inl ⟨rfl, _, SqL.of (s7 _ _ (S6 _ _ ht3))⟩, _, rfl, _, rfl, _, rfl, c, _, rfl, by show (0 : Int) ≤ 1 + (i : Int); omega, by show 1 + (i : Int) ≤ 1000; omega, fun m m0 m1 => ?_⟩
        have r0 : 0 ≤ m % ((fr l ns (oth (ns.getLastD 0))).length : Int) := Int.emod_nonneg _ (by omega)
        have r1 : m % ((fr l ns (oth (ns.getLastD 0))).length : Int) < ((fr l ns (oth (ns.getLastD 0))).length : Int) := Int.emod_lt_of_pos _ (by omega)
        obtain ⟨x, _, hmem, hat⟩ := at_int r0 r1
        refine ⟨_, rfl, q, _, rfl, .inl (SqL.of hq7), _, _, rfl, rfl, ?_, q, _, _, V.int x, rfl, rfl, SqL.of hq7, ?_, t, _, _, rfl, rfl, s7 _ _ (S6 _ _ ht3), ?_, ?_⟩
        · show (0 : Int) < (((fr l ns (oth (ns.getLastD 0))).map V.int).length : Int)
          rw [List.length_map]; omega
        · show atI _ (m % (((fr l ns (oth (ns.getLastD 0))).map V.int).length : Int)) = _
          rw [List.length_map]; exact hat
        · rw [List.length_map]; exact small_l (by omega)
        refine ⟨ns ++ [x], _, _, _, rfl, Same.upd (S3.trans (S6.trans s7)) nt, ?_, by simp, by rw [List.length_append, nl]; rfl, T.snoc ok hne hmem⟩
        rw [upd_same, List.map_append]; rfl
    rintro σ H3 ⟨ns, x4, x5, x6, rfl, S3, ht3, hne, nl, T⟩
    refine ⟨_, rfl, k t ns _ S3 nt ht3 hne ?_ (by rw [nl]; omega) T⟩
    have h : ns.length = (n - 1).toNat + 1 := nl
    omega
end
end K07
set_option Elab.async false
set_option linter.all false
set_option maxRecDepth 100000
set_option maxHeartbeats 4000000
namespace K07
open PySem L2 TL PyProof.Rows
theorem canLayAll0_mem : ∀ (ds : List PyData), (∀ d ∈ ds, d.canLay0 = true) → PyData.canLayAll0 ds = true
  | [], _ => by simp [PyData.canLayAll0]
  | d :: ds, h => by
    simp only [PyData.canLayAll0, Bool.and_eq_true]
    exact ⟨h d List.mem_cons_self, canLayAll0_mem ds fun x hx => h x (List.mem_cons_of_mem _ hx)⟩
theorem strOk_mvs (l : Int × List (Int × Int)) (ns : List Int) : ∀ m ∈ mvs l ns, PyData.strOk m.1.1 = true := fun m hm => by
  rcases List.mem_append.mp hm with z | z
  · obtain ⟨e, _, rfl⟩ := List.mem_map.mp z
    show PyData.strOk (Str.ofString "on") = true
    decide +kernel
  · obtain ⟨e, _, rfl⟩ := List.mem_map.mp z
    show PyData.strOk (Str.ofString "back") = true
    decide +kernel
/-! ### one move -/
structure Xr (K : PySem.W.Frag) (mg : Str → Option Value) (c2 c3 : Addr) : Prop where
  NoTrain : Xc K mg "NoTrain" c2
  NoMove : Xc K mg "NoMove" c3
def dM (k : Str × Int) : PyData := .tuple [.str k.1, .int k.2]
theorem okD_M {k : Str × Int} (h : PyData.strOk k.1 = true) : OkD (dM k) := by
  refine ⟨?_, ?_⟩
  · simp only [dM, PyData.canLay0, PyData.canLayAll0, h, Bool.and_true]
  · simp only [dM, PyData.depth, PyData.depthAll]; decide
theorem eqv_M (a b : Str × Int) : PyData.eqv (dM a) (dM b) = decide (a = b) := by
  obtain ⟨a1, a2⟩ := a
  obtain ⟨b1, b2⟩ := b
  simp only [dM, PyData.eqv, PyData.eqvAll, Bool.and_true]
  by_cases h : a1 = b1 <;> by_cases h' : a2 = b2 <;> simp [h, h']
theorem mv_at {K : PySem.W.Frag} {H H1 : Hp} {p : Addr} {ms : List Mv} {vs : List V} {i : Nat} {y : V} (D : Dgs (Lf H H1 p) (SqT K H1) (ms.map dMv) vs) (hy : vs[i]? = some y) :
    ∃ m ad p1 b, ms[i]? = some m ∧ y = .ref ad ∧ SqT K H1 ad [.ref p1, .ref b] ∧ Da K H1 (dM m.1) (.ref p1) ∧ H1 b = some (.lst (m.2.map V.int)) ∧ H b = none ∧ b ≠ p := by
  obtain ⟨d, e1, hd⟩ := Dgs.get D hy
  rw [List.getElem?_map] at e1
  cases q : ms[i]? with
  | none => rw [q] at e1; cases e1
  | some m =>
    rw [q] at e1
    cases e1
    unfold dMv at hd
    obtain ⟨ad, us, rfl, ht, q⟩ := dg_tuple.mp hd
    obtain ⟨v1, r, rfl, h1, q⟩ := dgs_cons.mp q
    obtain ⟨v2, r, rfl, h2, q⟩ := dgs_cons.mp q
    cases dgs_nil.mp q
    have h1' : Da K H1 (dM m.1) v1 := Dg.mono (fun a us h => SqL.of h.1) (fun _ _ h => h) h1
    obtain ⟨p1, _, rfl, _, _⟩ := dg_tuple.mp h1
    unfold dI at h2
    obtain ⟨b, zs, rfl, ⟨l1, l2, l3⟩, hz⟩ := dg_list.mp h2
    rw [dgs_ints.mp hz] at l1
    exact ⟨m, ad, p1, b, rfl, rfl, ht, h1', l1, l2, l3⟩
def fnd (ms : List Mv) (k : Str × Int) : Option (List Int) := (ms.find? fun m => decide (m.1 = k)).map (·.2)
theorem fnd_hit {ms : List Mv} {k : Str × Int} {i : Nat} {m : Mv} (hi : ms[i]? = some m) (e : m.1 = k) (no : ∀ j, j < i → ∀ n, ms[j]? = some n → n.1 ≠ k) : fnd ms k = some m.2 := by
  unfold fnd
  have : ms.find? (fun m => decide (m.1 = k)) = some m := by
    rw [List.find?_eq_some_iff_getElem]
    obtain ⟨hl, hg⟩ := List.getElem?_eq_some_iff.mp hi
    refine ⟨by simpa using e, i, hl, hg, fun j hj => ?_⟩
    have := no j hj _ (List.getElem?_eq_some_iff.mpr ⟨by omega, rfl⟩)
    simpa using this
  rw [this]; rfl
theorem fnd_miss {ms : List Mv} {k : Str × Int} (no : ∀ j, j < ms.length → ∀ n, ms[j]? = some n → n.1 ≠ k) : fnd ms k = none := by
  unfold fnd
  rw [Option.map_eq_none_iff, List.find?_eq_none]
  intro m hm
  obtain ⟨j, hj, e⟩ := List.mem_iff_getElem.mp hm
  have := no j hj m (List.getElem?_eq_some_iff.mpr ⟨hj, e⟩)
  simpa using this

def sp_done (K : PySem.W.Frag) (C : Addr) : Sp := fun vs H Q E => ∃ (v u m : V) (l : Int × List (Int × Int)) (ns : List Int) (k : Str × Int), vs = [v, u, m] ∧ Da K H (dL l) v ∧ Da K H (dI ns) u ∧ Da K H (dM k) m ∧ PyData.strOk k.1 = true ∧ LineOk l ∧ ns ≠ [] ∧ ns.length ≤ 900 ∧
  (∀ b, fnd (mvs l ns) k = some b → NewInts H b Q) ∧ (fnd (mvs l ns) k = none → ∀ H', Same H H' → ∀ e, H' e = none → E (.ref C) (some e) H')
abbrev s_done : Stmt := top 14
theorem sc_done : FnScope ["line", "train", "move", "own", "behind"] ["line", "train", "move"] (defScope s_done) := ⟨rfl, rfl, rfl, by decide +kernel, rfl, by decide +kernel, by decide +kernel⟩

section
variable {P : Program} {w : World} {K : PySem.W.Frag} {mg : Str → Option Value} {base : Heap} {f : Addr} {fd : FuncData} {D c1 c2 c3 c4 c5 c6 c7 : Addr}
theorem ok_done {f1 : Addr} {fd1 : FuncData} (F : Fn K mg "done" s_done ["line", "train", "move"] f fd) (XS : Xr K mg c2 c3) (F_moves_of : Fn K mg "moves_of" s_moves_of ["line", "train"] f1 fd1)
    (G_moves_of : FnOk P w K mg base CX0 3 f1 fd1 ["line", "train"] (sp_moves K)) : FnOk P w K mg base (CXr P w base) 4 f fd ["line", "train", "move"] (sp_done K c3) := by
  refine F.F.okX sc_done (fun vs H Q E h => ?_) (fun cdv A outer s H vs Q E hr h => ?_)
  · obtain ⟨v, u, m, l, ns, k, rfl, _⟩ := h; rfl
  · obtain ⟨v, u, m, l, ns, k, rfl, hv, hu, hm, hk, ok, hne, hz, k1, k2⟩ := h
    refine ⟨_, (pss_cons (ps_for PassesOwn.leaving rfl (pi_list (pe_call G_moves_of (hr.mono (by decide)) rfl F_moves_of.m F_moves_of.F.kp F_moves_of.b .nil pass0 (pa_cons (pv 0) (pa_cons (pv 1) pa_nil)))) (pg_tup (n := 2) rfl (pgs_cons (pg_name (i := 3) sc_done.nd rfl (Or.inl rfl)) (pgs_cons (pg_name (i := 4) sc_done.nd rfl (Or.inl rfl)) pgs_nil)))
  (pss_one (ps_if (pt_cmpR (op_eqD hr.units) (pv 3) (pv 2) (nomark _))
  (pss_one (ps_ret (pv 4))) pss_nil)))
 (pss_one (ps_raise raises_cx rfl rfl XS.NoMove.m XS.NoMove.q PySem.F.excBase_ValueError (pa_cons pe_str pa_nil)))), ?_⟩
    refine ⟨_, rfl, _, rfl, v, u, l, ns, rfl, hv, hu, ok, hne, hz, fun p vs H1 s1 hp hp1 D1 => ?_⟩
    refine ⟨p, rfl, ⟨_, SqL.of hp1⟩, for_list (K := K) (a := p) (xs := vs) (fun i σ H3 => ∃ (x3 x4 : Option V), σ = [some v, some u, some m, x3, x4] ∧ H3 = H1 ∧ ∀ j, j < i → ∀ n, (mvs l ns)[j]? = some n → n.1 ≠ k)
      ⟨none, none, rfl, rfl, fun j hj => absurd hj (Nat.not_lt_zero j)⟩ (fun i σ H3 _ ⟨_, _, _, e, _⟩ => e ▸ SqL.of hp1) ?_ ?_⟩
    · rintro i y σ H3 hi ⟨x3, x4, rfl, rfl, no⟩
      obtain ⟨n, ad, p1, b, hn, rfl, ht, dm, hb, nb, _⟩ := mv_at D1 hi
      refine ⟨ad, _, rfl, ht, rfl, _, _, rfl, _, _, rfl, rfl, ?_⟩
      refine ⟨_, rfl, _, rfl, dM n.1, dM k, dm, Da.same s1 hm, okD_M (strOk_mvs l ns n (List.mem_of_getElem? hn)), okD_M hk, _, rfl, ?_⟩
      rw [eqv_M]
      refine ite2 (fun e => ?_) (fun e => ?_)
      · have e : n.1 = k := by simpa using e
        exact ⟨_, rfl, k1 _ (fnd_hit hn e no) b H3 s1 nb hb⟩
      · have e : n.1 ≠ k := by simpa using e
        refine ⟨_, _, rfl, rfl, fun j hj n' hn' => ?_⟩
        rcases Nat.lt_succ_iff_lt_or_eq.mp hj with z | z
        · exact no j z n' hn'
        · subst z; rw [hn] at hn'; cases hn'; exact e
    · rintro σ H3 ⟨x3, x4, rfl, rfl, no⟩
      have hlen : (mvs l ns).length = vs.length := by have := D1.length; rw [List.length_map] at this; exact this.symm
      refine ⟨by decide, fun e he => k2 (fnd_miss fun j hj => no j (by omega)) H3 s1 e he⟩
end
end K07
set_option Elab.async false
set_option linter.all false
set_option maxRecDepth 100000
set_option maxHeartbeats 4000000
namespace K07
open PySem L2 TL PyProof.Rows
def isT (l : Int × List (Int × Int)) (ns : List Int) : Prop := ns ≠ [] ∧ TrainOk l ns
def sp_isend (K : PySem.W.Frag) : Sp := fun vs H Q _ => ∃ (v : V) (l : Int × List (Int × Int)) (e : Int), vs = [v, .int e] ∧ Da K H (dL l) v ∧ Q (.bl (decide (0 ≤ e ∧ e < 2 * l.1))) H
def sp_check (K : PySem.W.Frag) (C : Addr) : Sp := fun vs H Q E => ∃ (v u : V) (l : Int × List (Int × Int)) (ns : List Int), vs = [v, u] ∧ Da K H (dL l) v ∧ Da K H (dI ns) u ∧ LineOk l ∧ ns.length ≤ 900 ∧
  (isT l ns → ∀ H', Same H H' → Q .non H') ∧ (¬ isT l ns → ∀ H', Same H H' → ∀ e, H' e = none → E (.ref C) (some e) H')
abbrev s_is_end : Stmt := top 7
theorem sc_is_end : FnScope ["line", "end"] ["line", "end"] (defScope s_is_end) := ⟨rfl, rfl, rfl, by decide +kernel, rfl, by decide +kernel, by decide +kernel⟩

abbrev s_check_train : Stmt := top 10
theorem sc_check_train : FnScope ["line", "train", "end", "following"] ["line", "train"] (defScope s_check_train) := ⟨rfl, rfl, rfl, by decide +kernel, rfl, by decide +kernel, by decide +kernel⟩
theorem cc_check_train_0 : CompOk (defScope s_check_train) ["line", "train", "end", "following"] { kind := .function, names := [(Str.ofString ".0", .local), (Str.ofString "end", .local), (Str.ofString "piece_of", .globalImplicit)], isGenerator := false, isCoroutine := false, more := [] } ["end"] 1 [none] := ⟨rfl, by decide +kernel, by decide +kernel, by decide +kernel, rfl, by decide +kernel, rfl, by decide +kernel⟩

section
variable {P : Program} {w : World} {K : PySem.W.Frag} {mg : Str → Option Value} {base : Heap} {f : Addr} {fd : FuncData} {D c1 c2 c3 c4 c5 c6 c7 : Addr}
theorem ok_is_end (F : Fn K mg "is_end" s_is_end ["line", "end"] f fd) : FnOk P w K mg base CX0 1 f fd ["line", "end"] (sp_isend K) := by
  refine F.F.ok sc_is_end (fun vs H Q E h => ?_) (fun cdv A outer s H vs Q E hr h => ?_)
  · obtain ⟨v, l, e, rfl, _⟩ := h; rfl
  · obtain ⟨v, l, e, rfl, hv, k⟩ := h
    obtain ⟨a, b, rfl, ht, us, hl, hq⟩ := da_line hv
    refine ⟨_, (pss_one (ps_ret (pe_chain op_le op_lt pe_int (pv 1) (pe_op op_mul pe_int (pe_ix ix_tup (pv 0) pe_int (fun _ _ => rfl)))))), ?_⟩
    refine ⟨_, rfl, _, _, rfl, rfl, _, rfl, ite2 (fun h => ?_) (fun h => ?_)⟩
    · have h : 0 ≤ e := by simpa using h
      refine ⟨_, rfl, a, _, _, _, rfl, rfl, ht, rfl, _, _, rfl, rfl, .inl ⟨by decide, by decide⟩, _, _, rfl, rfl, ?_⟩
      have e1 : decide (0 ≤ e ∧ e < 2 * l.1) = decide (e < 2 * l.1) := by simp [h]
      rw [e1] at k
      exact k
    · have h : ¬ 0 ≤ e := by simpa using h
      have e1 : decide (0 ≤ e ∧ e < 2 * l.1) = false := by simp [h]
      rw [e1] at k
      exact k
theorem ok_check_train {f1 f2 f3 f4 : Addr} {fd1 fd2 fd3 fd4 : FuncData} (F : Fn K mg "check_train" s_check_train ["line", "train"] f fd) (XS : Xr K mg c2 c3) (B : Bm mg) (F_is_end : Fn K mg "is_end" s_is_end ["line", "end"] f1 fd1)
    (F_piece_of : Fn K mg "piece_of" s_piece_of ["end"] f2 fd2) (F_joined : Fn K mg "joined" s_joined ["line", "end"] f3 fd3) (F_other_end : Fn K mg "other_end" s_other_end ["end"] f4 fd4) : FnOk P w K mg base (CXr P w base) 2 f fd ["line", "train"] (sp_check K c2) := by
  have G_is_end : FnOk P w K mg base CX0 1 f1 fd1 ["line", "end"] (sp_isend K) := ok_is_end F_is_end
  have G_piece_of : FnOk P w K mg base CX0 1 f2 fd2 ["end"] sp_half := ok_piece_of F_piece_of
  have G_joined : FnOk P w K mg base CX0 1 f3 fd3 ["line", "end"] (sp_joined K) := ok_joined F_joined B.toBl
  have G_other_end : FnOk P w K mg base CX0 1 f4 fd4 ["end"] sp_other := ok_other_end F_other_end
  refine F.F.okX sc_check_train (fun vs H Q E h => ?_) (fun cdv A outer s H vs Q E hr h => ?_)
  · obtain ⟨v, u, l, ns, rfl, _⟩ := h; rfl
  · obtain ⟨v, u, l, ns, rfl, hv, hu, ok, hz, k1, k2⟩ := h
    obtain ⟨a, rfl, ha⟩ := da_ints.mp hu
    refine ⟨_, (pss_cons (ps_if (pt_not (pt_truth (pv 1) (fun _ => rfl)))
  (pss_one (ps_raise raises_cx rfl rfl XS.NoTrain.m XS.NoTrain.q PySem.F.excBase_ValueError (pa_cons pe_str pa_nil))) pss_nil)
 (pss_cons (ps_for PassesOwn.leaving rfl (pi_list (pv 1)) (pg_name (i := 2) sc_check_train.nd rfl (Or.inl rfl))
  (pss_one (ps_if (pt_not (pt_val (pe_call G_is_end (hr.mono (by decide)) rfl F_is_end.m F_is_end.F.kp F_is_end.b .nil pass0 (pa_cons (pv 0) (pa_cons (pv 2) pa_nil)))))
  (pss_one (ps_raise raises_cx rfl rfl XS.NoTrain.m XS.NoTrain.q PySem.F.excBase_ValueError (pa_cons pe_str pa_nil))) pss_nil)))
 (pss_cons (ps_if (pt_cmp (pc_lt (pe_callB call_lenS rfl B.len boot_len (pa_cons (pe_sc (pi_list (pv 1)) rfl cc_check_train_0 (.name (by decide)) (fun _ _ _ _ => (pg_name (i := 0) cc_check_train_0.nd rfl (Or.inl rfl))) (fun _ _ _ _ => pifs_nil) (fun _ _ _ _ => (pe_call G_piece_of (hr.mono (by decide)) rfl F_piece_of.m F_piece_of.F.kp F_piece_of.b .nil pass0 (pa_cons (pv 0) pa_nil)))) pa_nil)) (pe_callB call_len_seq rfl B.len boot_len (pa_cons (pv 1) pa_nil))))
  (pss_one (ps_raise raises_cx rfl rfl XS.NoTrain.m XS.NoTrain.q PySem.F.excBase_ValueError (pa_cons pe_str pa_nil))) pss_nil)
 (pss_one (ps_for PassesOwn.leaving rfl (pi_zip rfl B.zip (pa_cons (pv 1) (pa_cons (pe_slice sl_list (pv 1) (po_some pe_int) po_none) pa_nil))) (pg_tup (n := 2) rfl (pgs_cons (pg_name (i := 2) sc_check_train.nd rfl (Or.inl rfl)) (pgs_cons (pg_name (i := 3) sc_check_train.nd rfl (Or.inl rfl)) pgs_nil)))
  (pss_one (ps_if (pt_cmpR (op_notInD hr.units) (pv 3) (pe_call G_joined (hr.mono (by decide)) rfl F_joined.m F_joined.F.kp F_joined.b .nil pass0 (pa_cons (pv 0) (pa_cons (pe_call G_other_end (hr.mono (by decide)) rfl F_other_end.m F_other_end.F.kp F_other_end.b .nil pass0 (pa_cons (pv 2) pa_nil)) pa_nil))) (by with_unfolding_all rfl))
  (pss_one (ps_raise raises_cx rfl rfl XS.NoTrain.m XS.NoTrain.q PySem.F.excBase_ValueError (pa_cons pe_str pa_nil))) pss_nil))))))), ?_⟩
    refine ⟨_, rfl, _, .inl ⟨_, ha, rfl⟩, ite2 (fun h => ?_) (fun h => ?_)⟩
    · have h : ns = [] := by simpa using h
      exact ⟨by decide, fun e he => k2 (fun z => z.1 h) H (Same.refl _) e he⟩
    have hne : ns ≠ [] := by simpa using h
    refine ⟨_, rfl, a, rfl, ⟨_, ha⟩, for_list (K := K) (a := a) (xs := ns.map V.int) (fun i σ H3 => ∃ (x2 x3 : Option V), σ = [some v, some (.ref a), x2, x3] ∧ H3 = H ∧ ∀ e ∈ ns.take i, 0 ≤ e ∧ e < 2 * l.1)
      ⟨none, none, rfl, rfl, fun e he => by simp at he⟩ (fun i σ H3 _ ⟨_, _, _, e, _⟩ => e ▸ ha) ?_ ?_⟩
    · rintro i y σ H3 hi ⟨x2, x3, rfl, rfl, al⟩
      rw [List.getElem?_map] at hi
      obtain ⟨e, he, rfl⟩ : ∃ e, ns[i]? = some e ∧ y = .int e := by
        cases q : ns[i]? with
        | none => rw [q] at hi; cases hi
        | some e => rw [q] at hi; cases hi; exact ⟨e, rfl, rfl⟩
      refine ⟨_, rfl, _, rfl, v, l, e, rfl, hv, _, rfl, ite2 (fun h => ?_) (fun h => ?_)⟩
      · have h : ¬ (0 ≤ e ∧ e < 2 * l.1) := fun z => by simp [z] at h
        exact ⟨by decide, fun x hx => k2 (fun z => h (z.2.ends e (List.mem_of_getElem? he))) H3 (Same.refl _) x hx⟩
      · have h : 0 ≤ e ∧ e < 2 * l.1 := by simpa using h
        refine ⟨_, _, rfl, rfl, fun x hx => ?_⟩
        rw [List.take_add_one, he] at hx
        rcases List.mem_append.mp hx with z | z
        · exact al x z
        · have z : x = e := by simpa using z
          rw [z]; exact h
    rintro σ H3 ⟨x2, x3, rfl, rfl, al⟩
    rw [List.length_map, List.take_length] at al
    -- the set of pieces
    refine ⟨_, rfl, a, rfl, ⟨_, ha⟩, fun q nq => sc_pureJ (js_list ha) ns (fun e => e / 2) nq (by rw [List.length_map]) (by rw [List.length_map]; show ns.length + 1 < 4096; omega) ?_ ?_⟩
    · intro i x d H' hx hd sm P1 P0 p1
      rw [List.getElem?_map, hd] at hx
      cases hx
      refine name_yes ?_
      exact ⟨_, rfl, d, rfl, p1⟩
    have hq3 := upd_same (H := H3) (a := q) (o := .set (fun k => decide (k ∈ ns.map fun e => e / 2)) (dn (ns.map fun e => e / 2) (ns.map V.int).length))
    have s4 := same_upd (o := .set (fun k => decide (k ∈ ns.map fun e => e / 2)) (dn (ns.map fun e => e / 2) (ns.map V.int).length)) nq
    generalize upd H3 q _ = H4 at hq3 s4 ⊢
    refine ⟨q, _, _, rfl, hq3, _, rfl, a, _, rfl, .inl (s4.seq ha), _, _, rfl, rfl, _, rfl, ite2 (fun h => ?_) (fun h => ?_)⟩
    · have h : dn (ns.map fun e => e / 2) (ns.map V.int).length < (ns.map V.int).length := by simpa using h
      rw [List.length_map] at h
      have h2 := (dn_lt (ns.map fun e => e / 2)).mp (by rw [List.length_map]; exact h)
      exact ⟨by decide, fun x hx => k2 (fun z => h2 z.2.nd) H4 s4 x hx⟩
    have h : ¬ dn (ns.map fun e => e / 2) (ns.map V.int).length < (ns.map V.int).length := by simpa using h
    rw [List.length_map] at h
    have nd : (ns.map fun e => e / 2).Nodup := by
      have h3 := (dn_lt (ns.map fun e => e / 2))
      rw [List.length_map] at h3
      exact Decidable.byContradiction fun z => h (h3.mpr z)
    -- train[1:]
    refine ⟨_, rfl, _, rfl, _, rfl, a, _, rfl, s4.seq ha, fun t nt => ?_⟩
    rw [cut_tail]
    have ht := upd_same (H := H4) (a := t) (o := .lst ((ns.drop 1).map V.int))
    have s5 := same_upd (o := .lst ((ns.drop 1).map V.int)) nt
    generalize upd H4 t _ = H5 at ht s5 ⊢
    have S5 := s4.trans s5
    refine ⟨a, t, rfl, ⟨_, S5.seq ha⟩, ⟨_, SqL.of ht⟩, for_zip (K := K) (a := a) (b := t) (xs := ns.map V.int) (ys := (ns.drop 1).map V.int) (ns.length - 1) (by simp)
      (fun i σ H6 => ∃ (x2 x3 : Option V), σ = [some v, some (.ref a), x2, x3] ∧ Same H5 H6 ∧ ∀ j, j < i → ∀ x y, ns[j]? = some x → ns[j + 1]? = some y → y ∈ jn l.2 (oth x))
      ⟨_, _, rfl, Same.refl _, fun j hj => absurd hj (Nat.not_lt_zero j)⟩ (fun i σ H6 _ ⟨_, _, _, s, _⟩ => ⟨(S5.trans s).seq ha, SqL.of (s _ _ ht)⟩) ?_ ?_⟩
    · rintro i x y σ H6 p hx hy ⟨x2, x3, rfl, s6, al2⟩ np
      rw [List.getElem?_map] at hx hy
      rw [List.getElem?_drop, Nat.add_comm] at hy
      obtain ⟨d, hd, rfl⟩ : ∃ e, ns[i]? = some e ∧ x = .int e := by
        cases q : ns[i]? with
        | none => rw [q] at hx; cases hx
        | some e => rw [q] at hx; cases hx; exact ⟨e, rfl, rfl⟩
      obtain ⟨e, he, rfl⟩ : ∃ e, ns[i + 1]? = some e ∧ y = .int e := by
        cases q : ns[i + 1]? with
        | none => rw [q] at hy; cases hy
        | some e => rw [q] at hy; cases hy; exact ⟨e, rfl, rfl⟩
      have S7 := (S5.trans s6).trans (same_upd (o := .tup [.int d, .int e]) np)
      have s7 := s6.trans (same_upd (o := .tup [.int d, .int e]) np)
      refine ⟨p, _, rfl, SqT.of upd_same, rfl, _, _, rfl, _, _, rfl, rfl, ?_⟩
      refine ⟨_, rfl, _, rfl, _, rfl, d, rfl, v, l, _, rfl, Da.same S7 hv, ok, fun r H8 s8 nr hr8 => ?_⟩
      refine ⟨(jn l.2 (oth d)).map PyData.int, .int e, da_new hr8, dg_int.mpr rfl, okDs_I _, okD_int _, _, rfl, ?_⟩
      rw [any_I]
      refine ite2 (fun h => ?_) (fun h => ?_)
      · have h : e ∉ jn l.2 (oth d) := by simpa using h
        exact ⟨by decide, fun x hx => k2 (fun z => h (z.2.ch i d e hd he)) H8 (S7.trans s8) x hx⟩
      · have h : e ∈ jn l.2 (oth d) := by simpa using h
        refine ⟨_, _, rfl, s7.trans s8, fun j hj x2 y2 hx2 hy2 => ?_⟩
        rcases Nat.lt_succ_iff_lt_or_eq.mp hj with z | z
        · exact al2 j z x2 y2 hx2 hy2
        · subst z
          rw [hd] at hx2; rw [he] at hy2
          cases hx2; cases hy2
          exact h
    rintro σ H6 ⟨x2, x3, rfl, s6, al2⟩
    refine k1 ⟨hne, al, nd, fun i x y hx hy => al2 i ?_ x y hx hy⟩ H6 (S5.trans s6)
    have := (List.getElem?_eq_some_iff.mp hy).1
    omega
end
end K07
set_option Elab.async false
set_option linter.all false
set_option maxRecDepth 100000
set_option maxHeartbeats 4000000
namespace K07
open PySem L2 TL PyProof.Rows
theorem TrOk_turn {l : Ln} {ns : List Int} (ok : LineOk l) (T : TrOk l ns) : TrOk l (ns.reverse.map oth) := by
  refine ⟨fun e he => ?_, ?_, fun i x y hx hy => ?_⟩
  · obtain ⟨z, hz, rfl⟩ := List.mem_map.mp he
    have := T.ends z (by simpa using hz)
    unfold oth
    omega
  · have e1 : (ns.reverse.map oth).map (· / 2) = (ns.map (· / 2)).reverse := by
      rw [List.map_map, ← List.map_reverse]
      exact List.map_congr_left fun z _ => oth_half z
    rw [e1]
    unfold List.Nodup
    rw [List.pairwise_reverse]
    exact T.nd.imp fun h => Ne.symm h
  · have ly := (List.getElem?_eq_some_iff.mp hy).1
    rw [List.length_map, List.length_reverse] at ly
    rw [List.getElem?_map, List.getElem?_reverse (by omega)] at hx hy
    cases qx : ns[ns.length - 1 - i]? with
    | none => rw [qx] at hx; cases hx
    | some a =>
      cases qy : ns[ns.length - 1 - (i + 1)]? with
      | none => rw [qy] at hy; cases hy
      | some b =>
        rw [qx] at hx; rw [qy] at hy
        cases hx; cases hy
        show oth b ∈ jn l.2 (oth (oth a))
        rw [oth_oth]
        exact jn_symm ok (T.ch (ns.length - 1 - (i + 1)) b a qy (by rw [← qx]; congr 1; omega))
theorem mvs_key {l : Ln} {ns : List Int} {m m' : Mv} (h : m ∈ mvs l ns) (h' : m' ∈ mvs l ns) (e : m.1 = m'.1) : m.2 = m'.2 := by
  have no : ("on" : Str) ≠ ("back" : Str) := by decide +kernel
  rcases List.mem_append.mp h with z | z <;> rcases List.mem_append.mp h' with z' | z' <;> obtain ⟨x, _, rfl⟩ := List.mem_map.mp z <;> obtain ⟨y, _, rfl⟩ := List.mem_map.mp z'
  · have e : x = y := congrArg Prod.snd e
    rw [e]
  · exact absurd (congrArg Prod.fst e) no
  · exact absurd (congrArg Prod.fst e) no.symm
  · have e : x = y := congrArg Prod.snd e
    rw [e]
theorem fnd_of {l : Ln} {ns : List Int} {m : Mv} (h : m ∈ mvs l ns) : fnd (mvs l ns) m.1 = some m.2 := by
  unfold fnd
  cases q : (mvs l ns).find? (fun x => decide (x.1 = m.1)) with
  | none =>
    have := List.find?_eq_none.mp q m h
    simp at this
  | some x =>
    have h1 := List.mem_of_find?_eq_some q
    have h2 : x.1 = m.1 := by simpa using List.find?_some q
    exact congrArg some (mvs_key h1 h h2)
theorem mvs_mvok {l : Ln} {ns : List Int} {m : Mv} (ok : LineOk l) (h : m ∈ mvs l ns) : MvOk m.1 ∧ PyData.strOk m.1.1 = true := by
  have l40 := ok.most
  rcases List.mem_append.mp h with z | z
  · obtain ⟨e, he, rfl⟩ := List.mem_map.mp z
    have := jn_end ok (fr_mem he).1
    exact ⟨⟨.inl rfl, this.1, by show e < 1000; omega⟩, by show PyData.strOk (Str.ofString "on") = true; decide +kernel⟩
  · obtain ⟨e, he, rfl⟩ := List.mem_map.mp z
    have := jn_end ok (fr_mem he).1
    exact ⟨⟨.inr rfl, this.1, by show e < 1000; omega⟩, by show PyData.strOk (Str.ofString "back") = true; decide +kernel⟩
theorem two_filters {α : Type} (P Q : α → Bool) (hd : ∀ x, P x = true → Q x = true → False) : ∀ l : List α, (l.filter P).length + (l.filter Q).length ≤ l.length
  | [] => by simp
  | x :: l => by
    have ih := two_filters P Q hd l
    rw [List.filter_cons, List.filter_cons]
    cases h1 : P x <;> cases h2 : Q x
    · simp; omega
    · simp; omega
    · simp; omega
    · exact (hd x h1 h2).elim
theorem jn_length (js : List (Int × Int)) (e : Int) : (jn js e).length = (js.filter fun p => decide (p.2 = e)).length + (js.filter fun p => decide (p.1 = e)).length := by
  unfold jn
  rw [srt_length, List.length_append]
  unfold below above
  rw [List.length_map, List.length_map]
theorem ends_ne {l : Ln} {ns : List Int} (T : TrOk l ns) (hne : ns ≠ []) : oth (ns.getLastD 0) ≠ ns.headD 0 := by
  obtain ⟨h, r, rfl⟩ : ∃ h r, ns = h :: r := by cases ns with | nil => exact absurd rfl hne | cons x r => exact ⟨x, r, rfl⟩
  rcases List.eq_nil_or_concat r with e1 | ⟨r', y, e1⟩
  · subst e1
    show oth h ≠ h
    unfold oth; omega
  · rw [List.concat_eq_append] at e1
    subst e1
    have e2 : (h :: (r' ++ [y])).getLastD 0 = y := by rw [← List.cons_append, List.getLastD_eq_getLast?, List.getLast?_concat]; rfl
    rw [e2]
    intro z
    have z : oth y = h := z
    have nd := T.nd
    rw [List.map_cons, List.nodup_cons] at nd
    exact nd.1 (List.mem_map.mpr ⟨y, by simp, by rw [← z]; exact (oth_half y).symm⟩)
theorem mvs_len {l : Ln} {ns : List Int} (T : TrOk l ns) (hne : ns ≠ []) (h24 : l.2.length ≤ 24) : (mvs l ns).length < 64 := by
  unfold mvs
  rw [List.length_append, List.length_map, List.length_map]
  have f1 : (TL.fr l ns (oth (ns.getLastD 0))).length ≤ (jn l.2 (oth (ns.getLastD 0))).length := List.length_filter_le _ _
  have f2 : (TL.fr l ns (ns.headD 0)).length ≤ (jn l.2 (ns.headD 0)).length := List.length_filter_le _ _
  rw [jn_length] at f1 f2
  have ne := ends_ne T hne
  have g1 := two_filters (fun p : Int × Int => decide (p.2 = oth (ns.getLastD 0))) (fun p => decide (p.2 = ns.headD 0)) (fun x a b => ne (by rw [← of_decide_eq_true a]; exact of_decide_eq_true b)) l.2
  have g2 := two_filters (fun p : Int × Int => decide (p.1 = oth (ns.getLastD 0))) (fun p => decide (p.1 = ns.headD 0)) (fun x a b => ne (by rw [← of_decide_eq_true a]; exact of_decide_eq_true b)) l.2
  omega
theorem sorted_one {a b : List Mv} (hp : a.Perm b) (ha : a.Pairwise fun x y => mKey x.1 ≤ mKey y.1) (hb : b.Pairwise fun x y => mKey x.1 ≤ mKey y.1) (hok : ∀ m ∈ a, MvOk m.1) (hdet : ∀ m ∈ a, ∀ m' ∈ a, m.1 = m'.1 → m.2 = m'.2) : a = b := by
  refine List.Perm.eq_of_pairwise (le := fun x y : Mv => mKey x.1 ≤ mKey y.1) (fun x y hx hy h1 h2 => ?_) ha hb hp
  have hy' := hp.mem_iff.mpr hy
  have e := mKey_inj (hok x hx) (hok y hy') (by omega)
  exact Prod.ext e (hdet x hx y hy' e)
theorem turn_perm {l : Ln} {ns : List Int} (hne : ns ≠ []) : ((mvs l ns).map turnM).Perm (mvs l (ns.reverse.map oth)) := by
  rw [mvs_turn hne]
  unfold mvs
  rw [List.map_append]
  exact List.perm_append_comm
theorem turn_turn (ns : List Int) : (ns.reverse.map oth).reverse.map oth = ns := by
  rw [← List.map_reverse, List.reverse_reverse, List.map_map]
  exact (List.map_congr_left fun x _ => oth_oth x).trans (List.map_id _)
end K07
set_option Elab.async false
set_option linter.all false
set_option maxRecDepth 100000
set_option maxHeartbeats 4000000
namespace K07
open PySem L2 TL PyProof.Rows
theorem da_M {K : PySem.W.Frag} {H : Hp} {k : Str × Int} {v : V} (h : Da K H (dM k) v) : ∃ a, v = .ref a ∧ SqT K H a [.str k.1, .int k.2] := by
  unfold dM at h
  obtain ⟨a, vs, rfl, ht, q⟩ := dg_tuple.mp h
  obtain ⟨v1, r, rfl, h1, q⟩ := dgs_cons.mp q
  obtain ⟨v2, r, rfl, h2, q⟩ := dgs_cons.mp q
  cases dgs_nil.mp q
  cases dg_str.mp h1
  cases dg_int.mp h2
  exact ⟨a, rfl, ht⟩
theorem da_M' {K : PySem.W.Frag} {H : Hp} {k : Str × Int} {a : Addr} (h : SqT K H a [.str k.1, .int k.2]) : Da K H (dM k) (.ref a) := dg_tuple.mpr ⟨a, _, rfl, h, Dgs.two (dg_str.mpr rfl) (dg_int.mpr rfl)⟩
theorem das_new {K : PySem.W.Frag} {H H1 : Hp} {p : Addr} {ds : List PyData} {vs : List V} (D : Dgs (Lf H H1 p) (SqT K H1) ds vs) : Das K H1 ds vs := Dgs.mono (fun a us h => SqL.of h.1) (fun _ _ h => h) D
def dMs (ms : List Mv) : PyData := .list (ms.map dMv)
theorem okD_Ms {ms : List Mv} (h : ∀ m ∈ ms, PyData.strOk m.1.1 = true) : OkD (dMs ms) := by
  refine ⟨?_, ?_⟩
  · simp only [dMs, PyData.canLay0]
    refine canLayAll0_mem _ fun d hd => ?_
    obtain ⟨m, hm, rfl⟩ := List.mem_map.mp hd
    simp only [dMv, PyData.canLay0, PyData.canLayAll0, h m hm, (okD_ints m.2).1, Bool.and_true]
  · simp only [dMs, PyData.depth]
    have := depthAll_map (f := dMv) (k := 2) (fun m => by
      simp only [dMv, dI, PyData.depth, PyData.depthAll]
      have := depthAll_map (f := PyData.int) (k := 0) (fun _ => by simp [PyData.depth]) m.2
      omega) ms
    omega
theorem t_yes {σ : L2.St} {H : Hp} {te : TE} {P1 : VK} {P0 : Hp → Prop} (h : te σ H P1) : tYes σ H (fun b H3 => if b = true then te σ H3 P1 else P0 H3) := iteT (A := te σ H P1) (B := P0 H) h
def sp_holds (K : PySem.W.Frag) : Sp := fun vs H Q _ => ∃ (v u : V) (l : Ln) (ns : List Int), vs = [v, u] ∧ Da K H (dL l) v ∧ Da K H (dI ns) u ∧ LineOk l ∧ l.2.length ≤ 24 ∧ ns ≠ [] ∧ ns.length ≤ 40 ∧ TrOk l ns ∧ ∀ H', Same H H' → Q (.bl true) H'
abbrev s_law_holds : Stmt := top 24
theorem sc_law_holds : FnScope ["_law_line_here", "_law_train_here", "_law_found", "_law_move", "_law_behind", "_law_undo", "_law_due"] ["_law_line_here", "_law_train_here"] (defScope s_law_holds) := ⟨rfl, rfl, rfl, by decide +kernel, rfl, by decide +kernel, by decide +kernel⟩
theorem cc_law_holds_0 : CompOk (defScope s_law_holds) ["_law_line_here", "_law_train_here", "_law_found", "_law_move", "_law_behind", "_law_undo", "_law_due"] { kind := .function, names := [(Str.ofString ".0", .local), (Str.ofString "_law_move", .local), (Str.ofString "_law_behind", .local), (Str.ofString "int", .globalImplicit), (Str.ofString "turned", .globalImplicit)], isGenerator := false, isCoroutine := false, more := [] } ["_law_move", "_law_behind"] 2 [none, none] := ⟨rfl, by decide +kernel, by decide +kernel, by decide +kernel, rfl, by decide +kernel, rfl, by decide +kernel⟩

section
variable {P : Program} {w : World} {K : PySem.W.Frag} {mg : Str → Option Value} {base : Heap} {f : Addr} {fd : FuncData} {c2 c3 : Addr}
theorem ok_law_holds {f1 f2 f3 f4 f5 : Addr} {fd1 fd2 fd3 fd4 fd5 : FuncData} (F : Fn K mg "_law_holds" s_law_holds ["_law_line_here", "_law_train_here"] f fd) (B : Bm mg)
    (F_check_train : Fn K mg "check_train" s_check_train ["line", "train"] f1 fd1) (G_check_train : FnOk P w K mg base (CXr P w base) 2 f1 fd1 ["line", "train"] (sp_check K c2))
    (F_done : Fn K mg "done" s_done ["line", "train", "move"] f2 fd2) (G_done : FnOk P w K mg base (CXr P w base) 4 f2 fd2 ["line", "train", "move"] (sp_done K c3))
    (F_moves_of : Fn K mg "moves_of" s_moves_of ["line", "train"] f3 fd3) (G_moves_of : FnOk P w K mg base CX0 3 f3 fd3 ["line", "train"] (sp_moves K))
    (F_turned : Fn K mg "turned" s_turned ["train"] f4 fd4) (F_other_end : Fn K mg "other_end" s_other_end ["end"] f5 fd5) : FnOk P w K mg base CX0 5 f fd ["_law_line_here", "_law_train_here"] (sp_holds K) := by
  have G_turned : FnOk P w K mg base CX0 2 f4 fd4 ["train"] (sp_round K) := ok_turned F_turned B.toBl F_other_end
  have G_other_end : FnOk P w K mg base CX0 1 f5 fd5 ["end"] sp_other := ok_other_end F_other_end
  refine F.F.ok sc_law_holds (fun vs H Q E h => ?_) (fun cdv A outer s H vs Q E hr h => ?_)
  · obtain ⟨v, u, l, ns, rfl, _⟩ := h; rfl
  · obtain ⟨v, u, l, ns, rfl, hv, hu, ok, h24, hne, h40, T, k⟩ := h
    obtain ⟨a, rfl, ha⟩ := da_ints.mp hu
    have rl : (ns.reverse.map oth).length = ns.length := by simp
    have Tr := TrOk_turn ok T
    have rne : ns.reverse.map oth ≠ [] := by simpa using hne
    have it : isT l ns := ⟨hne, T.ends, T.nd, T.ch⟩
    have itr : isT l (ns.reverse.map oth) := ⟨rne, Tr.ends, Tr.nd, Tr.ch⟩
    refine ⟨_, (pss_cons (ps_if (PW.pt (pw_or (pt_cmp (pc_notN (pe_call G_check_train (hr.mono (by decide)) rfl F_check_train.m F_check_train.F.kp F_check_train.b .nil passes_no (pa_cons (pv 0) (pa_cons (pv 1) pa_nil))))) (pw_or1 (pt_cmp (pc_notN (pe_call G_check_train (hr.mono (by decide)) rfl F_check_train.m F_check_train.F.kp F_check_train.b .nil passes_no (pa_cons (pv 0) (pa_cons (pe_call G_turned (hr.mono (by decide)) rfl F_turned.m F_turned.F.kp F_turned.b .nil pass0 (pa_cons (pv 1) pa_nil)) pa_nil))))))))
  (pss_one (ps_ret pe_bl)) pss_nil)
 (pss_cons (ps_if (pt_cmpR (op_neD hr.units) (pe_call G_turned (hr.mono (by decide)) rfl F_turned.m F_turned.F.kp F_turned.b .nil pass0 (pa_cons (pe_call G_turned (hr.mono (by decide)) rfl F_turned.m F_turned.F.kp F_turned.b .nil pass0 (pa_cons (pv 1) pa_nil)) pa_nil)) (pv 1) (nomark _))
  (pss_one (ps_ret pe_bl)) pss_nil)
 (pss_cons (ps_set (i := 2) sc_law_holds.nd rfl (Or.inl rfl) (pe_call G_moves_of (hr.mono (by decide)) rfl F_moves_of.m F_moves_of.F.kp F_moves_of.b .nil pass0 (pa_cons (pv 0) (pa_cons (pv 1) pa_nil))))
 (pss_cons (ps_for PassesOwn.never rfl (pi_list (pv 2)) (pg_tup (n := 2) rfl (pgs_cons (pg_name (i := 3) sc_law_holds.nd rfl (Or.inl rfl)) (pgs_cons (pg_name (i := 4) sc_law_holds.nd rfl (Or.inl rfl)) pgs_nil)))
  (pss_cons (ps_if (PW.pt (pw_or (pt_cmpR (op_neD hr.units) (pe_call G_done (hr.mono (by decide)) rfl F_done.m F_done.F.kp F_done.b .nil passes_no (pa_cons (pv 0) (pa_cons (pv 1) (pa_cons (pv 3) pa_nil)))) (pv 4) (nomark _)) (pw_or1 (pt_cmp (pc_notN (pe_call G_check_train (hr.mono (by decide)) rfl F_check_train.m F_check_train.F.kp F_check_train.b .nil passes_no (pa_cons (pv 0) (pa_cons (pv 4) pa_nil))))))))
  (pss_one (ps_ret pe_bl)) pss_nil)
 (pss_cons (ps_set (i := 5) sc_law_holds.nd rfl (Or.inl rfl) (pe_tup (pa_cons pe_str (pa_cons (pe_call G_other_end (hr.mono (by decide)) rfl F_other_end.m F_other_end.F.kp F_other_end.b .nil pass0 (pa_cons (pe_ix ix_list (pv 1) pe_int (fun _ _ => rfl)) pa_nil)) pa_nil))))
 (pss_cons (ps_if (pt_cmpR op_eq (pe_ix ix_tup (pv 3) pe_int (fun _ _ => rfl)) pe_str (nomark _))
  (pss_one (ps_set (i := 5) sc_law_holds.nd rfl (Or.inl rfl) (pe_tup (pa_cons pe_str (pa_cons (pe_ix ix_list (pv 1) (pe_un un_neg pe_int) (fun _ _ => rfl)) pa_nil))))) pss_nil)
 (pss_one (ps_if (pt_cmpR (op_neD hr.units) (pe_call G_done (hr.mono (by decide)) rfl F_done.m F_done.F.kp F_done.b .nil passes_no (pa_cons (pv 0) (pa_cons (pv 4) (pa_cons (pv 5) pa_nil)))) (pv 1) (nomark _))
  (pss_one (ps_ret pe_bl)) pss_nil))))))
 (pss_cons (ps_lc (i := 6) sc_law_holds.nd rfl rfl (pi_list (pv 2)) rfl cc_law_holds_0 (.tup (.cons (.name (by decide)) (.cons (.name (by decide)) .nil))) (fun _ _ _ _ => (pg_tup (n := 2) rfl (pgs_cons (pg_name (i := 0) cc_law_holds_0.nd rfl (Or.inl rfl)) (pgs_cons (pg_name (i := 1) cc_law_holds_0.nd rfl (Or.inl rfl)) pgs_nil)))) (fun _ _ _ _ => pifs_nil) (fun _ _ _ _ => (pe_tup (pa_cons (pe_tup (pa_cons (pe_ix (ix_listk (K := K) rfl) (pe_lst (pa_cons pe_str (pa_cons pe_str pa_nil))) (pe_callTy call_int1 rfl B.int boot_int (pa_cons (pe_cmpR op_eq (pe_ix (ix_tupk (K := K) rfl) (pv 0) pe_int (fun _ _ => rfl)) pe_str (nomark _)) pa_nil)) (fun _ _ => rfl)) (pa_cons (pe_ix (ix_tupk (K := K) rfl) (pv 0) pe_int (fun _ _ => rfl)) pa_nil))) (pa_cons (pe_call G_turned (hr.mono (by decide)) rfl F_turned.m F_turned.F.kp F_turned.b .nil pass0 (pa_cons (pv 1) pa_nil)) pa_nil)))))
 (pss_one (ps_ret (pe_cmpR (op_eqD hr.units) (pe_callB (call_sortM hr.units) rfl B.sorted boot_sorted (pa_cons (pe_call G_moves_of (hr.mono (by decide)) rfl F_moves_of.m F_moves_of.F.kp F_moves_of.b .nil pass0 (pa_cons (pv 0) (pa_cons (pe_call G_turned (hr.mono (by decide)) rfl F_turned.m F_turned.F.kp F_turned.b .nil pass0 (pa_cons (pv 1) pa_nil)) pa_nil))) pa_nil)) (pe_callB (call_sortM hr.units) rfl B.sorted boot_sorted (pa_cons (pv 6) pa_nil)) (nomark _))))))))), ?_⟩
    refine ⟨_, rfl, _, rfl, _, _, l, ns, rfl, hv, hu, ok, by omega, fun _ H1 s1 => ⟨_, rfl, iteF ?_⟩, fun z => absurd it z⟩
    refine ⟨_, rfl, _, rfl, _, ns, rfl, Da.same s1 hu, by omega, fun r H2 s2 nr hr2 => ?_⟩
    have S2 := s1.trans s2
    refine ⟨_, _, l, ns.reverse.map oth, rfl, Da.same S2 hv, da_new hr2, ok, by omega, fun _ H3 s3 => ⟨_, rfl, iteF ?_⟩, fun z => absurd itr z⟩
    have S3 := S2.trans s3
    refine ⟨_, rfl, _, ns, rfl, Da.same S3 hu, by omega, fun r1 H4 s4 n4 h4 => ⟨_, _, rfl, da_new h4, by omega, fun r2 H5 s5 n5 h5 => ?_⟩⟩
    rw [turn_turn] at h5
    have S5 := (S3.trans s4).trans s5
    refine ⟨_, rfl, dI ns, dI ns, da_new h5, Da.same S5 hu, okD_ints _, okD_ints _, _, rfl, ?_⟩
    rw [eqv_same (okD_ints _)]
    refine iteF ?_
    refine ⟨_, rfl, _, rfl, _, _, l, ns, rfl, Da.same S5 hv, Da.same S5 hu, ok, hne, by omega, fun pm vm H6 s6 hpm hpm2 Dm => ?_⟩
    have S6 := S5.trans s6
    have mlen : (mvs l ns).length = vm.length := by have := Dm.length; rw [List.length_map] at this; exact this.symm
    refine ⟨_, rfl, pm, rfl, ⟨_, SqL.of hpm2⟩, for_list (K := K) (a := pm) (xs := vm) (fun j σ H7 => ∃ (x3 x4 x5 : Option V), σ = [some v, some (.ref a), some (.ref pm), x3, x4, x5, none] ∧ Same H6 H7)
      ⟨none, none, none, rfl, Same.refl _⟩ (fun j σ H7 _ ⟨_, _, _, _, sm⟩ => SqL.of (sm _ _ hpm2)) ?_ ?_⟩
    · rintro j y σ H7 hj ⟨x3, x4, x5, rfl, sm⟩
      obtain ⟨m, ad, p1, bb, hm, rfl, ht, dm, hbb, nbb, _⟩ := mv_at Dm hj
      have mm := List.mem_of_getElem? hm
      obtain ⟨T1, T2, T3⟩ := mvs_ok ok T hne mm
      have mok := (mvs_mvok ok mm).2
      have S7 := S6.trans sm
      obtain ⟨a1, ea1, htm⟩ := da_M dm
      cases ea1
      refine ⟨ad, _, rfl, same_tseq sm ht, rfl, _, _, rfl, _, _, rfl, rfl, ?_⟩
      refine ⟨_, rfl, _, rfl, _, rfl, _, _, _, l, ns, m.1, rfl, Da.same S7 hv, Da.same S7 hu, Da.same sm dm, mok, ok, hne, by omega, fun b hb r8 H8 s8 n8 h8 => ?_, fun z => absurd (fnd_of mm) (by rw [z]; intro q; cases q)⟩
      rw [fnd_of mm] at hb
      cases hb
      have S8 := S7.trans s8
      have sm8 := sm.trans s8
      refine ⟨_, rfl, dI m.2, dI m.2, da_new h8, da_new (sm8 _ _ hbb), okD_ints _, okD_ints _, _, rfl, ?_⟩
      rw [eqv_same (okD_ints _)]
      refine iteF ?_
      refine ⟨_, rfl, _, rfl, _, _, l, m.2, rfl, Da.same S8 hv, da_new (sm8 _ _ hbb), ok, by omega, fun _ H9 s9 => ⟨_, rfl, iteF ?_⟩, fun z => absurd ⟨T3, T1.ends, T1.nd, T1.ch⟩ z⟩
      have S9 := S8.trans s9
      have sm9 := sm8.trans s9
      obtain ⟨x0, xr, e0⟩ : ∃ x0 xr, ns = x0 :: xr := by cases ns with | nil => exact absurd rfl hne | cons x r => exact ⟨x, r, rfl⟩
      have hla : ns[ns.length - 1]? = some (ns.getLastD 0) := by
        rw [List.getLastD_eq_getLast?, List.getLast?_eq_getElem?, List.getElem?_eq_getElem (by rw [e0]; simp)]; rfl
      have hd0 : ns.headD 0 = x0 := by rw [e0]; rfl
      refine ⟨_, rfl, a, _, _, _, rfl, rfl, S9.seq ha, at_nat (v := V.int x0) (by decide) (by rw [e0]; rfl), x0, rfl, by show 2 ≤ sizeLine; decide, fun t nt => ?_⟩
      have s10 := same_upd (o := .tup [.str "back", .int (oth x0)]) nt
      have ht10 := upd_same (H := H9) (a := t) (o := .tup [.str "back", .int (oth x0)])
      have S10 := S9.trans s10
      have sm10 := sm9.trans s10
      generalize upd H9 t _ = H10 at s10 ht10 S10 sm10 ⊢
      have no : ("on" : Str) ≠ ("back" : Str) := by decide +kernel
      refine ⟨_, rfl, p1, _, _, _, rfl, rfl, same_tseq sm10 htm, rfl, rfl, _, rfl, ite2 (fun hb => ?_) (fun hb => ?_)⟩
      · have hb : m.1.1 = ("back" : Str) := by simpa using hb
        refine ⟨_, rfl, _, rfl, a, _, _, _, rfl, rfl, S10.seq ha, at_neg1 (by rw [List.length_map, List.getElem?_map, hla]; rfl), by show 2 ≤ sizeLine; decide, fun t2 nt2 => ?_⟩
        have s11 := same_upd (o := .tup [.str "on", .int (ns.getLastD 0)]) nt2
        have ht11 := upd_same (H := H10) (a := t2) (o := .tup [.str "on", .int (ns.getLastD 0)])
        have S11 := S10.trans s11
        have sm11 := sm10.trans s11
        generalize upd H10 t2 _ = H11 at s11 ht11 S11 sm11 ⊢
        have q5 : fnd (mvs l m.2) (("on" : Str), ns.getLastD 0) = some ns := by
          rcases List.mem_append.mp mm with z | z
          · obtain ⟨e, he, rfl⟩ := List.mem_map.mp z
            exact absurd hb no
          · obtain ⟨e, he, rfl⟩ := List.mem_map.mp z
            exact fnd_of (undo_back ok T hne he)
        refine ⟨_, rfl, _, rfl, _, rfl, _, _, _, l, m.2, (("on" : Str), ns.getLastD 0), rfl, Da.same S11 hv, da_new (sm11 _ _ hbb), da_M' (k := (("on" : Str), ns.getLastD 0)) (SqT.of ht11), by show PyData.strOk (Str.ofString "on") = true; decide +kernel, ok, T3, by omega, fun b hb r12 H12 s12 n12 h12 => ?_, fun z => absurd q5 (by rw [z]; intro q; cases q)⟩
        rw [q5] at hb
        cases hb
        refine ⟨_, rfl, dI ns, dI ns, da_new h12, Da.same (S11.trans s12) hu, okD_ints _, okD_ints _, _, rfl, ?_⟩
        rw [eqv_same (okD_ints _)]
        exact iteF ⟨_, _, _, rfl, sm11.trans s12⟩
      · have hb : m.1.1 ≠ ("back" : Str) := by simpa using hb
        have q5 : fnd (mvs l m.2) (("back" : Str), oth x0) = some ns := by
          rcases List.mem_append.mp mm with z | z
          · obtain ⟨e, he, rfl⟩ := List.mem_map.mp z
            have := fnd_of (undo_on ok T hne he)
            rw [hd0] at this
            exact this
          · obtain ⟨e, he, rfl⟩ := List.mem_map.mp z
            exact absurd rfl hb
        refine ⟨_, rfl, _, rfl, _, rfl, _, _, _, l, m.2, (("back" : Str), oth x0), rfl, Da.same S10 hv, da_new (sm10 _ _ hbb), da_M' (k := (("back" : Str), oth x0)) (SqT.of ht10), by show PyData.strOk (Str.ofString "back") = true; decide +kernel, ok, T3, by omega, fun b hb r12 H12 s12 n12 h12 => ?_, fun z => absurd q5 (by rw [z]; intro q; cases q)⟩
        rw [q5] at hb
        cases hb
        refine ⟨_, rfl, dI ns, dI ns, da_new h12, Da.same (S10.trans s12) hu, okD_ints _, okD_ints _, _, rfl, ?_⟩
        rw [eqv_same (okD_ints _)]
        exact iteF ⟨_, _, _, rfl, sm10.trans s12⟩
    · rintro σ H7 ⟨x3, x4, x5, rfl, sm⟩
      have S7 := S6.trans sm
      have hpm7 := sm _ _ hpm2
      refine ⟨_, rfl, pm, rfl, ⟨_, SqL.of hpm7⟩, fun ql nql => lc_data (K := K) vm.length (mvs l ns) (fun m => dMv (turnM m)) nql mlen.symm (small_l (by have := mvs_len T hne h24; omega)) (fun i H s hi => (js_list (SqL.of hpm7)).go i H s hi) (fun H s => (js_list (SqL.of hpm7)).stop H s) ?_ ?_⟩
      · rintro i x d H8 H9 s8 ⟨us8, hl8⟩ ⟨rfl, y⟩ hd P1 P0 k1
        have sm8 := sm.trans s8
        have hx := y vm (SqL.of (sm8 _ _ hpm2))
        obtain ⟨m, ad, p1, bb, hm, rfl, ht, dm, hbb, nbb, _⟩ := mv_at Dm hx
        rw [hd] at hm
        cases hm
        have mm := List.mem_of_getElem? hd
        obtain ⟨T1, T2, T3⟩ := mvs_ok ok T hne mm
        obtain ⟨a1, ea1, htm⟩ := da_M dm
        cases ea1
        refine ⟨ad, _, rfl, same_tseq sm8 ht, rfl, _, _, rfl, _, _, rfl, rfl, ?_⟩
        refine t_yes ?_
        refine ⟨by show 2 ≤ sizeLine; decide, fun q1 nq1 => ?_⟩
        have u1 := same_upd (o := .lst [V.str "on", V.str "back"]) nq1
        have g1 := upd_same (H := H9) (a := q1) (o := .lst [V.str "on", V.str "back"])
        generalize upd H9 q1 _ = G1 at u1 g1 ⊢
        have hw : atI [V.str "on", V.str "back"] (if decide (V.str d.1.1 = V.str "on") = true then 1 else 0) = some (V.str (if d.1.1 = ("on" : Str) then "back" else "on")) := by
          by_cases e : d.1.1 = ("on" : Str)
          · rw [if_pos e, if_pos (by rw [e]; simp)]; rfl
          · rw [if_neg e, if_neg (by simpa using e)]; rfl
        refine ⟨_, rfl, p1, _, _, _, rfl, rfl, same_tseq (sm8.trans u1) htm, rfl, rfl, .inr ⟨_, rfl, q1, _, _, _, rfl, rfl, SqL.of g1, hw, ?_⟩⟩
        refine ⟨_, rfl, p1, _, _, _, rfl, rfl, same_tseq (sm8.trans u1) htm, rfl, by show 2 ≤ sizeLine; decide, fun q2 nq2 => ?_⟩
        have u2 := same_upd (o := .tup [V.str (if d.1.1 = ("on" : Str) then "back" else "on"), V.int d.1.2]) nq2
        have g2 := upd_same (H := G1) (a := q2) (o := .tup [V.str (if d.1.1 = ("on" : Str) then "back" else "on"), V.int d.1.2])
        generalize upd G1 q2 _ = G2 at u2 g2 ⊢
        have sm2 := (sm8.trans u1).trans u2
        refine ⟨_, rfl, _, d.2, rfl, da_new (sm2 _ _ hbb), by omega, fun r3 G3 u3 n3 g3 => ⟨by show 2 ≤ sizeLine; decide, fun q3 nq3 => ?_⟩⟩
        have u4 := same_upd (o := .tup [V.ref q2, V.ref r3]) nq3
        have g4 := upd_same (H := G3) (a := q3) (o := .tup [V.ref q2, V.ref r3])
        generalize upd G3 q3 _ = G4 at u4 g4 ⊢
        have l1 := u1 _ _ hl8
        have l2 := u2 _ _ l1
        have l3 := u3 _ _ l2
        have e2 : q2 ≠ ql := Ne.symm (ne_of_none l1 nq2)
        have e3 : r3 ≠ ql := Ne.symm (ne_of_none l2 n3)
        have e4 : q3 ≠ ql := Ne.symm (ne_of_none l3 nq3)
        refine k1 _ _ (((u1.trans u2).trans u3).trans u4) (dg_tuple.mpr ⟨q3, _, rfl, SqT.of (by rw [hid_ne e4]; exact g4), Dgs.two (dg_tuple.mpr ⟨q2, _, rfl, SqT.of (by rw [hid_ne e2]; exact (u3.trans u4) _ _ g2), Dgs.two (dg_str.mpr rfl) (dg_int.mpr rfl)⟩) (da_new (by rw [hid_ne e3]; exact u4 _ _ g3))⟩)
      · rintro vd H8 s8 hl8 Dd
        have S8 := S7.trans s8
        have Dd : Das K H8 ((mvs l ns).map fun m => dMv (turnM m)) vd := Das.same hid_same Dd
        have ed : ((mvs l ns).map fun m => dMv (turnM m)) = ((mvs l ns).map turnM).map dMv := by rw [List.map_map]; rfl
        rw [ed] at Dd
        have tp := turn_perm (l := l) hne
        refine ⟨_, rfl, _, rfl, _, ns, rfl, Da.same S8 hu, by omega, fun r H9 s9 nr hr9 => ?_⟩
        have S9 := S8.trans s9
        refine ⟨_, _, l, ns.reverse.map oth, rfl, Da.same S9 hv, da_new hr9, ok, rne, by omega, fun pm2 vm2 HA sA nA hA DA => ?_⟩
        have SA := S9.trans sA
        refine ⟨pm2, mvs l (ns.reverse.map oth), vm2, rfl, SqL.of hA, das_new DA, mvs_len Tr rne h24, fun m hm => mvs_mvok ok hm, fun m hm m' hm' e => mvs_key hm hm' e, fun qa va ma nqa pa wa da => ?_⟩
        have sB := same_upd (o := .lst va) nqa
        have gB := upd_same (H := HA) (a := qa) (o := .lst va)
        generalize upd HA qa _ = HB at sB gB ⊢
        have s8B := (s9.trans sA).trans sB
        have ok2 : ∀ m ∈ (mvs l ns).map turnM, MvOk m.1 ∧ PyData.strOk m.1.1 = true := fun m hm => mvs_mvok ok (tp.mem_iff.mp hm)
        refine ⟨_, rfl, ql, (mvs l ns).map turnM, vd, rfl, SqL.of (s8B _ _ hl8), Das.same s8B Dd, by rw [List.length_map]; exact mvs_len T hne h24, ok2, fun m hm m' hm' e => mvs_key (tp.mem_iff.mp hm) (tp.mem_iff.mp hm') e, fun qb vb mb nqb pb wb db => ?_⟩
        have sC := same_upd (o := .lst vb) nqb
        have gC := upd_same (H := HB) (a := qb) (o := .lst vb)
        generalize upd HB qb _ = HC at sC gC ⊢
        have pe : ma.Perm mb := pa.trans (tp.symm.trans pb.symm)
        have same := sorted_one pe wa wb (fun m hm => (mvs_mvok ok (pa.mem_iff.mp hm)).1) (fun m hm m' hm' e => mvs_key (pa.mem_iff.mp hm) (pa.mem_iff.mp hm') e)
        subst same
        have okd : OkD (dMs ma) := okD_Ms fun m hm => (mvs_mvok ok (pa.mem_iff.mp hm)).2
        refine ⟨dMs ma, dMs ma, dg_list.mpr ⟨qa, va, rfl, SqL.of (sC _ _ gB), Das.same (sB.trans sC) da⟩, dg_list.mpr ⟨qb, vb, rfl, SqL.of gC, Das.same sC db⟩, okd, okd, ?_⟩
        rw [eqv_same okd]
        exact k _ ((SA.trans sB).trans sC)
end
end K07
set_option Elab.async false
set_option linter.all false
set_option maxRecDepth 100000
set_option maxHeartbeats 4000000
namespace K07
open PySem L2 TL PyProof.Rows
def sp_law (K : PySem.W.Frag) : Sp := fun vs H Q _ => ∃ (a : Addr) (ns : List Int), vs = [.ref a] ∧ SqL K H a (ns.map V.int) ∧ ∀ H', Q (.bl true) H'
abbrev s_law : Stmt := top 25
theorem sc_law : FnScope ["_law_script", "_law_line_here", "_law_k", "_law_number"] ["_law_script"] (defScope s_law) := ⟨rfl, rfl, rfl, by decide +kernel, rfl, by decide +kernel, by decide +kernel⟩

section
variable {P : Program} {w : World} {K : PySem.W.Frag} {mg : Str → Option Value} {base : Heap} {f : Addr} {fd : FuncData} {c2 c3 : Addr}
theorem ok_law {f1 f2 f3 f4 f5 : Addr} {fd1 fd2 fd3 fd4 fd5 : FuncData} (F : Fn K mg "law" s_law ["_law_script"] f fd) (B : Bm mg)
    (F_law_line : Fn K mg "_law_line" s_law_line ["_law_script"] f1 fd1) (G_law_line : FnOk P w K mg base CX0 3 f1 fd1 ["_law_script"] (sp_line K))
    (F_law_cell_at : Fn K mg "_law_cell_at" s_law_cell_at ["_law_script", "_law_k"] f2 fd2) (F_law_mix : Fn K mg "_law_mix" s_law_mix ["_law_cell", "_law_k"] f3 fd3)
    (F_law_train : Fn K mg "_law_train" s_law_train ["_law_line_here", "_law_cell", "_law_length"] f4 fd4) (G_law_train : FnOk P w K mg base CX0 2 f4 fd4 ["_law_line_here", "_law_cell", "_law_length"] (sp_train K))
    (F_law_holds : Fn K mg "_law_holds" s_law_holds ["_law_line_here", "_law_train_here"] f5 fd5) (G_law_holds : FnOk P w K mg base CX0 5 f5 fd5 ["_law_line_here", "_law_train_here"] (sp_holds K)) : FnOk P w K mg base CX0 6 f fd ["_law_script"] (sp_law K) := by
  have G_law_mix : FnOk P w K mg base CX0 1 f3 fd3 ["_law_cell", "_law_k"] sp_mix := ok_law_mix F_law_mix B.toBl
  have G_law_cell_at : FnOk P w K mg base CX0 1 f2 fd2 ["_law_script", "_law_k"] (sp_cell K) := ok_law_cell_at F_law_cell_at B.toBl
  refine F.F.ok sc_law (fun vs H Q E h => ?_) (fun cdv A outer s H vs Q E hr h => ?_)
  · obtain ⟨a, ns, rfl, _⟩ := h; rfl
  · obtain ⟨a, ns, rfl, hS, k⟩ := h
    refine ⟨_, (pss_cons (ps_set (i := 1) sc_law.nd rfl (Or.inl rfl) (pe_call G_law_line (hr.mono (by decide)) rfl F_law_line.m F_law_line.F.kp F_law_line.b .nil pass0 (pa_cons (pv 0) pa_nil)))
 (pss_cons (ps_for PassesOwn.never rfl (pi_range1 rfl B.range (pa_cons pe_int pa_nil)) (pg_name (i := 2) sc_law.nd rfl (Or.inl rfl))
  (pss_cons (ps_set (i := 3) sc_law.nd rfl (Or.inl rfl) (pe_call G_law_mix (hr.mono (by decide)) rfl F_law_mix.m F_law_mix.F.kp F_law_mix.b .nil pass0 (pa_cons (pe_call G_law_cell_at (hr.mono (by decide)) rfl F_law_cell_at.m F_law_cell_at.F.kp F_law_cell_at.b .nil pass0 (pa_cons (pv 0) (pa_cons (pe_op op_add pe_int (pv 2)) pa_nil))) (pa_cons pe_int pa_nil))))
 (pss_one (ps_if (pt_not (pt_val (pe_call G_law_holds (hr.mono (by decide)) rfl F_law_holds.m F_law_holds.F.kp F_law_holds.b .nil pass0 (pa_cons (pv 1) (pa_cons (pe_call G_law_train (hr.mono (by decide)) rfl F_law_train.m F_law_train.F.kp F_law_train.b .nil pass0 (pa_cons (pv 1) (pa_cons (pe_call G_law_cell_at (hr.mono (by decide)) rfl F_law_cell_at.m F_law_cell_at.F.kp F_law_cell_at.b .nil pass0 (pa_cons (pv 0) (pa_cons (pe_op op_add pe_int (pv 2)) pa_nil))) (pa_cons (pe_op op_add pe_int (pe_op op_mod (pv 3) pe_int)) pa_nil)))) pa_nil)))))
  (pss_one (ps_ret pe_bl)) pss_nil))))
 (pss_one (ps_ret pe_bl)))), ?_⟩
    refine ⟨_, rfl, a, ns, rfl, hS, fun v l H1 s1 hv ok h24 => ?_⟩
    refine ⟨8, rfl, by decide, by decide, for_range (fun i σ H6 => ∃ (x2 x3 : Option V), σ = [some (.ref a), some v, x2, x3] ∧ Same H1 H6) ⟨none, none, rfl, Same.refl _⟩ ?_ ?_⟩
    · rintro i σ H6 hi ⟨x2, x3, rfl, S6⟩
      have S := s1.trans S6
      refine ⟨_, rfl, _, rfl, _, _, rfl, rfl, a, ns, _, rfl, S.seq hS, by show (0 : Int) ≤ 10 + (0 + (i : Int)); omega, fun c5 => ⟨c5, 30, rfl, by decide, by decide, fun n n0 n1 => ?_⟩⟩
      refine ⟨_, rfl, _, rfl, _, rfl, _, rfl, _, _, rfl, rfl, a, ns, _, rfl, S.seq hS, by show (0 : Int) ≤ 10 + (0 + (i : Int)); omega, fun c6 => ?_⟩
      refine ⟨_, rfl, _, _, rfl, rfl, (by show (0 : Int) < 6; decide), _, _, rfl, rfl, ?_⟩
      refine ⟨_, l, c6, _, rfl, Da.same S6 hv, ok, by show 1 ≤ 1 + n % 6; omega, by show 1 + n % 6 ≤ 40; omega, fun p tr H4 s4 hp hp2 hne tl tn T => ?_⟩
      refine ⟨_, _, l, tr, rfl, Da.same (S6.trans s4) hv, da_new hp2, ok, h24, hne, by omega, ⟨T.ends, T.nd, T.ch⟩, fun H5 s5 => ?_⟩
      exact ⟨_, rfl, iteF ⟨_, _, rfl, (S6.trans s4).trans s5⟩⟩
    · rintro σ H6 ⟨x2, x3, rfl, S6⟩
      exact k _
end
end K07
set_option Elab.async false
set_option linter.all false
set_option maxRecDepth 100000
set_option maxHeartbeats 4000000
namespace K07
open PySem L2 TL PyProof.Rows
theorem fn_mk {K : PySem.W.Frag} {h : Heap} {mg : Str → Option Value} {x : Str} {st : Stmt} {ps : List Str} {f : Addr} {oc : Value} {od an : Option Addr} {osl : Array (Option Value)} {kV doc pm cdv ct : Value} (X : K.In h) (G : h.Ns mainGlobals mg) (a : PySem.W.nsIn K mainGlobals x = some (some (.ref f)))
    (l : K.lookup f = some ⟨oc, od, .func (PySem.W.fnOf x x (defArgs st) (defBody st) (defScope st) .none kV doc pm an cdv ct), osl⟩) (c : PySem.W.codeIn K cdv x = true) (k : PySem.W.keepIn K (.ref f) = true)
    (hb : ∀ (kV doc pm : Value) (an : Option Addr) (cdv ct : Value) (us : List Value), us.length = ps.length → bindArgs (PySem.W.fnOf x x (defArgs st) (defBody st) (defScope st) .none kV doc pm an cdv ct) ⟨us, []⟩ = pure (ps.zip us)) :
    Fn K mg x st ps f (PySem.W.fnOf x x (defArgs st) (defBody st) (defScope st) .none kV doc pm an cdv ct) := ⟨fun_mk (st := st) l c k, PySem.W.mg_of X G a, (fun_mk (st := st) l c k).binds (ps := ps) hb⟩
theorem all_mk {l : PySem.W.OpenLaw} {w : World} {K : PySem.W.Frag} {h : Heap} {mg : Str → Option Value} {fa f1 f2 f3 f4 f5 f6 f7 f8 f9 f10 f11 f12 f13 f14 f15 f16 f17 f18 f19 : Addr} (X : K.In h) (G : h.Ns mainGlobals mg) (hfa : mg "law" = some (.ref fa))
    {od1 an1 od2 an2 od3 an3 od4 an4 od5 an5 od6 an6 od7 an7 od8 an8 od9 an9 od10 an10 od11 an11 od12 an12 od13 an13 od14 an14 od15 an15 od16 an16 od17 an17 od18 an18 od19 an19 : Option Addr} {sl1 sl2 sl3 sl4 sl5 sl6 sl7 sl8 sl9 sl10 sl11 sl12 sl13 sl14 sl15 sl16 sl17 sl18 sl19 : Array (Option Value)} {oc1 kV1 dc1 pm1 cd1 ct1 oc2 kV2 dc2 pm2 cd2 ct2 oc3 kV3 dc3 pm3 cd3 ct3 oc4 kV4 dc4 pm4 cd4 ct4 oc5 kV5 dc5 pm5 cd5 ct5 oc6 kV6 dc6 pm6 cd6 ct6 oc7 kV7 dc7 pm7 cd7 ct7 oc8 kV8 dc8 pm8 cd8 ct8 oc9 kV9 dc9 pm9 cd9 ct9 oc10 kV10 dc10 pm10 cd10 ct10 oc11 kV11 dc11 pm11 cd11 ct11 oc12 kV12 dc12 pm12 cd12 ct12 oc13 kV13 dc13 pm13 cd13 ct13 oc14 kV14 dc14 pm14 cd14 ct14 oc15 kV15 dc15 pm15 cd15 ct15 oc16 kV16 dc16 pm16 cd16 ct16 oc17 kV17 dc17 pm17 cd17 ct17 oc18 kV18 dc18 pm18 cd18 ct18 oc19 kV19 dc19 pm19 cd19 ct19 : Value}
    (a1 : PySem.W.nsIn K mainGlobals "other_end" = some (some (.ref f1))) (l1 : K.lookup f1 = some ⟨oc1, od1, .func (PySem.W.fnOf "other_end" "other_end" (defArgs s_other_end) (defBody s_other_end) (defScope s_other_end) .none kV1 dc1 pm1 an1 cd1 ct1), sl1⟩) (c1 : PySem.W.codeIn K cd1 "other_end" = true) (k1 : PySem.W.keepIn K (.ref f1) = true)
    (a2 : PySem.W.nsIn K mainGlobals "piece_of" = some (some (.ref f2))) (l2 : K.lookup f2 = some ⟨oc2, od2, .func (PySem.W.fnOf "piece_of" "piece_of" (defArgs s_piece_of) (defBody s_piece_of) (defScope s_piece_of) .none kV2 dc2 pm2 an2 cd2 ct2), sl2⟩) (c2 : PySem.W.codeIn K cd2 "piece_of" = true) (k2 : PySem.W.keepIn K (.ref f2) = true)
    (a3 : PySem.W.nsIn K mainGlobals "is_end" = some (some (.ref f3))) (l3 : K.lookup f3 = some ⟨oc3, od3, .func (PySem.W.fnOf "is_end" "is_end" (defArgs s_is_end) (defBody s_is_end) (defScope s_is_end) .none kV3 dc3 pm3 an3 cd3 ct3), sl3⟩) (c3 : PySem.W.codeIn K cd3 "is_end" = true) (k3 : PySem.W.keepIn K (.ref f3) = true)
    (a4 : PySem.W.nsIn K mainGlobals "joined" = some (some (.ref f4))) (l4 : K.lookup f4 = some ⟨oc4, od4, .func (PySem.W.fnOf "joined" "joined" (defArgs s_joined) (defBody s_joined) (defScope s_joined) .none kV4 dc4 pm4 an4 cd4 ct4), sl4⟩) (c4 : PySem.W.codeIn K cd4 "joined" = true) (k4 : PySem.W.keepIn K (.ref f4) = true)
    (a5 : PySem.W.nsIn K mainGlobals "check_train" = some (some (.ref f5))) (l5 : K.lookup f5 = some ⟨oc5, od5, .func (PySem.W.fnOf "check_train" "check_train" (defArgs s_check_train) (defBody s_check_train) (defScope s_check_train) .none kV5 dc5 pm5 an5 cd5 ct5), sl5⟩) (c5 : PySem.W.codeIn K cd5 "check_train" = true) (k5 : PySem.W.keepIn K (.ref f5) = true)
    (a6 : PySem.W.nsIn K mainGlobals "turned" = some (some (.ref f6))) (l6 : K.lookup f6 = some ⟨oc6, od6, .func (PySem.W.fnOf "turned" "turned" (defArgs s_turned) (defBody s_turned) (defScope s_turned) .none kV6 dc6 pm6 an6 cd6 ct6), sl6⟩) (c6 : PySem.W.codeIn K cd6 "turned" = true) (k6 : PySem.W.keepIn K (.ref f6) = true)
    (a7 : PySem.W.nsIn K mainGlobals "free_ends" = some (some (.ref f7))) (l7 : K.lookup f7 = some ⟨oc7, od7, .func (PySem.W.fnOf "free_ends" "free_ends" (defArgs s_free_ends) (defBody s_free_ends) (defScope s_free_ends) .none kV7 dc7 pm7 an7 cd7 ct7), sl7⟩) (c7 : PySem.W.codeIn K cd7 "free_ends" = true) (k7 : PySem.W.keepIn K (.ref f7) = true)
    (a8 : PySem.W.nsIn K mainGlobals "moves_of" = some (some (.ref f8))) (l8 : K.lookup f8 = some ⟨oc8, od8, .func (PySem.W.fnOf "moves_of" "moves_of" (defArgs s_moves_of) (defBody s_moves_of) (defScope s_moves_of) .none kV8 dc8 pm8 an8 cd8 ct8), sl8⟩) (c8 : PySem.W.codeIn K cd8 "moves_of" = true) (k8 : PySem.W.keepIn K (.ref f8) = true)
    (a9 : PySem.W.nsIn K mainGlobals "done" = some (some (.ref f9))) (l9 : K.lookup f9 = some ⟨oc9, od9, .func (PySem.W.fnOf "done" "done" (defArgs s_done) (defBody s_done) (defScope s_done) .none kV9 dc9 pm9 an9 cd9 ct9), sl9⟩) (c9 : PySem.W.codeIn K cd9 "done" = true) (k9 : PySem.W.keepIn K (.ref f9) = true)
    (a10 : PySem.W.nsIn K mainGlobals "_law_cell_at" = some (some (.ref f10))) (l10 : K.lookup f10 = some ⟨oc10, od10, .func (PySem.W.fnOf "_law_cell_at" "_law_cell_at" (defArgs s_law_cell_at) (defBody s_law_cell_at) (defScope s_law_cell_at) .none kV10 dc10 pm10 an10 cd10 ct10), sl10⟩) (c10 : PySem.W.codeIn K cd10 "_law_cell_at" = true) (k10 : PySem.W.keepIn K (.ref f10) = true)
    (a11 : PySem.W.nsIn K mainGlobals "_law_mix" = some (some (.ref f11))) (l11 : K.lookup f11 = some ⟨oc11, od11, .func (PySem.W.fnOf "_law_mix" "_law_mix" (defArgs s_law_mix) (defBody s_law_mix) (defScope s_law_mix) .none kV11 dc11 pm11 an11 cd11 ct11), sl11⟩) (c11 : PySem.W.codeIn K cd11 "_law_mix" = true) (k11 : PySem.W.keepIn K (.ref f11) = true)
    (a12 : PySem.W.nsIn K mainGlobals "_law_turned_row" = some (some (.ref f12))) (l12 : K.lookup f12 = some ⟨oc12, od12, .func (PySem.W.fnOf "_law_turned_row" "_law_turned_row" (defArgs s_law_turned_row) (defBody s_law_turned_row) (defScope s_law_turned_row) .none kV12 dc12 pm12 an12 cd12 ct12), sl12⟩) (c12 : PySem.W.codeIn K cd12 "_law_turned_row" = true) (k12 : PySem.W.keepIn K (.ref f12) = true)
    (a13 : PySem.W.nsIn K mainGlobals "_law_other" = some (some (.ref f13))) (l13 : K.lookup f13 = some ⟨oc13, od13, .func (PySem.W.fnOf "_law_other" "_law_other" (defArgs s_law_other) (defBody s_law_other) (defScope s_law_other) .none kV13 dc13 pm13 an13 cd13 ct13), sl13⟩) (c13 : PySem.W.codeIn K cd13 "_law_other" = true) (k13 : PySem.W.keepIn K (.ref f13) = true)
    (a14 : PySem.W.nsIn K mainGlobals "_law_joined" = some (some (.ref f14))) (l14 : K.lookup f14 = some ⟨oc14, od14, .func (PySem.W.fnOf "_law_joined" "_law_joined" (defArgs s_law_joined) (defBody s_law_joined) (defScope s_law_joined) .none kV14 dc14 pm14 an14 cd14 ct14), sl14⟩) (c14 : PySem.W.codeIn K cd14 "_law_joined" = true) (k14 : PySem.W.keepIn K (.ref f14) = true)
    (a15 : PySem.W.nsIn K mainGlobals "_law_line" = some (some (.ref f15))) (l15 : K.lookup f15 = some ⟨oc15, od15, .func (PySem.W.fnOf "_law_line" "_law_line" (defArgs s_law_line) (defBody s_law_line) (defScope s_law_line) .none kV15 dc15 pm15 an15 cd15 ct15), sl15⟩) (c15 : PySem.W.codeIn K cd15 "_law_line" = true) (k15 : PySem.W.keepIn K (.ref f15) = true)
    (a16 : PySem.W.nsIn K mainGlobals "_law_renamed" = some (some (.ref f16))) (l16 : K.lookup f16 = some ⟨oc16, od16, .func (PySem.W.fnOf "_law_renamed" "_law_renamed" (defArgs s_law_renamed) (defBody s_law_renamed) (defScope s_law_renamed) .none kV16 dc16 pm16 an16 cd16 ct16), sl16⟩) (c16 : PySem.W.codeIn K cd16 "_law_renamed" = true) (k16 : PySem.W.keepIn K (.ref f16) = true)
    (a17 : PySem.W.nsIn K mainGlobals "_law_train" = some (some (.ref f17))) (l17 : K.lookup f17 = some ⟨oc17, od17, .func (PySem.W.fnOf "_law_train" "_law_train" (defArgs s_law_train) (defBody s_law_train) (defScope s_law_train) .none kV17 dc17 pm17 an17 cd17 ct17), sl17⟩) (c17 : PySem.W.codeIn K cd17 "_law_train" = true) (k17 : PySem.W.keepIn K (.ref f17) = true)
    (a18 : PySem.W.nsIn K mainGlobals "_law_holds" = some (some (.ref f18))) (l18 : K.lookup f18 = some ⟨oc18, od18, .func (PySem.W.fnOf "_law_holds" "_law_holds" (defArgs s_law_holds) (defBody s_law_holds) (defScope s_law_holds) .none kV18 dc18 pm18 an18 cd18 ct18), sl18⟩) (c18 : PySem.W.codeIn K cd18 "_law_holds" = true) (k18 : PySem.W.keepIn K (.ref f18) = true)
    (a19 : PySem.W.nsIn K mainGlobals "law" = some (some (.ref f19))) (l19 : K.lookup f19 = some ⟨oc19, od19, .func (PySem.W.fnOf "law" "law" (defArgs s_law) (defBody s_law) (defScope s_law) .none kV19 dc19 pm19 an19 cd19 ct19), sl19⟩) (c19 : PySem.W.codeIn K cd19 "law" = true) (k19 : PySem.W.keepIn K (.ref f19) = true)
    (z1 : PySem.W.nsIn K mainGlobals "len" = some none) (z2 : PySem.W.nsIn K mainGlobals "range" = some none) (z3 : PySem.W.nsIn K mainGlobals "sorted" = some none) (z4 : PySem.W.nsIn K mainGlobals "enumerate" = some none) (z5 : PySem.W.nsIn K mainGlobals "reversed" = some none) (z6 : PySem.W.nsIn K mainGlobals "min" = some none) (z7 : PySem.W.nsIn K mainGlobals "max" = some none) (z8 : PySem.W.nsIn K mainGlobals "list" = some none) (z9 : PySem.W.nsIn K mainGlobals "int" = some none) (z10 : PySem.W.nsIn K mainGlobals "isinstance" = some none) (z11 : PySem.W.nsIn K mainGlobals "zip" = some none) (z12 : PySem.W.nsIn K mainGlobals "sum" = some none) (z13 : PySem.W.nsIn K mainGlobals "all" = some none) (z14 : PySem.W.nsIn K mainGlobals "set" = some none) (z15 : PySem.W.nsIn K mainGlobals "tuple" = some none) (z16 : PySem.W.nsIn K mainGlobals "abs" = some none) (z17 : PySem.W.nsIn K mainGlobals "bool" = some none) (z18 : PySem.W.nsIn K mainGlobals "dict" = some none) (z19 : PySem.W.nsIn K mainGlobals "str" = some none)
    {E0 : Addr} (xo0 : XcIn K "NoTrain" E0)
    {E1 : Addr} (xo1 : XcIn K "NoMove" E1) :
    ∃ fd : FuncData, (∀ (s : Shared) (v : Value), BindsTo s fd ⟨[v], []⟩ [("_law_script", v)]) ∧ ∀ base : Heap, K.In base → base.Ns mainGlobals mg → FnOk l.prog w K mg base CX0 6 fa fd ["_law_script"] (sp_law K) := by
  have e := hfa.symm.trans (PySem.W.mg_of X G a19)
  cases e
  have B : Bm mg := ⟨⟨PySem.W.mg_none_of X G z1, PySem.W.mg_none_of X G z2, PySem.W.mg_none_of X G z3, PySem.W.mg_none_of X G z4, PySem.W.mg_none_of X G z5, PySem.W.mg_none_of X G z6, PySem.W.mg_none_of X G z7, PySem.W.mg_none_of X G z8, PySem.W.mg_none_of X G z9, PySem.W.mg_none_of X G z10⟩, PySem.W.mg_none_of X G z11, PySem.W.mg_none_of X G z12, PySem.W.mg_none_of X G z13, PySem.W.mg_none_of X G z14, PySem.W.mg_none_of X G z15, PySem.W.mg_none_of X G z16, PySem.W.mg_none_of X G z17, PySem.W.mg_none_of X G z18, PySem.W.mg_none_of X G z19⟩
  have XS : Xr K mg E0 E1 := ⟨xo0.xc X G, xo1.xc X G⟩
  have F_other_end := fn_mk (st := s_other_end) (ps := ["end"]) X G a1 l1 c1 k1 fun _ _ _ _ _ _ us hl => match us, hl with | [_], _ => rfl
  have F_piece_of := fn_mk (st := s_piece_of) (ps := ["end"]) X G a2 l2 c2 k2 fun _ _ _ _ _ _ us hl => match us, hl with | [_], _ => rfl
  have F_is_end := fn_mk (st := s_is_end) (ps := ["line", "end"]) X G a3 l3 c3 k3 fun _ _ _ _ _ _ us hl => match us, hl with | [_, _], _ => rfl
  have F_joined := fn_mk (st := s_joined) (ps := ["line", "end"]) X G a4 l4 c4 k4 fun _ _ _ _ _ _ us hl => match us, hl with | [_, _], _ => rfl
  have F_check_train := fn_mk (st := s_check_train) (ps := ["line", "train"]) X G a5 l5 c5 k5 fun _ _ _ _ _ _ us hl => match us, hl with | [_, _], _ => rfl
  have F_turned := fn_mk (st := s_turned) (ps := ["train"]) X G a6 l6 c6 k6 fun _ _ _ _ _ _ us hl => match us, hl with | [_], _ => rfl
  have F_free_ends := fn_mk (st := s_free_ends) (ps := ["line", "train", "end"]) X G a7 l7 c7 k7 fun _ _ _ _ _ _ us hl => match us, hl with | [_, _, _], _ => rfl
  have F_moves_of := fn_mk (st := s_moves_of) (ps := ["line", "train"]) X G a8 l8 c8 k8 fun _ _ _ _ _ _ us hl => match us, hl with | [_, _], _ => rfl
  have F_done := fn_mk (st := s_done) (ps := ["line", "train", "move"]) X G a9 l9 c9 k9 fun _ _ _ _ _ _ us hl => match us, hl with | [_, _, _], _ => rfl
  have F_law_cell_at := fn_mk (st := s_law_cell_at) (ps := ["_law_script", "_law_k"]) X G a10 l10 c10 k10 fun _ _ _ _ _ _ us hl => match us, hl with | [_, _], _ => rfl
  have F_law_mix := fn_mk (st := s_law_mix) (ps := ["_law_cell", "_law_k"]) X G a11 l11 c11 k11 fun _ _ _ _ _ _ us hl => match us, hl with | [_, _], _ => rfl
  have F_law_turned_row := fn_mk (st := s_law_turned_row) (ps := ["_law_number", "_law_many"]) X G a12 l12 c12 k12 fun _ _ _ _ _ _ us hl => match us, hl with | [_, _], _ => rfl
  have F_law_other := fn_mk (st := s_law_other) (ps := ["_law_end"]) X G a13 l13 c13 k13 fun _ _ _ _ _ _ us hl => match us, hl with | [_], _ => rfl
  have F_law_joined := fn_mk (st := s_law_joined) (ps := ["_law_line_here", "_law_end"]) X G a14 l14 c14 k14 fun _ _ _ _ _ _ us hl => match us, hl with | [_, _], _ => rfl
  have F_law_line := fn_mk (st := s_law_line) (ps := ["_law_script"]) X G a15 l15 c15 k15 fun _ _ _ _ _ _ us hl => match us, hl with | [_], _ => rfl
  have F_law_renamed := fn_mk (st := s_law_renamed) (ps := ["_law_line_here", "_law_cell"]) X G a16 l16 c16 k16 fun _ _ _ _ _ _ us hl => match us, hl with | [_, _], _ => rfl
  have F_law_train := fn_mk (st := s_law_train) (ps := ["_law_line_here", "_law_cell", "_law_length"]) X G a17 l17 c17 k17 fun _ _ _ _ _ _ us hl => match us, hl with | [_, _, _], _ => rfl
  have F_law_holds := fn_mk (st := s_law_holds) (ps := ["_law_line_here", "_law_train_here"]) X G a18 l18 c18 k18 fun _ _ _ _ _ _ us hl => match us, hl with | [_, _], _ => rfl
  have F_law := fn_mk (st := s_law) (ps := ["_law_script"]) X G a19 l19 c19 k19 fun _ _ _ _ _ _ us hl => match us, hl with | [_], _ => rfl
  refine ⟨PySem.W.fnOf "law" "law" (defArgs s_law) (defBody s_law) (defScope s_law) .none kV19 dc19 pm19 an19 cd19 ct19, fun s v => .of_eq rfl, fun base _ _ => ?_⟩
  have G_law_renamed : FnOk l.prog w K mg base CX0 2 _ _ _ _ := ok_law_renamed F_law_renamed F_law_mix F_law_turned_row B.toBl
  have G_law_line : FnOk l.prog w K mg base CX0 3 _ _ _ _ := ok_law_line F_law_line F_law_mix F_law_cell_at F_law_other F_law_renamed G_law_renamed B.toBl
  have G_free_ends : FnOk l.prog w K mg base CX0 2 _ _ _ _ := ok_free_ends F_free_ends B.toBl F_piece_of F_joined
  have G_moves_of : FnOk l.prog w K mg base CX0 3 _ _ _ _ := ok_moves_of F_moves_of F_other_end F_free_ends G_free_ends
  have G_law_train : FnOk l.prog w K mg base CX0 2 _ _ _ _ := ok_law_train F_law_train F_law_mix F_law_other F_law_joined B.toBl
  have G_check_train : FnOk l.prog w K mg base (CXr l.prog w base) 2 _ _ _ _ := ok_check_train F_check_train XS B F_is_end F_piece_of F_joined F_other_end
  have G_done : FnOk l.prog w K mg base (CXr l.prog w base) 4 _ _ _ _ := ok_done F_done XS F_moves_of G_moves_of
  have G_law_holds : FnOk l.prog w K mg base CX0 5 _ _ _ _ := ok_law_holds F_law_holds B F_check_train G_check_train F_done G_done F_moves_of G_moves_of F_turned F_other_end
  exact ok_law F_law B F_law_line G_law_line F_law_cell_at F_law_mix F_law_train G_law_train F_law_holds G_law_holds
theorem walk {l : PySem.W.OpenLaw} {q : Program} {loose : List Str} {XP : (Str → Option Value) → Heap → Prop} {YP : World → Heap → Prop} {d : DefRec} {K : Params → PySem.W.Frag} (hn : l.most = some 63) (hdf : d.params.defaults = [])
    (hY : ∀ (w : World) (h : Heap), YP w h → (K w.params).In h)
    (F : ∀ (w : World) (mg : Str → Option Value) (fa : Addr) (h : Heap), (K w.params).In h → h.Ns mainGlobals mg → mg d.name = some (.ref fa) →
      ∃ fd : FuncData, (∀ (s : Shared) (u : Value), BindsTo s fd ⟨[u], []⟩ [("_law_script", u)]) ∧ ∀ base : Heap, (K w.params).In base → base.Ns mainGlobals mg → FnOk l.prog w (K w.params) mg base CX0 6 fa fd ["_law_script"] (sp_law (K w.params))) :
    PySem.W.WalkO q loose XP YP l.row.toRowW d [] (fun f vs => PySem.call f vs) :=
  L2.walk_of (n := 63) (k := 6) (x := "_law_script") (CX := fun _ => CX0) (sp := fun w => sp_law (K w.params)) hn (by decide) hdf ⟨rfl, by decide, by decide⟩ hY F (fun _ _ a ns hl _ hS => ⟨a, ns, rfl, hS, fun _ => rfl⟩) fun _ _ _ _ _ z => z
end K07
open PySem PySem.W PyProof.Rows
set_option maxRecDepth 100000 in
set_option maxHeartbeats 0 in
theorem PySem.Challenge.cw_turnline_k07_whole_moves_undone_and_turn_holds : PySem.Challenge.rw_turnline_k07_whole_moves_undone_and_turn.Holds := by
  w_on; o_law; k_head; (case hw => w_witness2)
  k_fill
  refine K07.walk (l := PySem.Challenge.rw_turnline_k07_whole_moves_undone_and_turn) rfl rfl (fun w h Y => PySem.W.kIn_of Y) ?F
  case F =>
    intro w mg fa h KX G hmg
    refine' K07.all_mk KX G hmg ?a1 ?l1 ?c1 ?k1 ?a2 ?l2 ?c2 ?k2 ?a3 ?l3 ?c3 ?k3 ?a4 ?l4 ?c4 ?k4 ?a5 ?l5 ?c5 ?k5 ?a6 ?l6 ?c6 ?k6 ?a7 ?l7 ?c7 ?k7 ?a8 ?l8 ?c8 ?k8 ?a9 ?l9 ?c9 ?k9 ?a10 ?l10 ?c10 ?k10 ?a11 ?l11 ?c11 ?k11 ?a12 ?l12 ?c12 ?k12 ?a13 ?l13 ?c13 ?k13 ?a14 ?l14 ?c14 ?k14 ?a15 ?l15 ?c15 ?k15 ?a16 ?l16 ?c16 ?k16 ?a17 ?l17 ?c17 ?k17 ?a18 ?l18 ?c18 ?k18 ?a19 ?l19 ?c19 ?k19 ?z1 ?z2 ?z3 ?z4 ?z5 ?z6 ?z7 ?z8 ?z9 ?z10 ?z11 ?z12 ?z13 ?z14 ?z15 ?z16 ?z17 ?z18 ?z19 ?xo0 ?xo1
    (case a1 => k_is); (case l1 => k_is); (case c1 => k_is); (case k1 => k_is)
    (case a2 => k_is); (case l2 => k_is); (case c2 => k_is); (case k2 => k_is)
    (case a3 => k_is); (case l3 => k_is); (case c3 => k_is); (case k3 => k_is)
    (case a4 => k_is); (case l4 => k_is); (case c4 => k_is); (case k4 => k_is)
    (case a5 => k_is); (case l5 => k_is); (case c5 => k_is); (case k5 => k_is)
    (case a6 => k_is); (case l6 => k_is); (case c6 => k_is); (case k6 => k_is)
    (case a7 => k_is); (case l7 => k_is); (case c7 => k_is); (case k7 => k_is)
    (case a8 => k_is); (case l8 => k_is); (case c8 => k_is); (case k8 => k_is)
    (case a9 => k_is); (case l9 => k_is); (case c9 => k_is); (case k9 => k_is)
    (case a10 => k_is); (case l10 => k_is); (case c10 => k_is); (case k10 => k_is)
    (case a11 => k_is); (case l11 => k_is); (case c11 => k_is); (case k11 => k_is)
    (case a12 => k_is); (case l12 => k_is); (case c12 => k_is); (case k12 => k_is)
    (case a13 => k_is); (case l13 => k_is); (case c13 => k_is); (case k13 => k_is)
    (case a14 => k_is); (case l14 => k_is); (case c14 => k_is); (case k14 => k_is)
    (case a15 => k_is); (case l15 => k_is); (case c15 => k_is); (case k15 => k_is)
    (case a16 => k_is); (case l16 => k_is); (case c16 => k_is); (case k16 => k_is)
    (case a17 => k_is); (case l17 => k_is); (case c17 => k_is); (case k17 => k_is)
    (case a18 => k_is); (case l18 => k_is); (case c18 => k_is); (case k18 => k_is)
    (case a19 => k_is); (case l19 => k_is); (case c19 => k_is); (case k19 => k_is)
    (case z1 => k_is)
    (case z2 => k_is)
    (case z3 => k_is)
    (case z4 => k_is)
    (case z5 => k_is)
    (case z6 => k_is)
    (case z7 => k_is)
    (case z8 => k_is)
    (case z9 => k_is)
    (case z10 => k_is)
    (case z11 => k_is)
    (case z12 => k_is)
    (case z13 => k_is)
    (case z14 => k_is)
    (case z15 => k_is)
    (case z16 => k_is)
    (case z17 => k_is)
    (case z18 => k_is)
    (case z19 => k_is)
    (case xo0 => refine' ⟨?u1, ?u2, ?u3, ?u4, ?u5, ?u6, ?u7, ?u8, ?u9⟩; (case u1 => k_is); (case u2 => k_exc); (case u3 => k_is); (case u4 => k_is); (case u5 => k_is); (case u6 => k_is); (case u7 => k_is); (case u8 => k_is); (case u9 => k_is))
    (case xo1 => refine' ⟨?u1, ?u2, ?u3, ?u4, ?u5, ?u6, ?u7, ?u8, ?u9⟩; (case u1 => k_is); (case u2 => k_exc); (case u3 => k_is); (case u4 => k_is); (case u5 => k_is); (case u6 => k_is); (case u7 => k_is); (case u8 => k_is); (case u9 => k_is))
