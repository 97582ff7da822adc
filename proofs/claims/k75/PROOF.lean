import PyProof.Rows.All
import Wide.All
import OpenK.AllK
import Wide.FinOn
import PyProof.EqAt
import PyProof.EqKinds
import PyProof.TupleCall
import PyProof.CompFree
import PyProof.EvalArms
import KE.BitLaws
import OpenK.KOwn
import KE.KIsAll
import PyProof.ExcArgsOwn
import PyProof.IsiH_list
import PyProof.NsDelKeeps
import PyProof.ExcAttrAll.ValueError
import PyProof.ExcBaseAll.ValueError
import PyProof.ZipIter
import PyProof.Rows.SumAny
import KE.LcSums
import PyProof.SetRoads
import PyProof.Rows.SetFrom
import KE.KSetDisp
import PyProof.DictIter
import PyProof.DictRoadsH
import PyProof.Rows.TupDisplay
import PyProof.FString
import PyProof.FactsAll.list_1
import PyProof.CollectWalk
import PyProof.SetKind
import PyProof.TupleKey
import PyProof.IsRules
import PyProof.SetNew
import PyProof.StrWalks
import PyProof.StrLawsTight
import PyProof.StrLawsChain
import PyProof.StrLawsIn
import PyProof.StrCalls2
import PyProof.StrBlockG
import PyProof.SliceStr2
import KE.KIntText
import PyProof.CollectIter
import PyProof.Walks
import PyProof.StrOps2
import PyProof.Rows.Range3
import PySem.Challenge.RW_turnline_k75_whole_runs_by_texts
set_option Elab.async false
set_option linter.all false
set_option maxRecDepth 100000
/-! THE HAND LAYER, for ints, bools, texts, own classes, LISTS and tuples (index, slices, in, append, pop ..), calls, loops. Paste it whole ahead of your own text; what your proof does not reach may be deleted. -/
namespace L2
open PySem PySem.Spec PyProof.Rows

/-- a key: an int or a str -/
abbrev Key := Sum Int Str
def keyIs : Key → Value → Bool
  | .inl k, v => Value.isInt k v
  | .inr x, v => Value.isStrOf x v
def keyH (w : World) : Key → Int
  | .inl k => hashInt k
  | .inr x => hashStr w x
theorem keyIs_shape : ∀ {k : Key} {v : Value}, keyIs k v = true → (∃ i t, k = Sum.inl i ∧ v = Value.int i t) ∨ (∃ x t, k = Sum.inr x ∧ v = Value.str x t)
  | .inl i, v, h => by
    obtain ⟨t, e⟩ := Value.isInt_shape (k := i) (v := v) h
    exact .inl ⟨i, t, rfl, e⟩
  | .inr x, v, h => by
    obtain ⟨t, e⟩ := Value.isStrOf_shape (x := x) (v := v) h
    exact .inr ⟨x, t, rfl, e⟩
theorem keyIs_int (i : Int) (t : Tok) : keyIs (.inl i) (.int i t) = true := by simp [keyIs, Value.isInt]
theorem keyIs_str (x : Str) (t : Tok) : keyIs (.inr x) (.str x t) = true := by simp [keyIs, Value.isStrOf]
theorem key_ll (a b : Int) : decide ((Sum.inl a : Key) = Sum.inl b) = (a == b) := by
  by_cases e : a = b
  · subst e; simp
  · have h : ¬ (Sum.inl a : Key) = Sum.inl b := fun q => e (Sum.inl.inj q)
    rw [decide_eq_false h]
    exact (beq_eq_false_iff_ne.mpr e).symm
theorem key_rr (a b : Str) : decide ((Sum.inr a : Key) = Sum.inr b) = decide (a = b) := by
  by_cases e : a = b
  · subst e; simp
  · have h : ¬ (Sum.inr a : Key) = Sum.inr b := fun q => e (Sum.inr.inj q)
    rw [decide_eq_false h, decide_eq_false e]
theorem key_lr (a : Int) (b : Str) : decide ((Sum.inl a : Key) = Sum.inr b) = false := decide_eq_false (fun q => nomatch q)
theorem key_rl (a : Str) (b : Int) : decide ((Sum.inr a : Key) = Sum.inl b) = false := decide_eq_false (fun q => nomatch q)

def mixKind (prog : Program) (w : World) : PySem.KeyKind prog w Key where
  is := keyIs
  hash := keyH w
  inj := fun v a b ha hb => by
    rcases keyIs_shape ha with ⟨i, t, rfl, rfl⟩ | ⟨x, t, rfl, rfl⟩
    · rcases keyIs_shape hb with ⟨j, u, rfl, e⟩ | ⟨y, u, rfl, e⟩
      · injection e with e1 _; rw [e1]
      · exact nomatch e
    · rcases keyIs_shape hb with ⟨j, u, rfl, e⟩ | ⟨y, u, rfl, e⟩
      · exact nomatch e
      · injection e with e1 _; rw [e1]
  byValue := fun k v h => by
    rcases keyIs_shape h with ⟨i, t, rfl, rfl⟩ | ⟨x, t, rfl, rfl⟩ <;> rfl
  pyHash := fun hv h => by
    rcases keyIs_shape hv with ⟨i, t, rfl, rfl⟩ | ⟨x, t, rfl, rfl⟩
    · exact wpAny_pyHash_int h
    · exact wpAny_pyHash_str h
  eqBool := fun hu hv h => by
    rcases keyIs_shape hu with ⟨i, t, rfl, rfl⟩ | ⟨x, t, rfl, rfl⟩
    · rcases keyIs_shape hv with ⟨j, u, rfl, rfl⟩ | ⟨y, u, rfl, rfl⟩
      · rw [key_ll] at h; exact wpAny_eqBool_int h
      · rw [key_lr] at h; exact SeqAt.EqAt.int_str i t y u _ _ _ _ h
    · rcases keyIs_shape hv with ⟨j, u, rfl, rfl⟩ | ⟨y, u, rfl, rfl⟩
      · rw [key_rl] at h; exact SeqAt.EqAt.str_int x t j u _ _ _ _ h
      · rw [key_rr] at h; exact wpAny_eqBool_str h
  «strs» := fun k x t v h => by
    rcases keyIs_shape h with ⟨i, u, rfl, e⟩ | ⟨y, u, rfl, e⟩
    · exact nomatch e
    · injection e with e1 _
      subst e1
      cases v <;> rfl

theorem mixKind_int (prog : Program) (w : World) (i : Int) (t : Tok) : (mixKind prog w).is (.inl i) (.int i t) = true := keyIs_int i t
theorem mixKind_str (prog : Program) (w : World) (x : Str) (t : Tok) : (mixKind prog w).is (.inr x) (.str x t) = true := keyIs_str x t
end L2

namespace L2
open PySem PySem.Spec PyProof.Rows

/-- a value, without the heap -/
inductive V where
  | non | bl (b : Bool) | int (i : Int) | str (x : Str) | byt (b : Array UInt8) | flt (b : UInt64) | ref (a : Addr) | ty (n : String)
  deriving DecidableEq

def RelV : V → Value → Prop
  | .non, u => u = Value.none
  | .bl b, u => u = Value.bool b
  | .int i, u => ∃ t, u = Value.int i t
  | .str x, u => ∃ t, u = Value.str x t
  | .byt b, u => ∃ t, u = Value.bytes b t
  | .flt b, u => ∃ t, u = Value.float b t
  | .ref a, u => u = Value.ref a
  | .ty n, u => u = Value.type n

abbrev Vals : List V → List Value → Prop := Paired RelV
theorem Vals.length {xs : List V} {us : List Value} (r : Vals xs us) : xs.length = us.length := Paired.length r
theorem Vals.get : ∀ {xs : List V} {us : List Value} {i : Nat} {x : V}, Vals xs us → xs[i]? = some x → ∃ u, us[i]? = some u ∧ RelV x u
  | _, _, _, _, .nil, e => by simp at e
  | _, _, 0, _, .cons r _, e => by simp at e; subst e; exact ⟨_, rfl, r⟩
  | _, _, i + 1, x, .cons _ t, e => by
    obtain ⟨u, h1, h2⟩ := Vals.get (i := i) (x := x) t (by simpa using e)
    exact ⟨u, by simpa using h1, h2⟩
theorem Vals.append : ∀ {xs ys : List V} {us ws : List Value}, Vals xs us → Vals ys ws → Vals (xs ++ ys) (us ++ ws)
  | _, _, _, _, .nil, s => s
  | _, _, _, _, .cons r t, s => .cons r (Vals.append t s)
theorem Vals.take : ∀ {xs : List V} {us : List Value} (n : Nat), Vals xs us → Vals (xs.take n) (us.take n)
  | _, _, 0, _ => .nil
  | _, _, _ + 1, .nil => .nil
  | _, _, n + 1, .cons r t => .cons r (Vals.take n t)
theorem Vals.drop : ∀ {xs : List V} {us : List Value} (n : Nat), Vals xs us → Vals (xs.drop n) (us.drop n)
  | _, _, 0, r => r
  | _, _, _ + 1, .nil => .nil
  | _, _, n + 1, .cons _ t => Vals.drop n t
def RelO : Option V → Option Value → Prop
  | some v, some u => RelV v u
  | none, none => True
  | _, _ => False
def KV {κ : Type} : List (κ × V) → List (κ × Value) → Prop := Paired fun (p : κ × V) (q : κ × Value) => p.1 = q.1 ∧ RelV p.2 q.2

/-- a key of a dict (00_mix): an int or a text -/
def kV : Key → V
  | .inl i => .int i
  | .inr x => .str x

/-- what stands at a tracked address -/
inductive HO where
  /-- a list -/
  | lst (xs : List V)
  /-- a tuple (never changes) -/
  | tup (xs : List V)
  /-- a dict whose keys are ints and texts; one whose keys are tuples of ints and texts (the empty one is both) -/
  | dK (kvs : List (Key × V)) | dT (kvs : List (List Key × V))
  /-- a set of ints: its members, its size -/
  | set (S : Int → Bool) (n : Nat)
  /-- an instance of the class at C, its dict at dx, its attributes -/
  | ins (C dx : Addr) (fs : List (Str × V))
  /-- the dict of the instance at x -/
  | own (x : Addr)
  /-- the dict of an exception -/
  | xd (fs : List (Str × V))
  /-- a bound method, f of x -/
  | met (f x : Addr)
  /-- a range object lo, lo + 1, .. below hi -/
  | rng (lo hi : Int)
  /-- a thing that is known to the object (the script; a dict while a loop walks it): read, never written while it is so -/
  | frz (o : Obj) (u : HO)
  /-- a code object's table -/
  | tbl (ps : Array Value)
  /-- any other thing, by what is true of its one object (a def of one's own: SetO a S n := HO.ext fun h => ..) -/
  | ext (φ : Heap → Prop)

abbrev Hp := Addr → Option HO
def upd (H : Hp) (a : Addr) (o : HO) : Hp := fun b => if b = a then some o else H b
theorem upd_same {H : Hp} {a : Addr} {o : HO} : upd H a o a = some o := by unfold upd; rw [if_pos rfl]
theorem upd_ne {H : Hp} {a b : Addr} {o : HO} (h : b ≠ a) : upd H a o b = H b := by unfold upd; rw [if_neg h]
theorem upd_upd {H : Hp} {a : Addr} {o u : HO} : upd (upd H a o) a u = upd H a u := by
  funext b; unfold upd; split <;> rfl
/-- two objects of different content stand apart -/
theorem ne_of {H : Hp} {a b : Addr} {o u : HO} (h : H a = some o) (h' : H b = some u) (d : o ≠ u) : a ≠ b := by
  intro e; subst e; rw [h] at h'; exact d (Option.some.inj h')
theorem ne_of_none {H : Hp} {a b : Addr} {o : HO} (h : H a = some o) (h' : H b = none) : a ≠ b := by
  intro e; subst e; rw [h] at h'; cases h'

section
variable (P : Program) (w : World)
def ObjOk (H : Hp) (h : Heap) (a : Addr) : HO → Prop
  | .lst xs => xs.length ≤ sizeLine ∧ ∃ (its : List Value) (n : Nat), Vals xs its ∧ h.get? a = some { cls := .type "list", data := .seq its.toArray n }
  | .tup xs => xs.length ≤ sizeLine ∧ ∃ its : List Value, Vals xs its ∧ IsTup h a its.toArray
  | .dK kvs => kvs.length ≤ sizeLine ∧ (a == sysModules) = false ∧ ∃ vs, KV kvs vs ∧ h.DictOf (mixKind P w) a vs
  | .dT kvs => kvs.length ≤ sizeLine ∧ (a == sysModules) = false ∧ ∃ xs : List (List Key × Addr × Value),
      Paired (fun (p : List Key × V) (q : List Key × Addr × Value) => p.1 = q.1 ∧ H q.2.1 = some (.tup (p.1.map kV)) ∧ RelV p.2 q.2.2) kvs xs ∧
      ∃ o es ep, h.get? a = some o ∧ o.ExactDict ∧ o.data = .dict es ep ∧ es.toList = xs.map (entryOfKey (tupleKind (mixKind P w))) ∧ (xs.map (·.1)).Nodup
  | .set S n => h.SetOf (intKind P w) a S n
  | .ins C dx fs => H dx = some (.own a) ∧ fs.length ≤ 1000 ∧ dx ≠ a ∧ h.get? a = some (PySem.W.instObj C dx) ∧
      ∃ mA, h.Ns1 dx mA ∧ (∀ f, RelO (fs.lookup f) (mA f)) ∧ PySem.Within mA (fs.map (·.1))
  | .own _ => ∃ o, h.get? a = some o
  | .xd fs => ∃ mA, h.Ns1 a mA ∧ ∀ f, RelO (fs.lookup f) (mA f)
  | .rng lo hi => ∃ t u v, h.get? a = some { cls := .type "range", data := .fields #[.int lo t, .int hi u, .int 1 v] }
  | .frz o u => h.get? a = some o ∧ ObjOk H h a u
  | .tbl ps => h.get? a = some { cls := .none, data := .fields ps }
  | .met f x => h.get? a = some (PySem.W.methodObj (.ref f) (.ref x))
  | .ext φ => φ h ∧ (∃ o, h.get? a = some o) ∧ ∀ h1 h2 : Heap, φ h1 → (∀ o, h1.get? a = some o → h2.get? a = some o) → φ h2
/-- the abstract heap is held -/
def HOk (H : Hp) (h : Heap) : Prop := ∀ a o, H a = some o → ObjOk P w H h a o
end

section
variable {P : Program} {w : World} {H H' : Hp} {h h' : Heap} {a : Addr} {o : HO}
theorem ObjOk.lt (x : ObjOk P w H h a o) : a < h.objs.size := by
  cases o with
  | lst xs => obtain ⟨_, _, _, _, e⟩ := x; exact Heap.lt_size e
  | tup xs => obtain ⟨_, _, _, p⟩ := x; exact p.lt
  | dK kvs => obtain ⟨_, _, _, _, o, _, _, e, _⟩ := x; exact Heap.lt_size e
  | dT kvs => obtain ⟨_, _, _, _, o, _, _, e, _⟩ := x; exact Heap.lt_size e
  | set S n => obtain ⟨o, _, _, _, e, _⟩ := x; exact Heap.lt_size e
  | ins C dx fs => obtain ⟨_, _, _, e, _⟩ := x; exact Heap.lt_size e
  | own y => obtain ⟨_, e⟩ := x; exact Heap.lt_size e
  | xd fs => obtain ⟨_, ⟨_, _, _, e, _⟩, _⟩ := x; exact Heap.lt_size e
  | rng lo hi => obtain ⟨_, _, _, e⟩ := x; exact Heap.lt_size e
  | frz ob u => obtain ⟨e, _⟩ := x; exact Heap.lt_size e
  | tbl ps => exact Heap.lt_size (show h.get? a = some _ from x)
  | met f y => exact Heap.lt_size (show h.get? a = some _ from x)
  | ext φ => obtain ⟨_, ⟨_, e⟩, _⟩ := x; exact Heap.lt_size e
theorem Paired.mapP {α β : Type} {F G : α → β → Prop} : ∀ {l₁ : List α} {l₂ : List β}, Paired F l₁ l₂ → (∀ a b, F a b → G a b) → Paired G l₁ l₂
  | _, _, .nil, _ => .nil
  | _, _, .cons r t, f => .cons (f _ _ r) (Paired.mapP t f)
/-- what an object's description leans on: its own object, its own dict, the tuples -/
theorem ObjOk.stay (x : ObjOk P w H h a o) (k : ∀ b u, (b = a ∨ H b = some (.own a)) → h.get? b = some u → h'.get? b = some u)
    (ho : ∀ b, H b = some (.own a) → H' b = some (.own a)) (ht : ∀ b xs, H b = some (.tup xs) → H' b = some (.tup xs)) : ObjOk P w H' h' a o := by
  induction o with
  | lst xs => obtain ⟨z, its, n, r, e⟩ := x; exact ⟨z, its, n, r, k _ _ (.inl rfl) e⟩
  | tup xs => obtain ⟨z, its, r, ob, e, c⟩ := x; exact ⟨z, its, r, ob, k _ _ (.inl rfl) e, c⟩
  | dK kvs => obtain ⟨z, y, vs, r, ob, es, ep, e, c⟩ := x; exact ⟨z, y, vs, r, ob, es, ep, k _ _ (.inl rfl) e, c⟩
  | dT kvs =>
    obtain ⟨z, y, xs, r, ob, es, ep, e, c⟩ := x
    exact ⟨z, y, xs, Paired.mapP r fun p q z => ⟨z.1, ht _ _ z.2.1, z.2.2⟩, ob, es, ep, k _ _ (.inl rfl) e, c⟩
  | set S n => obtain ⟨ob, es, ep, t, e, c⟩ := x; exact ⟨ob, es, ep, t, k _ _ (.inl rfl) e, c⟩
  | ins C dx fs =>
    obtain ⟨d, z, ne, e, mA, ⟨od, es, ep, e2, c⟩, r⟩ := x
    exact ⟨ho _ d, z, ne, k _ _ (.inl rfl) e, mA, ⟨od, es, ep, k _ _ (.inr d) e2, c⟩, r⟩
  | own y => obtain ⟨ob, e⟩ := x; exact ⟨ob, k _ _ (.inl rfl) e⟩
  | xd fs => obtain ⟨mA, ⟨od, es, ep, e, c⟩, r⟩ := x; exact ⟨mA, ⟨od, es, ep, k _ _ (.inl rfl) e, c⟩, r⟩
  | rng lo hi => obtain ⟨t, u, v, e⟩ := x; exact ⟨t, u, v, k _ _ (.inl rfl) e⟩
  | frz ob u ih => obtain ⟨e, q⟩ := x; exact ⟨k _ _ (.inl rfl) e, ih q⟩
  | tbl ps =>
    have e : h.get? a = some { cls := .none, data := .fields ps } := x
    show h'.get? a = some { cls := .none, data := .fields ps }
    exact k a _ (.inl rfl) e
  | met f y =>
    have e : h.get? a = some (PySem.W.methodObj (.ref f) (.ref y)) := x
    show h'.get? a = some (PySem.W.methodObj (.ref f) (.ref y))
    exact k a _ (.inl rfl) e
  | ext φ => obtain ⟨p, ⟨o, e⟩, st⟩ := x; exact ⟨st _ _ p fun o q => k _ _ (.inl rfl) q, ⟨o, k _ _ (.inl rfl) e⟩, st⟩
theorem HOk.lt (x : HOk P w H h) (e : H a = some o) : a < h.objs.size := (x a o e).lt
theorem HOk.fresh (x : HOk P w H h) (e : h.objs.size ≤ a) : H a = none := by
  cases q : H a with
  | none => rfl
  | some u => exact absurd (Nat.lt_of_lt_of_le (x.lt q) e) (Nat.lt_irrefl _)
/-- every object of the heap is kept -/
theorem HOk.kept (x : HOk P w H h) (k : ∀ b u, h.get? b = some u → h'.get? b = some u) : HOk P w H h' := fun a o e =>
  (x a o e).stay (fun b u _ q => k b u q) (fun _ q => q) fun _ _ q => q
/-- a new object is laid and tracked -/
theorem HOk.laid (x : HOk P w H h) (k : ∀ b u, h.get? b = some u → h'.get? b = some u) (hp : h.objs.size ≤ a) (new : ObjOk P w (upd H a o) h' a o) : HOk P w (upd H a o) h' := fun b u e => by
  have hn := x.fresh hp
  by_cases hb : b = a
  · subst hb; rw [upd_same] at e; cases e; exact new
  · rw [upd_ne hb] at e
    exact (x b u e).stay (fun c v _ q => k c v q) (fun c q => by rw [upd_ne (ne_of_none q hn)]; exact q) fun c xs q => by rw [upd_ne (ne_of_none q hn)]; exact q
end

/-- what may be read as u: it is u, or a known u -/
def Rd (H : Hp) (a : Addr) (u : HO) : Prop := H a = some u ∨ ∃ o, H a = some (.frz o u)
theorem Rd.ok {P : Program} {w : World} {H : Hp} {h : Heap} {a : Addr} {u : HO} (r : Rd H a u) (x : HOk P w H h) : ObjOk P w H h a u := by
  rcases r with r | ⟨o, r⟩
  · exact x a u r
  · obtain ⟨_, q⟩ := x a _ r
    exact q
/-- what may be written -/
def Mut : Option HO → Prop
  | some (.lst _) => True
  | some (.dK _) => True
  | some (.dT _) => True
  | some (.set _ _) => True
  | some (.ins _ _ _) => True
  | some (.ext _) => True
  | _ => False
section
variable {P : Program} {w : World} {H : Hp} {h h' : Heap} {x e : Addr} {o' : HO}
/-- the object at e is changed: x itself, or the dict of the instance x -/
theorem HOk.write (ok : HOk P w H h) (mu : Mut (H x)) (he : e = x ∨ H e = some (.own x)) (k : ∀ b u, b ≠ e → h.get? b = some u → h'.get? b = some u) (heo : ∃ u, h'.get? e = some u)
    (new : ObjOk P w (upd H x o') h' x o') : HOk P w (upd H x o') h' := fun b u q => by
  have nown : ∀ c y, H c = some (.own y) → c ≠ x := fun c y r z => by subst z; rw [r] at mu; exact mu
  have ntup : ∀ c xs, H c = some (.tup xs) → c ≠ x := fun c xs r z => by subst z; rw [r] at mu; exact mu
  by_cases hb : b = x
  · subst hb; rw [upd_same] at q; cases q; exact new
  · rw [upd_ne hb] at q
    by_cases hbe : b = e
    · have q' : H b = some (.own x) := by
        rcases he with z | z
        · exact absurd (hbe.trans z) hb
        · rw [hbe]; exact z
      rw [q] at q'; cases q'
      obtain ⟨v, hv⟩ := heo
      exact ⟨v, by rw [hbe]; exact hv⟩
    · refine (ok b u q).stay (fun c v hc r => k c v ?_ r) (fun c r => by rw [upd_ne (nown c b r)]; exact r) fun c xs r => by rw [upd_ne (ntup c xs r)]; exact r
      rcases hc with rfl | hc
      · exact hbe
      · rintro rfl
        rcases he with z | z
        · exact nown c b hc z
        · rw [hc] at z; cases z; exact hb rfl
end

/-! ### kept unless tracked; of the frames at fs (the callers') the slots may change (an exception that passes writes there); of the records at ex (iterators) nothing is said -/
structure Un (fs ex : List Addr) (H H' : Hp) (h h' : Heap) : Prop where
  keep : ∀ b o, h.get? b = some o → H b = none → b ∉ fs → b ∉ ex → h'.get? b = some o
  slot : ∀ b o, h.get? b = some o → H b = none → b ∈ fs → b ∉ ex → ∃ sl, h'.get? b = some { o with slots := sl }
  free : ∀ b o, h.get? b = some o → H b = none → b ∉ ex → H' b = none
  there : ∀ b o, h.get? b = some o → b ∉ ex → ∃ o', h'.get? b = some o'
  tups : ∀ b xs, H b = some (.tup xs) → H' b = some (.tup xs)
  frzs : ∀ b o u, H b = some (.frz o u) → H' b = some (.frz o u)
  tbls : ∀ b ps, H b = some (.tbl ps) → ∃ more, H' b = some (.tbl (ps ++ more))
section
variable {fs fs' ex ex' : List Addr} {H H1 H2 : Hp} {h h1 h2 h' : Heap} {a x e : Addr} {o : HO}
theorem Un.any (u : Un fs ex H H1 h h1) {b : Addr} {ob : Obj} (q : h.get? b = some ob) (n : H b = none) (hx : b ∉ ex) : ∃ sl, h1.get? b = some { ob with slots := sl } := by
  by_cases hb : b ∈ fs
  · exact u.slot b ob q n hb hx
  · exact ⟨ob.slots, u.keep b ob q n hb hx⟩
theorem Un.trans (a : Un fs ex H H1 h h1) (b : Un fs ex H1 H2 h1 h2) : Un fs ex H H2 h h2 where
  keep := fun c ob q n hc hx => b.keep c ob (a.keep c ob q n hc hx) (a.free c ob q n hx) hc hx
  slot := fun c ob q n hc hx => by
    obtain ⟨sl, e1⟩ := a.slot c ob q n hc hx
    obtain ⟨sl', e2⟩ := b.slot c _ e1 (a.free c ob q n hx) hc hx
    exact ⟨sl', e2⟩
  free := fun c ob q n hx => by
    obtain ⟨o', e1⟩ := a.there c ob q hx
    exact b.free c o' e1 (a.free c ob q n hx) hx
  there := fun c ob q hx => by
    obtain ⟨o', e1⟩ := a.there c ob q hx
    exact b.there c o' e1 hx
  tups := fun c xs q => b.tups c xs (a.tups c xs q)
  frzs := fun c ob xs q => b.frzs c ob xs (a.frzs c ob xs q)
  tbls := fun c ps q => by
    obtain ⟨m1, e1⟩ := a.tbls c ps q
    obtain ⟨m2, e2⟩ := b.tbls c _ e1
    exact ⟨m1 ++ m2, by rw [e2, Array.append_assoc]⟩
theorem Un.kept (k : ∀ b u, h.get? b = some u → h'.get? b = some u) : Un fs ex H H h h' :=
  ⟨fun b ob q _ _ _ => k b ob q, fun b ob q _ _ _ => ⟨ob.slots, k b ob q⟩, fun _ _ _ n _ => n, fun b ob q _ => ⟨ob, k b ob q⟩, fun _ _ q => q, fun _ _ _ q => q, fun _ ps q => ⟨#[], by rw [q]; simp⟩⟩
theorem Un.refl : Un fs ex H H h h := Un.kept fun _ _ q => q
theorem Un.laid (k : ∀ b u, h.get? b = some u → h'.get? b = some u) (hp : h.objs.size ≤ a) (hn : H a = none) : Un fs ex H (upd H a o) h h' where
  keep := fun b u q _ _ _ => k b u q
  slot := fun b u q _ _ _ => ⟨u.slots, k b u q⟩
  free := fun b u q n _ => by rw [upd_ne (Nat.ne_of_lt (Nat.lt_of_lt_of_le (Heap.lt_size q) hp))]; exact n
  there := fun b u q _ => ⟨u, k b u q⟩
  tups := fun b xs q => by rw [upd_ne (ne_of_none q hn)]; exact q
  frzs := fun b u xs q => by rw [upd_ne (ne_of_none q hn)]; exact q
  tbls := fun b ps q => ⟨#[], by rw [upd_ne (ne_of_none q hn), q]; simp⟩
theorem Un.write (mu : Mut (H x)) (he : e = x ∨ H e = some (.own x)) (k : ∀ b u, b ≠ e → h.get? b = some u → h'.get? b = some u) (heo : ∃ u, h'.get? e = some u) : Un fs ex H (upd H x o) h h' := by
  have hx : ∀ b, H b = none → b ≠ x := fun b n z => by subst z; rw [n] at mu; exact mu
  have hb : ∀ b, H b = none → b ≠ e := fun b n z => by
    subst z
    rcases he with r | r
    · exact hx b n r
    · rw [n] at r; cases r
  have hm : ∀ b u, H b = some u → ¬ Mut (some u) → b ≠ x := fun b u q nm z => by subst z; rw [q] at mu; exact nm mu
  refine ⟨fun b u q n _ _ => k b u (hb b n) q, fun b u q n _ _ => ⟨u.slots, k b u (hb b n) q⟩, fun b u q n _ => by rw [upd_ne (hx b n)]; exact n, fun b u q _ => ?_,
    fun b xs q => by rw [upd_ne (hm b _ q fun z => z)]; exact q, fun b u xs q => by rw [upd_ne (hm b _ q fun z => z)]; exact q, fun b ps q => ⟨#[], by rw [upd_ne (hm b _ q fun z => z), q]; simp⟩⟩
  by_cases hbe : b = e
  · subst hbe; exact heo
  · exact ⟨u, k b u hbe q⟩
end

/-! ### the heap without what is tracked -/
def trk (h : Heap) (H : Hp) : List Addr := (List.range h.objs.size).filter fun a => (H a).isSome
def hidT (h : Heap) (H : Hp) : Heap := PySem.W.hideAll h (trk h H)
theorem hidT_size (h : Heap) (H : Hp) : (hidT h H).objs.size = h.objs.size := PySem.W.hideAll_size _ _
theorem hidT_get {h : Heap} {H : Hp} {b : Addr} {o : Obj} (e : h.get? b = some o) (n : H b = none) : (hidT h H).get? b = some o :=
  PySem.W.hideAll_get _ e fun hm => by
    have q : (H b).isSome = true := (List.mem_filter.mp hm).2
    rw [n] at q; simp at q
theorem of_hidT {h : Heap} {H : Hp} {b : Addr} {o : Obj} (e : (hidT h H).get? b = some o) : h.get? b = some o ∧ H b = none := by
  have e' : h.get? b = some o := PySem.W.of_hideAll (trk h H) e
  refine ⟨e', ?_⟩
  cases q : H b with
  | none => rfl
  | some x =>
    have hm : b ∈ trk h H := List.mem_filter.mpr ⟨List.mem_range.mpr (Heap.lt_size e'), by simp [q]⟩
    have z : (hidT h H).get? b = none := PySem.W.hideAll_none (trk h H) hm
    rw [z] at e; cases e

/-! ### OpenK's ledger, filled with every new object but one -/
end L2

namespace L2
open PySem PySem.Spec PyProof.Rows

/-- the module's facts, over the base: the heap at the law's entry without what is tracked there -/
structure Mod (K : PySem.W.Frag) (mg : Str → Option Value) (base : Heap) : Prop where
  kin : K.In base
  glob : base.Ns mainGlobals mg
  blt : ∃ mb, base.Ns builtinsNs mb ∧ ∀ x : Str, x ≠ "__name__" → mb x = bootBuiltins x
  nolimit : base.NoLimit

/-- the context: a def's body (or a comprehension's block) running. base: fixed through the whole law; s₀, H₀: the entry; outer: the frames whose slots others may change (a def's callers); stack: all frames that run;
   ex: iterators that were made ahead of the entry and are walked here (a comprehension's); fn: the names whose cells were made at the entry (a def: all; a comprehension's block: its own); calm: not within an except suite; pn: pins that every state bears; xe: what is wanted of an exception that leaves the code -/
structure Cx where
  prog : Program
  w : World
  K : PySem.W.Frag
  mg : Str → Option Value
  base : Heap
  A : Around
  N : List Str
  s₀ : Shared
  H₀ : Hp
  env : Env
  outer : List Env
  stack : List Env
  ex : List Addr
  fn : Str → Bool
  calm : Bool
  pn : List (Addr × Obj)
  xe : Value → Shared → Prop
/-- the callers' frames -/
def frs (l : List Env) : List Addr := l.filterMap (·.frame)
abbrev Cx.fs (X : Cx) : List Addr := frs X.outer

def Vis (sc : Scope) (x : Str) : Prop := sc.names.lookup x = some .local ∨ sc.names.lookup x = some .cell ∨ sc.names.lookup x = some .free
def Loc (sc : Scope) (x : Str) : Prop := sc.names.lookup x = some .local ∨ sc.names.lookup x = some .cell
def Look (env : Env) (h : Heap) (m : Str → Option Value) (x : Str) (u : Value) : Prop :=
  (env.kindOf x = some .local ∧ m x = some u) ∨ ((env.kindOf x = some .cell ∨ env.kindOf x = some .free) ∧ ∃ c, env.cells.lookup x = some c ∧ h.IsCell c (some u))

structure Cx.Ok (X : Cx) : Prop where
  mod : Mod X.K X.mg X.base
  kind : X.env.scope.kind = .function
  glob : X.env.globals = mainGlobals
  blt : X.env.builtins = builtinsNs
  above : X.s₀.heap.objs.size ≤ X.env.locals
  inj : ∀ x y c, X.env.cells.lookup x = some c → X.env.cells.lookup y = some c → x = y
  has : ∀ x, (X.env.kindOf x = some .cell ∨ X.env.kindOf x = some .free) → ∃ c, X.env.cells.lookup x = some c
  cab : ∀ x c, X.fn x = true → X.env.cells.lookup x = some c → X.s₀.heap.objs.size ≤ c
  hd : X.calm = true → X.A.handled = none
  frames : X.A.frames = some X.stack
  stk : X.stack = X.outer ∨ (X.stack = X.env :: X.outer ∧ X.env.frame = some X.env.locals)
  exf : ∀ b ∈ X.ex, b ≠ X.env.locals ∧ ∀ x c, X.env.cells.lookup x = some c → c ≠ b
  bs : ∀ b o, X.base.get? b = some o → X.s₀.heap.get? b = some o ∧ X.H₀ b = none
  bsz : X.base.objs.size ≤ X.s₀.heap.objs.size
  noex : ∀ b o, X.base.get? b = some o → b ∉ X.ex
  exfs : ∀ b ∈ X.ex, b ∉ X.fs
  funs : X.s₀.heap.FunFrames X.base X.outer
  frf : ∀ b ∈ X.fs, X.H₀ b = none

structure Inv (X : Cx) (pins : List (Addr × Obj)) (σ : List (Option V)) (H : Hp) (s : Shared) : Prop where
  ok : X.Ok
  os : s.os = X.s₀.os
  bare : AllBare s.gens
  base : Un X.fs X.ex X.H₀ H X.s₀.heap s.heap
  loc : ∃ m, s.heap.Ns X.env.locals m ∧ ∀ (i : Nat) (x : Str) (v : V), X.N[i]? = some x → σ[i]? = some (some v) → Vis X.env.scope x → ∃ u, RelV v u ∧ Look X.env s.heap m x u
  cell : ∀ x c, X.env.cells.lookup x = some c → ∃ v, s.heap.IsCell c v
  free : H X.env.locals = none
  freeC : ∀ x c, X.env.cells.lookup x = some c → H c = none
  pin : ∀ p ∈ X.pn ++ pins, s.heap.get? p.1 = some p.2 ∧ H p.1 = none ∧ p.1 ≠ X.env.locals ∧ p.1 ∉ X.fs ∧ ∀ v, p.2.data ≠ .cell v
  hok : HOk X.prog X.w H s.heap
  len : σ.length = X.N.length

section
variable {X : Cx} {pins : List (Addr × Obj)} {σ : List (Option V)} {H H' : Hp} {s : Shared} {h' : Heap}

theorem Cx.Ok.nofr (ok : X.Ok) {b : Addr} {o : Obj} (e : X.base.get? b = some o) : b ∉ X.fs := fun hb => by
  have := (ok.funs.mem hb).1
  rw [e] at this; cases this
theorem Inv.bs (I : Inv X pins σ H s) : ∀ b o, X.base.get? b = some o → s.heap.get? b = some o ∧ H b = none := fun b o e =>
  ⟨I.base.keep b o (I.ok.bs b o e).1 (I.ok.bs b o e).2 (I.ok.nofr e) (I.ok.noex b o e), I.base.free b o (I.ok.bs b o e).1 (I.ok.bs b o e).2 (I.ok.noex b o e)⟩
theorem Inv.bk (I : Inv X pins σ H s) : ∀ b o, X.base.get? b = some o → s.heap.get? b = some o := fun b o e => (I.bs b o e).1
theorem Inv.mod (I : Inv X pins σ H s) : Mod X.K X.mg X.base := I.ok.mod
theorem Inv.kIn (I : Inv X pins σ H s) : X.K.In s.heap := I.ok.mod.kin.keeps I.bk
theorem Inv.lt (I : Inv X pins σ H s) : X.env.locals < s.heap.objs.size := let ⟨_, hn, _⟩ := I.loc; hn.lt
theorem Inv.sz (I : Inv X pins σ H s) : X.s₀.heap.objs.size ≤ s.heap.objs.size := Nat.le_trans I.ok.above (Nat.le_of_lt I.lt)
theorem Inv.nofs (I : Inv X pins σ H s) {a : Addr} (h : s.heap.objs.size ≤ a) : a ∉ X.fs := fun hb => by
  obtain ⟨_, o, ho, _⟩ := I.ok.funs.mem hb
  exact absurd (Nat.lt_of_lt_of_le (Heap.lt_size ho) (Nat.le_trans I.sz h)) (Nat.lt_irrefl _)
theorem Inv.cne (I : Inv X pins σ H s) : ∀ x c, X.env.cells.lookup x = some c → c ≠ X.env.locals := fun x c e z => by
  obtain ⟨v, o, ho, hd⟩ := I.cell x c e
  obtain ⟨m, ⟨o', es, ep, ho', hd', _⟩, _⟩ := I.loc
  rw [z, ho'] at ho; cases ho; rw [hd'] at hd; cases hd
theorem Inv.funs (I : Inv X pins σ H s) : s.heap.FunFrames X.base X.outer := by
  have all : ∀ (l : List Env), (∀ b ∈ frs l, b ∈ X.fs) → X.s₀.heap.FunFrames X.base l → s.heap.FunFrames X.base l := by
    intro l
    induction l with
    | nil => intro _ _; trivial
    | cons env r ih =>
      intro hs hl
      obtain ⟨hk, ⟨L, o, hf, hn, ho, hd⟩, hr⟩ := hl
      have hL : L ∈ X.fs := hs L (by unfold frs; rw [List.filterMap_cons, hf]; exact List.mem_cons_self)
      obtain ⟨sl, e⟩ := I.base.slot L o ho (I.ok.frf L hL) hL fun z => I.ok.exfs L z hL
      exact ⟨hk, ⟨L, _, hf, hn, e, hd⟩, ih (fun b hb => hs b (by unfold frs; rw [List.filterMap_cons, hf]; exact List.mem_cons_of_mem _ hb)) hr⟩
  exact all X.outer (fun _ hb => hb) I.ok.funs

/-- the frames that run, for a call -/
theorem Inv.stack (I : Inv X pins σ H s) : s.heap.FunFrames X.base X.stack := by
  rcases I.ok.stk with e | ⟨e, hf⟩
  · rw [e]; exact I.funs
  · rw [e]
    obtain ⟨m, hn, _⟩ := I.loc
    refine .cons (by rw [I.ok.kind]; decide) hf hn ?_ I.funs
    exact Heap.get?_none_of_le (Nat.le_trans I.ok.bsz I.ok.above)
theorem Inv.stkSub (I : Inv X pins σ H s) : ∀ b ∈ frs X.stack, b ∈ X.env.locals :: X.fs := fun b hb => by
  rcases I.ok.stk with e | ⟨e, hf⟩
  · rw [e] at hb; exact List.mem_cons_of_mem _ hb
  · rw [e] at hb
    unfold frs at hb
    rw [List.filterMap_cons, hf] at hb
    exact hb
theorem Inv.stkFree (I : Inv X pins σ H s) : ∀ b ∈ frs X.stack, H b = none := fun b hb => by
  rcases List.mem_cons.mp (I.stkSub b hb) with e | hb
  · rw [e]; exact I.free
  · obtain ⟨_, o, ho, _⟩ := I.ok.funs.mem hb
    exact I.base.free b o ho (I.ok.frf b hb) fun z => I.ok.exfs b z hb

/-- THE STEP: the untracked objects but the frame and the records at ch are kept (the callers' frames up to slots), the frame's map is kept, the new abstract heap is held -/
theorem Inv.step {g' : Array GenState} {t' : Nat} {d' : Drawn} {ch : List Addr} (I : Inv X pins σ H s)
    (hch : ∀ b ∈ ch, (b ∈ X.ex ∨ X.s₀.heap.objs.size ≤ b) ∧ b ≠ X.env.locals ∧ (∀ x c, X.env.cells.lookup x = some c → c ≠ b) ∧ ∀ p ∈ X.pn ++ pins, p.1 ≠ b)
    (keep : ∀ b o, b ≠ X.env.locals → b ∉ X.fs → b ∉ ch → s.heap.get? b = some o → H b = none → h'.get? b = some o)
    (slot : ∀ b o, b ≠ X.env.locals → b ∈ X.fs → b ∉ ch → s.heap.get? b = some o → H b = none → ∃ sl, h'.get? b = some { o with slots := sl }) (free : ∀ b o, b ∉ ch → s.heap.get? b = some o → H b = none → H' b = none)
    (there : ∀ b o, b ∉ ch → s.heap.get? b = some o → ∃ o', h'.get? b = some o')
    (tups : ∀ b xs, H b = some (.tup xs) → H' b = some (.tup xs)) (frzs : ∀ b o u, H b = some (.frz o u) → H' b = some (.frz o u)) (tbls : ∀ b ps, H b = some (.tbl ps) → ∃ more, H' b = some (.tbl (ps ++ more)))
    (ns : ∀ m, s.heap.Ns X.env.locals m → h'.Ns X.env.locals m) (hok : HOk X.prog X.w H' h') (hg : AllBare g') :
    Inv X pins σ H' { s with heap := h', gens := g', drawn := d', toks := t' } := by
  have neL : ∀ b o, X.s₀.heap.get? b = some o → b ≠ X.env.locals := fun b o e => Nat.ne_of_lt (Nat.lt_of_lt_of_le (Heap.lt_size e) I.ok.above)
  have neC : ∀ b o, X.s₀.heap.get? b = some o → b ∉ X.ex → b ∉ ch := fun b o e hx hb => by
    rcases (hch b hb).1 with z | z
    · exact hx z
    · exact absurd (Nat.lt_of_lt_of_le (Heap.lt_size e) z) (Nat.lt_irrefl _)
  have cellK : ∀ x c, X.env.cells.lookup x = some c → ∀ v, s.heap.IsCell c v → h'.IsCell c v := fun x c e v ⟨o, ho, hd⟩ => by
    have nch : c ∉ ch := fun z => (hch c z).2.2.1 x c e rfl
    by_cases hc : c ∈ X.fs
    · obtain ⟨sl, q⟩ := slot c o (I.cne x c e) hc nch ho (I.freeC x c e)
      exact ⟨_, q, hd⟩
    · exact ⟨o, keep c o (I.cne x c e) hc nch ho (I.freeC x c e), hd⟩
  refine ⟨I.ok, I.os, hg, ⟨fun b o e n hb hx => ?_, fun b o e n hb hx => ?_, fun b o e n hx => ?_, fun b o e hx => ?_, fun b xs e => tups b xs (I.base.tups b xs e), fun b o xs e => frzs b o xs (I.base.frzs b o xs e), fun b ps e => ?_⟩, ?_, fun x c e => ?_, ?_, fun x c e => ?_, fun p hp => ?_, hok, I.len⟩
  · exact keep b o (neL b o e) hb (neC b o e hx) (I.base.keep b o e n hb hx) (I.base.free b o e n hx)
  · obtain ⟨sl, e1⟩ := I.base.slot b o e n hb hx
    obtain ⟨sl', e2⟩ := slot b _ (neL b o e) hb (neC b o e hx) e1 (I.base.free b o e n hx)
    exact ⟨sl', e2⟩
  · obtain ⟨o', e1⟩ := I.base.there b o e hx
    exact free b o' (neC b o e hx) e1 (I.base.free b o e n hx)
  · obtain ⟨o', e1⟩ := I.base.there b o e hx
    exact there b o' (neC b o e hx) e1
  · obtain ⟨m1, e1⟩ := I.base.tbls b ps e
    obtain ⟨m2, e2⟩ := tbls b _ e1
    exact ⟨m1 ++ m2, by rw [e2, Array.append_assoc]⟩
  · obtain ⟨m, hn, hl⟩ := I.loc
    refine ⟨m, ns m hn, fun i x v e1 e2 e3 => ?_⟩
    obtain ⟨u, r, l⟩ := hl i x v e1 e2 e3
    refine ⟨u, r, ?_⟩
    rcases l with l | ⟨k, c, e, z⟩
    · exact .inl l
    · exact .inr ⟨k, c, e, cellK x c e _ z⟩
  · obtain ⟨v, z⟩ := I.cell x c e
    exact ⟨v, cellK x c e v z⟩
  · obtain ⟨m, ⟨o, _, _, ho, _⟩, _⟩ := I.loc
    exact free _ o (fun z => (hch _ z).2.1 rfl) ho I.free
  · obtain ⟨v, o, ho, hd⟩ := I.cell x c e
    exact free c o (fun z => (hch c z).2.2.1 x c e rfl) ho (I.freeC x c e)
  · obtain ⟨e, n, ne, nf, d⟩ := I.pin p hp
    have nch : p.1 ∉ ch := fun z => (hch p.1 z).2.2.2 p hp rfl
    exact ⟨keep p.1 p.2 ne nf nch e n, free p.1 p.2 nch e n, ne, nf, d⟩
/-- .. where the frame's own object is kept too -/
theorem Inv.un {t' : Nat} (I : Inv X pins σ H s) (u : Un X.fs [] H H' s.heap h') (hok : HOk X.prog X.w H' h') : Inv X pins σ H' { s with heap := h', toks := t' } := by
  obtain ⟨m, ⟨o, es, ep, ho, r⟩, _⟩ := id I.loc
  obtain ⟨sl, hL⟩ := u.any ho I.free (by simp)
  exact I.step (g' := s.gens) (d' := s.drawn) (ch := []) (fun _ z => nomatch z) (fun b o _ hb _ e n => u.keep b o e n hb (by simp)) (fun b o _ hb _ e n => u.slot b o e n hb (by simp)) (fun b o _ e n => u.free b o e n (by simp)) (fun b o _ e => u.there b o e (by simp)) u.tups u.frzs u.tbls (fun m' hm => by
    obtain ⟨o', es', ep', ho', r'⟩ := hm
    rw [ho] at ho'; cases ho'
    exact ⟨_, es', ep', hL, r'⟩) hok I.bare
/-- behind a call (or a comprehension's block): the slots of this frame may have changed too, the records at ch may have turned -/
theorem Inv.call {g' : Array GenState} {t' : Nat} {d' : Drawn} {ch : List Addr} (I : Inv X pins σ H s) (u : Un (frs X.stack) ch H H' s.heap h') (hok : HOk X.prog X.w H' h') (hg : AllBare g')
    (hch : ∀ b ∈ ch, (b ∈ X.ex ∨ X.s₀.heap.objs.size ≤ b) ∧ b ≠ X.env.locals ∧ (∀ x c, X.env.cells.lookup x = some c → c ≠ b) ∧ ∀ p ∈ X.pn ++ pins, p.1 ≠ b) :
    Inv X pins σ H' { s with heap := h', gens := g', drawn := d', toks := t' } := by
  obtain ⟨m, ⟨o, es, ep, ho, r⟩, _⟩ := id I.loc
  obtain ⟨sl, hL⟩ := u.any ho I.free fun z => (hch _ z).2.1 rfl
  exact I.step (ch := ch) hch (fun b o hL hb hc e n => u.keep b o e n (fun z => (List.mem_cons.mp (I.stkSub b z)).elim hL hb) hc) (fun b o _ _ hc e n => u.any e n hc) (fun b o hc e n => u.free b o e n hc) (fun b o hc e => u.there b o e hc) u.tups u.frzs u.tbls (fun m' hm => by
    obtain ⟨o', es', ep', ho', r'⟩ := hm
    rw [ho] at ho'; cases ho'
    exact ⟨_, es', ep', hL, r'⟩) hok hg
/-- an untracked record of ours (an iterator) has turned -/
theorem Inv.turned {t' : Nat} {it : Addr} (I : Inv X pins σ H s) (k : ∀ b o, b ≠ it → s.heap.get? b = some o → h'.get? b = some o) (hn : H it = none) (hL : it ≠ X.env.locals)
    (h1 : it ∈ X.ex ∨ X.s₀.heap.objs.size ≤ it) (h2 : ∀ x c, X.env.cells.lookup x = some c → c ≠ it) (h3 : ∀ p ∈ X.pn ++ pins, p.1 ≠ it) : Inv X pins σ H { s with heap := h', toks := t' } := by
  have nit : ∀ b u, H b = some u → b ≠ it := fun b u e z => by rw [z, hn] at e; cases e
  refine I.step (g' := s.gens) (d' := s.drawn) (ch := [it]) (fun b hb => ?_) (fun b o _ _ hc e _ => k b o (fun z => hc (by simp [z])) e) (fun b o _ _ hc e _ => ⟨o.slots, k b o (fun z => hc (by simp [z])) e⟩) (fun _ _ _ _ n => n)
    (fun b o hc e => ⟨o, k b o (fun z => hc (by simp [z])) e⟩) (fun _ _ e => e) (fun _ _ _ e => e) (fun b ps e => ⟨#[], by rw [e]; simp⟩) (fun m hm => ?_) (fun b u e => ?_) I.bare
  · have e : b = it := by simpa using hb
    subst e
    exact ⟨h1, hL, h2, h3⟩
  · obtain ⟨o, es, ep, ho, r⟩ := hm
    exact ⟨o, es, ep, k _ o (Ne.symm hL) ho, r⟩
  · refine (I.hok b u e).stay (fun c v hc q => k c v ?_ q) (fun _ q => q) fun _ _ q => q
    rcases hc with z | z
    · rw [z]; exact nit b u e
    · exact nit c _ z
theorem Inv.tok (I : Inv X pins σ H s) (t : Nat) : Inv X pins σ H { s with toks := t } := I.un (h' := s.heap) (t' := t) Un.refl I.hok
/-- all objects kept -/
theorem Inv.kept {t' : Nat} (I : Inv X pins σ H s) (k : ∀ b u, s.heap.get? b = some u → h'.get? b = some u) : Inv X pins σ H { s with heap := h', toks := t' } := I.un (Un.kept k) (I.hok.kept k)
/-- a new object laid and tracked -/
theorem Inv.laid {a : Addr} {o : HO} {t' : Nat} (I : Inv X pins σ H s) (k : ∀ b u, s.heap.get? b = some u → h'.get? b = some u) (hp : s.heap.objs.size ≤ a) (new : ObjOk X.prog X.w (upd H a o) h' a o) :
    Inv X pins σ (upd H a o) { s with heap := h', toks := t' } := I.un (Un.laid k hp (I.hok.fresh hp)) (I.hok.laid k hp new)
/-- an object written -/
theorem Inv.write {x e : Addr} {o : HO} {t' : Nat} (I : Inv X pins σ H s) (mu : Mut (H x)) (he : e = x ∨ H e = some (.own x)) (k : ∀ b u, b ≠ e → s.heap.get? b = some u → h'.get? b = some u) (heo : ∃ u, h'.get? e = some u)
    (new : ObjOk X.prog X.w (upd H x o) h' x o) : Inv X pins σ (upd H x o) { s with heap := h', toks := t' } := I.un (Un.write mu he k heo) (I.hok.write mu he k heo new)
/-- forgetting slots, pins -/
theorem Inv.weak {σ' : List (Option V)} (I : Inv X pins σ H s) (hl : σ'.length = σ.length) (w : ∀ (i : Nat) v, σ'[i]? = some (some v) → σ[i]? = some (some v)) : Inv X pins σ' H s :=
  ⟨I.ok, I.os, I.bare, I.base, let ⟨m, hn, hl'⟩ := I.loc; ⟨m, hn, fun i x v e1 e2 e3 => hl' i x v e1 (w i v e2) e3⟩, I.cell, I.free, I.freeC, I.pin, I.hok, hl.trans I.len⟩
theorem Inv.pins_of {pins' : List (Addr × Obj)} (I : Inv X pins σ H s) (h : ∀ p ∈ pins', s.heap.get? p.1 = some p.2 ∧ H p.1 = none ∧ p.1 ≠ X.env.locals ∧ p.1 ∉ X.fs ∧ ∀ v, p.2.data ≠ .cell v) : Inv X pins' σ H s :=
  ⟨I.ok, I.os, I.bare, I.base, I.loc, I.cell, I.free, I.freeC, fun p hp => (List.mem_append.mp hp).elim (fun z => I.pin p (List.mem_append_left _ z)) (h p), I.hok, I.len⟩

theorem nodup_ix {N : List Str} (hN : N.Nodup) {i j : Nat} {x : Str} (a : N[i]? = some x) (b : N[j]? = some x) : i = j := by
  obtain ⟨h1, e1⟩ := List.getElem?_eq_some_iff.mp a
  obtain ⟨h2, e2⟩ := List.getElem?_eq_some_iff.mp b
  exact (List.getElem_inj hN).mp (e1.trans e2.symm)

/-- a name is stored; what changed -/
theorem store_ok2 {M : Model} {A : Around} {E : Value → Shared → Prop} {i : Nat} {x : Str} {v : V} {u : Value} {Q : Unit → Shared → Prop} (I : Inv X pins σ H s) (hN : X.N.Nodup) (hi : X.N[i]? = some x) (hx : Loc X.env.scope x) (r : RelV v u)
    (h : ∀ s', Inv X pins (σ.set i (some v)) H s' → (∃ a, Heap.SameBut a s.heap s'.heap ∧ (a = X.env.locals ∨ X.env.cells.lookup x = some a)) → Q () s') (hf : X.fn x = true ∨ X.env.scope.names.lookup x = some .local := by first | exact .inl rfl | exact .inr rfl | assumption) : wpAny M A (storeName X.env x u) Q E s := by
  obtain ⟨m, hn, hl⟩ := id I.loc
  have hcls : (X.env.scope.kind == .class || (X.env.scope.kind == .module && X.env.locals != X.env.globals)) = false := by rw [I.ok.kind]; rfl
  have hiσ : i < σ.length := by rw [I.len]; exact (List.getElem?_eq_some_iff.mp hi).1
  have cne := I.cne
  have tracked : ∀ {a : Addr} {h' : Heap}, (∃ o, s.heap.get? a = some o ∧ H a = none) → Heap.SameBut a s.heap h' → HOk X.prog X.w H h' := fun {a h'} ha hs b ob e => by
    obtain ⟨_, _, hfree⟩ := ha
    refine (I.hok b ob e).stay (fun c w' hc q => (hs.2 c ?_).trans q) (fun _ q => q) fun _ _ q => q
    rintro rfl
    rcases hc with rfl | hc
    · rw [hfree] at e; cases e
    · rw [hfree] at hc; cases hc
  rcases hx with hk | hk
  · refine wpAny_storeName_local hk hn (fun h' hn' hs => ?_) hcls
    obtain ⟨oL, _, _, hoL, _⟩ := id hn
    refine h _ ⟨I.ok, I.os, I.bare, ⟨fun b o e n hb hx => ?_, fun b o e n hb hx => ?_, I.base.free, fun b o e hx => ?_, I.base.tups, I.base.frzs, I.base.tbls⟩, ⟨_, hn', fun j y v' e1 e2 e3 => ?_⟩, fun y c e => ?_, I.free, I.freeC, fun p hp => ?_, tracked ⟨oL, hoL, I.free⟩ hs, by simpa using I.len⟩ ⟨_, hs, .inl rfl⟩
    · exact (hs.2 b (Nat.ne_of_lt (Nat.lt_of_lt_of_le (Heap.lt_size e) I.ok.above))).trans (I.base.keep b o e n hb hx)
    · obtain ⟨sl, e1⟩ := I.base.slot b o e n hb hx
      exact ⟨sl, (hs.2 b (Nat.ne_of_lt (Nat.lt_of_lt_of_le (Heap.lt_size e) I.ok.above))).trans e1⟩
    · obtain ⟨o', e1⟩ := I.base.there b o e hx
      exact ⟨o', (hs.2 b (Nat.ne_of_lt (Nat.lt_of_lt_of_le (Heap.lt_size e) I.ok.above))).trans e1⟩
    · by_cases hj : j = i
      · subst hj
        rw [hi] at e1; cases e1
        rw [List.getElem?_set_self hiσ] at e2
        cases e2
        exact ⟨u, r, .inl ⟨hk, by simp⟩⟩
      · rw [List.getElem?_set_ne (Ne.symm hj)] at e2
        obtain ⟨u', r', q⟩ := hl j y v' e1 e2 e3
        refine ⟨u', r', ?_⟩
        rcases q with ⟨k, e⟩ | ⟨k, c, e, z⟩
        · refine .inl ⟨k, ?_⟩
          have : y ≠ x := fun e => hj (nodup_ix hN e1 (e ▸ hi))
          simp [this, e]
        · exact .inr ⟨k, c, e, z.sameBut hs (cne y c e)⟩
    · obtain ⟨w', z⟩ := I.cell y c e
      exact ⟨w', z.sameBut hs (cne y c e)⟩
    · obtain ⟨e, n, ne, nf, d⟩ := I.pin p hp
      exact ⟨(hs.2 p.1 ne).trans e, n, ne, nf, d⟩
  · have hfn : X.fn x = true := by
      rcases hf with z | z
      · exact z
      · rw [z] at hk; cases hk
    obtain ⟨c, hc⟩ := I.ok.has x (.inl hk)
    obtain ⟨w', z⟩ := I.cell x c hc
    refine wpAny_storeName_cell I.ok.kind hk hc z (fun h' hc' hs => ?_)
    obtain ⟨oc, hoc, hocd⟩ := id z
    refine h { s with heap := h' } ⟨I.ok, I.os, I.bare, ⟨fun b o e n hb hx => ?_, fun b o e n hb hx => ?_, I.base.free, fun b o e hx => ?_, I.base.tups, I.base.frzs, I.base.tbls⟩, ⟨m, hn.sameBut hs (Ne.symm (cne x c hc)), fun j y v' e1 e2 e3 => ?_⟩, fun y c' e => ?_, I.free, I.freeC, fun p hp => ?_, tracked ⟨oc, hoc, I.freeC x c hc⟩ hs, by simpa using I.len⟩ ⟨c, hs, .inr hc⟩
    · exact (hs.2 b (Nat.ne_of_lt (Nat.lt_of_lt_of_le (Heap.lt_size e) (I.ok.cab x c hfn hc)))).trans (I.base.keep b o e n hb hx)
    · obtain ⟨sl, e1⟩ := I.base.slot b o e n hb hx
      exact ⟨sl, (hs.2 b (Nat.ne_of_lt (Nat.lt_of_lt_of_le (Heap.lt_size e) (I.ok.cab x c hfn hc)))).trans e1⟩
    · obtain ⟨o', e1⟩ := I.base.there b o e hx
      exact ⟨o', (hs.2 b (Nat.ne_of_lt (Nat.lt_of_lt_of_le (Heap.lt_size e) (I.ok.cab x c hfn hc)))).trans e1⟩
    · by_cases hj : j = i
      · subst hj
        rw [hi] at e1; cases e1
        rw [List.getElem?_set_self hiσ] at e2
        cases e2
        exact ⟨u, r, .inr ⟨.inl hk, c, hc, hc'⟩⟩
      · rw [List.getElem?_set_ne (Ne.symm hj)] at e2
        obtain ⟨u', r', q⟩ := hl j y v' e1 e2 e3
        refine ⟨u', r', ?_⟩
        rcases q with q | ⟨k, c', e, z'⟩
        · exact .inl q
        · refine .inr ⟨k, c', e, z'.sameBut hs ?_⟩
          rintro rfl
          exact hj (nodup_ix hN e1 (I.ok.inj _ _ _ e hc ▸ hi))
    · by_cases hcc : c' = c
      · subst hcc; exact ⟨_, hc'⟩
      · obtain ⟨w2, z2⟩ := I.cell y c' e
        exact ⟨w2, z2.sameBut hs hcc⟩
    · obtain ⟨e, n, ne, nf, d⟩ := I.pin p hp
      refine ⟨(hs.2 p.1 ?_).trans e, n, ne, nf, d⟩
      intro q
      rw [q, hoc] at e
      have q' : oc = p.2 := Option.some.inj e
      exact d w' (by rw [← q']; exact hocd)
theorem store_ok {M : Model} {A : Around} {E : Value → Shared → Prop} {i : Nat} {x : Str} {v : V} {u : Value} {Q : Unit → Shared → Prop} (I : Inv X pins σ H s) (hN : X.N.Nodup) (hi : X.N[i]? = some x) (hx : Loc X.env.scope x) (r : RelV v u)
    (h : ∀ s', Inv X pins (σ.set i (some v)) H s' → Q () s') (hf : X.fn x = true ∨ X.env.scope.names.lookup x = some .local := by first | exact .inl rfl | exact .inr rfl | assumption) : wpAny M A (storeName X.env x u) Q E s :=
  store_ok2 I hN hi hx r (fun s' I' _ => h s' I') hf
/-- behind a call or a block, the state as it is -/
theorem Inv.call' {s' : Shared} {ch : List Addr} (I : Inv X pins σ H s) (ho : s'.os = s.os) (u : Un (frs X.stack) ch H H' s.heap s'.heap) (hok : HOk X.prog X.w H' s'.heap) (hg : AllBare s'.gens)
    (hch : ∀ b ∈ ch, (b ∈ X.ex ∨ X.s₀.heap.objs.size ≤ b) ∧ b ≠ X.env.locals ∧ (∀ x c, X.env.cells.lookup x = some c → c ≠ b) ∧ ∀ p ∈ X.pn ++ pins, p.1 ≠ b) : Inv X pins σ H' s' := by
  obtain ⟨h', g', d', t', o'⟩ := s'
  have e : o' = s.os := ho
  subst e
  exact I.call (g' := g') (t' := t') (d' := d') u hok hg hch
end

/-! ### the judgements -/
/-- an exception: its class, its own dict's address (where it has one), the abstract heap behind it -/
abbrev XK := Value → Option Addr → Hp → Prop
abbrev St := List (Option V)
abbrev VK := V → Hp → Prop
/-- an expression's reading; a test's; an argument list's -/
abbrev TE := St → Hp → VK → Prop
abbrev TT := St → Hp → (Bool → Hp → Prop) → Prop
abbrev TA := St → Hp → (List V → Hp → Prop) → Prop
/-- what is wanted behind a statement -/
structure Ends where
  nx : St → Hp → Prop
  rt : VK
  bk : St → Hp → Prop := fun _ _ => False
  ct : St → Hp → Prop := fun _ _ => False
abbrev TS := Ends → St → Hp → Prop

def EP (X : Cx) (pins : List (Addr × Obj)) (σ : St) (Q : VK) (u : Value) (s' : Shared) : Prop := ∃ v H', Inv X pins σ H' s' ∧ RelV v u ∧ Q v H'
def TP (X : Cx) (pins : List (Addr × Obj)) (σ : St) (Q : Bool → Hp → Prop) (b : Bool) (s' : Shared) : Prop := ∃ H', Inv X pins σ H' s' ∧ Q b H'
def AP (X : Cx) (pins : List (Addr × Obj)) (σ : St) (Q : List V → Hp → Prop) (us : List Value) (s' : Shared) : Prop := ∃ vs H', Inv X pins σ H' s' ∧ Vals vs us ∧ Q vs H'
def SP (X : Cx) (pins : List (Addr × Obj)) (D : Ends) (f : Flow) (s' : Shared) : Prop :=
  match f with
  | .next => ∃ σ' H', Inv X pins σ' H' s' ∧ D.nx σ' H'
  | .brk => ∃ σ' H', Inv X pins σ' H' s' ∧ D.bk σ' H'
  | .cont => ∃ σ' H', Inv X pins σ' H' s' ∧ D.ct σ' H'
  | .ret u => ∃ v σ' H', Inv X pins σ' H' s' ∧ RelV v u ∧ D.rt v H'

def PE (X : Cx) (e : Expr) (t : TE) : Prop :=
  ∀ (pins : List (Addr × Obj)) (s : Shared) (σ : St) (H : Hp) (Q : VK), Inv X pins σ H s → t σ H Q → wpAny (model X.prog X.w) X.A (eval e X.env) (EP X pins σ Q) X.xe s
def PT (X : Cx) (e : Expr) (t : TT) : Prop :=
  ∀ (pins : List (Addr × Obj)) (s : Shared) (σ : St) (H : Hp) (Q : Bool → Hp → Prop), Inv X pins σ H s → t σ H Q → wpAny (model X.prog X.w) X.A (isTrue e X.env (eval e X.env)) (TP X pins σ Q) X.xe s
/-- a test whatever its 'whole' is (and, or) -/
def PW (X : Cx) (e : Expr) (t : TT) : Prop :=
  ∀ (whole : Sem Value) (pins : List (Addr × Obj)) (s : Shared) (σ : St) (H : Hp) (Q : Bool → Hp → Prop), Inv X pins σ H s → t σ H Q → wpAny (model X.prog X.w) X.A (isTrue e X.env whole) (TP X pins σ Q) X.xe s
theorem PW.pt {X : Cx} {e : Expr} {t : TT} (h : PW X e t) : PT X e t := h _
/-- an argument list (no star), from the left -/
def PA (X : Cx) (es : List Expr) (t : TA) : Prop :=
  ∀ (pos : Pos) (pins : List (Addr × Obj)) (s : Shared) (σ : St) (H : Hp) (Q : List V → Hp → Prop), Inv X pins σ H s → t σ H Q → wpAny (model X.prog X.w) X.A (spliced (backTo pos (starEach es X.env))) (AP X pins σ Q) X.xe s
def PS (X : Cx) (st : Stmt) (t : TS) : Prop :=
  ∀ (pins : List (Addr × Obj)) (s : Shared) (σ : St) (H : Hp) (D : Ends), Inv X pins σ H s → t D σ H → wpAny (model X.prog X.w) X.A (exec st X.env) (SP X pins D) X.xe s
def PSs (X : Cx) (st : List Stmt) (t : TS) : Prop :=
  ∀ (pins : List (Addr × Obj)) (s : Shared) (σ : St) (H : Hp) (D : Ends), Inv X pins σ H s → t D σ H → wpAny (model X.prog X.w) X.A (execs st X.env) (SP X pins D) X.xe s
/-- weaken the end -/
theorem thn {α : Type} {t : Sem α} {Q Q' : α → Shared → Prop} {M : Model} {A : Around} {E : Value → Shared → Prop} {s : Shared} (h : wpAny M A t Q E s) (hQ : ∀ a s, Q a s → Q' a s) : wpAny M A t Q' E s := wpAny_mono h hQ fun _ _ x => x
end L2

namespace L2
open PySem PySem.Spec PyProof.Rows
section
variable {X : Cx}

/-- two expressions in a row -/
theorem bin {a b : Expr} {ta tb : TE} (ha : PE X a ta) (hb : PE X b tb) {pins : List (Addr × Obj)} {s : Shared} {σ : St} {H : Hp} {R : V → V → Hp → Prop} (I : Inv X pins σ H s) (h : ta σ H fun x H1 => tb σ H1 fun y H2 => R x y H2)
    {α : Type} {Q : α → Shared → Prop} {f : Value → Value → Sem α}
    (hf : ∀ v u s2 x y H2, Inv X pins σ H2 s2 → RelV x v → RelV y u → R x y H2 → wpAny (model X.prog X.w) X.A (f v u) Q X.xe s2) :
    wpAny (model X.prog X.w) X.A (eval a X.env) (fun v s₁ => wpAny (model X.prog X.w) X.A (eval b X.env) (fun u s₂ => wpAny (model X.prog X.w) X.A (f v u) Q X.xe s₂) X.xe s₁) X.xe s := by
  refine thn (ha pins s σ H _ I h) fun v s1 ⟨x, H1, I1, r1, q1⟩ => ?_
  refine thn (hb pins s1 σ H1 _ I1 q1) fun u s2 ⟨y, H2, I2, r2, q2⟩ => ?_
  exact hf v u s2 x y H2 I2 r1 r2 q2

/-! ### names and constants -/
def tVar (i : Nat) : TE := fun σ H Q => ∃ v, σ[i]? = some (some v) ∧ Q v H
def tC (v : V) : TE := fun _ H Q => Q v H
theorem pe_var {i : Nat} {x : Str} {pos : Pos} (hN : X.N[i]? = some x) (hv : Vis X.env.scope x) (hd : (x == ("__debug__" : Str)) = false := by decide) (hcd : (x == ("__classdict__" : Str)) = false := by decide) : PE X (.Name x pos) (tVar i) := by
  intro pins s σ H Q I h
  obtain ⟨v, e, h⟩ := h
  obtain ⟨m, hn, hl⟩ := I.loc
  obtain ⟨u, r, l⟩ := hl i x v hN e hv
  have fin : EP X pins σ Q u s := ⟨v, H, I, r, h⟩
  rcases l with ⟨hk, hm⟩ | ⟨hk, c, hc, hcell⟩
  · exact wpAny_Name (wpAny_loadName_local I.ok.kind hk hn hm fin) hd
  · rcases hk with hk | hk
    · exact wpAny_Name (wpAny_loadName_cell I.ok.kind hk hc hcell fin) hd
    · exact wpAny_Name (wpAny_loadName_free I.ok.kind hk hc hcell fin hcd) hd
theorem pe_int {i j pos} : PE X (.Constant (.int i) j pos) (tC (.int i)) := fun _ _ _ H _ I h => wpAny_Constant_int ⟨.int i, H, I.tok _, ⟨_, rfl⟩, h⟩
theorem pe_bl {b j pos} : PE X (.Constant (.bool b) j pos) (tC (.bl b)) := fun _ _ _ H _ I h => Constant_bool ⟨.bl b, H, I, rfl, h⟩
theorem pe_str {x j pos} : PE X (.Constant (.str x) j pos) (tC (.str x)) := fun _ _ _ H _ I h => Calls.Constant_str ⟨.str x, H, I.tok _, ⟨_, rfl⟩, h⟩

/-- a global name of the def -/
def Gl (X : Cx) (x : Str) : Prop := X.env.kindOf x = some .globalImplicit
theorem ld_glob {E : Value → Shared → Prop} {pins : List (Addr × Obj)} {s : Shared} {σ : St} {H : Hp} {x : Str} {u : Value} {pos : Pos} {Q : Value → Shared → Prop} (I : Inv X pins σ H s) (hg : Gl X x) (hm : X.mg x = some u) (h : Q u s)
    (hd : (x == ("__debug__" : Str)) = false := by decide) : wpAny (model X.prog X.w) X.A (eval (.Name x pos) X.env) Q E s :=
  Calls.Name_function_global I.ok.kind hg (Calls.loadGlobal_global (by rw [I.ok.glob]; exact I.mod.glob.keeps I.bk) hm h) hd
theorem ld_blt {E : Value → Shared → Prop} {pins : List (Addr × Obj)} {s : Shared} {σ : St} {H : Hp} {x : Str} {u : Value} {pos : Pos} {Q : Value → Shared → Prop} (I : Inv X pins σ H s) (hg : Gl X x) (hm : X.mg x = none) (hv : bootBuiltins x = some u) (h : Q u s)
    (hn : x ≠ "__name__" := by decide) (hd : (x == ("__debug__" : Str)) = false := by decide) : wpAny (model X.prog X.w) X.A (eval (.Name x pos) X.env) Q E s := by
  obtain ⟨mb, h1, h2⟩ := I.mod.blt
  exact Calls.Name_function_global I.ok.kind hg (Calls.loadGlobal_builtin (by rw [I.ok.glob]; exact I.mod.glob.keeps I.bk) hm (by rw [I.ok.blt]; exact h1.keeps I.bk) ((h2 x hn).trans hv) h) hd
/-- a module's constant, a class, a function, as a value -/
theorem pe_glob {x : Str} {v : V} {u : Value} {pos : Pos} (hg : Gl X x) (hm : X.mg x = some u) (r : RelV v u) (hd : (x == ("__debug__" : Str)) = false := by decide) : PE X (.Name x pos) (tC v) :=
  fun _ _ _ H _ I h => ld_glob I hg hm ⟨v, H, I, r, h⟩ hd
/-! ### arithmetic -/
/-- two ints -/
def t2I (ta tb : TE) (k : Int → Int → Hp → Prop) : St → Hp → Prop := fun σ H => ta σ H fun x H1 => tb σ H1 fun y H2 => ∃ i j, x = .int i ∧ y = .int j ∧ k i j H2
variable {a b : Expr} {ta tb : TE} {pos : Pos}
/-! ### comparisons -/
def PC (X : Cx) (op : CmpOp) (a b : Expr) (t : TE) : Prop :=
  ∀ (pins : List (Addr × Obj)) (s : Shared) (σ : St) (H : Hp) (Q : VK), Inv X pins σ H s → t σ H Q →
    wpAny (model X.prog X.w) X.A (eval a X.env) (fun v s₁ => wpAny (model X.prog X.w) X.A (eval b X.env) (fun u s₂ => wpAny (model X.prog X.w) X.A (compareOp op v u) (EP X pins σ Q) X.xe s₂) X.xe s₁) X.xe s
theorem nobehind (b : Expr) {op : CmpOp} (h : op ≠ .In) (h2 : op ≠ .NotIn) : behindInMarks op b = false := by
  have e1 : (op == CmpOp.In) = false := by cases op <;> first | rfl | exact absurd rfl h
  have e2 : (op == CmpOp.NotIn) = false := by cases op <;> first | rfl | exact absurd rfl h2
  cases b <;> simp [behindInMarks, e1, e2]
def tCmp (p : Int → Int → Bool) (ta tb : TE) : TE := fun σ H Q => t2I ta tb (fun i j H2 => Q (.bl (p i j)) H2) σ H
abbrev tLt : TE → TE → TE := tCmp fun i j => decide (i < j)
abbrev tLe : TE → TE → TE := tCmp fun i j => decide (i ≤ j)
abbrev tGt : TE → TE → TE := tCmp fun i j => decide (j < i)
abbrev tGe : TE → TE → TE := tCmp fun i j => decide (j ≤ i)
abbrev tEqI : TE → TE → TE := tCmp fun i j => decide (i = j)
abbrev tNeI : TE → TE → TE := tCmp fun i j => !decide (i = j)
/-- a comparison of two ints, by its rule -/
theorem pc_int {op : CmpOp} {p : Int → Int → Bool} (ha : PE X a ta) (hb : PE X b tb)
    (rule : ∀ (i j : Int) (t u : Tok) (Q : Value → Shared → Prop) (s : Shared), Q (.bool (p i j)) s → wpAny (model X.prog X.w) X.A (compareOp op (.int i t) (.int j u)) Q X.xe s) : PC X op a b (tCmp p ta tb) := by
  intro pins s σ H Q I h
  refine bin ha hb I h fun v u s2 x y H2 I2 rx ry q => ?_
  obtain ⟨i, j, rfl, rfl, q⟩ := q
  obtain ⟨t, rfl⟩ := rx
  obtain ⟨t', rfl⟩ := ry
  exact rule i j t t' _ s2 ⟨.bl _, H2, I2, rfl, q⟩
theorem pc_lt (ha : PE X a ta) (hb : PE X b tb) : PC X .Lt a b (tLt ta tb) := pc_int ha hb fun _ _ _ _ _ _ h => lt_int h
theorem pc_gt (ha : PE X a ta) (hb : PE X b tb) : PC X .Gt a b (tGt ta tb) := pc_int ha hb fun _ _ _ _ _ _ h => gt_int h
theorem pc_ge (ha : PE X a ta) (hb : PE X b tb) : PC X .GtE a b (tGe ta tb) := pc_int ha hb fun _ _ _ _ _ _ h => ge_int h
theorem pc_eqI (ha : PE X a ta) (hb : PE X b tb) : PC X .Eq a b (tEqI ta tb) := pc_int ha hb fun _ _ _ _ _ _ h => eq_int (by rw [Bool.beq_eq_decide_eq]; exact h)
theorem pc_neI (ha : PE X a ta) (hb : PE X b tb) : PC X .NotEq a b (tNeI ta tb) := pc_int ha hb fun _ _ _ _ _ _ h => ne_int (by rw [bne, Bool.beq_eq_decide_eq]; exact h)
def tNotN (ta : TE) : TE := fun σ H Q => ta σ H fun x H1 => Q (.bl (!decide (x = .non))) H1
theorem RelV.none_iff {x : V} {v : Value} (r : RelV x v) : (v == Value.none) = decide (x = .non) := by
  cases x with
  | non => cases r; rfl
  | bl _ => cases r; rfl
  | int _ => obtain ⟨t, rfl⟩ := r; rfl
  | str _ => obtain ⟨t, rfl⟩ := r; rfl
  | byt _ => obtain ⟨t, rfl⟩ := r; rfl
  | flt _ => obtain ⟨t, rfl⟩ := r; rfl
  | ref _ => cases r; rfl
  | ty _ => cases r; rfl
theorem pc_notN {j pos'} (ha : PE X a ta) : PC X .IsNot a (.Constant .none j pos') (tNotN ta) := by
  intro pins s σ H Q I h
  refine thn (ha pins s σ H _ I h) fun v s1 ⟨x, H1, I1, r1, q1⟩ => ?_
  exact Constant_none (isnot_none_gen ⟨.bl _, H1, I1, by rw [r1.none_iff]; rfl, q1⟩)
/-- a comparison as a value, as a test -/
def tB (t : TE) : TT := fun σ H Q => t σ H fun x H1 => ∃ c, x = .bl c ∧ Q c H1
theorem pt_cmp {op : CmpOp} {t : TE} (h : PC X op a b t) (h1 : behindInMarks op b = false := by first | exact nobehind _ (by decide) (by decide) | rfl) : PT X (.Compare a [op] [b] pos) (tB t) := by
  intro pins s σ H Q I hw
  refine wpAny_isTrue_Compare1 (thn (h pins s σ H _ I hw) fun v s1 h1 => thn h1 fun u s2 h2 => thn h2 fun c s3 ⟨x, H1, I1, r1, q1⟩ => ?_) h1
  obtain ⟨d, rfl, q⟩ := q1
  cases r1
  exact wpAny_truthy_bool ⟨H1, I1, q⟩
/-- an expression whose value is a bool, as a test -/
theorem pt_val {e : Expr} {t : TE} (h : PE X e t) (he : ∀ whole, isTrue e X.env whole = (do let v ← whole; standAt e.pos; holding [v] (truthy v)) := by intro _; rfl) : PT X e (tB t) := by
  intro pins s σ H Q I hw
  refine isTrue_plain (thn (h pins s σ H _ I hw) fun v s1 ⟨x, H1, I1, r1, q1⟩ => ?_) (he _)
  obtain ⟨d, rfl, q⟩ := q1
  cases r1
  exact wpAny_truthy_bool ⟨H1, I1, q⟩

/-! ### and, or, not -/
variable {tA tB' : TT} {rest : List Expr}
def tAnd (t u : TT) : TT := fun σ H Q => t σ H fun c H1 => if c = true then u σ H1 Q else Q false H1
def tOr (t u : TT) : TT := fun σ H Q => t σ H fun c H1 => if c = true then Q true H1 else u σ H1 Q
def tNot (t : TT) : TT := fun σ H Q => t σ H fun c H1 => Q (!c) H1
theorem pw_and1 (ha : PT X a tA) : PW X (.BoolOp .And [a] pos) tA := by
  intro wh pins s σ H Q I h
  refine isTrue_and (thn (ha pins s σ H Q I h) fun c s1 e => ?_)
  cases c with
  | true => exact isTrue_and_nil e
  | false => exact e
theorem pw_or1 (ha : PT X a tA) : PW X (.BoolOp .Or [a] pos) tA := by
  intro wh pins s σ H Q I h
  refine isTrue_or (thn (ha pins s σ H Q I h) fun c s1 e => ?_)
  cases c with
  | false => exact isTrue_or_nil e
  | true => exact e
theorem pw_and (ha : PT X a tA) (hb : PW X (.BoolOp .And (b :: rest) pos) tB') : PW X (.BoolOp .And (a :: b :: rest) pos) (tAnd tA tB') := by
  intro wh pins s σ H Q I h
  refine isTrue_and (thn (ha pins s σ H _ I h) fun c s1 ⟨H1, I1, q1⟩ => ?_)
  cases c with
  | true => exact hb wh pins s1 σ H1 Q I1 q1
  | false => exact ⟨H1, I1, q1⟩
theorem pw_or (ha : PT X a tA) (hb : PW X (.BoolOp .Or (b :: rest) pos) tB') : PW X (.BoolOp .Or (a :: b :: rest) pos) (tOr tA tB') := by
  intro wh pins s σ H Q I h
  refine isTrue_or (thn (ha pins s σ H _ I h) fun c s1 ⟨H1, I1, q1⟩ => ?_)
  cases c with
  | true => exact ⟨H1, I1, q1⟩
  | false => exact hb wh pins s1 σ H1 Q I1 q1
theorem pt_not (ha : PT X a tA) : PT X (.UnaryOp .Not a pos) (tNot tA) := by
  intro pins s σ H Q I h
  exact isTrue_not (ha pins s σ H (fun c H1 => Q (!c) H1) I h)
/-- a if t else b -/
def tIf (t : TT) (ta tb : TE) : TE := fun σ H Q => t σ H fun c H1 => if c = true then ta σ H1 Q else tb σ H1 Q
theorem pe_ifExp {c : Expr} (hc : PT X c tA) (ha : PE X a ta) (hb : PE X b tb) : PE X (.IfExp c a b pos) (tIf tA ta tb) := by
  intro pins s σ H Q I h
  refine wpAny_IfExp (thn (hc pins s σ H _ I h) fun d s1 ⟨H1, I1, q1⟩ => ?_)
  cases d with
  | true => exact ha pins s1 σ H1 Q I1 q1
  | false => exact hb pins s1 σ H1 Q I1 q1
end
end L2

namespace L2
open PySem PySem.Spec PyProof.Rows

/-! ### a list, a tuple that is read: tracked, frozen, or an object of the module -/
def SqL (K : PySem.W.Frag) (H : Hp) (a : Addr) (xs : List V) : Prop :=
  Rd H a (.lst xs) ∨
    ∃ (o : Obj) (its : Array Value) (n : Nat), K.lookup a = some o ∧ o.cls = .type "list" ∧ o.dict = none ∧ o.data = .seq its n ∧ its.size ≤ sizeLine ∧ Vals xs its.toList
def SqT (K : PySem.W.Frag) (H : Hp) (a : Addr) (xs : List V) : Prop :=
  Rd H a (.tup xs) ∨
    ∃ (o : Obj) (its : Array Value) (n : Nat), K.lookup a = some o ∧ o.cls = .type "tuple" ∧ o.data = .seq its n ∧ its.size ≤ sizeLine ∧ Vals xs its.toList
def absV : Value → Option V
  | .none => some .non
  | .bool b => some (.bl b)
  | .int i _ => some (.int i)
  | .str x _ => some (.str x)
  | .bytes b _ => some (.byt b)
  | .float b _ => some (.flt b)
  | .ref a => some (.ref a)
  | .type n => some (.ty n)
  | _ => none
theorem RelV.abs {x : V} {u : Value} (r : RelV x u) : absV u = some x := by
  cases x with
  | non => cases r; rfl
  | bl _ => cases r; rfl
  | int _ => obtain ⟨t, rfl⟩ := r; rfl
  | str _ => obtain ⟨t, rfl⟩ := r; rfl
  | byt _ => obtain ⟨t, rfl⟩ := r; rfl
  | flt _ => obtain ⟨t, rfl⟩ := r; rfl
  | ref _ => cases r; rfl
  | ty _ => cases r; rfl
theorem RelV.inj {x y : V} {u : Value} (r : RelV x u) (q : RelV y u) : x = y := Option.some.inj (r.abs.symm.trans q.abs)
theorem Vals.inj : ∀ {xs ys : List V} {us : List Value}, Vals xs us → Vals ys us → xs = ys
  | _, _, _, .nil, .nil => rfl
  | _, _, _, .cons r t, .cons r' t' => by rw [r.inj r', Vals.inj t t']
section
variable {X : Cx} {pins : List (Addr × Obj)} {σ : St} {H : Hp} {s : Shared} {a : Addr} {xs ys : List V}
theorem SqL.of {K : PySem.W.Frag} (h : H a = some (.lst xs)) : SqL K H a xs := .inl (.inl h)
theorem SqT.of {K : PySem.W.Frag} (h : H a = some (.tup xs)) : SqT K H a xs := .inl (.inl h)
theorem Inv.list (I : Inv X pins σ H s) (h : SqL X.K H a xs) : ∃ its : List Value, Vals xs its ∧ PlainL s.heap a its.toArray ∧ xs.length ≤ sizeLine := by
  rcases h with h | ⟨o, its, n, hk, hc, hd, hs, hz, r⟩
  · obtain ⟨z, its, n, r, e⟩ := h.ok I.hok
    exact ⟨its, r, ⟨_, n, e, rfl, rfl, rfl⟩, z⟩
  · refine ⟨its.toList, r, ⟨o, n, I.kIn a o hk, hc, hd, by simpa using hs⟩, ?_⟩
    have e := r.length
    simp only [Array.length_toList] at e
    omega
theorem Inv.tuple (I : Inv X pins σ H s) (h : SqT X.K H a xs) : ∃ its : List Value, Vals xs its ∧ IsTup s.heap a its.toArray ∧ xs.length ≤ sizeLine := by
  rcases h with h | ⟨o, its, n, hk, hc, hs, hz, r⟩
  · obtain ⟨z, its, r, p⟩ := h.ok I.hok
    exact ⟨its, r, p, z⟩
  · refine ⟨its.toList, r, ⟨o, I.kIn a o hk, hc, n, by simpa using hs⟩, ?_⟩
    have e := r.length
    simp only [Array.length_toList] at e
    omega
theorem Inv.list_inj (I : Inv X pins σ H s) (h : SqL X.K H a xs) (h' : SqL X.K H a ys) : xs = ys := by
  obtain ⟨its, r, ⟨o, n, e, _, _, d⟩, _⟩ := I.list h
  obtain ⟨its', r', ⟨o', n', e', _, _, d'⟩, _⟩ := I.list h'
  rw [e] at e'; cases e'
  rw [d] at d'
  injection d' with d1 _
  have : its = its' := by simpa using congrArg Array.toList d1
  subst this
  exact r.inj r'
end

/-! ### another wish about exceptions -/
abbrev Cx.wish (X : Cx) (E : Value → Shared → Prop) : Cx := { X with xe := E }
/-- no exception leaves -/
abbrev Cx.nox (X : Cx) : Cx := X.wish fun _ _ => False
theorem Cx.Ok.wish {X : Cx} (ok : X.Ok) (E : Value → Shared → Prop) : (X.wish E).Ok :=
  ⟨ok.mod, ok.kind, ok.glob, ok.blt, ok.above, ok.inj, ok.has, ok.cab, ok.hd, ok.frames, ok.stk, ok.exf, ok.bs, ok.bsz, ok.noex, ok.exfs, ok.funs, ok.frf⟩
theorem Cx.Ok.unwish {X : Cx} {E : Value → Shared → Prop} (ok : (X.wish E).Ok) : X.Ok :=
  ⟨ok.mod, ok.kind, ok.glob, ok.blt, ok.above, ok.inj, ok.has, ok.cab, ok.hd, ok.frames, ok.stk, ok.exf, ok.bs, ok.bsz, ok.noex, ok.exfs, ok.funs, ok.frf⟩
section
variable {X : Cx} {pins : List (Addr × Obj)} {σ : St} {H : Hp} {s : Shared} {E : Value → Shared → Prop}
theorem Inv.wish (I : Inv X pins σ H s) (E : Value → Shared → Prop) : Inv (X.wish E) pins σ H s := ⟨I.ok.wish E, I.os, I.bare, I.base, I.loc, I.cell, I.free, I.freeC, I.pin, I.hok, I.len⟩
theorem Inv.unwish (I : Inv (X.wish E) pins σ H s) : Inv X pins σ H s := ⟨I.ok.unwish, I.os, I.bare, I.base, I.loc, I.cell, I.free, I.freeC, I.pin, I.hok, I.len⟩
theorem SP.unwish {D : Ends} {f : Flow} {s' : Shared} (h : SP (X.wish E) pins D f s') : SP X pins D f s' := by
  cases f with
  | next => obtain ⟨σ', H', I, q⟩ := h; exact ⟨σ', H', I.unwish, q⟩
  | brk => obtain ⟨σ', H', I, q⟩ := h; exact ⟨σ', H', I.unwish, q⟩
  | cont => obtain ⟨σ', H', I, q⟩ := h; exact ⟨σ', H', I.unwish, q⟩
  | ret u => obtain ⟨v, σ', H', I, r, q⟩ := h; exact ⟨v, σ', H', I.unwish, r, q⟩
theorem PSs.nox {st : List Stmt} {t : TS} (h : PSs X.nox st t) : PSs X st t := fun pins s σ H D I hw =>
  wpAny_mono (h pins s σ H D (I.wish _) hw) (fun _ _ q => q.unwish) fun _ _ z => False.elim z
end

/-! ### blocks and small statements -/
section
variable {X : Cx} {st : Stmt} {rest : List Stmt} {t u : TS} {e : Expr} {te : TE} {pos : Pos}
def tNext : TS := fun D σ H => D.nx σ H
def tSeq (t u : TS) : TS := fun D σ H => t { D with nx := u D } σ H
theorem pss_nil : PSs X [] tNext := fun _ _ σ H _ I h => wpAny_execs_nil ⟨σ, H, I, h⟩
theorem pss_cons (h1 : PS X st t) (h2 : PSs X rest u) : PSs X (st :: rest) (tSeq t u) := by
  intro pins s σ H D I h
  refine wpAny_execs_cons (thn (h1 pins s σ H { D with nx := u D } I h) fun f s1 q => ?_)
  cases f with
  | next =>
    obtain ⟨σ', H', I', q⟩ := q
    exact h2 pins s1 σ' H' D I' q
  | ret v => exact q
  | brk => exact q
  | cont => exact q
theorem pss_one (h1 : PS X st t) : PSs X [st] t := by
  intro pins s σ H D I h
  refine wpAny_execs_cons (thn (h1 pins s σ H D I h) fun f s1 q => ?_)
  cases f with
  | next => exact wpAny_execs_nil q
  | ret v => exact q
  | brk => exact q
  | cont => exact q
/-- in a def's body nothing is shown -/
theorem Inv.quiet {pins : List (Addr × Obj)} {σ : St} {H : Hp} {s : Shared} (I : Inv X pins σ H s) : interactive X.env = false := by simp [interactive, I.ok.kind]
/-- an expression whose value is dropped -/
def tDrop (te : TE) : TS := fun D σ H => te σ H fun _ H1 => D.nx σ H1
theorem ps_expr (he : PE X e te) (hs : swapsWith e none pos.line X.env = pure false := by rfl) : PS X (.Expr e pos) (tDrop te) := by
  intro pins s σ H D I h
  exact wpAny_Expr_any (thn (he pins s σ H _ I h) fun v s1 ⟨x, H1, I1, r1, q1⟩ => ⟨σ, H1, I1, q1⟩) I.quiet hs
def tRet (te : TE) : TS := fun D σ H => te σ H D.rt
theorem ps_ret (he : PE X e te) : PS X (.Return (some e) pos) (tRet te) := by
  intro pins s σ H D I h
  exact wpAny_Return_some (thn (he pins s σ H _ I h) fun v s1 ⟨x, H1, I1, r1, q1⟩ => ⟨x, σ, H1, I1, r1, q1⟩)
def tIfS (c : TT) (t u : TS) : TS := fun D σ H => c σ H fun b H1 => if b = true then t D σ H1 else u D σ H1
theorem ps_if {c : Expr} {a b : List Stmt} {tc : TT} (hc : PT X c tc) (ha : PSs X a t) (hb : PSs X b u) : PS X (.If c a b pos) (tIfS tc t u) := by
  intro pins s σ H D I h
  refine wpAny_If (thn (hc pins s σ H _ I h) fun d s1 ⟨H1, I1, q1⟩ => ?_)
  cases d with
  | true => exact ha pins s1 σ H1 D I1 q1
  | false => exact hb pins s1 σ H1 D I1 q1
end

/-! ### targets -/
abbrev TG := V → St → Hp → (St → Hp → Prop) → Prop
abbrev TGs := List V → St → Hp → (St → Hp → Prop) → Prop
def PG (X : Cx) (target : Expr) (t : TG) : Prop :=
  ∀ (pins : List (Addr × Obj)) (s : Shared) (σ : St) (H : Hp) (v : V) (u : Value) (Q : St → Hp → Prop), Inv X pins σ H s → RelV v u → t v σ H Q →
    wpAny (model X.prog X.w) X.A (assign target X.env u) (fun _ s' => ∃ σ' H', Inv X pins σ' H' s' ∧ Q σ' H') X.xe s
/-- several targets, one after another -/
def PGs (X : Cx) (ts : List Expr) (t : TGs) : Prop :=
  ∀ (pins : List (Addr × Obj)) (s : Shared) (σ : St) (H : Hp) (vs : List V) (us : List Value) (Q : St → Hp → Prop), Inv X pins σ H s → Vals vs us → t vs σ H Q →
    wpAny (model X.prog X.w) X.A (assignInOrder ((assignEach ts X.env).map (·.2)) us) (fun _ s' => ∃ σ' H', Inv X pins σ' H' s' ∧ Q σ' H') X.xe s
/-- o[i] = v, by values -/
abbrev TSet := V → V → V → Hp → (Hp → Prop) → Prop
/-- a op= b, by values -/
abbrev TIp := V → V → Hp → VK → Prop
section
variable {X : Cx} {pos : Pos}
def gName (i : Nat) : TG := fun v σ H Q => Q (σ.set i (some v)) H
theorem pg_name {i : Nat} {x : Str} (hN : X.N.Nodup) (hi : X.N[i]? = some x) (hx : Loc X.env.scope x) (hf : X.fn x = true ∨ X.env.scope.names.lookup x = some .local := by first | exact .inl rfl | exact .inr rfl | assumption) : PG X (.Name x pos) (gName i) := by
  intro pins s σ H v u Q I r h
  exact wpAny_assign_Name (store_ok I hN hi hx r (fun s' I' => ⟨_, H, I', h⟩) hf)
def gNil : TGs := fun vs σ H Q => vs = [] ∧ Q σ H
def gCons (t : TG) (u : TGs) : TGs := fun vs σ H Q => ∃ v r, vs = v :: r ∧ t v σ H fun σ' H' => u r σ' H' Q
theorem pgs_nil : PGs X [] gNil := by
  intro pins s σ H vs us Q I r h
  obtain ⟨e, h⟩ := h
  subst e
  cases r
  exact assignInOrder_nil ⟨σ, H, I, h⟩
theorem pgs_cons {e : Expr} {es : List Expr} {t : TG} {u : TGs} (h1 : PG X e t) (h2 : PGs X es u)
    (hs : (assignEach (e :: es) X.env).map (·.2) = assign e X.env :: (assignEach es X.env).map (·.2) := by rfl) : PGs X (e :: es) (gCons t u) := by
  intro pins s σ H vs us Q I r h
  obtain ⟨v, vr, e1, h⟩ := h
  subst e1
  cases r with
  | cons r rr =>
    rw [hs]
    refine assignInOrder_cons (thn (h1 pins s σ H _ _ _ I r h) fun _ s1 ⟨σ1, H1, I1, q1⟩ => ?_)
    exact h2 pins s1 σ1 H1 _ _ Q I1 rr q1
/-- (a, b, ..) = a tuple of that length -/
def gTup (K : PySem.W.Frag) (n : Nat) (t : TGs) : TG := fun v σ H Q => ∃ a xs, v = .ref a ∧ SqT K H a xs ∧ xs.length = n ∧ t xs σ H Q
theorem pg_tup {es : List Expr} {k : Nat} {t : TGs} {n : Nat} (hc : X.calm = true) (h : PGs X es t)
    (hn : (assignEach es X.env).length = n := by rfl) (hst : (assignEach es X.env).findIdx? (·.1) = none := by rfl) : PG X (.Tuple es k pos) (gTup X.K n t) := by
  intro pins s σ H v u Q I r hw
  obtain ⟨a, xs, e1, hq, hl, hw⟩ := hw
  subst e1
  cases r
  obtain ⟨its, rv, ht, hz⟩ := I.tuple hq
  refine assign_Tuple_tuple (I.ok.hd hc) ht (by simp [hn, ← hl, rv.length]) hst fun h' hx => ?_
  have I1 : Inv X pins σ H { s with heap := h' } := I.kept (t' := s.toks) fun b o e => hx b o (Nat.ne_of_lt (Heap.lt_size e)) e
  exact h pins _ σ H xs _ Q I1 (by simpa using rv) hw
/-- target = value -/
def tAsg (te : TE) (g : TG) : TS := fun D σ H => te σ H fun x H1 => g x σ H1 D.nx
theorem ps_asg {tg e : Expr} {te : TE} {g : TG} (he : PE X e te) (hg : PG X tg g) (hs : swapsWithSole [tg] e pos.line X.env = pure false := by rfl) (hw : swappedStores [tg] e X.env = pure none := by rfl)
    (h1 : (assignEach [tg] X.env).map (·.2) = [assign tg X.env] := by rfl) : PS X (.Assign [tg] e pos) (tAsg te g) := by
  intro pins s σ H D I h
  refine wpAny_Assign_stores (thn (he pins s σ H _ I h) fun v s1 ⟨x, H1, I1, r1, q1⟩ => ?_) hs hw
  rw [h1]
  exact thn (hg pins s1 σ H1 x v _ I1 r1 q1) fun _ s2 q => q
/-- name = value -/
theorem ps_set {i : Nat} {x : Str} {e : Expr} {te : TE} {pos' : Pos} (hN : X.N.Nodup) (hi : X.N[i]? = some x) (hx : Loc X.env.scope x) (he : PE X e te) (hs : swapsWith e (some (.Name x pos')) pos.line X.env = pure false := by rfl) (hf : X.fn x = true ∨ X.env.scope.names.lookup x = some .local := by first | exact .inl rfl | exact .inr rfl | assumption) :
    PS X (.Assign [.Name x pos'] e pos) (tAsg te (gName i)) := by
  intro pins s σ H D I h
  refine wpAny_Assign_Name (thn (he pins s σ H _ I h) fun v s1 ⟨y, H1, I1, r1, q1⟩ => ?_) hs
  exact store_ok I1 hN hi hx r1 (fun s2 I2 => ⟨_, H1, I2, q1⟩) hf
end

/-! ### while -/
section
variable {X : Cx} {pos : Pos}
end

/-! ### what a loop or a comprehension walks -/
/-- at turn i: it yields x (the heap may grow), or it stops -/
structure It where
  go : Nat → Hp → Prop
  yld : Nat → Hp → V → Hp → Prop
  stop : Nat → Hp → Prop
/-- the iterator's own objects may turn: they are not the frame's, not pinned, younger than the entry (or a comprehension's own) -/
def FpOk (X : Cx) (pins : List (Addr × Obj)) (H : Hp) (b : Addr) : Prop :=
  H b = none ∧ b ≠ X.env.locals ∧ b ∉ X.fs ∧ (b ∈ X.ex ∨ X.s₀.heap.objs.size ≤ b) ∧ (∀ x c, X.env.cells.lookup x = some c → c ≠ b) ∧ ∀ p ∈ X.pn ++ pins, p.1 ≠ b
theorem Inv.fpOk {X : Cx} {pins : List (Addr × Obj)} {σ : St} {H H' : Hp} {s : Shared} {b : Addr} (I : Inv X pins σ H s) (hb : s.heap.objs.size ≤ b) (hn : H' b = none) : FpOk X pins H' b := by
  refine ⟨hn, Nat.ne_of_gt (Nat.lt_of_lt_of_le I.lt hb), I.nofs hb, .inr (Nat.le_trans I.sz hb), fun x c e z => ?_, fun p hp z => ?_⟩
  · obtain ⟨v, q⟩ := I.cell x c e
    exact absurd (Nat.lt_of_lt_of_le q.lt (by rw [z]; exact hb)) (Nat.lt_irrefl _)
  · exact absurd (Nat.lt_of_lt_of_le (Heap.lt_size (I.pin p hp).1) (by rw [z]; exact hb)) (Nat.lt_irrefl _)
structure Turn (P : Program) (w : World) (K : PySem.W.Frag) (tg : Expr) (J : It) (fp : List Addr) (it : Addr) (tn : Nat → Heap → Prop) : Prop where
  mem : it ∈ fp
  obj : ∀ i h, tn i h → ∀ b ∈ fp, ∃ o, h.get? b = some o ∧ ∀ v, o.data ≠ .cell v
  keep : ∀ i h h', tn i h → (∀ b ∈ fp, ∀ o, h.get? b = some o → h'.get? b = some o) → tn i h'
  item : ∀ (X : Cx), X.prog = P → X.w = w → X.K = K → X.calm = true → ∀ (i : Nat) (pins : List (Addr × Obj)) (s : Shared) (σ : St) (H : Hp) (E : Value → Shared → Prop), Inv X pins σ H s → (∀ b ∈ fp, FpOk X pins H b) → tn i s.heap → J.go i H →
    wpAny (model P w) X.A (pyNext (.ref it)) (fun r s1 => ∃ u, r = some u ∧
      wpAny (model P w) X.A (letOwnedTupleGo tg (.ref it) u) (fun _ s2 => ∃ x H', Inv X pins σ H' s2 ∧ RelV x u ∧ J.yld i H x H' ∧ tn (i + 1) s2.heap ∧ ∀ b ∈ fp, H' b = none) E s1) E s
  done : ∀ (X : Cx), X.prog = P → X.w = w → X.K = K → X.calm = true → ∀ (i : Nat) (pins : List (Addr × Obj)) (s : Shared) (σ : St) (H : Hp) (E : Value → Shared → Prop), Inv X pins σ H s → (∀ b ∈ fp, FpOk X pins H b) → tn i s.heap → J.stop i H →
    wpAny (model P w) X.A (pyNext (.ref it)) (fun r s1 => r = none ∧ Inv X pins σ H s1) E s
  self : ∀ (A : Around) (i : Nat) (s : Shared) (Q : Value → Shared → Prop) (E : Value → Shared → Prop), tn i s.heap → Q (.ref it) s → wpAny (model P w) A (pyIter (.ref it)) Q E s
abbrev TI := St → Hp → (It → Hp → Prop) → Prop
/-- an iterator has come -/
def PIE (X : Cx) (pins : List (Addr × Obj)) (σ : St) (tg : Expr) (R : It → Hp → Prop) (itv : Value) (s2 : Shared) : Prop :=
  ∃ (it : Addr) (fp : List Addr) (tn : Nat → Heap → Prop) (J : It) (H' : Hp), itv = .ref it ∧ Inv X pins σ H' s2 ∧ Turn X.prog X.w X.K tg J fp it tn ∧ tn 0 s2.heap ∧ (∀ b ∈ fp, FpOk X pins H' b) ∧ R J H'
def PI (X : Cx) (tg iter : Expr) (wi : TI) : Prop :=
  ∀ (pins : List (Addr × Obj)) (s : Shared) (σ : St) (H : Hp) (R : It → Hp → Prop), Inv X pins σ H s → wi σ H R →
    wpAny (model X.prog X.w) X.A (eval iter X.env) (fun v s1 => wpAny (model X.prog X.w) X.A (pyIter v) (PIE X pins σ tg R) X.xe s1) X.xe s

/-- the step ahead of the store is nothing for an iterator that keeps no tuple -/
theorem go_of {M : Model} {A : Around} {E : Value → Shared → Prop} {s : Shared} {tg : Expr} {it : Addr} {u : Value} {o : Obj} {n : String} {vs : Array Value} {Q : Unit → Shared → Prop} (ho : s.heap.get? it = some o) (hc : o.cls = .type n) (hd : o.data = .fields vs)
    (hn : ["enumerate", "zip", "dict_itemiterator", "dict_reverseitemiterator", "odict_iterator", "itertools.zip_longest", "itertools.pairwise"].contains n = false) (hQ : Q () s) : wpAny M A (letOwnedTupleGo tg (.ref it) u) Q E s := by
  unfold letOwnedTupleGo
  cases tg <;> first
    | exact wpAny_pure hQ
    | (cases u <;> first
        | exact wpAny_pure hQ
        | (refine wpAny_bind (wpAny_load ho ?_)
           rw [hc, hd]
           show wpAny M A (if (["enumerate", "zip", "dict_itemiterator", "dict_reverseitemiterator", "odict_iterator", "itertools.zip_longest", "itertools.pairwise"].contains n && vs[0]? == some (rawInt _)) = true then _ else _) Q E s
           rw [if_neg (by intro h; rw [hn, Bool.false_and] at h; cases h)]
           exact wpAny_pure hQ))

/-- the list at a, as it stands at each turn (a loop may append to it) -/
def Itl (K : PySem.W.Frag) (a : Addr) : It :=
  ⟨fun i H => ∃ xs x, SqL K H a xs ∧ xs[i]? = some x, fun i H x H' => H' = H ∧ ∀ xs, SqL K H a xs → xs[i]? = some x, fun i H => ∃ xs, SqL K H a xs ∧ xs.length ≤ i⟩
/-- lo, lo + 1, .. (n of them) -/
def Itr (lo : Int) (n : Nat) : It := ⟨fun i _ => i < n, fun i H x H' => H' = H ∧ x = .int (lo + i), fun i _ => n ≤ i⟩
theorem turn_list {P : Program} {w : World} {K : PySem.W.Frag} {tg : Expr} (a it : Addr) : Turn P w K tg (Itl K a) [it] it (fun i h => h.IsListIter it a i) where
  mem := by simp
  obj := fun i h st b hb => by
    have e : b = it := by simpa using hb
    subst e
    obtain ⟨o, e, c, d⟩ := st
    exact ⟨o, e, fun v z => by rw [d] at z; cases z⟩
  keep := fun i h h' st k => st.at fun o e => k it (by simp) o e
  item := by
    intro X hP hw hK hc i pins s σ H E I hf st hg
    subst hP hw hK
    obtain ⟨xs, x, hq, hx⟩ := hg
    obtain ⟨its, rv, p, hz⟩ := I.list hq
    obtain ⟨u, hu, ru⟩ := rv.get hx
    obtain ⟨f0, f1, f2, f3, f4, f5⟩ := hf it (by simp)
    refine wpAny_pyNext_list_item st p.isList (x := u) (by simpa using hu) fun h' st' sb => ?_
    have I1 : Inv X pins σ H { s with heap := h' } := I.turned (t' := s.toks) (fun b o hb e => (sb.2 b hb).trans e) f0 f1 f3 f4 f5
    obtain ⟨o, e, c, d⟩ := id st'
    exact ⟨u, rfl, go_of (s := { s with heap := h' }) e c d (by decide) ⟨x, H, I1, ru, ⟨rfl, fun ys hy => by rw [I.list_inj hy hq]; exact hx⟩, st', fun b hb => (hf b hb).1⟩⟩
  done := by
    intro X hP hw hK hc i pins s σ H E I hf st hg
    subst hP hw hK
    obtain ⟨xs, hq, hx⟩ := hg
    obtain ⟨its, rv, p, hz⟩ := I.list hq
    obtain ⟨f0, f1, f2, f3, f4, f5⟩ := hf it (by simp)
    have hl := rv.length
    exact wpAny_pyNext_list_end (I.ok.hd hc) st p.isList (by simp; omega) fun h' eb => ⟨rfl, I.turned (t' := s.toks) (fun b o hb e => eb b o hb e) f0 f1 f3 f4 f5⟩
  self := fun _ _ _ _ _ st h => wpAny_pyIter_listiter st h
theorem turn_range {P : Program} {w : World} {K : PySem.W.Frag} {tg : Expr} (it : Addr) (lo : Int) (n : Nat) : Turn P w K tg (Itr lo n) [it] it (fun i h => IsRangeIter h it (lo + (i : Nat) * 1) ((n : Int) - (i : Nat)) 1) where
  mem := by simp
  obj := fun i h st b hb => by
    have e : b = it := by simpa using hb
    subst e
    exact ⟨_, st, fun v z => by
      have z' : Data.fields _ = Data.cell v := z
      cases z'⟩
  keep := fun i h h' st k => k it (by simp) _ st
  item := by
    intro X hP hw hK hc i pins s σ H E I hf st hg
    subst hP hw hK
    obtain ⟨f0, f1, f2, f3, f4, f5⟩ := hf it (by simp)
    have W := Walks.range (prog := X.prog) (w := X.w) (I.ok.hd hc) it lo 1 n
    refine W.item i s _ _ hg st fun v h' tk hv st' kk => ?_
    obtain ⟨t, rfl⟩ := hv
    have I1 : Inv X pins σ H { s with heap := h', toks := tk } := I.turned (fun b o hb e => kk b o (by simpa using hb) e) f0 f1 f3 f4 f5
    refine ⟨_, rfl, go_of (s := { s with heap := h', toks := tk }) (n := "range_iterator") st' rfl rfl (by decide) ⟨.int (lo + i), H, I1, ⟨t, ?_⟩, ⟨rfl, rfl⟩, st', fun b hb => (hf b hb).1⟩⟩
    rw [Int.mul_one]
  done := by
    intro X hP hw hK hc i pins s σ H E I hf st hg
    subst hP hw hK
    obtain ⟨f0, f1, f2, f3, f4, f5⟩ := hf it (by simp)
    exact wpAny_pyNext_range_end (I.ok.hd hc) st (by have : n ≤ i := hg; omega) fun h' eb => ⟨rfl, I.turned (t' := s.toks) (fun b o hb e => eb b o hb e) f0 f1 f3 f4 f5⟩
  self := fun _ _ _ _ _ st h => wpAny_pyIter_rangeiter st h
end L2

namespace L2
open PySem PySem.Spec PyProof.Rows
section
variable {X : Cx} {tg : Expr}
def iList (K : PySem.W.Frag) (tl : TE) : TI := fun σ H R => tl σ H fun x H1 => ∃ a, x = .ref a ∧ (∃ xs, SqL K H1 a xs) ∧ R (Itl K a) H1
theorem pi_list {l : Expr} {tl : TE} (hl : PE X l tl) : PI X tg l (iList X.K tl) := by
  intro pins s σ H R I h
  refine thn (hl pins s σ H _ I h) fun v s1 ⟨x, H1, I1, r1, q1⟩ => ?_
  obtain ⟨a, e, ⟨xs, hq⟩, q⟩ := q1
  subst e
  cases r1
  obtain ⟨its, rv, p, hz⟩ := I1.list hq
  refine wpAny_pyIter_list p.isList ?_
  refine ⟨s1.heap.objs.size, [s1.heap.objs.size], _, _, H1, rfl, I1.kept (t' := s1.toks) fun b o e => Heap.get?_push_of_some _ e, turn_list a _, ⟨_, Heap.get?_push_size _ rfl, rfl, rfl⟩, fun b hb => ?_, q⟩
  have e : b = s1.heap.objs.size := by simpa using hb
  subst e
  exact I1.fpOk (Nat.le_refl _) (I1.hok.fresh (Nat.le_refl _))
/-- a range object just made, walked -/
theorem range_it {pins : List (Addr × Obj)} {σ : St} {H : Hp} {s : Shared} {R : It → Hp → Prop} {E : Value → Shared → Prop} {lo hi : Int} {t u v : Tok} {tk : Nat} (I : Inv X pins σ H s) (h1 : -(2 ^ 62) ≤ lo) (h2 : lo < 2 ^ 62) (h3 : -(2 ^ 62) ≤ hi) (h4 : hi < 2 ^ 62)
    (q : R (Itr lo (hi - lo).toNat) H) : wpAny (model X.prog X.w) X.A (pyIter (.ref s.heap.objs.size)) (PIE X pins σ tg R) E { s with heap := s.heap.push { cls := .type "range", data := .fields #[.int lo t, .int hi u, .int 1 v] }, toks := tk } := by
  refine wpAny_pyIter_range (IsRange.new ..) (small_one h1 h2 h3 h4) ?_
  have I1 : Inv X pins σ H { s with heap := s.heap.push { cls := .type "range", data := .fields #[.int lo t, .int hi u, .int 1 v] }, toks := tk } := I.kept fun b o e => Heap.get?_push_of_some _ e
  refine ⟨(s.heap.push { cls := .type "range", data := .fields #[.int lo t, .int hi u, .int 1 v] }).objs.size, [(s.heap.push { cls := .type "range", data := .fields #[.int lo t, .int hi u, .int 1 v] }).objs.size], _, _, H, rfl,
    I1.kept (t' := tk) fun b o e => Heap.get?_push_of_some _ e, turn_range _ lo (hi - lo).toNat, ?_, fun b hb => ?_, q⟩
  · have e1 : lo + ((0 : Nat) : Int) * 1 = lo := by simp
    have e2 : (((hi - lo).toNat : Nat) : Int) - ((0 : Nat) : Int) = Builtin.Range.rangeSize lo hi 1 := by rw [rangeSize_one]; split <;> omega
    show IsRangeIter _ _ (lo + ((0 : Nat) : Int) * 1) ((((hi - lo).toNat : Nat) : Int) - ((0 : Nat) : Int)) 1
    rw [e1, e2]
    exact Heap.get?_push_size _ rfl
  · have e : b = (s.heap.push { cls := .type "range", data := .fields #[.int lo t, .int hi u, .int 1 v] }).objs.size := by simpa using hb
    subst e
    exact I1.fpOk (Nat.le_refl _) (I1.hok.fresh (Nat.le_refl _))
def iRng1 (ta : TA) : TI := fun σ H R => ta σ H fun vs H1 => ∃ j : Int, vs = [.int j] ∧ -(2 ^ 62) ≤ j ∧ j < 2 ^ 62 ∧ R (Itr 0 j.toNat) H1
def iRng2 (ta : TA) : TI := fun σ H R => ta σ H fun vs H1 => ∃ i j : Int, vs = [.int i, .int j] ∧ (-(2 ^ 62) ≤ i ∧ i < 2 ^ 62 ∧ -(2 ^ 62) ≤ j ∧ j < 2 ^ 62) ∧ R (Itr i (j - i).toNat) H1
theorem pi_range1 {a : Expr} {ta : TA} {p pos : Pos} (hg : Gl X "range") (hm : X.mg "range" = none) (ha : PA X [a] ta) (hs : starEach [a] X.env = [(false, eval a X.env)] := by rfl) : PI X tg (.Call (.Name "range" p) [a] [] pos) (iRng1 ta) := by
  intro pins s σ H R I h
  refine Call_ (ld_blt I hg hm boot_range (PyProof.Rows.callWith_type1 (thn (ha pos pins s σ H _ I h) fun us s1 ⟨vs, H1, I1, r1, q1⟩ => ?_) hs rfl))
  obtain ⟨j, e, q1, q2, q⟩ := q1
  subst e
  cases r1 with
  | cons r rr =>
    cases rr
    obtain ⟨t, rfl⟩ := r
    exact call_range_1 (range_it I1 (by omega) (by omega) q1 q2 (by simpa using q))
theorem pi_range2 {a b : Expr} {ta : TA} {p pos : Pos} (hg : Gl X "range") (hm : X.mg "range" = none) (ha : PA X [a, b] ta) (hs : starEach [a, b] X.env = [(false, eval a X.env), (false, eval b X.env)] := by rfl) (hs2 : starEach [b] X.env = [(false, eval b X.env)] := by rfl) :
    PI X tg (.Call (.Name "range" p) [a, b] [] pos) (iRng2 ta) := by
  intro pins s σ H R I h
  refine Call_ (ld_blt I hg hm boot_range (PyProof.Rows.callWith_type1 (thn (ha pos pins s σ H _ I h) fun us s1 ⟨vs, H1, I1, r1, q1⟩ => ?_) (by rw [hs, hs2]) (by rw [hs2]; rfl)))
  obtain ⟨i, j, e, ⟨q1, q2, q3, q4⟩, q⟩ := q1
  subst e
  cases r1 with
  | cons r rr =>
    cases rr with
    | cons r' rr =>
      cases rr
      obtain ⟨t, rfl⟩ := r
      obtain ⟨t', rfl⟩ := r'
      exact call_range_2 (range_it I1 q1 q2 q3 q4 q)

/-! ### for -/
/-- W: the invariant by the turn and a measure; N: what the body is to reach -/
def tFor (wi : TI) (g : TG) (tb : TS) : TS := fun D σ H => wi σ H fun J H1 => ∃ W : Nat → Nat → St → Hp → Prop, (∃ m, W 0 m σ H1) ∧ ∀ i m σ H, W i m σ H →
  (J.stop i H ∧ D.nx σ H) ∨ (J.go i H ∧ ∃ N : St → Hp → Prop, (∀ σ' H', N σ' H' → ∃ m', m' < m ∧ W (i + 1) m' σ' H') ∧ ∀ x H', J.yld i H x H' → g x σ H' fun σ2 H2 => tb { D with nx := N, ct := N, bk := D.nx } σ2 H2)
/-- the records at fp as they stand -/
def pinsAt (fp : List Addr) (h : Heap) : List (Addr × Obj) := fp.filterMap fun b => (h.get? b).map fun o => (b, o)
theorem mem_pinsAt {fp : List Addr} {h : Heap} {b : Addr} {o : Obj} (hb : b ∈ fp) (e : h.get? b = some o) : (b, o) ∈ pinsAt fp h := List.mem_filterMap.mpr ⟨b, hb, by rw [e]; rfl⟩
theorem of_pinsAt {fp : List Addr} {h : Heap} {p : Addr × Obj} (hp : p ∈ pinsAt fp h) : p.1 ∈ fp ∧ h.get? p.1 = some p.2 := by
  obtain ⟨b, hb, e⟩ := List.mem_filterMap.mp hp
  cases q : h.get? b with
  | none => rw [q] at e; cases e
  | some o =>
    rw [q] at e
    have e' : (b, o) = p := Option.some.inj e
    subst e'
    exact ⟨hb, q⟩
theorem Inv.pinned {pins : List (Addr × Obj)} {σ : St} {H : Hp} {s : Shared} {fp : List Addr} (I : Inv X pins σ H s) (hf : ∀ b ∈ fp, FpOk X pins H b) (ho : ∀ b ∈ fp, ∃ o, s.heap.get? b = some o ∧ ∀ v, o.data ≠ .cell v) : Inv X (pins ++ pinsAt fp s.heap) σ H s :=
  I.pins_of fun p hp => (List.mem_append.mp hp).elim (fun z => I.pin p (List.mem_append_right _ z)) fun z => by
    obtain ⟨hb, e⟩ := of_pinsAt z
    obtain ⟨f0, f1, f2, _⟩ := hf p.1 hb
    obtain ⟨o, e', d⟩ := ho p.1 hb
    rw [e] at e'; cases e'
    exact ⟨e, f0, f1, f2, d⟩
theorem Inv.unpinned {pins pl : List (Addr × Obj)} {σ : St} {H : Hp} {s : Shared} (I : Inv X (pins ++ pl) σ H s) : Inv X pins σ H s := I.pins_of fun p hp => I.pin p (List.mem_append_right _ (List.mem_append_left _ hp))
theorem ps_for {iter : Expr} {body : List Stmt} {wi : TI} {g : TG} {tb : TS} {pos : Pos} (hp : PassesOwn (model X.prog X.w) X.A X.env X.xe) (hc : X.calm = true) (hi : PI X tg iter wi) (hg : PG X tg g) (hb : PSs X body tb)
    (hs : ∀ x, foldedSetIterable iter X.env x = pure x := by intro _; rfl) : PS X (.For tg iter body [] pos) (tFor wi g tb) := by
  intro pins s σ H D I h
  refine wpAny_For (thn (hi pins s σ H _ I h) fun v s1 h1 => thn h1 fun itv s2 h2 => ?_) hs
  obtain ⟨it, fp, tn, J, H2, e, I2, T, st2, f2, W, ⟨m0, w0⟩, turn⟩ := h2
  subst e
  -- what stays true of the iterator's objects through the loop
  have stat : ∀ {H' : Hp}, (∀ b ∈ fp, H' b = none) → ∀ b ∈ fp, FpOk X pins H' b := fun hn b hb => ⟨hn b hb, (f2 b hb).2⟩
  refine codeAny_forLoop_any (fun n s' => ∃ i σ' H', Inv X pins σ' H' s' ∧ tn i s'.heap ∧ (∀ b ∈ fp, H' b = none) ∧ W i n σ' H') ?_ m0 ⟨0, σ, H2, I2, st2, fun b hb => (f2 b hb).1, w0⟩
  rintro n s3 ⟨i, σ3, H3, I3, st3, fr3, w3⟩
  rcases turn i n σ3 H3 w3 with ⟨stop, qn⟩ | ⟨go, N, hN, step⟩
  · refine wpAny_passesOwn hp (thn (T.done X rfl rfl rfl hc i pins s3 σ3 H3 X.xe I3 (stat fr3) st3 stop) fun r s4 ⟨hr, I4⟩ => ?_)
    subst hr
    exact wpAny_execs_nil ⟨σ3, H3, I4, qn⟩
  · refine wpAny_passesOwn hp (thn (T.item X rfl rfl rfl hc i pins s3 σ3 H3 X.xe I3 (stat fr3) st3 go) fun r s4 ⟨u, hr, h4⟩ => ?_)
    subst hr
    refine wpAny_passesOwn hp (thn h4 fun _ s5 ⟨x, H5, I5, r5, y5, st5, fr5⟩ => ?_)
    have I5' := I5.pinned (stat fr5) (T.obj _ _ st5)
    refine wpAny_passesOwn hp (thn (hg _ s5 σ3 H5 x u _ I5' r5 (step x H5 y5)) fun _ s6 ⟨σ6, H6, I6, q6⟩ => ?_)
    refine wpAny_passesOwn hp (thn (hb _ s6 σ6 H6 _ I6 q6) fun f s7 q7 => ?_)
    have again : ∀ {σ7 : St} {H7 : Hp}, Inv X (pins ++ pinsAt fp s5.heap) σ7 H7 s7 → N σ7 H7 → ∃ m, m < n ∧ ∃ i σ' H', Inv X pins σ' H' s7 ∧ tn i s7.heap ∧ (∀ b ∈ fp, H' b = none) ∧ W i m σ' H' := fun {σ7 H7} I7 n7 => by
      obtain ⟨m', hm, w7⟩ := hN σ7 H7 n7
      refine ⟨m', hm, i + 1, σ7, H7, I7.unpinned, T.keep _ _ _ st5 fun b hb o e => (I7.pin (b, o) (List.mem_append_right _ (List.mem_append_right _ (mem_pinsAt hb e)))).1, fun b hb => ?_, w7⟩
      obtain ⟨o, e, d⟩ := T.obj _ _ st5 b hb
      exact (I7.pin (b, o) (List.mem_append_right _ (List.mem_append_right _ (mem_pinsAt hb e)))).2.1
    cases f with
    | next => obtain ⟨σ7, H7, I7, n7⟩ := q7; exact again I7 n7
    | cont => obtain ⟨σ7, H7, I7, n7⟩ := q7; exact again I7 n7
    | brk => obtain ⟨σ7, H7, I7, q7⟩ := q7; exact ⟨σ7, H7, I7.unpinned, q7⟩
    | ret v => obtain ⟨x7, σ7, H7, I7, r7, q7⟩ := q7; exact ⟨x7, σ7, H7, I7.unpinned, r7, q7⟩
end

/-! ### the forms one uses -/
/-- over a list that the body leaves as it is -/
theorem for_list {K : PySem.W.Frag} {a : Addr} {xs : List V} {g : TG} {tb : TS} {D : Ends} {σ : St} {H : Hp} (Pv : Nat → St → Hp → Prop) (h0 : Pv 0 σ H) (hl : ∀ i σ H, i ≤ xs.length → Pv i σ H → SqL K H a xs)
    (hs : ∀ i x σ H, xs[i]? = some x → Pv i σ H → g x σ H fun σ2 H2 => tb { D with nx := Pv (i + 1), ct := Pv (i + 1), bk := D.nx } σ2 H2) (hd : ∀ σ H, Pv xs.length σ H → D.nx σ H) :
    ∃ W : Nat → Nat → St → Hp → Prop, (∃ m, W 0 m σ H) ∧ ∀ i m σ H, W i m σ H →
      ((Itl K a).stop i H ∧ D.nx σ H) ∨ ((Itl K a).go i H ∧ ∃ N : St → Hp → Prop, (∀ σ' H', N σ' H' → ∃ m', m' < m ∧ W (i + 1) m' σ' H') ∧ ∀ x H', (Itl K a).yld i H x H' → g x σ H' fun σ2 H2 => tb { D with nx := N, ct := N, bk := D.nx } σ2 H2) := by
  refine ⟨fun i m σ H => m = xs.length - i ∧ i ≤ xs.length ∧ Pv i σ H, ⟨xs.length, by simp, Nat.zero_le _, h0⟩, ?_⟩
  rintro i m σ H ⟨rfl, hi, p⟩
  have q := hl i σ H hi p
  by_cases hlt : i < xs.length
  · refine .inr ⟨⟨xs, xs[i], q, by simp [hlt]⟩, Pv (i + 1), fun σ' H' p' => ⟨xs.length - (i + 1), by omega, rfl, hlt, p'⟩, fun x H' y => ?_⟩
    obtain ⟨e, y⟩ := y
    subst e
    exact hs i x σ _ (y xs q) p
  · have e : i = xs.length := by omega
    subst e
    exact .inl ⟨⟨xs, q, Nat.le_refl _⟩, hd σ H p⟩
theorem for_range {lo : Int} {n : Nat} {g : TG} {tb : TS} {D : Ends} {σ : St} {H : Hp} (Pv : Nat → St → Hp → Prop) (h0 : Pv 0 σ H)
    (hs : ∀ i σ H, i < n → Pv i σ H → g (.int (lo + i)) σ H fun σ2 H2 => tb { D with nx := Pv (i + 1), ct := Pv (i + 1), bk := D.nx } σ2 H2) (hd : ∀ σ H, Pv n σ H → D.nx σ H) :
    ∃ W : Nat → Nat → St → Hp → Prop, (∃ m, W 0 m σ H) ∧ ∀ i m σ H, W i m σ H →
      ((Itr lo n).stop i H ∧ D.nx σ H) ∨ ((Itr lo n).go i H ∧ ∃ N : St → Hp → Prop, (∀ σ' H', N σ' H' → ∃ m', m' < m ∧ W (i + 1) m' σ' H') ∧ ∀ x H', (Itr lo n).yld i H x H' → g x σ H' fun σ2 H2 => tb { D with nx := N, ct := N, bk := D.nx } σ2 H2) := by
  refine ⟨fun i m σ H => m = n - i ∧ i ≤ n ∧ Pv i σ H, ⟨n, by simp, Nat.zero_le _, h0⟩, ?_⟩
  rintro i m σ H ⟨rfl, hi, p⟩
  by_cases hlt : i < n
  · refine .inr ⟨hlt, Pv (i + 1), fun σ' H' p' => ⟨n - (i + 1), by omega, rfl, hlt, p'⟩, fun x H' y => ?_⟩
    obtain ⟨e, y⟩ := y
    subst e y
    exact hs i σ _ hlt p
  · have e : i = n := by omega
    subst e
    exact .inl ⟨Nat.le_refl _, hd σ H p⟩
end L2

namespace L2
open PySem PySem.Spec PyProof.Rows

abbrev R2 := V → V → Hp → VK → Prop
/-- a two-place operation on values: f is binaryOp op, inplaceOp op or compareOp op -/
def OpR (X : Cx) (f : Value → Value → Sem Value) (r : R2) : Prop :=
  ∀ (pins : List (Addr × Obj)) (s : Shared) (σ : St) (H : Hp) (x y : V) (v u : Value) (Q : VK), Inv X pins σ H s → RelV x v → RelV y u → r x y H Q →
    wpAny (model X.prog X.w) X.A (f v u) (EP X pins σ Q) X.xe s
/-- a one-place operation -/
def UnR (X : Cx) (f : Value → Sem Value) (r : V → Hp → VK → Prop) : Prop :=
  ∀ (pins : List (Addr × Obj)) (s : Shared) (σ : St) (H : Hp) (x : V) (v : Value) (Q : VK), Inv X pins σ H s → RelV x v → r x H Q →
    wpAny (model X.prog X.w) X.A (f v) (EP X pins σ Q) X.xe s
/-- a call of a value that is known (a builtin, a type) with values -/
def CallR (X : Cx) (f : Value) (r : List V → Hp → VK → Prop) : Prop :=
  ∀ (pins : List (Addr × Obj)) (s : Shared) (σ : St) (H : Hp) (xs : List V) (us : List Value) (Q : VK), Inv X pins σ H s → Vals xs us → r xs H Q →
    wpAny (model X.prog X.w) X.A (call f us) (EP X pins σ Q) X.xe s
/-- a value's truth -/
def TruR (X : Cx) (r : V → Hp → (Bool → Hp → Prop) → Prop) : Prop :=
  ∀ (pins : List (Addr × Obj)) (s : Shared) (σ : St) (H : Hp) (x : V) (v : Value) (Q : Bool → Hp → Prop), Inv X pins σ H s → RelV x v → r x H Q →
    wpAny (model X.prog X.w) X.A (truthy v) (TP X pins σ Q) X.xe s

def tOp (r : R2) (ta tb : TE) : TE := fun σ H Q => ta σ H fun x H1 => tb σ H1 fun y H2 => r x y H2 Q
def tUn (r : V → Hp → VK → Prop) (ta : TE) : TE := fun σ H Q => ta σ H fun x H1 => r x H1 Q
/-- ints in, under C, and a value out -/
def rI (C : Int → Int → Prop) (g : Int → Int → V) : R2 := fun x y H Q => ∃ i j, x = .int i ∧ y = .int j ∧ C i j ∧ Q (g i j) H
def rI0 (g : Int → Int → V) : R2 := fun x y H Q => ∃ i j, x = .int i ∧ y = .int j ∧ Q (g i j) H
def rU (g : Int → V) : V → Hp → VK → Prop := fun x H Q => ∃ i, x = .int i ∧ Q (g i) H

section
variable {X : Cx} {a b c : Expr} {ta tb tc : TE} {pos : Pos}

theorem binT (ha : PE X a ta) (hb : PE X b tb) {pins : List (Addr × Obj)} {s : Shared} {σ : St} {H : Hp} {R : V → V → Hp → Prop} (I : Inv X pins σ H s)
    (h : ta σ H fun x H1 => tb σ H1 fun y H2 => R x y H2) {Q : Value → Shared → Prop} {f : Value → Value → Sem Value}
    (hf : ∀ v u s2 x y H2, Inv X pins σ H2 s2 → RelV x v → RelV y u → R x y H2 → wpAny (model X.prog X.w) X.A (f v u) Q X.xe s2) :
    wpAny (model X.prog X.w) X.A (eval a X.env) (fun v s₁ => wpAny (model X.prog X.w) X.A (eval b X.env) (fun u s₂ => wpAny (model X.prog X.w) X.A (f v u) Q X.xe s₂) X.xe s₁) X.xe s := by
  refine thn (ha pins s σ H _ I h) fun v s1 ⟨x, H1, I1, r1, q1⟩ => ?_
  refine thn (hb pins s1 σ H1 _ I1 q1) fun u s2 ⟨y, H2, I2, r2, q2⟩ => ?_
  exact hf v u s2 x y H2 I2 r1 r2 q2

theorem pe_op {op : Operator} {r : R2} (ho : OpR X (binaryOp op) r) (ha : PE X a ta) (hb : PE X b tb) : PE X (.BinOp a op b pos) (tOp r ta tb) := by
  intro pins s σ H Q I h
  exact wpAny_BinOp (binT ha hb I h fun v u s2 x y H2 I2 rx ry q => ho pins s2 σ H2 x y v u Q I2 rx ry q)
theorem pe_un {op : UnaryOp} {r : V → Hp → VK → Prop} (ho : UnR X (unaryOp op) r) (ha : PE X a ta) : PE X (.UnaryOp op a pos) (tUn r ta) := by
  intro pins s σ H Q I h
  exact UnaryOp_ (thn (ha pins s σ H _ I h) fun v s1 ⟨x, H1, I1, r1, q1⟩ => ho pins s1 σ H1 x v Q I1 r1 q1)
/-! ### ints -/
theorem opI {f : Value → Value → Sem Value} {C : Int → Int → Prop} {g : Int → Int → Int}
    (rule : ∀ (i j : Int) (t u : Tok) (s : Shared) (Q : Value → Shared → Prop) (E : Value → Shared → Prop), C i j → Q (.int (g i j) s.toks) { s with toks := s.toks + 1 } → wpAny (model X.prog X.w) X.A (f (.int i t) (.int j u)) Q E s) :
    OpR X f (rI C fun i j => .int (g i j)) := by
  intro pins s σ H x y v u Q I rx ry h
  obtain ⟨i, j, rfl, rfl, hc, q⟩ := h
  obtain ⟨t, rfl⟩ := rx
  obtain ⟨t', rfl⟩ := ry
  exact rule i j t t' s _ _ hc ⟨.int (g i j), H, I.tok _, ⟨_, rfl⟩, q⟩
theorem opI0 {f : Value → Value → Sem Value} {g : Int → Int → Int}
    (rule : ∀ (i j : Int) (t u : Tok) (s : Shared) (Q : Value → Shared → Prop) (E : Value → Shared → Prop), Q (.int (g i j) s.toks) { s with toks := s.toks + 1 } → wpAny (model X.prog X.w) X.A (f (.int i t) (.int j u)) Q E s) :
    OpR X f (rI0 fun i j => .int (g i j)) := by
  intro pins s σ H x y v u Q I rx ry h
  obtain ⟨i, j, rfl, rfl, q⟩ := h
  obtain ⟨t, rfl⟩ := rx
  obtain ⟨t', rfl⟩ := ry
  exact rule i j t t' s _ _ ⟨.int (g i j), H, I.tok _, ⟨_, rfl⟩, q⟩
theorem opB0 {f : Value → Value → Sem Value} {g : Int → Int → Bool}
    (rule : ∀ (i j : Int) (t u : Tok) (s : Shared) (Q : Value → Shared → Prop) (E : Value → Shared → Prop), Q (.bool (g i j)) s → wpAny (model X.prog X.w) X.A (f (.int i t) (.int j u)) Q E s) :
    OpR X f (rI0 fun i j => .bl (g i j)) := by
  intro pins s σ H x y v u Q I rx ry h
  obtain ⟨i, j, rfl, rfl, q⟩ := h
  obtain ⟨t, rfl⟩ := rx
  obtain ⟨t', rfl⟩ := ry
  exact rule i j t t' s _ _ ⟨.bl (g i j), H, I, rfl, q⟩

def CDiv (i j : Int) : Prop := 0 < j ∧ j < 1073741824
def CPow (i j : Int) : Prop := 0 ≤ j ∧ j ≤ 1000000 ∧ i.natAbs < 2 ^ 64
def CMul (i j : Int) : Prop := (-(2 ^ 64) < i ∧ i < 2 ^ 64) ∨ (-(2 ^ 64) < j ∧ j < 2 ^ 64)
theorem CMul.ok {i j : Int} (h : CMul i j) : IntMulOk i j := by
  rcases h with ⟨h1, h2⟩ | ⟨h1, h2⟩
  · exact .of_left (intBits_le_64 h1 h2)
  · exact .of_right (intBits_le_64 h1 h2)
theorem op_add : OpR X (binaryOp .Add) (rI0 fun i j => .int (i + j)) := opI0 fun _ _ _ _ _ _ _ q => add_int q
theorem op_sub : OpR X (binaryOp .Sub) (rI0 fun i j => .int (i - j)) := opI0 fun _ _ _ _ _ _ _ q => sub_int q
theorem op_mul : OpR X (binaryOp .Mult) (rI CMul fun i j => .int (i * j)) := opI fun _ _ _ _ _ _ _ hc q => mul_int q hc.ok
/-- // by a positive divisor -/
theorem op_fdiv : OpR X (binaryOp .FloorDiv) (rI CDiv fun i j => .int (i / j)) := opI fun i j _ _ _ _ _ hc q => by
  have h1 : (0 : Int) < j := hc.1
  have h2 : j < 1073741824 := hc.2
  exact floordiv_int (by omega) (by rw [Int.fdiv_eq_ediv_of_nonneg i (by omega)]; exact q) (.inl (PyProof.noPylong_small (by omega)))
/-- % by a positive divisor of any size -/
theorem op_mod : OpR X (binaryOp .Mod) (rI (fun _ j => 0 < j) fun i j => .int (i % j)) := opI fun i j _ _ _ _ _ hc q => by
  have h1 : (0 : Int) < j := hc
  exact mod_int' (by omega) (by rw [Int.fmod_eq_emod_of_nonneg i (by omega)]; exact q)
theorem op_pow : OpR X (binaryOp .Pow) (rI CPow fun i j => .int (i ^ j.toNat)) := opI fun _ _ _ _ _ _ _ hc q => pow_int_small hc.1 hc.2.1 hc.2.2 q
theorem op_xor : OpR X (binaryOp .BitXor) (rI0 fun i j => .int (Builtin.bitXor i j)) := opI0 fun _ _ _ _ _ _ _ q => xor_int q

theorem unI {f : Value → Sem Value} {g : Int → Int}
    (rule : ∀ (i : Int) (t : Tok) (s : Shared) (Q : Value → Shared → Prop) (E : Value → Shared → Prop), Q (.int (g i) s.toks) { s with toks := s.toks + 1 } → wpAny (model X.prog X.w) X.A (f (.int i t)) Q E s) :
    UnR X f (rU fun i => .int (g i)) := by
  intro pins s σ H x v Q I rx h
  obtain ⟨i, rfl, q⟩ := h
  obtain ⟨t, rfl⟩ := rx
  exact rule i t s _ _ ⟨.int (g i), H, I.tok _, ⟨_, rfl⟩, q⟩
theorem un_neg : UnR X (unaryOp .USub) (rU fun i => .int (-i)) := unI fun _ _ _ _ _ q => neg_int q
/-! ### bools among ints: n += (a < b) -/
end

/-! ### comparisons -/
/-- the scalars that == tells apart as data does -/
def scal : V → V → Bool
  | .non, .non => true | .non, .int _ => true | .int _, .non => true | .non, .bl _ => true | .bl _, .non => true | .non, .str _ => true | .str _, .non => true
  | .int _, .int _ => true | .bl _, .bl _ => true | .str _, .str _ => true | .byt _, .byt _ => true
  | .int _, .str _ => true | .str _, .int _ => true | .bl _, .str _ => true | .str _, .bl _ => true
  | _, _ => false
def rEq : R2 := fun x y H Q => scal x y = true ∧ Q (.bl (decide (x = y))) H
def rNe : R2 := fun x y H Q => scal x y = true ∧ Q (.bl (!decide (x = y))) H

theorem dec_int {i j : Int} : decide (V.int i = V.int j) = (i == j) := by
  rw [Bool.eq_iff_iff]
  simp
theorem dec_bl {i j : Bool} : decide (V.bl i = V.bl j) = (i == j) := by
  rw [Bool.eq_iff_iff]
  simp
theorem dec_str {i j : Str} : decide (V.str i = V.str j) = (i == j) := by
  rw [Bool.eq_iff_iff]
  simp
theorem dec_byt {i j : Array UInt8} : decide (V.byt i = V.byt j) = (i.toList == j.toList) := by
  rw [Bool.eq_iff_iff]
  cases i
  cases j
  simp

section
variable {X : Cx} {a b c : Expr} {ta tb tc : TE} {pos : Pos}
theorem fin_bl {pins : List (Addr × Obj)} {σ : St} {H : Hp} {s : Shared} {Q : VK} {k k' : Bool} (I : Inv X pins σ H s) (q : Q (.bl k) H) (e : k = k') : EP X pins σ Q (.bool k') s := by
  subst e
  exact ⟨.bl k, H, I, rfl, q⟩
theorem op_eq : OpR X (compareOp .Eq) rEq := by
  intro pins s σ H x y v u Q I rx ry h
  obtain ⟨hs, q⟩ := h
  cases x with
  | non =>
    cases rx
    cases y with
    | non => cases ry; exact PySem.EqNone.eq_none_none (fin_bl I q (by simp))
    | bl j => cases ry; exact PySem.EqNone.eq_none_bool (fin_bl I q (by simp))
    | int j => obtain ⟨t', rfl⟩ := ry; exact PySem.EqNone.eq_none_int (fin_bl I q (by simp))
    | str j => obtain ⟨t', rfl⟩ := ry; exact PySem.EqNone.eq_none_str (fin_bl I q (by simp))
    | _ => exact absurd (show false = true from hs) Bool.false_ne_true
  | bl i =>
    cases rx
    cases y with
    | non => cases ry; exact PySem.EqNone.eq_bool_none (fin_bl I q (by simp))
    | bl j => cases ry; exact eq_bool (fin_bl I q dec_bl)
    | str j => obtain ⟨t', rfl⟩ := ry; exact PySem.EqMixed.eq_bool_str (fin_bl I q (by simp))
    | _ => exact absurd (show false = true from hs) Bool.false_ne_true
  | int i =>
    obtain ⟨t, rfl⟩ := rx
    cases y with
    | non => cases ry; exact PySem.EqNone.eq_int_none (fin_bl I q (by simp))
    | int j => obtain ⟨t', rfl⟩ := ry; exact eq_int (fin_bl I q dec_int)
    | str j => obtain ⟨t', rfl⟩ := ry; exact PySem.EqMixed.eq_int_str (fin_bl I q (by simp))
    | _ => exact absurd (show false = true from hs) Bool.false_ne_true
  | str i =>
    obtain ⟨t, rfl⟩ := rx
    cases y with
    | non => cases ry; exact PySem.EqNone.eq_str_none (fin_bl I q (by simp))
    | bl j => cases ry; exact PySem.EqMixed.eq_str_bool (fin_bl I q (by simp))
    | int j => obtain ⟨t', rfl⟩ := ry; exact PySem.EqMixed.eq_str_int (fin_bl I q (by simp))
    | str j => obtain ⟨t', rfl⟩ := ry; exact eq_str (fin_bl I q dec_str)
    | _ => exact absurd (show false = true from hs) Bool.false_ne_true
  | byt i =>
    obtain ⟨t, rfl⟩ := rx
    cases y with
    | byt j => obtain ⟨t', rfl⟩ := ry; exact PySem.W.eq_bytes (fin_bl I q dec_byt)
    | _ => exact absurd (show false = true from hs) Bool.false_ne_true
  | _ => cases y <;> exact absurd (show false = true from hs) Bool.false_ne_true
theorem op_ne : OpR X (compareOp .NotEq) rNe := by
  intro pins s σ H x y v u Q I rx ry h
  obtain ⟨hs, q⟩ := h
  cases x with
  | non =>
    cases rx
    cases y with
    | non => cases ry; exact PySem.EqNone.ne_none_none (fin_bl I q (by simp))
    | bl j => cases ry; exact PySem.EqNone.ne_none_bool (fin_bl I q (by simp))
    | int j => obtain ⟨t', rfl⟩ := ry; exact PySem.EqNone.ne_none_int (fin_bl I q (by simp))
    | str j => obtain ⟨t', rfl⟩ := ry; exact PySem.EqNone.ne_none_str (fin_bl I q (by simp))
    | _ => exact absurd (show false = true from hs) Bool.false_ne_true
  | bl i =>
    cases rx
    cases y with
    | non => cases ry; exact PySem.EqNone.ne_bool_none (fin_bl I q (by simp))
    | bl j => cases ry; exact ne_bool (fin_bl I q (congrArg not dec_bl))
    | str j => obtain ⟨t', rfl⟩ := ry; exact PySem.EqMixed.ne_bool_str (fin_bl I q (by simp))
    | _ => exact absurd (show false = true from hs) Bool.false_ne_true
  | int i =>
    obtain ⟨t, rfl⟩ := rx
    cases y with
    | non => cases ry; exact PySem.EqNone.ne_int_none (fin_bl I q (by simp))
    | int j => obtain ⟨t', rfl⟩ := ry; exact ne_int (fin_bl I q (congrArg not dec_int))
    | str j => obtain ⟨t', rfl⟩ := ry; exact PySem.EqMixed.ne_int_str (fin_bl I q (by simp))
    | _ => exact absurd (show false = true from hs) Bool.false_ne_true
  | str i =>
    obtain ⟨t, rfl⟩ := rx
    cases y with
    | non => cases ry; exact PySem.EqNone.ne_str_none (fin_bl I q (by simp))
    | bl j => cases ry; exact PySem.EqMixed.ne_str_bool (fin_bl I q (by simp))
    | int j => obtain ⟨t', rfl⟩ := ry; exact PySem.EqMixed.ne_str_int (fin_bl I q (by simp))
    | str j => obtain ⟨t', rfl⟩ := ry; exact ne_str (fin_bl I q (congrArg not dec_str))
    | _ => exact absurd (show false = true from hs) Bool.false_ne_true
  | byt i =>
    obtain ⟨t, rfl⟩ := rx
    cases y with
    | byt j => obtain ⟨t', rfl⟩ := ry; exact PySem.W.ne_bytes (fin_bl I q (congrArg not dec_byt))
    | _ => exact absurd (show false = true from hs) Bool.false_ne_true
  | _ => cases y <;> exact absurd (show false = true from hs) Bool.false_ne_true

theorem op_lt : OpR X (compareOp .Lt) (rI0 fun i j => .bl (decide (i < j))) := opB0 fun _ _ _ _ _ _ _ q => lt_int q
theorem op_le : OpR X (compareOp .LtE) (rI0 fun i j => .bl (decide (i ≤ j))) := opB0 fun _ _ _ _ _ _ _ q => le_int q
/-- the one string within the other -/
theorem op_in_str : OpR X (compareOp .In) (fun x y H Q => ∃ i j, x = .str i ∧ y = .str j ∧ Q (.bl (!(Builtin.Str.occurrences j i 0 j.length 1).isEmpty)) H) := by
  intro pins s σ H x y v u Q I rx ry h
  obtain ⟨i, j, rfl, rfl, q⟩ := h
  obtain ⟨t, rfl⟩ := rx
  obtain ⟨t', rfl⟩ := ry
  exact in_str (fin_bl I q rfl)

theorem nomark (b : Expr) {op : CmpOp} (h : op ≠ .In := by decide) (h2 : op ≠ .NotIn := by decide) : behindInMarks op b = false := by
  have e1 : (op == CmpOp.In) = false := by cases op <;> first | rfl | exact absurd rfl h
  have e2 : (op == CmpOp.NotIn) = false := by cases op <;> first | rfl | exact absurd rfl h2
  cases b <;> simp [behindInMarks, e1, e2]
/-- a comparison as a value; hm: nomark b, or (for in, not in) by with_unfolding_all rfl -/
theorem pe_cmpR {op : CmpOp} {r : R2} (ho : OpR X (compareOp op) r) (ha : PE X a ta) (hb : PE X b tb) (hm : behindInMarks op b = false) : PE X (.Compare a [op] [b] pos) (tOp r ta tb) := by
  intro pins s σ H Q I h
  exact wpAny_Compare1 (binT ha hb I h fun v u s2 x y H2 I2 rx ry q => ho pins s2 σ H2 x y v u Q I2 rx ry q) hm
/-- a reading of a value as a test -/
def tTest (t : TE) : TT := fun σ H Q => t σ H fun x H' => ∃ k, x = .bl k ∧ Q k H'
theorem pt_cmpR {op : CmpOp} {r : R2} (ho : OpR X (compareOp op) r) (ha : PE X a ta) (hb : PE X b tb) (hm : behindInMarks op b = false) : PT X (.Compare a [op] [b] pos) (tTest (tOp r ta tb)) := by
  intro pins s σ H Q I h
  refine wpAny_isTrue_Compare1 (thn (ha pins s σ H _ I h) fun v s1 ⟨x, H1, I1, r1, q1⟩ => thn (hb pins s1 σ H1 _ I1 q1) fun u s2 ⟨y, H2, I2, r2, q2⟩ =>
    thn (ho pins s2 σ H2 x y v u _ I2 r1 r2 q2) fun c s3 ⟨z, H3, I3, r3, k, e, q3⟩ => ?_) hm
  subst e
  cases r3
  exact wpAny_truthy_bool ⟨H3, I3, q3⟩
/-- a op1 b op2 c -/
def tChain (r r' : R2) (ta tb tc : TE) : TE := fun σ H Q => ta σ H fun x H1 => tb σ H1 fun y H2 => r x y H2 fun z H3 => ∃ k, z = .bl k ∧
  (if k = true then tc σ H3 fun w' H4 => r' y w' H4 Q else Q (.bl false) H3)
theorem pe_chain {op op' : CmpOp} {r r' : R2} (ho : OpR X (compareOp op) r) (ho' : OpR X (compareOp op') r') (ha : PE X a ta) (hb : PE X b tb) (hc : PE X c tc)
    (hm : lastMarks [op, op'] [b, c] = false := by with_unfolding_all rfl) : PE X (.Compare a [op, op'] [b, c] pos) (tChain r r' ta tb tc) := by
  intro pins s σ H Q I h
  refine Compare_chain (thn (ha pins s σ H _ I h) fun v s1 ⟨x, H1, I1, r1, q1⟩ => chain_link (thn (hb pins s1 σ H1 _ I1 q1) fun u s2 ⟨y, H2, I2, r2, q2⟩ =>
    thn (ho pins s2 σ H2 x y v u _ I2 r1 r2 q2) fun d s3 ⟨z, H3, I3, r3, k, e, q3⟩ => ?_)) hm
  subst e
  cases r3
  refine wpAny_truthy_bool ?_
  cases k with
  | false => exact ite_ff ⟨.bl false, H3, I3, rfl, q3⟩
  | true => exact ite_tt (chain_last (thn (hc pins s3 σ H3 _ I3 q3) fun w' s4 ⟨z', H4, I4, r4, q4⟩ => ho' pins s4 σ H4 y z' u w' Q I4 r2 r4 q4))
/-! ### truth -/
/-- a value's truth by the abstract heap -/
def TruV (K : PySem.W.Frag) (x : V) (H : Hp) (k : Bool) : Prop :=
  match x with
  | .non => k = false
  | .bl b => k = b
  | .int i => k = (i != 0)
  | .str y => y.length ≤ sizeLine ∧ k = ((y.length : Int) != 0)
  | .byt y => y.size ≤ sizeLine ∧ k = ((y.size : Int) != 0)
  | .ref p => (∃ xs, SqL K H p xs ∧ k = !xs.isEmpty) ∨ (∃ xs, SqT K H p xs ∧ k = !xs.isEmpty) ∨ ∃ kvs, H p = some (.dK kvs) ∧ k = !kvs.isEmpty
  | _ => False
theorem isEmpty_kv {κ : Type} {kvs : List (κ × V)} {vs : List (κ × Value)} (r : KV kvs vs) : (!vs.isEmpty) = !kvs.isEmpty := by
  cases r <;> rfl
theorem isEmpty_of {xs : List V} {its : List Value} (r : Vals xs its) : (!its.toArray.isEmpty) = !xs.isEmpty := by
  cases r <;> simp
theorem line63 : (sizeLine : Nat) < 2 ^ 63 := by rw [sizeLine_eq]; decide
theorem tru_ok : TruR X (fun x H Q => ∃ k, TruV X.K x H k ∧ Q k H) := by
  intro pins s σ H x v Q I rx h
  obtain ⟨k, e, q⟩ := h
  have hl := line63
  have hs : sizeLine = 16777216 := sizeLine_eq
  cases x with
  | non =>
    cases rx
    have e' : k = false := e
    subst e'
    exact truthy_none ⟨H, I, q⟩
  | bl b =>
    cases rx
    have e' : k = b := e
    subst e'
    exact wpAny_truthy_bool ⟨H, I, q⟩
  | int i =>
    obtain ⟨t, rfl⟩ := rx
    have e' : k = (i != 0) := e
    subst e'
    exact PySem.P.truthy_int ⟨H, I, q⟩
  | str y =>
    obtain ⟨t, rfl⟩ := rx
    obtain ⟨hy, e'⟩ : y.length ≤ sizeLine ∧ k = ((y.length : Int) != 0) := e
    subst e'
    exact PySem.P.truthy_str (by omega) ⟨H, I.tok _, q⟩
  | byt y =>
    obtain ⟨t, rfl⟩ := rx
    obtain ⟨hy, e'⟩ : y.size ≤ sizeLine ∧ k = ((y.size : Int) != 0) := e
    subst e'
    exact PySem.W.truthy_bytes (by omega) ⟨H, I.tok _, q⟩
  | ref p =>
    cases rx
    have e' : (∃ xs, SqL X.K H p xs ∧ k = !xs.isEmpty) ∨ (∃ xs, SqT X.K H p xs ∧ k = !xs.isEmpty) ∨ ∃ kvs, H p = some (.dK kvs) ∧ k = !kvs.isEmpty := e
    rcases e' with ⟨xs, hx, e'⟩ | ⟨xs, hx, e'⟩ | ⟨kvs, hx, e'⟩
    · subst e'
      obtain ⟨its, r, pl, hz⟩ := I.list hx
      have hlen := r.length
      exact wpAny_truthy_list pl.isList (by simp only [List.size_toArray]; omega) ⟨H, I.tok _, by rw [isEmpty_of r]; exact q⟩
    · subst e'
      obtain ⟨its, r, pl, hz⟩ := I.tuple hx
      have hlen := r.length
      exact truthy_tuple pl (by simp only [List.size_toArray]; omega) ⟨H, I.tok _, by rw [isEmpty_of r]; exact q⟩
    · subst e'
      obtain ⟨hz, hS, vs, r, m⟩ : kvs.length ≤ sizeLine ∧ (p == sysModules) = false ∧ ∃ vs, KV kvs vs ∧ s.heap.DictOf (mixKind X.prog X.w) p vs := I.hok p _ hx
      have hlen : kvs.length = vs.length := Paired.length r
      exact wpAny_truthy_dict hS m (by omega) ⟨H, I.tok _, by rw [isEmpty_kv r]; exact q⟩
  | _ => exact (show False from e).elim
/-- any expression whose test is its value's truth (a name, a call, a subscript, a field ..: he by fun _ => rfl) -/
theorem pt_truth (ha : PE X a ta) (he : ∀ whole, isTrue a X.env whole = (do let v ← whole; standAt a.pos; holding [v] (truthy v))) :
    PT X a (fun σ H Q => ta σ H fun x H' => ∃ k, TruV X.K x H' k ∧ Q k H') := by
  intro pins s σ H Q I h
  exact isTrue_plain (thn (ha pins s σ H _ I h) fun v s1 ⟨x, H1, I1, r1, q1⟩ => tru_ok pins s1 σ H1 x v Q I1 r1 q1) (he _)

/-! ### strs and bytes -/
theorem op_add_str : OpR X (binaryOp .Add) (fun x y H Q => ∃ i j, x = .str i ∧ y = .str j ∧ i.length + j.length ≤ sizeLine ∧ Q (.str (i ++ j)) H) := by
  intro pins s σ H x y v u Q I rx ry h
  obtain ⟨i, j, rfl, rfl, hz, q⟩ := h
  obtain ⟨t, rfl⟩ := rx
  obtain ⟨t', rfl⟩ := ry
  exact add_str (fun t' tk => ⟨.str (i ++ j), H, I.tok _, ⟨_, rfl⟩, q⟩) hz
/-! ### scalar builtins, by CallR -/
theorem vals1 {x : V} {us : List Value} (r : Vals [x] us) : ∃ u, us = [u] ∧ RelV x u := by
  cases r with
  | cons r1 r2 => cases r2; exact ⟨_, rfl, r1⟩
theorem vals2 {x y : V} {us : List Value} (r : Vals [x, y] us) : ∃ u w', us = [u, w'] ∧ RelV x u ∧ RelV y w' := by
  cases r with
  | cons r1 r2 =>
    cases r2 with
    | cons r3 r4 => cases r4; exact ⟨_, _, rfl, r1, r3⟩
theorem call_max2 (hc : X.calm = true) : CallR X (.builtin "max") (fun xs H Q => ∃ i j, xs = [.int i, .int j] ∧ Q (.int (if j > i then j else i)) H) := by
  intro pins s σ H xs us Q I r h
  obtain ⟨i, j, rfl, q⟩ := h
  obtain ⟨u, w', rfl, ⟨t, rfl⟩, ⟨t', rfl⟩⟩ := vals2 r
  refine max_two_ints (I.ok.hd hc) fun h' tk k => ⟨_, H, I.kept k, ?_, q⟩
  by_cases hj : j > i
  · rw [if_pos hj, if_pos hj]; exact ⟨_, rfl⟩
  · rw [if_neg hj, if_neg hj]; exact ⟨_, rfl⟩
theorem call_min2 (hc : X.calm = true) : CallR X (.builtin "min") (fun xs H Q => ∃ i j, xs = [.int i, .int j] ∧ Q (.int (if j < i then j else i)) H) := by
  intro pins s σ H xs us Q I r h
  obtain ⟨i, j, rfl, q⟩ := h
  obtain ⟨u, w', rfl, ⟨t, rfl⟩, ⟨t', rfl⟩⟩ := vals2 r
  refine min_two_ints (I.ok.hd hc) fun h' tk k => ⟨_, H, I.kept k, ?_, q⟩
  by_cases hj : j < i
  · rw [if_pos hj, if_pos hj]; exact ⟨_, rfl⟩
  · rw [if_neg hj, if_neg hj]; exact ⟨_, rfl⟩
theorem call_int1 : CallR X (.type "int") (fun xs H Q => (∃ i, xs = [.int i] ∧ Q (.int i) H) ∨ ∃ k, xs = [.bl k] ∧ Q (.int (if k then 1 else 0)) H) := by
  intro pins s σ H xs us Q I r h
  rcases h with ⟨i, rfl, q⟩ | ⟨k, rfl, q⟩
  · obtain ⟨u, rfl, t, rfl⟩ := vals1 r
    exact call_int_int ⟨.int i, H, I, ⟨_, rfl⟩, q⟩
  · obtain ⟨u, rfl, r1⟩ := vals1 r
    cases r1
    exact call_int_bool ⟨.int (if k then 1 else 0), H, I.tok _, ⟨_, rfl⟩, q⟩
theorem call_str_int : CallR X (.type "str") (fun xs H Q => ∃ i, xs = [.int i] ∧ i.natAbs.log2 < 1920 ∧ Q (.str (toString i)) H) := by
  intro pins s σ H xs us Q I r h
  obtain ⟨i, rfl, hz, q⟩ := h
  obtain ⟨u, rfl, t, rfl⟩ := vals1 r
  exact PySem.P.str_of_int hz ⟨.str _, H, I.tok _, ⟨_, rfl⟩, q⟩
end
end L2

namespace L2
open PySem PySem.Spec PyProof.Rows

/-! ### an instance, its attributes a map -/
section
variable {prog : Program} {w : World} {A : Around} {E : Value → Shared → Prop} {s : Shared} {K : PySem.W.Frag} {x dx C f : Addr} {mA : Str → Option Value} {name : Str} {v : Value}

end

/-! ### the attributes as a list of pairs -/
section
variable {P : Program} {w : World} {H H' : Hp} {h h' : Heap} {a C dx : Addr} {fs fs' : List (Str × V)}
end

/-! ### what of the text a class must have -/
section
variable {X : Cx} {pins : List (Addr × Obj)} {σ : St} {H : Hp} {s : Shared} {a C dx : Addr} {fs : List (Str × V)} {f : Str} {v : V} {A : Around} {E : Value → Shared → Prop}

end

/-! ### readings and rules -/
section
variable {X : Cx} {o e value : Expr} {f : Str} {pos pos' tpos : Pos} {ta tv : TE}
end

/-! ### isinstance -/
section
variable {X : Cx} {pins : List (Addr × Obj)} {σ : St} {H : Hp} {s : Shared} {A : Around} {E : Value → Shared → Prop} {Q : Value → Shared → Prop} {c : Value} {b : Bool}
end
end L2

namespace L2
open PySem PySem.Spec PyProof.Rows

/-! ### room -/
structure Room (k : Nat) (A : Around) : Prop where
  hd : A.handled = none
  dp : A.depth + 3 * k + 5 < recursionLimit
  un : A.units + 16 * k + 200 < cLine
theorem Room.mono {j k : Nat} {A : Around} (r : Room k A) (h : j ≤ k) : Room j A := ⟨r.hd, by have := r.dp; omega, by have := r.un; omega⟩
theorem Room.deeper {k : Nat} {A : Around} (r : Room (k + 1) A) (env : Env) : Room k (A.deeper env) :=
  ⟨r.hd, by have := r.dp; show A.depth + 1 + 3 * k + 5 < _; omega, by have := r.un; show A.units + 3 + 16 * k + 200 < _; omega⟩
theorem Room.depth {k : Nat} {A : Around} (r : Room k A) : A.depth < recursionLimit := by have := r.dp; omega
theorem Room.units {k : Nat} {A : Around} (r : Room k A) : A.units + 64 < cLine := by have := r.un; omega
/-! ### argument lists and displays -/
def tNil : TA := fun _ H Q => Q [] H
def tCons (ta : TE) (tr : TA) : TA := fun σ H Q => ta σ H fun x H1 => tr σ H1 fun xs H2 => Q (x :: xs) H2
section
variable {X : Cx} {e : Expr} {es : List Expr} {te : TE} {t : TA} {pos : Pos}
theorem pa_nil : PA X [] tNil := fun _ _ _ _ H Q I h => Calls.spliced_nil ⟨[], H, I, .nil, h⟩
theorem pa_cons (ha : PE X e te) (hr : PA X es t) (hs : starEach (e :: es) X.env = (false, eval e X.env) :: starEach es X.env := by rfl) : PA X (e :: es) (tCons te t) := by
  intro pos pins s σ H Q I h
  rw [hs]
  show wpAny _ _ (spliced ((false, eval e X.env) :: backTo pos (starEach es X.env))) _ _ s
  refine Calls.spliced_cons (thn (ha pins s σ H _ I h) fun u s1 ⟨x, H1, I1, r1, q1⟩ => ?_)
  exact thn (hr pos pins s1 σ H1 _ I1 q1) fun us s2 ⟨xs, H2, I2, r2, q2⟩ => ⟨x :: xs, H2, I2, .cons r1 r2, q2⟩

/-- a tuple, a list of written items -/
def tTup (t : TA) : TE := fun σ H Q => t σ H fun xs H1 => xs.length ≤ sizeLine ∧ ∀ p, H1 p = none → Q (.ref p) (upd H1 p (.tup xs))
def tLst (t : TA) : TE := fun σ H Q => t σ H fun xs H1 => xs.length ≤ sizeLine ∧ ∀ p, H1 p = none → Q (.ref p) (upd H1 p (.lst xs))
theorem pe_tup {x1} (h : PA X es t) : PE X (.Tuple es x1 pos) (tTup t) := by
  intro pins s σ H Q I hq
  refine wpAny_Tuple_spliced (thn (h pos pins s σ H _ I hq) fun us s1 ⟨xs, H1, I1, r, z, q⟩ => ⟨by rw [← r.length]; exact z, ?_⟩)
  have hf : H1 s1.heap.objs.size = none := I1.hok.fresh (Nat.le_refl _)
  refine ⟨.ref s1.heap.objs.size, upd H1 s1.heap.objs.size (.tup xs), I1.laid (t' := s1.toks) (fun b u e => Heap.get?_push_of_some _ e) (Nat.le_refl _) ?_, rfl, q _ hf⟩
  exact ⟨z, us, r, ⟨_, Heap.get?_push_size _ rfl, rfl, _, rfl⟩⟩
theorem pe_lst (h : PA X es t) : PE X (.List es pos) (tLst t) := by
  intro pins s σ H Q I hq
  refine wpAny_List_spliced (thn (h pos pins s σ H _ I hq) fun us s1 ⟨xs, H1, I1, r, z, q⟩ => ⟨by rw [← r.length]; exact z, ?_⟩)
  have hf : H1 s1.heap.objs.size = none := I1.hok.fresh (Nat.le_refl _)
  refine ⟨.ref s1.heap.objs.size, upd H1 s1.heap.objs.size (.lst xs), I1.laid (t' := s1.toks) (fun b u e => Heap.get?_push_of_some _ e) (Nat.le_refl _) ?_, rfl, q _ hf⟩
  exact ⟨z, us, 0, r, Heap.get?_push_size _ rfl⟩
end

/-! ### what a def promises -/
/-- a def's promise: the bound arguments in the parameters' order, the heap, the wanted end, the wanted exception -/
abbrev Sp := List V → Hp → VK → XK → Prop
/-- how an exception lies behind a call (file 08 gives it): the callers' frames, abstract heap and state ahead of the call, the wish, the exception, the state -/
abbrev CXT := List Env → Hp → Shared → XK → Value → Shared → Prop

/-- the state at a call -/
structure Env0 (P : Program) (w : World) (K : PySem.W.Frag) (mg : Str → Option Value) (base : Heap) (A : Around) (outer : List Env) (s : Shared) (H : Hp) : Prop where
  frames : A.frames = some outer
  mod : Mod K mg base
  bs : ∀ b o, base.get? b = some o → s.heap.get? b = some o ∧ H b = none
  bsz : base.objs.size ≤ s.heap.objs.size
  funs : s.heap.FunFrames base outer
  frf : ∀ b ∈ frs outer, H b = none
  hok : HOk P w H s.heap
  bare : AllBare s.gens
/-- a call's end -/
def CE (outer : List Env) (P : Program) (w : World) (H : Hp) (s : Shared) (Q : VK) (u : Value) (s' : Shared) : Prop :=
  ∃ v H', s'.os = s.os ∧ AllBare s'.gens ∧ Un (frs outer) [] H H' s.heap s'.heap ∧ HOk P w H' s'.heap ∧ RelV v u ∧ Q v H'
def CR (CX : CXT) (outer : List Env) (P : Program) (w : World) (H : Hp) (s : Shared) (Q : VK) (E : XK) (r : Result) (s' : Shared) : Prop :=
  match r with
  | .ok (.ret u) => CE outer P w H s Q u s'
  | .ok _ => False
  | .error e => CX outer H s E e s'
structure FnOk (P : Program) (w : World) (K : PySem.W.Frag) (mg : Str → Option Value) (base : Heap) (CX : CXT) (k : Nat) (f : Addr) (fd : FuncData) (ps : List Str) (sp : Sp) : Prop where
  len : ∀ vs H Q E, sp vs H Q E → vs.length = ps.length
  run : ∀ (A : Around) (outer : List Env) (s : Shared) (H : Hp) (args : Args) (us : List Value) (vs : List V) (Q : VK) (E : XK), Room k A → Env0 P w K mg base A outer s H → BindsTo s fd args (ps.zip us) → Vals vs us → sp vs H Q E →
    codeAny (model P w) A (.call (.ref f) args) (CR CX outer P w H s Q E) s
section
variable {X : Cx} {pins : List (Addr × Obj)} {σ : St} {H : Hp} {s s' : Shared}
/-- from a body: what a callee wants -/
theorem Inv.env0 (I : Inv X pins σ H s) : Env0 X.prog X.w X.K X.mg X.base X.A X.stack s H :=
  ⟨I.ok.frames, I.ok.mod, I.bs, Nat.le_trans I.ok.bsz I.sz, I.stack, I.stkFree, I.hok, I.bare⟩
/-- behind a call -/
theorem Inv.after {Q : VK} {u : Value} (I : Inv X pins σ H s) (h : CE X.stack X.prog X.w H s Q u s') : EP X pins σ Q u s' := by
  obtain ⟨v, H', os, bare, un, hok, r, q⟩ := h
  obtain ⟨hh, g, d, t, os'⟩ := s'
  obtain rfl : os' = s.os := os
  exact ⟨v, H', I.call (h' := hh) (g' := g) (d' := d) (t' := t) (ch := []) un hok bare (fun b z => absurd z (by simp)), r, q⟩
end

/-! ### calls -/
/-- f(..): the written arguments, then the defaults dvs; E: what is wanted of an exception -/
def tCall (sp : Sp) (dvs : List V) (E : XK) (t : TA) : TE := fun σ H Q => t σ H fun vs H1 => sp (vs ++ dvs) H1 Q E
/-- how the parameters are bound: us the positional arguments, kw the keywords' values by name, ds the defaults that fill up -/
def Binds (K : PySem.W.Frag) (fd : FuncData) (ps : List Str) (ds : List Value) : Prop :=
  ∀ (s : Shared) (us : List Value), K.In s.heap → (us ++ ds).length = ps.length → BindsTo s fd ⟨us, []⟩ (ps.zip (us ++ ds))
/-- every parameter is given -/
theorem Binds.all {K : PySem.W.Frag} {fd : FuncData} {ps : List Str} (h : ∀ us : List Value, us.length = ps.length → bindArgs fd ⟨us, []⟩ = pure (ps.zip us)) : Binds K fd ps [] := fun s us _ hl => by
  rw [List.append_nil] at hl ⊢
  exact .of_eq (h us hl)

/-- an exception of a callee reaches what this body wants of exceptions -/
def Passes (CX : CXT) (X : Cx) (E : XK) : Prop := ∀ (pins : List (Addr × Obj)) (σ : St) (H : Hp) (s : Shared) (e : Value) (s' : Shared), Inv X pins σ H s → CX X.stack H s E e s' → X.xe e s'

section
variable {X : Cx} {CX : CXT} {k : Nat} {f C : Addr} {fd : FuncData} {ps : List Str} {sp : Sp} {dvs : List V} {ds : List Value} {E : XK} {x m : Str} {p pos apos : Pos} {e o : Expr} {es : List Expr} {ta : TE} {t : TA}

/-- the callee runs -/
theorem run_fn {pins : List (Addr × Obj)} {σ : St} {H : Hp} {s : Shared} {Q : VK} {us : List Value} {vs : List V} (F : FnOk X.prog X.w X.K X.mg X.base CX k f fd ps sp) (hr : Room k X.A) (hb : Binds X.K fd ps ds) (hd : Vals dvs ds) (hx : Passes CX X E)
    (I : Inv X pins σ H s) (r : Vals vs us) (h : sp (vs ++ dvs) H Q E) : wpAny (model X.prog X.w) X.A (call (.ref f) us) (EP X pins σ Q) X.xe s := by
  have r2 : Vals (vs ++ dvs) (us ++ ds) := r.append hd
  have hl : (us ++ ds).length = ps.length := by rw [← r2.length]; exact F.len _ _ _ _ h
  refine wpAny_call (codeAny_mono (F.run X.A X.stack s H ⟨us, []⟩ (us ++ ds) (vs ++ dvs) Q E hr I.env0 (hb s us I.kIn hl) r2 h) fun r s' hq => ?_)
  cases r with
  | error e => exact hx pins σ H s e s' I hq
  | ok fl =>
    cases fl with
    | ret u => exact I.after hq
    | next => exact False.elim hq
    | brk => exact False.elim hq
    | cont => exact False.elim hq

theorem pe_call (F : FnOk X.prog X.w X.K X.mg X.base CX k f fd ps sp) (hr : Room k X.A) (hg : Gl X x) (hm : X.mg x = some (.ref f)) (hk : PySem.W.keepIn X.K (.ref f) = true) (hb : Binds X.K fd ps ds) (hd : Vals dvs ds) (hx : Passes CX X E)
    (ha : PA X (e :: es) t) (hdb : (x == ("__debug__" : Str)) = false := by decide) (he : starEach (e :: es) X.env = (false, eval e X.env) :: starEach es X.env := by rfl) (hpl : (backTo pos (starEach es X.env)).any (·.1) = false := by rfl) :
    PE X (.Call (.Name x p) (e :: es) [] pos) (tCall sp dvs E t) := by
  intro pins s σ H Q I h
  refine wpAny_Call_Name_kw (ld_glob I hg hm ?_ hdb)
  refine PySem.W.callWith_K (h₀ := X.base) I.ok.mod.kin hk (thn (ha pos pins s σ H _ I h) fun us s1 ⟨vs, H1, I1, r, q⟩ => ⟨I1.kIn, ?_⟩) he hpl
  exact run_fn F hr hb hd hx I1 r q
end

/-! ### keywords -/
section
variable {X : Cx} {CX : CXT} {k : Nat} {f C : Addr} {fd : FuncData} {ps ks : List Str} {sp : Sp} {E : XK} {x m : Str} {p pos apos kpos : Pos} {e o : Expr} {es : List Expr} {kws : List Keyword} {te ta : TE} {t tk : TA} {nm : Option Str}
variable {g : List Value → List Value → List Value} {gV : List V → List V → List V}
end

/-! ### a def's body keeps its promise -/
/-- names: the parameters first -/
structure FnScope (N P : List Str) (sc : Scope) : Prop where
  kind : sc.kind = .function
  co : sc.isCoroutine = false
  gen : sc.isGenerator = false
  nd : N.Nodup
  pre : N.take P.length = P
  par : ∀ x ∈ P, sc.names.lookup x = some .local ∨ sc.names.lookup x = some .cell
  nofree : ∀ y ∈ sc.names, y.2 ≠ .free

theorem bindL_out {kindOf : Str → Option NameKind} {x : Str} : ∀ {binds : List (Str × Value)} {m : Str → Option Value}, (∀ v, (x, v) ∉ binds) → bindL kindOf binds m x = m x
  | [], _, _ => rfl
  | (n, v) :: r, m, h => by
    unfold bindL
    rw [bindL_out fun w hw => h w (List.mem_cons_of_mem _ hw)]
    split
    · have : x ≠ n := by rintro rfl; exact h v List.mem_cons_self
      simp [this]
    · rfl
theorem bindC_out {kindOf : Str → Option NameKind} {x : Str} : ∀ {binds : List (Str × Value)} {m : Str → Option Value}, (∀ v, (x, v) ∉ binds) → bindC kindOf binds m x = m x
  | [], _, _ => rfl
  | (n, v) :: r, m, h => by
    unfold bindC
    rw [bindC_out fun w hw => h w (List.mem_cons_of_mem _ hw)]
    split
    · rfl
    · have : x ≠ n := by rintro rfl; exact h v List.mem_cons_self
      simp [this]
theorem bindL_get {kindOf : Str → Option NameKind} {x : Str} {v : Value} : ∀ {P : List Str} {vs : List Value} {i : Nat} {m : Str → Option Value}, P.Nodup → P[i]? = some x → vs[i]? = some v → kindOf x = some .local →
    bindL kindOf (P.zip vs) m x = some v
  | [], _, _, _, _, h, _, _ => by simp at h
  | _ :: _, [], _, _, _, _, h, _ => by simp at h
  | p :: P, w :: vs, 0, m, nd, h1, h2, hk => by
    simp at h1 h2; subst h1; subst h2
    show bindL kindOf ((p, w) :: P.zip vs) m p = _
    unfold bindL
    rw [bindL_out fun v hv => (List.nodup_cons.mp nd).1 (List.of_mem_zip hv).1, if_pos hk]
    simp
  | p :: P, w :: vs, i + 1, m, nd, h1, h2, hk => by
    show bindL kindOf ((p, w) :: P.zip vs) m x = _
    unfold bindL
    exact bindL_get (i := i) (List.nodup_cons.mp nd).2 (by simpa using h1) (by simpa using h2) hk
theorem bindC_get {kindOf : Str → Option NameKind} {x : Str} {v : Value} : ∀ {P : List Str} {vs : List Value} {i : Nat} {m : Str → Option Value}, P.Nodup → P[i]? = some x → vs[i]? = some v → kindOf x ≠ some .local →
    bindC kindOf (P.zip vs) m x = some v
  | [], _, _, _, _, h, _, _ => by simp at h
  | _ :: _, [], _, _, _, _, h, _ => by simp at h
  | p :: P, w :: vs, 0, m, nd, h1, h2, hk => by
    simp at h1 h2; subst h1; subst h2
    show bindC kindOf ((p, w) :: P.zip vs) m p = _
    unfold bindC
    rw [bindC_out fun v hv => (List.nodup_cons.mp nd).1 (List.of_mem_zip hv).1, if_neg hk]
    simp
  | p :: P, w :: vs, i + 1, m, nd, h1, h2, hk => by
    show bindC kindOf ((p, w) :: P.zip vs) m x = _
    unfold bindC
    exact bindC_get (i := i) (List.nodup_cons.mp nd).2 (by simpa using h1) (by simpa using h2) hk

/-- the names' values at the entry -/
def start (N : List Str) (vs : List V) : St := vs.map some ++ List.replicate (N.length - vs.length) none

/-- the context of a def's body, at its entry; an exception leaves the frame, then lies as CX says -/
def cxOf (CX : CXT) (P : Program) (w : World) (K : PySem.W.Frag) (mg : Str → Option Value) (base : Heap) (N : List Str) (qual : Str) (scope : Scope) (f : Addr) (cd : Value) (A : Around) (outer : List Env) (s : Shared) (H : Hp) (E : XK) : Cx where
  prog := P
  w := w
  K := K
  mg := mg
  base := base
  A := A.deeper (envOfC qual scope s.heap.objs.size f cd)
  N := N
  s₀ := s
  H₀ := H
  env := envOfC qual scope s.heap.objs.size f cd
  outer := outer
  stack := envOfC qual scope s.heap.objs.size f cd :: outer
  ex := []
  calm := true
  fn := fun _ => true
  pn := []
  xe := fun e s' => wpAny (model P w) (A.deeper (envOfC qual scope s.heap.objs.size f cd)) (leaving (envOfC qual scope s.heap.objs.size f cd) e) (fun _ s'' => CX outer H s E e s'') (fun e' s'' => CX outer H s E e' s'') s'

theorem cell_has {sc : Scope} {n : Nat} {x : Str} (h : sc.names.lookup x = some .cell) : ∃ c, (cellsFrom n sc.names []).lookup x = some c := by
  have q := PySem.W.cellsFrom_some sc.names n [] (.inl h)
  exact Option.isSome_iff_exists.mp q

theorem inv_start {CX : CXT} {P : Program} {w : World} {K : PySem.W.Frag} {mg : Str → Option Value} {base : Heap} {N ps : List Str} {qual : Str} {scope : Scope} {f : Addr} {cd : Value} {A : Around} {outer : List Env} {s s1 : Shared} {H : Hp} {E : XK} {us : List Value} {vs : List V}
    (S : FnScope N ps scope) (hd : A.handled = none) (e0 : Env0 P w K mg base A outer s H) (hl : vs.length = ps.length) (r : Vals vs us)
    (x : InCallC s s.heap.objs.size (bindL (envOfC qual scope s.heap.objs.size f cd).kindOf (ps.zip us) fun _ => none) (cellsFrom (s.heap.objs.size + 1) scope.names []) (bindC (envOfC qual scope s.heap.objs.size f cd).kindOf (ps.zip us) fun _ => none) s1) :
    Inv (cxOf CX P w K mg base N qual scope f cd A outer s H E) [] (start N vs) H s1 := by
  have hpl : ps.length ≤ N.length := by have := congrArg List.length S.pre; rw [List.length_take] at this; omega
  obtain ⟨h1, tk, rfl, hk⟩ := x.done
  have noA : ∀ b : Addr, b ∉ (cxOf CX P w K mg base N qual scope f cd A outer s H E).ex := fun b z => absurd (show b ∈ ([] : List Addr) from z) (by simp)
  refine ⟨⟨e0.mod, S.kind, rfl, rfl, Nat.le_refl _, fun y z c h1 h2 => ?_, fun y hy => ?_, fun y c _ h => ?_, fun _ => hd, Around.frames_deeper e0.frames, .inr ⟨rfl, rfl⟩, fun b z => absurd z (noA b), e0.bs, e0.bsz, fun b _ _ => noA b, fun b z => absurd z (noA b), e0.funs, e0.frf⟩,
    rfl, e0.bare, Un.kept hk, ⟨_, x.toInCall.ns, fun i y v h1 h2 h3 => ?_⟩, fun y c h => ⟨_, x.cell y c h⟩, e0.hok.fresh (Nat.le_refl _), fun y c h => ?_, fun p hp => absurd (show p ∈ ([] : List (Addr × Obj)) from hp) (by simp), e0.hok.kept hk, ?_⟩
  · exact name_of_addr x.apart (PySem.mem_of_lookup h1) (PySem.mem_of_lookup h2)
  · have hy : scope.names.lookup y = some .cell ∨ scope.names.lookup y = some .free := hy
    rcases hy with hy | hy
    · exact cell_has hy
    · exact absurd rfl (S.nofree _ (PySem.mem_of_lookup hy))
  · exact Nat.le_of_lt (x.above y c (PySem.mem_of_lookup h))
  · have hi : i < vs.length := by
      unfold start at h2
      by_cases hi : i < vs.length
      · exact hi
      · rw [List.getElem?_append_right (by simpa using hi)] at h2
        rw [List.getElem?_replicate] at h2
        split at h2 <;> cases h2
    have ha : vs[i]? = some v := by
      unfold start at h2
      rw [List.getElem?_append_left (by simpa using hi), List.getElem?_map] at h2
      cases e : vs[i]? with
      | none => rw [e] at h2; cases h2
      | some a => rw [e] at h2; cases h2; rfl
    obtain ⟨u, hu, rv⟩ := r.get ha
    have hp : ps[i]? = some y := by
      rw [← S.pre, List.getElem?_take_of_lt (by omega)]; exact h1
    have ndP : ps.Nodup := by rw [← S.pre]; exact S.nd.sublist (List.take_sublist _ _)
    refine ⟨u, rv, ?_⟩
    rcases S.par y (List.mem_of_getElem? hp) with k | k
    · exact .inl ⟨k, bindL_get ndP hp hu k⟩
    · obtain ⟨c, e⟩ := cell_has (n := s.heap.objs.size + 1) k
      refine .inr ⟨.inl k, c, e, ?_⟩
      have q := x.cell y c e
      rw [bindC_get ndP hp hu (by show scope.names.lookup y ≠ _; rw [k]; decide)] at q
      exact q
  · exact e0.hok.fresh (Nat.le_of_lt (x.above y c (PySem.mem_of_lookup h)))
  · unfold start
    show _ = N.length
    rw [List.length_append, List.length_map, List.length_replicate]
    omega

/-- THE RULE: a def (or a method) of the text, by its body. The body's reading t is chosen for each entry; it is run at the parameters' values -/
theorem fn_of {CX : CXT} {P : Program} {w : World} {K : PySem.W.Frag} {mg : Str → Option Value} {base : Heap} {k : Nat} {f : Addr} {name qual : Str} {params : Arguments} {body : List Stmt} {scope : Scope} {dV kV doc pm cdv ct oc : Value} {an od : Option Addr}
    {osl : Array (Option Value)} {N ps : List Str} {sp : Sp} (lk : K.lookup f = some ⟨oc, od, .func (PySem.W.fnOf name qual params body scope dV kV doc pm an cdv ct), osl⟩) (hcd : PySem.W.codeIn K cdv qual = true) (S : FnScope N ps scope)
    (len : ∀ vs H Q E, sp vs H Q E → vs.length = ps.length)
    (hbody : ∀ (A : Around) (outer : List Env) (s : Shared) (H : Hp) (vs : List V) (Q : VK) (E : XK), Room k (A.deeper (envOfC qual scope s.heap.objs.size f cdv)) → sp vs H Q E →
      ∃ t, PSs (cxOf CX P w K mg base N qual scope f cdv A outer s H E) body t ∧ t { nx := fun _ H' => Q .non H', rt := Q } (start N vs) H) :
    FnOk P w K mg base CX (k + 1) f (PySem.W.fnOf name qual params body scope dV kV doc pm an cdv ct) ps sp := by
  refine ⟨len, fun A outer s H args us vs Q E hr e0 hb r hsp => ?_⟩
  have hl := len _ _ _ _ hsp
  have KX : K.In s.heap := e0.mod.kin.keeps fun b o e => (e0.bs b o e).1
  have lim : s.heap.NoLimit := e0.mod.nolimit.keeps fun b o e => (e0.bs b o e).1
  have hkind : ∀ y ∈ ps.zip us, scope.names.lookup y.1 = some .local ∨ (scope.names.lookup y.1 = some .cell ∧ ((cellsFrom (s.heap.objs.size + 1) scope.names []).lookup y.1).isSome = true) := fun ⟨n, v⟩ hy => by
    rcases S.par n (List.of_mem_zip hy).1 with q | q
    · exact .inl q
    · exact .inr ⟨q, PySem.W.cellsFrom_some _ _ _ (.inl q)⟩
  refine codeAny_call_function hr.depth (KX _ _ lk) rfl S.co S.gen rfl (PySem.W.codeRec_of KX hcd) (hb _ _ _ _ ?_)
  refine wpAny_newFunctionEnv_cells S.kind hkind fun env he s1 x => ?_
  subst he
  refine ⟨lim.keeps x.toInCall.keep, codeAny_func ?_⟩
  obtain ⟨t, ht, hq⟩ := hbody A outer s H vs Q E (hr.deeper _) hsp
  have I : Inv (cxOf CX P w K mg base N qual scope f cdv A outer s H E) [] (start N vs) H s1 := inv_start S hr.hd e0 hl r x
  refine wpAny_mono (ht [] s1 (start N vs) H _ I hq) (fun fl s' hs => ?_) fun e s' hs => hs
  have fin : ∀ {σ' : St} {H' : Hp} {v : V} {u : Value}, Inv (cxOf CX P w K mg base N qual scope f cdv A outer s H E) [] σ' H' s' → RelV v u → Q v H' → CE outer P w H s Q u s' :=
    fun {σ' H' v u} J rv q => ⟨v, H', J.os, J.bare, J.base, J.hok, rv, q⟩
  cases fl with
  | ret u =>
    obtain ⟨v, σ', H', J, rv, q⟩ := hs
    exact fin J rv q
  | next =>
    obtain ⟨σ', H', J, q⟩ := hs
    exact fin (v := V.non) (u := Value.none) J rfl q
  | brk =>
    obtain ⟨_, _, _, q⟩ := hs
    exact False.elim q
  | cont =>
    obtain ⟨_, _, _, q⟩ := hs
    exact False.elim q
end L2

namespace L2
open PySem PySem.Spec PyProof.Rows
section
variable {X : Cx} {x : Str} {p pos : Pos} {e : Expr} {es : List Expr} {t : TA} {id T : String} {r : List V → Hp → VK → Prop}

def tCB (r : List V → Hp → VK → Prop) (t : TA) : TE := fun σ H Q => t σ H fun vs H1 => r vs H1 Q
/-- f(e, ..), f a built-in function -/
theorem pe_callB (hc : CallR X (.builtin id) r) (hg : Gl X x) (hm : X.mg x = none) (hv : bootBuiltins x = some (.builtin id)) (ha : PA X (e :: es) t) (hn : x ≠ "__name__" := by decide) (hdb : (x == ("__debug__" : Str)) = false := by decide)
    (he : starEach (e :: es) X.env = (false, eval e X.env) :: starEach es X.env := by rfl) (hpl : (backTo pos (starEach es X.env)).any (·.1) = false := by rfl) : PE X (.Call (.Name x p) (e :: es) [] pos) (tCB r t) := by
  intro pins s σ H Q I h
  refine wpAny_Call_Name_kw (ld_blt I hg hm hv ?_ hn hdb)
  exact PyProof.Rows.callWith_builtin1 (thn (ha pos pins s σ H _ I h) fun us s1 ⟨vs, H1, I1, r1, q1⟩ => hc pins s1 σ H1 vs us Q I1 r1 q1) he hpl
/-- T(e, ..), T a built-in type -/
theorem pe_callTy (hc : CallR X (.type T) r) (hg : Gl X x) (hm : X.mg x = none) (hv : bootBuiltins x = some (.type T)) (ha : PA X (e :: es) t) (hn : x ≠ "__name__" := by decide) (hdb : (x == ("__debug__" : Str)) = false := by decide)
    (he : starEach (e :: es) X.env = (false, eval e X.env) :: starEach es X.env := by rfl) (hpl : (backTo pos (starEach es X.env)).any (·.1) = false := by rfl) : PE X (.Call (.Name x p) (e :: es) [] pos) (tCB r t) := by
  intro pins s σ H Q I h
  refine wpAny_Call_Name_kw (ld_blt I hg hm hv ?_ hn hdb)
  exact PyProof.Rows.callWith_type1 (thn (ha pos pins s σ H _ I h) fun us s1 ⟨vs, H1, I1, r1, q1⟩ => hc pins s1 σ H1 vs us Q I1 r1 q1) he hpl
/-- T() -/
theorem pe_callTy0 (hc : CallR X (.type T) r) (hg : Gl X x) (hm : X.mg x = none) (hv : bootBuiltins x = some (.type T)) (hn : x ≠ "__name__" := by decide) (hdb : (x == ("__debug__" : Str)) = false := by decide) :
    PE X (.Call (.Name x p) [] [] pos) (tCB r tNil) := by
  intro pins s σ H Q I h
  refine wpAny_Call_Name_kw (ld_blt I hg hm hv ?_ hn hdb)
  exact PyProof.Rows.callWith_type0 (hc pins s σ H [] [] Q I .nil h)
end
end L2

namespace HT
open PySem PyProof.Rows

section
open PySem.SeqAt
open PySem.AutoSeq1 (wpAny_loadPart')
open PySem.MeetsSeq PySem.MeetsSeq2 PySem.MeetsSeq3

end

section
variable {prog : Program} {w : World} {A : Around} {E : Value → Shared → Prop} {s : Shared}

/-! ### t[a:b], not the whole -/
/-- a slice's bound as a place among n (d where it is left out) -/
def sIx (n d : Nat) : Option Int → Nat
  | none => d
  | some v => if v < 0 then (v + (n : Int)).toNat else min v.toNat n
theorem sIx_none (n d : Nat) : sIx n d none = d := rfl
theorem sIx_nat (n d k : Nat) : sIx n d (some (k : Int)) = min k n := by
  show (if (k : Int) < 0 then ((k : Int) + (n : Int)).toNat else min (k : Int).toNat n) = min k n
  rw [if_neg (by omega), Int.toNat_natCast]
theorem clip_eq (v : Int) (n d : Nat) : (if v < 0 then max (v + (n : Int)) 0 else min v (n : Int)) = ((sIx n d (some v) : Nat) : Int) := by
  show (if v < 0 then max (v + (n : Int)) 0 else min v (n : Int)) = (((if v < 0 then (v + (n : Int)).toNat else min v.toNat n) : Nat) : Int)
  by_cases hv : v < 0
  · simp only [if_pos hv]; omega
  · simp only [if_neg hv]; omega
end
end HT

namespace L2
open PySem PySem.Spec PyProof.Rows

/-! ### the parts of a slice -/
abbrev TO := St → Hp → (Option Int → Hp → Prop) → Prop
/-- a slice's part (left out, or an int) -/
def PO (X : Cx) (e : Option Expr) (t : TO) : Prop :=
  ∀ (pins : List (Addr × Obj)) (s : Shared) (σ : St) (H : Hp) (Q : Option Int → Hp → Prop), Inv X pins σ H s → t σ H Q →
    wpAny (model X.prog X.w) X.A (evalPart e X.env) (fun u s' => ∃ o H', Inv X pins σ H' s' ∧ IsPart u o ∧ Q o H') X.xe s
def tNoPart : TO := fun _ H Q => Q none H
def tPart (t : TE) : TO := fun σ H Q => t σ H fun x H1 => ∃ i, x = .int i ∧ Q (some i) H1

theorem intsAre_of {ns : List Int} : ∀ {us : List Value}, Vals (ns.map V.int) us → IntsAre us ns := by
  induction ns with
  | nil => intro us r; rw [List.map_nil] at r; cases r; exact .nil
  | cons n ns ih =>
    intro us r
    rw [List.map_cons] at r
    cases r with
    | cons r1 r2 =>
      obtain ⟨t, e⟩ := r1
      subst e
      exact .cons n t (ih r2)

section
variable {X : Cx} {e : Expr} {te : TE} {lo hi : Option Expr} {tl th : TO} {pos p2 : Pos}

theorem po_none : PO X none tNoPart := by
  intro pins s σ H Q I h
  rw [evalPart_none]
  exact wpAny_pure ⟨none, H, I, .none, h⟩
theorem po_some (h : PE X e te) : PO X (some e) (tPart te) := by
  intro pins s σ H Q I hw
  rw [evalPart_some]
  refine thn (h pins s σ H _ I hw) fun u s1 ⟨x, H1, I1, r1, q1⟩ => ?_
  obtain ⟨i, rfl, q⟩ := q1
  obtain ⟨t, rfl⟩ := r1
  exact ⟨some i, H1, I1, .int i t, q⟩

/-- what a slice of a value is, by values: the slice object stands at sl -/
def SlR (X : Cx) (r : V → Option Int → Option Int → Hp → VK → Prop) : Prop :=
  ∀ (pins : List (Addr × Obj)) (s : Shared) (σ : St) (H : Hp) (x : V) (v vl vu : Value) (lo hi : Option Int) (sl : Addr) (Q : VK), Inv X pins σ H s → RelV x v → s.heap.IsSliceOf sl vl vu .none → IsPart vl lo → IsPart vu hi → r x lo hi H Q →
    ∃ T id, typeLookup (.type T) "__getitem__" = pure (some (.builtin id)) ∧ s.TypeIs v T ∧ wpAny (model X.prog X.w) X.A (getItem v (.ref sl)) (EP X pins σ Q) X.xe s
def tSl (r : V → Option Int → Option Int → Hp → VK → Prop) (te : TE) (tl th : TO) : TE := fun σ H Q => te σ H fun x H1 => tl σ H1 fun l H2 => th σ H2 fun u H3 => r x l u H3 Q
/-- a[lo:hi], any a -/
theorem pe_slice {r : V → Option Int → Option Int → Hp → VK → Prop} (hr : SlR X r) (he : PE X e te) (hl : PO X lo tl) (hu : PO X hi th) : PE X (.Subscript e (.Slice lo hi none p2) pos) (tSl r te tl th) := by
  intro pins s σ H Q I h
  refine Subscript_ (thn (he pins s σ H _ I h) fun v s1 ⟨x, H1, I1, r1, q1⟩ => ?_)
  refine wpAny_Slice (thn (hl pins s1 σ H1 _ I1 q1) fun vl s2 ⟨l, H2, I2, pl, q2⟩ => thn (hu pins s2 σ H2 _ I2 q2) fun vu s3 ⟨u, H3, I3, pu, q3⟩ => ?_)
  rw [evalPart_none]
  refine wpAny_pure ?_
  have I4 : Inv X pins σ H3 { s3 with heap := s3.heap.push { cls := .type "slice", data := .fields #[vl, vu, .none] } } := I3.kept (t' := s3.toks) fun b ob q => Heap.get?_push_of_some _ q
  obtain ⟨T, id, hT, ht, hg⟩ := hr pins { s3 with heap := s3.heap.push { cls := .type "slice", data := .fields #[vl, vu, .none] } } σ H3 x v vl vu l u s3.heap.objs.size Q I4 r1 (Heap.IsSliceOf.new ..) pl pu q3
  show wpAny (model X.prog X.w) X.A (subscriptTail e (.Slice lo hi none p2) v (.ref s3.heap.objs.size)) (EP X pins σ Q) X.xe { s3 with heap := s3.heap.push { cls := .type "slice", data := .fields #[vl, vu, .none] } }
  exact tail_any (ops := [.ref s3.heap.objs.size, v]) ht hT hg (by with_unfolding_all rfl)

/-- the items of xs[lo:hi] -/
def cutV (xs : List V) (lo hi : Option Int) : List V := (xs.drop (HT.sIx xs.length 0 lo)).take (HT.sIx xs.length xs.length hi - HT.sIx xs.length 0 lo)
theorem cutV_length (xs : List V) (lo hi : Option Int) : (cutV xs lo hi).length ≤ xs.length := by
  unfold cutV
  rw [List.length_take, List.length_drop]
  omega
/-! ### t < u, t + u -/
end
end L2

namespace L2
open PySem PySem.Spec PyProof.Rows

/-! ### places -/
/-- the place that an index of any sign means -/
def ixN (n : Nat) (i : Int) : Option Nat := if 0 ≤ i then (if i < n then some i.toNat else none) else if -(n : Int) ≤ i then some (i + n).toNat else none
def atI {α : Type} (xs : List α) (i : Int) : Option α := (ixN xs.length i).bind fun j => xs[j]?
theorem ixN_seq {n : Nat} {i : Int} {j : Nat} (h : ixN n i = some j) : seqIndex? i n = some j ∧ j < n ∧ -(n : Int) ≤ i ∧ i < n := by
  unfold ixN at h
  by_cases h0 : 0 ≤ i
  · rw [if_pos h0] at h
    by_cases h1 : i < n
    · rw [if_pos h1] at h
      have e : i.toNat = j := Option.some.inj h
      exact ⟨by rw [seqIndex_of h0 h1, e], by omega, by omega, h1⟩
    · rw [if_neg h1] at h; cases h
  · rw [if_neg h0] at h
    by_cases h1 : -(n : Int) ≤ i
    · rw [if_pos h1] at h
      have e : (i + n).toNat = j := Option.some.inj h
      exact ⟨by rw [seqIndex_neg (by omega) h1, e], by omega, h1, by omega⟩
    · rw [if_neg h1] at h; cases h
theorem atI_get {α : Type} {xs : List α} {i : Int} {v : α} (h : atI xs i = some v) : ∃ j, seqIndex? i xs.length = some j ∧ xs[j]? = some v ∧ j < xs.length ∧ -(xs.length : Int) ≤ i ∧ i < xs.length := by
  unfold atI at h
  cases e : ixN xs.length i with
  | none => rw [e] at h; cases h
  | some j =>
    rw [e] at h
    obtain ⟨h1, h2, h3, h4⟩ := ixN_seq e
    exact ⟨j, h1, h, h2, h3, h4⟩
theorem atI_nat {α : Type} {xs : List α} {j : Nat} {v : α} (h : xs[j]? = some v) : atI xs (j : Int) = some v := by
  have hj : j < xs.length := (List.getElem?_eq_some_iff.mp h).1
  have e : ixN xs.length (j : Int) = some j := by
    unfold ixN
    rw [if_pos (by omega), if_pos (by omega)]; simp
  unfold atI; rw [e]; exact h
theorem atI_last {α : Type} (xs : List α) (v : α) : atI (xs ++ [v]) (-1) = some v := by
  have hl : (xs ++ [v]).length = xs.length + 1 := by simp
  have e : ixN (xs ++ [v]).length (-1) = some xs.length := by
    unfold ixN
    rw [hl, if_neg (by decide), if_pos (by omega)]
    congr 1
    omega
  unfold atI
  rw [e]
  show (xs ++ [v])[xs.length]? = some v
  simp

/-! ### what may be subscripted -/
/-- what stands as an index of a plain subscript -/
def PlainIx (b : Expr) : Prop := ∀ o i, subscripted b false o i = operate [o, i] (getItem o i)
/-- a subscript by values -/
def IxR (X : Cx) (r : R2) : Prop :=
  ∀ (value slice : Expr) (pins : List (Addr × Obj)) (s : Shared) (σ : St) (H : Hp) (x y : V) (v u : Value) (Q : VK), Inv X pins σ H s → RelV x v → RelV y u → r x y H Q →
    subscripted slice false v u = operate [v, u] (getItem v u) → wpAny (model X.prog X.w) X.A (subscriptTail value slice v u) (EP X pins σ Q) X.xe s
/-- a call of a builtin's method by values: the receiver, the arguments -/
def MtR (X : Cx) (id : String) (r : V → List V → Hp → VK → Prop) : Prop :=
  ∀ (pins : List (Addr × Obj)) (s : Shared) (σ : St) (H : Hp) (x : V) (xs : List V) (v : Value) (us : List Value) (Q : VK), Inv X pins σ H s → RelV x v → Vals xs us → r x xs H Q →
    wpAny (model X.prog X.w) X.A (call (.builtin id) (v :: us)) (EP X pins σ Q) X.xe s
section
variable {X : Cx} {a b : Expr} {ta tb : TE} {pos : Pos}
/-- a[b] -/
theorem pe_ix {r : R2} (hr : IxR X r) (ha : PE X a ta) (hb : PE X b tb) (hs : PlainIx b) : PE X (.Subscript a b pos) (tOp r ta tb) := by
  intro pins s σ H Q I h
  exact Subscript_ (binT ha hb I h fun v u s2 x y H2 I2 rx ry q => hr a b pins s2 σ H2 x y v u Q I2 rx ry q (hs _ _))

def rIxL (K : PySem.W.Frag) : R2 := fun x y H Q => ∃ p xs i v, x = .ref p ∧ y = .int i ∧ SqL K H p xs ∧ atI xs i = some v ∧ Q v H
def rIxT (K : PySem.W.Frag) : R2 := fun x y H Q => ∃ p xs i v, x = .ref p ∧ y = .int i ∧ SqT K H p xs ∧ atI xs i = some v ∧ Q v H
def rIxS : R2 := fun x y H Q => ∃ z i c, x = .str z ∧ y = .int i ∧ z.length ≤ sizeLine ∧ atI z.cps.toList i = some c ∧ Q (.str ⟨#[c]⟩) H
theorem ix_list : IxR X (rIxL X.K) := by
  intro value slice pins s σ H x y v u Q I rx ry h hs
  obtain ⟨p, xs, i, z, rfl, rfl, hq, he, q⟩ := h
  cases rx
  obtain ⟨t, rfl⟩ := ry
  obtain ⟨its, r, pl, hz⟩ := I.list hq
  obtain ⟨j, h1, h2, h3, h4, h5⟩ := atI_get he
  obtain ⟨w, ew, rw'⟩ := r.get h2
  have hl := r.length
  have hn := line63
  have fin : EP X pins σ Q w s := ⟨z, H, I, rw', q⟩
  by_cases h0 : 0 ≤ i
  · have hj : i.toNat = j := by
      rw [seqIndex_of h0 h5] at h1
      exact Option.some.inj h1
    exact item_listR pl.isList h0 (by omega) (by rw [hj]; simpa using ew) fin hs
  · have hj : (i + (its.toArray.size : Int)).toNat = j := by
      rw [seqIndex_neg (by omega) h4] at h1
      rw [List.size_toArray, ← hl]
      exact Option.some.inj h1
    exact subscriptTail_builtinR (x := w) pl.isList.typeIs slot_list_getitem.lookup
      (wpAny_getItem_list_neg (Q := fun r s' => r = w ∧ EP X pins σ Q r s') pl.isList (by omega) (by rw [List.size_toArray] <;> omega) (by omega) (by rw [hj]; simpa using ew) ⟨rfl, fin⟩) hs
theorem ix_tup : IxR X (rIxT X.K) := by
  intro value slice pins s σ H x y v u Q I rx ry h hs
  obtain ⟨p, xs, i, z, rfl, rfl, hq, he, q⟩ := h
  cases rx
  obtain ⟨t, rfl⟩ := ry
  obtain ⟨its, r, pl, hz⟩ := I.tuple hq
  obtain ⟨j, h1, h2, h3, h4, h5⟩ := atI_get he
  obtain ⟨w, ew, rw'⟩ := r.get h2
  have hl := r.length
  have hn := line63
  have fin : EP X pins σ Q w s := ⟨z, H, I, rw', q⟩
  exact subscriptTail_builtinR (x := w) pl.typeIs slot_tuple_getitem.lookup
    (getItem_tuple (j := j) (Q := fun r s' => r = w ∧ EP X pins σ Q r s') pl (by omega) (by omega) (by rw [List.size_toArray, ← hl]; exact h1) (by simpa using ew) ⟨rfl, fin⟩) hs
theorem ix_str : IxR X rIxS := by
  intro value slice pins s σ H x y v u Q I rx ry h hs
  obtain ⟨z, i, c, rfl, rfl, hz, he, q⟩ := h
  obtain ⟨t, rfl⟩ := rx
  obtain ⟨t', rfl⟩ := ry
  obtain ⟨j, h1, h2, h3, h4, h5⟩ := atI_get he
  have hl : z.cps.toList.length = z.length := by simp [Str.length]
  rw [hl] at h1 h4 h5
  have hn := line63
  exact tail_any (typeIs_str s z t) slot_str_getitem.lookup (getItem_str (c := c) (by
    have e1 : decide (i < -(2 ^ 63 : Int)) = false := decide_eq_false (by omega)
    have e2 : decide (i ≥ 2 ^ 63) = false := decide_eq_false (by omega)
    rw [e1, e2, Bool.or_false]) (by rw [h1]; simpa using h2) ⟨.str ⟨#[c]⟩, H, I.tok _, ⟨_, rfl⟩, q⟩) hs
/-! ### xs[i] = v, any sign -/
/-! ### slices -/
theorem slice_bounds (lo hi : Option Int) (n : Nat) : (sliceBounds lo hi none n).1 = ((HT.sIx n 0 lo : Nat) : Int) ∧ (sliceBounds lo hi none n).2.1 = ((HT.sIx n n hi : Nat) : Int) ∧ (sliceBounds lo hi none n).2.2 = 1 := by
  refine ⟨?_, ?_, rfl⟩
  · cases lo with
    | none => simp [sliceBounds, HT.sIx]
    | some i =>
      simp only [sliceBounds, HT.sIx, Option.getD_none, show (1 : Int) > 0 by decide, if_true]
      by_cases h : i < 0
      · simp only [h, if_true] <;> omega
      · simp only [h, if_false] <;> omega
  · cases hi with
    | none => simp [sliceBounds, HT.sIx]
    | some i =>
      simp only [sliceBounds, HT.sIx, Option.getD_none, show (1 : Int) > 0 by decide, if_true]
      by_cases h : i < 0
      · simp only [h, if_true] <;> omega
      · simp only [h, if_false] <;> omega
theorem slicePick_cut (its : List Value) (lo hi : Option Int) : slicePick its.toArray lo hi none = ((its.drop (HT.sIx its.length 0 lo)).take (HT.sIx its.length its.length hi - HT.sIx its.length 0 lo)).toArray := by
  obtain ⟨h1, h2, h3⟩ := slice_bounds lo hi its.toArray.size
  unfold slicePick
  rw [h1, h2, h3]
  simp only [sliceRange_one, pick_run, List.size_toArray] <;> rfl
/-- xs[lo:hi] of a list: a new list -/
def rSlL (K : PySem.W.Frag) : V → Option Int → Option Int → Hp → VK → Prop := fun x lo hi H Q => ∃ a xs, x = .ref a ∧ SqL K H a xs ∧ ∀ p, H p = none → Q (.ref p) (upd H p (.lst (cutV xs lo hi)))
theorem sl_list : SlR X (rSlL X.K) := by
  intro pins s σ H x v vl vu lo hi sl Q I rx hs pl pu h
  obtain ⟨a, xs, rfl, hx, q⟩ := h
  cases rx
  obtain ⟨its, r, ht, hz⟩ := I.list hx
  have hlen := r.length
  refine ⟨"list", _, slot_list_getitem.lookup, ht.isList.typeIs, ?_⟩
  refine wpAny_getItem_list_slice ht.isList hs pl pu .none (by simp) ?_ (by rw [List.size_toArray] <;> omega)
  rw [slicePick_cut, ← hlen]
  refine ⟨.ref s.heap.objs.size, _, I.laid (t' := s.toks) (o := .lst (cutV xs lo hi)) (fun b ob q => Heap.get?_push_of_some _ q) (Nat.le_refl _) ?_, rfl, q _ (I.hok.fresh (Nat.le_refl _))⟩
  exact ⟨Nat.le_trans (cutV_length xs lo hi) hz, _, 0, (r.drop (HT.sIx xs.length 0 lo)).take (HT.sIx xs.length xs.length hi - HT.sIx xs.length 0 lo), Heap.get?_push_size _ rfl⟩

/-! ### in, not in: flat items -/
def flatV : V → Bool
  | .non => true
  | .bl _ => true
  | .int _ => true
  | .str _ => true
  | _ => false
/-- == of flat values -/
def eqV : V → V → Bool
  | .non, .non => true
  | .bl a, .bl b => a == b
  | .bl a, .int b => (if a then 1 else 0) == b
  | .int a, .bl b => a == (if b then 1 else 0)
  | .int a, .int b => a == b
  | .str a, .str b => a == b
  | _, _ => false
theorem eqAt_V {A : Around} {s : Shared} {y x : V} {u v : Value} (ry : RelV y u) (rx : RelV x v) (fy : flatV y = true) (fx : flatV x = true) : SeqAt.EqAt A s u v (eqV y x) := by
  cases y with
  | non =>
    cases ry
    cases x with
    | non => cases rx; exact SeqAt.EqAt.same _
    | bl b => cases rx; exact SeqAt.EqAt.none_bool b
    | int b => obtain ⟨t, rfl⟩ := rx; exact SeqAt.EqAt.none_int b t
    | str b => obtain ⟨t, rfl⟩ := rx; exact SeqAt.EqAt.none_str b t
    | _ => exact absurd (show false = true from fx) Bool.false_ne_true
  | bl a =>
    cases ry
    cases x with
    | non => cases rx; exact SeqAt.EqAt.bool_none a
    | bl b => cases rx; exact SeqAt.EqAt.bool_bool a b
    | int b => obtain ⟨t, rfl⟩ := rx; exact SeqAt.EqAt.bool_int a b t
    | str b => obtain ⟨t, rfl⟩ := rx; exact SeqAt.EqAt.bool_str a b t
    | _ => exact absurd (show false = true from fx) Bool.false_ne_true
  | int a =>
    obtain ⟨t', rfl⟩ := ry
    cases x with
    | non => cases rx; exact SeqAt.EqAt.int_none a t'
    | bl b => cases rx; exact SeqAt.EqAt.int_bool a t' b
    | int b => obtain ⟨t, rfl⟩ := rx; exact SeqAt.EqAt.int_int a t' b t
    | str b => obtain ⟨t, rfl⟩ := rx; exact SeqAt.EqAt.int_str a t' b t
    | _ => exact absurd (show false = true from fx) Bool.false_ne_true
  | str a =>
    obtain ⟨t', rfl⟩ := ry
    cases x with
    | non => cases rx; exact SeqAt.EqAt.str_none a t'
    | bl b => cases rx; exact SeqAt.EqAt.str_bool a t' b
    | int b => obtain ⟨t, rfl⟩ := rx; exact SeqAt.EqAt.str_int a t' b t
    | str b => obtain ⟨t, rfl⟩ := rx; exact SeqAt.EqAt.str_str a t' b t
    | _ => exact absurd (show false = true from fx) Bool.false_ne_true
  | _ => exact absurd (show false = true from fy) Bool.false_ne_true
/-- the items' answers, read off the values (a value's own answer does not lean on its token) -/
def eqU (x : V) (u : Value) : Bool := match u with
  | .none => eqV .non x
  | .bool b => eqV (.bl b) x
  | .int i _ => eqV (.int i) x
  | .str z _ => eqV (.str z) x
  | _ => false
theorem eqU_of {x y : V} {u : Value} (r : RelV y u) (f : flatV y = true) : eqU x u = eqV y x := by
  cases y with
  | non => cases r; rfl
  | bl b => cases r; rfl
  | int i => obtain ⟨t, rfl⟩ := r; rfl
  | str z => obtain ⟨t, rfl⟩ := r; rfl
  | _ => exact absurd (show false = true from f) Bool.false_ne_true
theorem any_eqU {x : V} : ∀ {xs : List V} {us : List Value}, Vals xs us → xs.all flatV = true → us.any (eqU x) = xs.any fun y => eqV y x
  | _, _, .nil, _ => rfl
  | y :: xs, u :: us, .cons r t, f => by
    rw [List.all_cons, Bool.and_eq_true] at f
    rw [List.any_cons, List.any_cons, eqU_of r f.1, any_eqU t f.2]
theorem mem_eqAt {A : Around} {s : Shared} {x : V} {v : Value} (rx : RelV x v) (fx : flatV x = true) : ∀ {xs : List V} {us : List Value}, Vals xs us → xs.all flatV = true → ∀ u ∈ us, SeqAt.EqAt A s u v (eqU x u)
  | _, _, .nil, _ => fun u hu => by cases hu
  | y :: xs, u :: us, .cons r t, f => fun u' hu => by
    rw [List.all_cons, Bool.and_eq_true] at f
    rcases List.mem_cons.mp hu with rfl | hu
    · rw [eqU_of r f.1]; exact eqAt_V r rx f.1 fx
    · exact mem_eqAt rx fx t f.2 u' hu
def inV (x : V) (xs : List V) : Bool := xs.any fun y => eqV y x
/-- x in a list or tuple of flat items -/
def rIn (K : PySem.W.Frag) (neg : Bool) : R2 := fun x y H Q => ∃ p xs, y = .ref p ∧ (SqL K H p xs ∨ SqT K H p xs) ∧ flatV x = true ∧ xs.all flatV = true ∧ Q (.bl (if neg then !inV x xs else inV x xs)) H
theorem op_in_seq : OpR X (compareOp .In) (rIn X.K false) := by
  intro pins s σ H x y v u Q I rx ry h
  obtain ⟨p, xs, rfl, hq, fx, fs, q⟩ := h
  cases ry
  rcases hq with hq | hq
  · obtain ⟨its, r, pl, hz⟩ := I.list hq
    refine SeqAt.in_listAt (eqU x) pl.isList (fun w hw => mem_eqAt rx fx r fs w (by simpa using hw)) ⟨.bl _, H, I, rfl, ?_⟩
    rw [show its.toArray.any (eqU x) = its.any (eqU x) by simp, any_eqU r fs]
    exact q
  · obtain ⟨its, r, pl, hz⟩ := I.tuple hq
    refine SeqAt.in_tupleAt (eqU x) pl (fun w hw => mem_eqAt rx fx r fs w (by simpa using hw)) ⟨.bl _, H, I, rfl, ?_⟩
    rw [show its.toArray.any (eqU x) = its.any (eqU x) by simp, any_eqU r fs]
    exact q
theorem op_notIn_seq : OpR X (compareOp .NotIn) (rIn X.K true) := by
  intro pins s σ H x y v u Q I rx ry h
  obtain ⟨p, xs, rfl, hq, fx, fs, q⟩ := h
  cases ry
  rcases hq with hq | hq
  · obtain ⟨its, r, pl, hz⟩ := I.list hq
    refine SeqAt.notIn_listAt (eqU x) pl.isList (fun w hw => mem_eqAt rx fx r fs w (by simpa using hw)) ⟨.bl _, H, I, rfl, ?_⟩
    rw [show its.toArray.any (eqU x) = its.any (eqU x) by simp, any_eqU r fs]
    exact q
  · obtain ⟨its, r, pl, hz⟩ := I.tuple hq
    refine SeqAt.notIn_tupleAt (eqU x) pl (fun w hw => mem_eqAt rx fx r fs w (by simpa using hw)) ⟨.bl _, H, I, rfl, ?_⟩
    rw [show its.toArray.any (eqU x) = its.any (eqU x) by simp, any_eqU r fs]
    exact q
/-! ### len, list(x), tuple(x) of any list or tuple that is read -/
theorem call_len_seq : CallR X (.builtin "len") (fun xs H Q => ∃ p ys, xs = [.ref p] ∧ (SqL X.K H p ys ∨ SqT X.K H p ys) ∧ Q (.int ys.length) H) := by
  intro pins s σ H xs us Q I r h
  obtain ⟨p, ys, rfl, hq, q⟩ := h
  obtain ⟨u, rfl, rx⟩ := vals1 r
  cases rx
  have hn := line63
  rcases hq with hq | hq
  · obtain ⟨its, r', pl, hz⟩ := I.list hq
    have hlen := r'.length
    exact Calls.call_len_list pl.isList (by simp only [List.size_toArray] <;> omega) ⟨.int ys.length, H, I.tok _, ⟨s.toks + 1, by rw [List.size_toArray, hlen]⟩, q⟩
  · obtain ⟨its, r', pl, hz⟩ := I.tuple hq
    have hlen := r'.length
    exact len_tuple pl (by simp only [List.size_toArray] <;> omega) ⟨.int ys.length, H, I.tok _, ⟨s.toks + 1, by rw [List.size_toArray, hlen]⟩, q⟩
theorem call_len_str : CallR X (.builtin "len") (fun xs H Q => ∃ z, xs = [.str z] ∧ z.length ≤ sizeLine ∧ Q (.int z.length) H) := by
  intro pins s σ H xs us Q I r h
  obtain ⟨z, rfl, hz, q⟩ := h
  obtain ⟨u, rfl, t, rfl⟩ := vals1 r
  have hn := line63
  exact len_str (by omega) ⟨.int z.length, H, I.tok _, ⟨_, rfl⟩, q⟩
theorem call_list_of : CallR X (.type "list") (fun xs H Q => ∃ p ys, xs = [.ref p] ∧ (SqL X.K H p ys ∨ SqT X.K H p ys) ∧ ∀ l, H l = none → Q (.ref l) (upd H l (.lst ys))) := by
  intro pins s σ H xs us Q I r h
  obtain ⟨p, ys, rfl, hq, q⟩ := h
  obtain ⟨u, rfl, rx⟩ := vals1 r
  cases rx
  have fin : ∀ (its : List Value), Vals ys its → ys.length ≤ sizeLine → ∀ (h' : Heap) (c' : Nat), (∀ b o', s.heap.get? b = some o' → h'.get? b = some o') →
      h'.get? s.heap.objs.size = some { cls := .type "list", dict := none, data := .seq its.toArray c', slots := #[] } → EP X pins σ Q (.ref s.heap.objs.size) { s with heap := h' } := fun its r' hz h' c' kp e =>
    ⟨.ref s.heap.objs.size, _, I.laid (t' := s.toks) kp (Nat.le_refl _) (show ObjOk X.prog X.w _ h' _ (.lst ys) from ⟨hz, its, c', r', e⟩), rfl, q _ (I.hok.fresh (Nat.le_refl _))⟩
  rcases hq with hq | hq
  · obtain ⟨its, r', pl, hz⟩ := I.list hq
    have hlen := r'.length
    obtain ⟨o, ho, hc, n, hd⟩ := pl.isList
    exact call_list_seq p (.inl rfl) ho hc hd (fun h' c' kp e => fin its r' hz h' c' kp e) (by simp only [List.size_toArray] <;> omega)
  · obtain ⟨its, r', pl, hz⟩ := I.tuple hq
    have hlen := r'.length
    obtain ⟨o, ho, hc, n, hd⟩ := pl
    exact call_list_seq p (.inr rfl) ho hc hd (fun h' c' kp e => fin its r' hz h' c' kp e) (by simp only [List.size_toArray] <;> omega)
/-! ### the call of a builtin's method: o.m(..) -/
/-- the value is of that builtin type -/
def tyV (K : PySem.W.Frag) (T : String) (x : V) (H : Hp) : Prop := match x with
  | .str _ => T = "str"
  | .int _ => T = "int"
  | .ref p => (T = "list" ∧ ∃ xs, SqL K H p xs) ∨ (T = "tuple" ∧ ∃ o, K.lookup p = some o ∧ o.cls = .type "tuple" ∧ o.dict = none) ∨
      (T = "dict" ∧ ((∃ kvs, H p = some (.dK kvs)) ∨ ∃ kvs, H p = some (.dT kvs))) ∨ (T = "set" ∧ ∃ S n, H p = some (.set S n))
  | _ => False
theorem tyV_is {pins : List (Addr × Obj)} {σ : St} {H : Hp} {s : Shared} {T : String} {x : V} {v : Value} (I : Inv X pins σ H s) (r : RelV x v) (ty : tyV X.K T x H) :
    s.TypeIs v T ∧ ∀ a, v = .ref a → ∃ ob, s.heap.get? a = some ob ∧ ob.dict = none := by
  cases x with
  | str z =>
    obtain ⟨t, rfl⟩ := r
    cases (show T = "str" from ty)
    exact ⟨typeIs_str s z t, fun _ e => nomatch e⟩
  | int i =>
    obtain ⟨t, rfl⟩ := r
    cases (show T = "int" from ty)
    exact ⟨typeIs_int s i t, fun _ e => nomatch e⟩
  | ref p =>
    cases r
    rcases ty with ⟨rfl, xs, hq⟩ | ⟨rfl, o, hk, hc, hd⟩ | ⟨rfl, hk⟩ | ⟨rfl, S, n, hk⟩
    · obtain ⟨its, _, pl, _⟩ := I.list hq
      refine ⟨pl.isList.typeIs, fun a e => ?_⟩
      cases e
      obtain ⟨o, n, e, c, hd, _⟩ := pl
      exact ⟨o, e, hd⟩
    · refine ⟨⟨o, I.kIn p o hk, hc⟩, fun a e => ?_⟩
      cases e
      exact ⟨o, I.kIn _ o hk, hd⟩
    · have z : ∃ o, s.heap.get? p = some o ∧ o.ExactDict := by
        rcases hk with ⟨kvs, hk⟩ | ⟨kvs, hk⟩
        · obtain ⟨_, _, _, _, o, _, _, e, ex, _⟩ := I.hok p _ hk
          exact ⟨o, e, ex⟩
        · obtain ⟨_, _, _, _, o, _, _, e, ex, _⟩ := I.hok p _ hk
          exact ⟨o, e, ex⟩
      obtain ⟨o, e, ex⟩ := z
      refine ⟨⟨o, e, ex.1⟩, fun a e2 => ?_⟩
      cases e2
      exact ⟨o, e, ex.2.1⟩
    · obtain ⟨o, _, _, _, e, ex, _⟩ := I.hok p _ hk
      refine ⟨⟨o, e, ex.1⟩, fun a e2 => ?_⟩
      cases e2
      exact ⟨o, e, ex.2.1⟩
  | _ => exact False.elim ty
def tBM (K : PySem.W.Frag) (T : String) (r : V → List V → Hp → VK → Prop) (to : TE) (t : TA) : TE := fun σ H Q => to σ H fun x H1 => tyV K T x H1 ∧ t σ H1 fun xs H2 => r x xs H2 Q
variable {o e : Expr} {es : List Expr} {to : TE} {t : TA} {name : Str} {apos cpos : Pos} {T id : String} {r : V → List V → Hp → VK → Prop}
theorem pe_bm (pa : PlainAttrs T) (slot : Slot T name id) (hty : typeOf (.builtin id) = pure (.type "method_descriptor")) (hm : MtR X id r) (ho : PE X o to) (ha : PA X (e :: es) t)
    (hbase : attributeBase o name X.env (eval o X.env) = eval o X.env := by rfl)
    (hfew : ((backTo cpos (starEach (e :: es) X.env)).all (fun x => !x.1) && (backToKw cpos (keywordEach [] X.env)).all (fun x => x.1.isSome)
      && decide ((e :: es).length + ([] : List Keyword).length + (if ([] : List Keyword).isEmpty then 0 else 1) < 30)) = true := by rfl)
    (hline : (apos.endLine == cpos.line) = true := by rfl) (hs : starEach (e :: es) X.env = (false, eval e X.env) :: starEach es X.env := by rfl) (hplain : (backTo cpos (starEach es X.env)).any (·.1) = false := by rfl) :
    PE X (.Call (.Attribute o name apos) (e :: es) [] cpos) (tBM X.K T r to t) := by
  intro pins s σ H Q I h
  refine wpAny_Call_method_late hbase hfew hline rfl (thn (ho pins s σ H _ I h) fun v s1 ⟨x, H1, I1, r1, ty, q1⟩ => ?_)
  obtain ⟨h1, h2⟩ := tyV_is I1 r1 ty
  refine ⟨T, id, pa, slot, hty, h1, h2, ?_⟩
  have hA := ha cpos pins s1 σ H1 _ I1 q1
  rw [hs] at hA ⊢
  refine Calls.callWith_builtin (by show (false || (backTo cpos (starEach es X.env)).any (·.1)) = false; rw [hplain] <;> rfl) (Calls.evalArgs_plain ?_)
  exact thn hA fun us s2 ⟨vs, H2, I2, r2, q2⟩ => hm pins s2 σ H2 x vs v us Q I2 r1 r2 q2
/- xs.append(e), list.index on a module's tuple .. are MtR facts of 06m -/
end
end L2

namespace L2
open PySem PySem.Spec PyProof.Rows

def MtM (X : Cx) (id : String) (r : V → List V → Hp → VK → Prop) : Prop :=
  ∀ (pins : List (Addr × Obj)) (s : Shared) (σ : St) (H : Hp) (x : V) (xs : List V) (v : Value) (us : List Value) (Q : VK), Inv X pins σ H s → RelV x v → Vals xs us → r x xs H Q →
    wpAny (model X.prog X.w) X.A (call (.builtin id) (v :: us)) (EP X pins σ Q) X.xe s

/-! ### lists of values -/
theorem Vals.one : ∀ {x : V} {us : List Value}, Vals [x] us → ∃ u, us = [u] ∧ RelV x u
  | _, _, .cons r .nil => ⟨_, rfl, r⟩
theorem Vals.two : ∀ {x y : V} {us : List Value}, Vals [x, y] us → ∃ u v, us = [u, v] ∧ RelV x u ∧ RelV y v
  | _, _, _, .cons r (.cons q .nil) => ⟨_, _, rfl, r, q⟩
theorem Vals.reverse {xs : List V} {us : List Value} (h : Vals xs us) : Vals xs.reverse us.reverse := by
  induction h with
  | nil => exact .nil
  | cons r t ih => rw [List.reverse_cons, List.reverse_cons]; exact Vals.append ih (.cons r .nil)
section
variable {X : Cx} {pins : List (Addr × Obj)} {σ : St} {H : Hp} {s : Shared} {l b : Addr} {xs ys zs : List V}

/-! ### the two steps: a tracked list is rewritten, a new list is laid -/
theorem Inv.lset {its its' : List Value} {n : Nat} {f : Array Value → Array Value} {t' : Nat} (I : Inv X pins σ H s) (hH : H l = some (.lst xs))
    (e : s.heap.get? l = some { cls := .type "list", data := .seq its.toArray n }) (hf : f its.toArray = its'.toArray) (hv : Vals ys its') (hz : ys.length ≤ sizeLine) :
    Inv X pins σ (upd H l (.lst ys)) { s with heap := s.heap.update l (Obj.mapSeq f), toks := t' } := by
  have q := PySem.IsL.update e f
  rw [hf] at q
  refine I.write (x := l) (e := l) (by rw [hH]; exact trivial) (.inl rfl) (fun b' u hb hu => (Heap.get?_update_other s.heap (Obj.mapSeq f) (Ne.symm hb)).trans hu) ⟨_, q⟩ ?_
  exact ⟨hz, its', _, hv, q⟩
theorem Inv.lnew {its : List Value} {t' : Nat} (I : Inv X pins σ H s) (hv : Vals ys its) (hz : ys.length ≤ sizeLine) :
    Inv X pins σ (upd H s.heap.objs.size (.lst ys)) { s with heap := s.heap.push { cls := .type "list", data := .seq its.toArray }, toks := t' } :=
  I.laid (fun _ _ q => Heap.get?_push_of_some _ q) (Nat.le_refl _) ⟨hz, its, 0, hv, Heap.get?_push_size _ rfl⟩
theorem Inv.fresh (I : Inv X pins σ H s) : H s.heap.objs.size = none := I.hok.fresh (Nat.le_refl _)
theorem Inv.lstM (I : Inv X pins σ H s) (hH : H l = some (.lst xs)) : xs.length ≤ sizeLine ∧ ∃ (its : List Value) (n : Nat), Vals xs its ∧ xs.length = its.length ∧ s.heap.get? l = some { cls := .type "list", data := .seq its.toArray n } := by
  obtain ⟨z, its, n, r, e⟩ := I.hok l _ hH
  exact ⟨z, its, n, r, r.length, e⟩

end

section
variable {X : Cx}

/-! ### methods -/
def rAppend : V → List V → Hp → VK → Prop := fun x vs H Q => ∃ l xs y, x = .ref l ∧ vs = [y] ∧ H l = some (.lst xs) ∧ xs.length < sizeLine ∧ Q .non (upd H l (.lst (xs ++ [y])))
theorem mt_append : MtM X "list.append" rAppend := by
  intro pins s σ H x vs v us Q I rx rv h
  obtain ⟨l, xs, y, rfl, rfl, hH, hz, q⟩ := h
  cases rx
  obtain ⟨u, rfl, ru⟩ := rv.one
  obtain ⟨z, its, n, r, hl, e⟩ := I.lstM hH
  refine call_meets F.slot_list_append ⟨_, e, rfl⟩ F.entry_list_append (F.args_list_append_2 _ _) (PySem.list_append l its.toArray n u (by rw [List.size_toArray]; omega)) ⟨e, ?_⟩
  refine ⟨.non, _, I.lset (its' := its ++ [u]) hH e (by simp) (r.append (.cons ru .nil)) ?_, rfl, q⟩
  rw [List.length_append, List.length_singleton]
  omega

/-! ### list + list, list += list, list * int -/
def rCat : R2 := fun x y H Q => ∃ l b xs zs, x = .ref l ∧ y = .ref b ∧ H l = some (.lst xs) ∧ H b = some (.lst zs) ∧ xs.length + zs.length ≤ sizeLine ∧ ∀ p, H p = none → Q (.ref p) (upd H p (.lst (xs ++ zs)))
theorem op_cat : OpR X (binaryOp .Add) rCat := by
  intro pins s σ H x y v u Q I rx ry h
  obtain ⟨l, b, xs, zs, rfl, rfl, hH, hB, hz, q⟩ := h
  cases rx
  cases ry
  obtain ⟨z, its, n, r, hl, e⟩ := I.lstM hH
  obtain ⟨z2, its2, n2, r2, hl2, e2⟩ := I.lstM hB
  refine PySem.P.add_list e e2 ?_ (by rw [List.size_toArray, List.size_toArray]; omega)
  have ea : its.toArray ++ its2.toArray = (its ++ its2).toArray := by simp
  rw [ea]
  exact ⟨.ref _, _, I.lnew (t' := s.toks) (r.append r2) (by rw [List.length_append]; omega), rfl, q _ I.fresh⟩
/-! ### del xs[i] -/
end

/-! ### xs[a:b] = ys -/
section
variable {prog : Program} {w : World} {A : Around} {E : Value → Shared → Prop} {s : Shared}
end

section
variable {X : Cx}
end
end L2

namespace Att
open PySem PySem.W PySem.Calls PyProof.Rows

/-! ### the script -/
theorem ints_of_wellAll {P : Params} {h : Heap} : ∀ (ns : List Int) (vs : List Value), WellAll P h vs (ns.map WData.int) → IntsAre vs ns := by
  intro ns
  induction ns with
  | nil =>
    intro vs w
    rw [List.map_nil] at w
    cases w
    exact .nil
  | cons n ns ih =>
    intro vs w
    rw [List.map_cons] at w
    cases w with
    | cons a b =>
      cases a
      exact .cons _ _ (ih _ b)

theorem script_of {l : OpenLaw} {n : Nat} (hn : l.most = some n) {P : Params} {h : Heap} {args : List WData} {vals : List Value}
    (hpre : l.row.toRowW.claim.pre args = true) (hwl : WellAll P h vals args) :
    ∃ a vs ns, vals = [Value.ref a] ∧ args = [WData.list (ns.map WData.int)] ∧ h.get? a = some { cls := .type "list", data := .seq vs.toArray } ∧ IntsAre vs ns ∧ ns.length ≤ n := by
  have hsh : WShape.hasAll [] args [.list .int] = true := (pre_splitW hpre).1
  have hc : l.pre.holds [] { args := args } = true := (pre_splitW hpre).2
  obtain ⟨d, r, rfl, h1, h2⟩ := hasAllW_cons hsh
  obtain rfl := hasAllW_nil h2
  obtain ⟨xs, rfl, h3⟩ := hasW_list h1
  obtain ⟨ns, rfl⟩ := items_int h3
  have hlen : ns.length ≤ n := by
    unfold OpenLaw.pre at hc
    have h4 : (WTm.not (.lt (.lit (.int (n : Int))) (.len (.arg 0)))).holds [] { args := [.list (ns.map .int)] } = true := by
      have h4 := (holds_andW hc).1
      rw [hn] at h4
      exact h4
    have h5 := condW_of h4 (w_not (w_lt w_lit (w_len_list (w_arg rfl))))
    rw [List.length_map] at h5
    refine Nat.le_of_not_lt fun q => ?_
    have q' : (n : Int) < ((ns.length : Nat) : Int) := by omega
    first
      | (rw [decide_eq_true q'] at h5; exact absurd h5 (by decide))
      | (simp at h5; omega)
  cases hwl with
  | cons w1 w2 =>
    cases w2
    cases w1 with
    | list ho hall => exact ⟨_, _, ns, rfl, rfl, ho, ints_of_wellAll ns _ hall, hlen⟩

theorem post_true (l : OpenLaw) (args : List WData) : l.row.toRowW.claim.post args (.bool true) args = true :=
  postW_of (r := l.row.toRowW) (X := (true == true))
    (show WShape.has [] (.bool true) .bool = true by first | rfl | decide | simp [WShape.has, WShape.arms, WShape.armsAll])
    (show (WTm.eq .res (.lit (.bool true))).value [] { args := args, res := some (.bool true), after := args } = some (.bool (true == true)) from w_eq_bool (w_res rfl) w_lit) rfl

/-! ### the attachment: holds_open's last premise (the goal 'hc' behind k_head) from a wpAny of the law's body -/
/-- the same from a codeAny of the CALL (for a layer whose function contracts speak of calls) -/
theorem attach_call {l : OpenLaw} {n : Nat} {q : Program} {loose : List Str} {XP : (Str → Option Value) → Heap → Prop} {YP : World → Heap → Prop} {d : DefRec}
    (hn : l.most = some n) (hdf : d.params.defaults = [])
    (call : ∀ (w : World) (s₀ s₁ : Shared) (mg mb : Str → Option Value) (fa : Addr) (o : Obj) (pm cd doc : Value) (a : Addr) (vs : List Value) (ns : List Int),
      Ground q loose [] XP w s₀ mg mb s₁.heap → YP w s₁.heap →
      s₁.heap.get? fa = some o → o.data = .func (docDef d.name d.params d.body d.scope pm cd doc) → s₁.heap.CodeRec cd d.name → mg d.name = some (.ref fa) →
      s₁.heap.get? a = some { cls := .type "list", data := .seq vs.toArray } → IntsAre vs ns → ns.length ≤ n → s₁.gens = #[] →
      codeAny (model l.prog w) callerA (.call (.ref fa) ⟨[.ref a], []⟩) (fun r s' => r = .ok (.ret (.bool true)) ∧ OldK s₁.heap s'.heap ∧ s'.os = s₁.os ∧ AllBare s'.gens) s₁) :
    WalkO q loose XP YP l.row.toRowW d [] (fun f vs => PySem.call f vs) := by
  intro w s₀ s₁ mg mb G Y fa o pm cd doc dV kV ho hd hcd hD hmg hg args vals as hpre hlay hrd hwl hlo
  obtain rfl : dV = .none := Dflts.none hD hdf
  obtain rfl : kV = .none := Dflts.noKw hD
  obtain ⟨a, vs, ns, rfl, rfl, hobj, hints, hlen⟩ := script_of hn hpre hwl
  refine enter_call (codeAny_mono (call w s₀ s₁ mg mb fa o pm cd doc a vs ns G Y ho (fd_plain hd) hcd hmg hobj hints hlen hg) fun r s' hq => ?_)
  obtain ⟨rfl, h2, h3, h4⟩ := hq
  exact ⟨.inl ⟨.bool true, .bool true, [], rfl, fun _ => rfl, .bool true, post_true l _, fun _ => ⟨List.Pairwise.nil, fun _ hm => (nomatch hm)⟩⟩, h2, h3, h4⟩

/-! ### rules over ANY heap (no ledger) from facts about the written part K: the library's own take a ledger (News) for what they write -/
section
variable {prog : Program} {w : World} {A : Around} {E : Value → Shared → Prop} {s : Shared} {K : Frag}

/-! the whole heap as the ledger: makes every rule that writes through a ledger a rule over any heap -/
end
end Att

namespace L2
open PySem PySem.Spec PyProof.Rows

theorem vals_ints : ∀ {vs : List Value} {ns : List Int}, IntsAre vs ns → Vals (ns.map V.int) vs
  | _, _, .nil => .nil
  | _, _, .cons n t h => .cons ⟨t, rfl⟩ (vals_ints h)

/-- nothing is tracked but the script, known to the object (or it is an object of the module) -/
def Only (H : Hp) : Prop := ∀ b, H b = none ∨ ∃ o xs, H b = some (.frz o (.lst xs))

/-- THE HEAD: the law's promise, at the heap behind the top. F, the promise of the law's def, may use that base is part of the heap (so K.In base, base.Ns mainGlobals mg stand in Mod) -/
theorem law_call {P : Program} {w : World} {K : PySem.W.Frag} {mg mb : Str → Option Value} {CX : CXT} {k : Nat} {fa a : Addr} {fd : FuncData} {x : Str} {sp : Sp} {s₁ : Shared} {vs : List Value} {ns : List Int}
    (KX : K.In s₁.heap) (hns : s₁.heap.Ns mainGlobals mg) (hb : s₁.heap.Ns builtinsNs mb) (hbb : ∀ x : Str, x ≠ "__name__" → mb x = bootBuiltins x) (hlim : s₁.heap.NoLimit) (hg : s₁.gens = #[])
    (ha : s₁.heap.get? a = some { cls := .type "list", data := .seq vs.toArray }) (hi : IntsAre vs ns) (hl : ns.length ≤ sizeLine) (hr : Room k callerA)
    (F : ∀ base : Heap, K.In base → base.Ns mainGlobals mg → FnOk P w K mg base CX k fa fd [x] sp) (hbind : ∀ (s : Shared) (u : Value), BindsTo s fd ⟨[u], []⟩ [(x, u)])
    (hsp : ∀ H : Hp, Only H → SqL K H a (ns.map V.int) → sp [.ref a] H (fun v _ => v = .bl true) fun _ _ _ => False)
    (hCX : ∀ H e s', CX [] H s₁ (fun _ _ _ => False) e s' → False) :
    codeAny (model P w) callerA (.call (.ref fa) ⟨[.ref a], []⟩) (fun r s' => r = .ok (.ret (.bool true)) ∧ OldK s₁.heap s'.heap ∧ s'.os = s₁.os ∧ AllBare s'.gens) s₁ := by
  have rv := vals_ints hi
  have lenV := hi.length
  -- from an abstract heap in which nothing but the script may be tracked
  have core : ∀ H : Hp, Only H → SqL K H a (ns.map V.int) → HOk P w H s₁.heap → (∀ b, H b ≠ none → b = a) → (H a ≠ none → K.lookup a = none) →
      codeAny (model P w) callerA (.call (.ref fa) ⟨[.ref a], []⟩) (fun r s' => r = .ok (.ret (.bool true)) ∧ OldK s₁.heap s'.heap ∧ s'.os = s₁.os ∧ AllBare s'.gens) s₁ := by
    intro H hO hS hok hA hK
    have base_of : ∀ {b : Addr} {o : Obj}, s₁.heap.get? b = some o → H b = none → (hidT s₁.heap H).get? b = some o := fun e n => hidT_get e n
    have noA : ∀ {b : Addr} {o : Obj} {es : Array DictEntry} {ep : Nat}, s₁.heap.get? b = some o → o.data = .dict es ep → H b = none := fun {b o es ep} e d => by
      cases q : H b with
      | none => rfl
      | some u =>
        have e' : b = a := hA b (by rw [q]; simp)
        subst e'
        rw [ha] at e; cases e
        have d' : Data.seq vs.toArray _ = Data.dict es ep := d
        cases d'
    have nsK : ∀ {b : Addr} {m : Str → Option Value}, s₁.heap.Ns b m → (hidT s₁.heap H).Ns b m := fun {b m} ⟨o, es, ep, e, d, r⟩ => ⟨o, es, ep, base_of e (noA e d), d, r⟩
    have hKb : K.In (hidT s₁.heap H) := fun b o e => base_of (KX b o e) (by
      cases q : H b with
      | none => rfl
      | some u =>
        have e' : b = a := hA b (by rw [q]; simp)
        subst e'
        rw [hK (by rw [q]; simp)] at e; cases e)
    have hM : Mod K mg (hidT s₁.heap H) := ⟨hKb, nsK hns, ⟨mb, nsK hb, hbb⟩, let ⟨mc, h1, h2⟩ := hlim; ⟨mc, nsK h1, h2⟩⟩
    have e0 : Env0 P w K mg (hidT s₁.heap H) callerA [] s₁ H := ⟨rfl, hM, fun b o e => of_hidT e, Nat.le_of_eq (hidT_size _ _), trivial, fun b hb => absurd (show b ∈ ([] : List Addr) from hb) (by simp), hok, .of_eq hg⟩
    refine codeAny_mono ((F _ hKb (nsK hns)).run callerA [] s₁ H ⟨[.ref a], []⟩ [.ref a] [.ref a] _ _ hr e0 (hbind s₁ (.ref a)) (.cons rfl .nil) (hsp H hO hS)) fun r s' h => ?_
    cases r with
    | error e => exact (hCX H e s' h).elim
    | ok fl =>
      cases fl with
      | next => exact False.elim h
      | brk => exact False.elim h
      | cont => exact False.elim h
      | ret u =>
        obtain ⟨v, H', os, bare, un, hok', r', q⟩ := h
        have q' : v = .bl true := q
        subst q'
        obtain rfl : u = Value.bool true := r'
        refine ⟨rfl, OldK.of_keep fun b o e => ?_, os, bare⟩
        cases q : H b with
        | none => exact un.keep b o e q (by intro z; exact absurd (show b ∈ ([] : List Addr) from z) (by simp)) (by simp)
        | some u =>
          rcases hO b with z | ⟨ob, xs, z⟩
          · rw [q] at z; cases z
          · have z2 := un.frzs b ob _ z
            obtain ⟨e1, _⟩ := hok b _ z
            obtain ⟨e2, _⟩ := hok' b _ z2
            rw [e] at e1; cases e1
            exact e2
  cases hk : K.lookup a with
  | some o =>
    -- the script is one of the module's own objects
    have e := KX a o hk
    rw [ha] at e
    cases e
    refine core (fun _ => none) (fun _ => .inl rfl) (.inr ⟨_, vs.toArray, _, hk, rfl, rfl, rfl, by rw [List.size_toArray, lenV]; exact hl, by simpa using rv⟩) (fun b u z => by have z' : (none : Option HO) = some u := z; cases z') (fun b z => absurd rfl z) fun z => absurd rfl z
  | none =>
    refine core (fun b => if b = a then some (.frz { cls := .type "list", data := .seq vs.toArray } (.lst (ns.map V.int))) else none) (fun b => ?_) (.inl (.inr ⟨{ cls := .type "list", data := .seq vs.toArray }, if_pos rfl⟩)) (fun b u z => ?_) (fun b z => ?_) fun _ => hk
    · by_cases hb : b = a
      · exact .inr ⟨_, _, if_pos hb⟩
      · exact .inl (if_neg hb)
    · by_cases hb : b = a
      · have z' := (if_pos hb).symm.trans z
        cases z'
        subst hb
        exact ⟨ha, by rw [List.length_map]; exact hl, vs, _, rv, ha⟩
      · have z' := (if_neg hb).symm.trans z
        cases z'
    · by_cases hb : b = a
      · exact hb
      · exact absurd (if_neg hb) z
end L2

namespace L2
open PySem PySem.Spec PyProof.Rows

abbrev KOf {K : PySem.W.Frag} {h : Heap} (_ : K.In h) : PySem.W.Frag := K

/-- the goal that k_head leaves (case hc), from the law's promise. F gives the function object fd (K's own) once, then the promise over every base -/
theorem walk_of {l : PySem.W.OpenLaw} {n k : Nat} {q : Program} {loose : List Str} {XP : (Str → Option Value) → Heap → Prop} {YP : World → Heap → Prop} {d : DefRec} {K : Params → PySem.W.Frag} {CX : World → CXT} {sp : World → Sp} {x : Str}
    (hn : l.most = some n) (hn2 : n ≤ sizeLine) (hdf : d.params.defaults = []) (hr : Room k callerA)
    (hY : ∀ (w : World) (h : Heap), YP w h → (K w.params).In h)
    (F : ∀ (w : World) (mg : Str → Option Value) (fa : Addr) (h : Heap), (K w.params).In h → h.Ns mainGlobals mg → mg d.name = some (.ref fa) →
      ∃ fd : FuncData, (∀ (s : Shared) (u : Value), BindsTo s fd ⟨[u], []⟩ [(x, u)]) ∧
        ∀ base : Heap, (K w.params).In base → base.Ns mainGlobals mg → FnOk l.prog w (K w.params) mg base (CX w) k fa fd [x] (sp w))
    (hsp : ∀ (w : World) (H : Hp) (a : Addr) (ns : List Int), ns.length ≤ n → Only H → SqL (K w.params) H a (ns.map V.int) → sp w [.ref a] H (fun v _ => v = .bl true) fun _ _ _ => False)
    (hCX : ∀ (w : World) (H : Hp) (s : Shared) (e : Value) (s' : Shared), CX w [] H s (fun _ _ _ => False) e s' → False) :
    PySem.W.WalkO q loose XP YP l.row.toRowW d [] (fun f vs => PySem.call f vs) := by
  refine Att.attach_call hn hdf fun w s₀ s₁ mg mb fa o pm cd doc a vs ns G Y ho hd hcd hmg hobj hints hlen hg => ?_
  have KX := hY w _ Y
  obtain ⟨fd, hb, hF⟩ := F w mg fa _ KX G.T.g hmg
  exact law_call KX G.T.g G.T.b G.T.builtins G.T.nolimit hg hobj hints (Nat.le_trans hlen hn2) hr hF hb (fun H hO hS => hsp w H a ns hlen hO hS) fun H e s' => hCX w H s₁ e s'
end L2



/-! SHORT WORDS over the layer: a def of the text, its body, what a loop and a test want. -/
namespace L2
open PySem PySem.Spec PyProof.Rows

/-! ### the text by places -/
def defArgs (s : Stmt) : Arguments := match s with
  | .FunctionDef _ a _ _ _ _ _ _ _ _ => a
  | _ => { posonlyargs := [], args := [], vararg := none, kwonlyargs := [], kw_defaults := [], kwarg := none, defaults := [] }
def defBody (s : Stmt) : List Stmt := match s with
  | .FunctionDef _ _ b _ _ _ _ _ _ _ => b
  | _ => []
def defScope (s : Stmt) : Scope := match s with
  | .FunctionDef _ _ _ _ _ _ sc _ _ _ => sc
  | _ => { kind := .function, names := [], isGenerator := false, isCoroutine := false }

/-! ### no exception leaves a def -/
abbrev CX0 : CXT := fun _ _ _ _ _ _ => False
abbrev E0 : XK := fun _ _ _ => False
theorem pass0 {X : Cx} : Passes CX0 X E0 := fun _ _ _ _ _ _ _ h => h.elim

/-! ### a def (or method) of the text as it stands behind the top -/
structure Fun (K : PySem.W.Frag) (x qual : Str) (st : Stmt) (f : Addr) (fd : FuncData) : Prop where
  ex : ∃ (oc : Value) (od : Option Addr) (kV doc pm : Value) (an : Option Addr) (cdv ct : Value) (osl : Array (Option Value)),
    fd = PySem.W.fnOf x qual (defArgs st) (defBody st) (defScope st) .none kV doc pm an cdv ct ∧ K.lookup f = some ⟨oc, od, .func fd, osl⟩ ∧ PySem.W.codeIn K cdv qual = true
  kp : PySem.W.keepIn K (.ref f) = true
section
variable {P : Program} {w : World} {K : PySem.W.Frag} {mg : Str → Option Value} {base : Heap}
/-- THE RULE for a def: its body as a term of rules, and the reading of that term -/
theorem Fun.ok {x qual : Str} {st : Stmt} {f : Addr} {fd : FuncData} {N ps : List Str} {k : Nat} {sp : Sp} (F : Fun K x qual st f fd) (S : FnScope N ps (defScope st)) (len : ∀ vs H Q E, sp vs H Q E → vs.length = ps.length)
    (hbody : ∀ (cdv : Value) (A : Around) (outer : List Env) (s : Shared) (H : Hp) (vs : List V) (Q : VK) (E : XK), Room k (A.deeper (envOfC qual (defScope st) s.heap.objs.size f cdv)) → sp vs H Q E →
      ∃ t, PSs (cxOf CX0 P w K mg base N qual (defScope st) f cdv A outer s H E).nox (defBody st) t ∧ t { nx := fun _ H' => Q .non H', rt := Q } (start N vs) H) : FnOk P w K mg base CX0 (k + 1) f fd ps sp := by
  obtain ⟨oc, od, kV, doc, pm, an, cdv, ct, osl, rfl, lk, hcd⟩ := F.ex
  refine fn_of lk hcd S len fun A outer s H vs Q E hr hsp => ?_
  obtain ⟨t, h, q⟩ := hbody cdv A outer s H vs Q E hr hsp
  exact ⟨t, h.nox, q⟩
/-- how its arguments bind (no defaults): h is «fun _ _ _ _ _ _ us hl => match us, hl with | [_, _], _ => rfl», one _ a parameter -/
theorem Fun.binds {x qual : Str} {st : Stmt} {f : Addr} {fd : FuncData} {ps : List Str} (F : Fun K x qual st f fd)
    (h : ∀ (kV doc pm : Value) (an : Option Addr) (cdv ct : Value) (us : List Value), us.length = ps.length → bindArgs (PySem.W.fnOf x qual (defArgs st) (defBody st) (defScope st) .none kV doc pm an cdv ct) ⟨us, []⟩ = pure (ps.zip us)) : Binds K fd ps [] := by
  obtain ⟨oc, od, kV, doc, pm, an, cdv, ct, osl, rfl, lk, hcd⟩ := F.ex
  exact .all (h kV doc pm an cdv ct)
theorem fun_mk {x qual : Str} {st : Stmt} {f : Addr} {oc : Value} {od an : Option Addr} {osl : Array (Option Value)} {kV doc pm cdv ct : Value} (l : K.lookup f = some ⟨oc, od, .func (PySem.W.fnOf x qual (defArgs st) (defBody st) (defScope st) .none kV doc pm an cdv ct), osl⟩)
    (c : PySem.W.codeIn K cdv qual = true) (k : PySem.W.keepIn K (.ref f) = true) : Fun K x qual st f (PySem.W.fnOf x qual (defArgs st) (defBody st) (defScope st) .none kV doc pm an cdv ct) := ⟨⟨oc, od, kV, doc, pm, an, cdv, ct, osl, rfl, l, c⟩, k⟩
end
theorem hu_of {A : Around} {k : Nat} (hr : Room k A) : A.units + 1 < cLine := Nat.lt_of_le_of_lt (Nat.add_le_add_left (by decide : 1 ≤ 64) _) hr.units
/-! ### expressions in short: the name that stands in the i-th slot -/
section
variable {X : Cx}
theorem pv (i : Nat) {x : Str} {pos : Pos} (hN : X.N[i]? = some x := by rfl) (hv : Vis X.env.scope x := by first | exact Or.inl rfl | exact Or.inr (Or.inl rfl) | exact Or.inr (Or.inr rfl)) (hd : (x == ("__debug__" : Str)) = false := by decide)
    (hcd : (x == ("__classdict__" : Str)) = false := by decide) : PE X (.Name x pos) (tVar i) := pe_var hN hv hd hcd
end

/-! ### tests -/
theorem iteF {A B : Prop} (h : B) : if false = true then A else B := by
  rw [if_neg Bool.false_ne_true]
  exact h
theorem iteT {A B : Prop} (h : A) : if true = true then A else B := by
  rw [if_pos rfl]
  exact h
theorem ite2 {c A B : Prop} [Decidable c] (h1 : c → A) (h2 : ¬ c → B) : if c then A else B := by
  by_cases h : c
  · rw [if_pos h]
    exact h1 h
  · rw [if_neg h]
    exact h2 h
/-! ### heaps -/
/-- all that was tracked is as it was -/
def Same (H H' : Hp) : Prop := ∀ b o, H b = some o → H' b = some o
theorem Same.refl (H : Hp) : Same H H := fun _ _ h => h
theorem Same.trans {H H1 H2 : Hp} (a : Same H H1) (b : Same H1 H2) : Same H H2 := fun c o h => b c o (a c o h)
theorem Same.free {H H' : Hp} (e : Same H H') {l : Addr} (h : H' l = Option.none) : H l = Option.none := by
  cases q : H l with
  | none => rfl
  | some o =>
    rw [e l o q] at h
    cases h
theorem Same.seq {K : PySem.W.Frag} {H H' : Hp} {a : Addr} {xs : List V} (e : Same H H') (h : SqL K H a xs) : SqL K H' a xs := by
  rcases h with (h | ⟨o, h⟩) | h
  · exact .inl (.inl (e _ _ h))
  · exact .inl (.inr ⟨o, e _ _ h⟩)
  · exact .inr h

end L2
namespace L2
open PySem PySem.Spec PyProof.Rows

/-! ### lists of pairs as tables -/
section
variable {κ : Type} [DecidableEq κ]
end


/-! ### a tracked dict, its keys ints and texts or tuples of these -/
theorem kV_is {P : Program} {w : World} {k : Key} {u : Value} (r : RelV (kV k) u) : (mixKind P w).is k u = true := by
  cases k with
  | inl i => obtain ⟨t, e⟩ := (show ∃ t, u = Value.int i t from r); subst e; exact mixKind_int P w i t
  | inr x => obtain ⟨t, e⟩ := (show ∃ t, u = Value.str x t from r); subst e; exact mixKind_str P w x t
theorem items_are {P : Program} {w : World} : ∀ {ks : List Key} {us : List Value}, Vals (ks.map kV) us → ItemsAre (mixKind P w) ks us
  | [], _, r => by rw [List.map_nil] at r; cases r; exact .nil
  | k :: ks, _, r => by
    rw [List.map_cons] at r
    cases r with
    | cons h t => exact .cons (kV_is h) (items_are t)

/-- raw entries of a dict with tuple keys -/
abbrev KT (H : Hp) : List (List Key × V) → List (List Key × Addr × Value) → Prop := Paired fun p q => p.1 = q.1 ∧ H q.2.1 = some (.tup (p.1.map kV)) ∧ RelV p.2 q.2.2
section
variable {P : Program} {w : World} {H : Hp} {h : Heap} {a : Addr}
end

section
variable {X : Cx} {pins : List (Addr × Obj)} {σ : St} {H : Hp} {s : Shared} {a : Addr} {y v : V} {u r : Value} {o : Option V} {A : Around} {E : Value → Shared → Prop}

end

section
variable {X : Cx} {pins : List (Addr × Obj)} {σ : St} {H : Hp} {s : Shared} {a : Addr} {kvs : List (Key × V)} {k : Key} {u : Value} {A : Around} {E : Value → Shared → Prop}
end


/-! ### readings and rules -/
section
variable {X : Cx} {o i e value : Expr} {pos pos' tpos : Pos} {td ty tv : TE}
end


/-! ### displays -/
section
variable {X : Cx} {pos : Pos}
end

abbrev VV : List (V × V) → List (Value × Value) → Prop := Paired fun p q => RelV p.1 q.1 ∧ RelV p.2 q.2
/-! ### methods -/
section
variable {X : Cx} {pins : List (Addr × Obj)} {σ : St} {H : Hp} {s : Shared} {a : Addr} {y d : V} {u r : Value} {o : Option V} {A : Around} {E : Value → Shared → Prop}
end

section
variable {X : Cx} {o e f : Expr} {apos cpos : Pos} {td ty tx : TE}
end

/-! ### dict(d): a copy -/
section
variable {X : Cx} {pins : List (Addr × Obj)} {σ : St} {H : Hp} {s : Shared} {a : Addr} {kvs : List (Key × V)} {A : Around} {E : Value → Shared → Prop}
end


section
variable {X : Cx} {pins : List (Addr × Obj)} {σ : St} {H : Hp} {s : Shared} {a : Addr} {y : V} {u : Value} {A : Around} {E : Value → Shared → Prop}
end
end L2
namespace TL
open PySem

theorem forIn_pure {α β : Type} {f : α → β → Sem (ForInStep β)} (P : List α → β → Prop)
    (step : ∀ x l c, P (x :: l) c → ∃ c', f x c = pure (.yield c') ∧ P l c') : ∀ (l : List α) (c : β), P l c → ∃ c', forIn l c f = pure c' ∧ P [] c'
  | [], c, h => ⟨c, rfl, h⟩
  | x :: l, c, h => by
    obtain ⟨c1, e, h1⟩ := step x l c h
    obtain ⟨c2, e2, h2⟩ := forIn_pure P step l c1 h1
    refine ⟨c2, ?_, h2⟩
    rw [List.forIn_cons, e, pure_bind]
    exact e2

theorem closure_ok {scope : Scope} {env : Env} (h : ∀ y ∈ scope.names, y.2 = .free → ∃ c, env.cells.lookup y.1 = some c) :
    ∃ cl, closureFor scope env = pure cl ∧ (∀ x c, cl.lookup x = some c → env.cells.lookup x = some c) ∧ (∀ y ∈ scope.names, y.2 = .free → ∃ c, cl.lookup y.1 = some c) := by
  let P : List (Str × NameKind) → List (Str × Addr) → Prop := fun l c => (∀ y ∈ l, y.2 = .free → ∃ c, env.cells.lookup y.1 = some c) ∧ (∀ x a, c.lookup x = some a → env.cells.lookup x = some a) ∧
    (∀ y ∈ scope.names, y.2 = .free → y ∈ l ∨ ∃ a, c.lookup y.1 = some a)
  simp only [closureFor]
  obtain ⟨cl, e, _, h2, h3⟩ := forIn_pure (f := fun (x : Str × NameKind) (r : List (Str × Addr)) => if (x.2 == NameKind.free) = true then cellOf env x.1 >>= fun c => pure (ForInStep.yield ((x.1, c) :: r)) else pure (ForInStep.yield r)) P (by
    rintro ⟨n, k⟩ l c ⟨p1, p2, p3⟩
    by_cases hk : k = .free
    · subst hk
      obtain ⟨a, ha⟩ := p1 _ List.mem_cons_self rfl
      refine ⟨(n, a) :: c, ?_, fun y hy => p1 y (List.mem_cons_of_mem _ hy), fun x b hb => ?_, fun y hy hf => ?_⟩
      · have ha' : env.cells.lookup n = some a := ha
        simp [cellOf, ha']
      · rw [List.lookup_cons] at hb
        by_cases hx : (x == n) = true
        · rw [hx] at hb
          have e1 : x = n := by simpa using hx
          subst e1
          cases hb
          exact ha
        · have hx' : (x == n) = false := by simpa using hx
          rw [hx'] at hb
          exact p2 x b hb
      · by_cases hx : (y.1 == n) = true
        · exact .inr ⟨a, by rw [List.lookup_cons, hx]⟩
        · have hx' : (y.1 == n) = false := by simpa using hx
          rcases p3 y hy hf with q | ⟨b, q⟩
          · rcases List.mem_cons.mp q with q | q
            · exact absurd (by rw [q]; simp) hx
            · exact .inl q
          · exact .inr ⟨b, by rw [List.lookup_cons, hx']; exact q⟩
    · refine ⟨c, ?_, fun y hy => p1 y (List.mem_cons_of_mem _ hy), p2, fun y hy hf => ?_⟩
      · have : (k == NameKind.free) = false := by simpa using hk
        simp [this]
      · rcases p3 y hy hf with q | q
        · rcases List.mem_cons.mp q with q | q
          · subst q; exact absurd hf hk
          · exact .inl q
        · exact .inr q) scope.names [] ⟨h, fun x a hx => by simp at hx, fun y hy _ => .inl hy⟩
  refine ⟨cl, ?_, h2, fun y hy hf => ?_⟩
  · refine Eq.trans ?_ (congrArg (fun t : Sem (List (Str × Addr)) => t >>= fun r => pure r) e)
    rfl
  · rcases h3 y hy hf with q | q
    · cases q
    · exact q

theorem lookup_relabel_free {env : Env} : ∀ {names : List (Str × NameKind)} {x : Str}, names.lookup x = some .free →
    (names.map fun (n, k) => if (k == NameKind.free && env.scope.kind == .function && env.kindOf n == some .cell) then (n, NameKind.cell) else (n, k)).lookup x = some .cell ∨
    (names.map fun (n, k) => if (k == NameKind.free && env.scope.kind == .function && env.kindOf n == some .cell) then (n, NameKind.cell) else (n, k)).lookup x = some .free
  | [], _, h => by simp at h
  | (n, k) :: r, x, h => by
    have ih := @lookup_relabel_free env r x
    show List.lookup x ((if (k == NameKind.free && env.scope.kind == .function && env.kindOf n == some .cell) = true then (n, NameKind.cell) else (n, k)) :: _) = _ ∨ List.lookup x ((if (k == NameKind.free && env.scope.kind == .function && env.kindOf n == some .cell) = true then (n, NameKind.cell) else (n, k)) :: _) = _
    cases hx : x == n with
    | true =>
      simp only [List.lookup_cons, hx] at h
      cases h
      by_cases hc : (NameKind.free == NameKind.free && env.scope.kind == .function && env.kindOf n == some .cell) = true
      · rw [if_pos hc]; left; simp [List.lookup_cons, hx]
      · rw [if_neg hc]; right; simp [List.lookup_cons, hx]
    | false =>
      simp only [List.lookup_cons, hx] at h
      by_cases hc : (k == NameKind.free && env.scope.kind == .function && env.kindOf n == some .cell) = true
      · rw [if_pos hc]; simp only [List.lookup_cons, hx]; exact ih h
      · rw [if_neg hc]; simp only [List.lookup_cons, hx]; exact ih h
/-- what is no local, global of the relabelled names was free -/
theorem relabel_cell_or_free {env : Env} : ∀ {names : List (Str × NameKind)} {x : Str}, (∀ y ∈ names, y.2 ≠ .cell) →
    ((names.map fun (n, k) => if (k == NameKind.free && env.scope.kind == .function && env.kindOf n == some .cell) then (n, NameKind.cell) else (n, k)).lookup x = some .cell ∨
    (names.map fun (n, k) => if (k == NameKind.free && env.scope.kind == .function && env.kindOf n == some .cell) then (n, NameKind.cell) else (n, k)).lookup x = some .free) → ∃ y ∈ names, y.1 = x ∧ y.2 = .free
  | [], _, _, h => by simp at h
  | (n, k) :: r, x, hn, h => by
    have ih := @relabel_cell_or_free env r x (fun y hy => hn y (List.mem_cons_of_mem _ hy))
    change List.lookup x ((if (k == NameKind.free && env.scope.kind == .function && env.kindOf n == some .cell) = true then (n, NameKind.cell) else (n, k)) :: _) = _ ∨ List.lookup x ((if (k == NameKind.free && env.scope.kind == .function && env.kindOf n == some .cell) = true then (n, NameKind.cell) else (n, k)) :: _) = _ at h
    cases hx : x == n with
    | true =>
      have e : x = n := by simpa using hx
      by_cases hc : (k == NameKind.free && env.scope.kind == .function && env.kindOf n == some .cell) = true
      · have hk : k = .free := by
          simp only [Bool.and_eq_true, beq_iff_eq] at hc
          exact hc.1.1
        exact ⟨(n, k), List.mem_cons_self, e.symm, hk⟩
      · rw [if_neg hc] at h
        simp only [List.lookup_cons, hx] at h
        rcases h with h | h
        · exact absurd (Option.some.inj h) (hn (n, k) List.mem_cons_self)
        · exact ⟨(n, k), List.mem_cons_self, e.symm, Option.some.inj h⟩
    | false =>
      have h' : (r.map fun (n, k) => if (k == NameKind.free && env.scope.kind == .function && env.kindOf n == some .cell) then (n, NameKind.cell) else (n, k)).lookup x = some .cell ∨
          (r.map fun (n, k) => if (k == NameKind.free && env.scope.kind == .function && env.kindOf n == some .cell) then (n, NameKind.cell) else (n, k)).lookup x = some .free := by
        by_cases hc : (k == NameKind.free && env.scope.kind == .function && env.kindOf n == some .cell) = true
        · rw [if_pos hc] at h; simpa only [List.lookup_cons, hx] using h
        · rw [if_neg hc] at h; simpa only [List.lookup_cons, hx] using h
      obtain ⟨y, hy, e⟩ := ih h'
      exact ⟨y, List.mem_cons_of_mem _ hy, e⟩
end TL
namespace TL
open PySem
section
variable {prog : Program} {w : World} {A : Around} {R : Result → Shared → Prop} {s : Shared}
abbrev testsOf (ifs : List Expr) (env : Env) : Sem Bool := forIn ifs true fun c r => if r = true then do let ok ← isTrue c env (eval c env); pure (ForInStep.yield ok) else pure (ForInStep.yield r)
theorem compLoop_go {elt target iter : Expr} {ifs : List Expr} {scope : Scope} {pos : Pos} {it acc : Value} {env : Env} (I : Nat → Shared → Prop)
    (turn : ∀ n s, I n s → wpAny (model prog w) A (pyNext it) (fun r s₁ => match r with
      | none => R (.ok .next) s₁
      | some v => wpAny (model prog w) A (letOwnedTupleGo target it v) (fun _ s₀ => wpAny (model prog w) A (assign target env v) (fun _ s₂ =>
          wpAny (model prog w) A (testsOf ifs env) (fun ok s₃ =>
            if ok = true then wpAny (model prog w) A (eval elt env) (fun x s₄ =>
              wpAny (model prog w) A (call (.builtin "list.append") [acc, x]) (fun _ s₅ => ∃ m, m < n ∧ I m s₅) (fun _ _ => False) s₄) (fun _ _ => False) s₃
            else ∃ m, m < n ∧ I m s₃) (fun _ _ => False) s₂) (fun _ _ => False) s₀) (fun _ _ => False) s₁) (fun _ _ => False) s)
    (n : Nat) (h : I n s) :
    codeAny (model prog w) A (.compLoop (.ListComp elt [⟨target, iter, ifs, 0⟩] scope pos) 0 it acc env) R s := by
  refine codeAny_loop rfl I (fun n s hI => ?_) n h
  show wpAny _ A ((compTurn (.ListComp elt [⟨target, iter, ifs, 0⟩] scope pos) 0 it acc env).onRaise (fun x => do noteFrame x env; theTreesLotGoes x)) _ _ s
  refine wpAny_noted ?_
  rw [compTurn_list]
  refine wpAny_bind (wpAny_standAt (wpAny_bind (wpAny_mono (turn n s hI) (fun r s₁ h₁ => ?_) fun _ _ h' => h'.elim)))
  cases r with
  | none => exact wpAny_pure h₁
  | some v =>
    refine wpAny_bind (wpAny_mono h₁ (fun _ s₀ h₀ => ?_) fun _ _ h' => h'.elim)
    refine wpAny_bind (wpAny_mono h₀ (fun _ s₂ h₂ => wpAny_bind (wpAny_mono h₂ (fun ok s₃ h₃ => ?_) fun _ _ h' => h'.elim)) fun _ _ h' => h'.elim)
    cases ok with
    | false => exact wpAny_pure ⟨rfl, h₃⟩
    | true =>
      exact wpAny_bind (wpAny_bind (wpAny_mono h₃ (fun x s₄ h₄ => wpAny_bind (wpAny_mono h₄ (fun _ s₅ h₅ => wpAny_pure (wpAny_pure ⟨rfl, h₅⟩)) fun _ _ h' => h'.elim)) fun _ _ h' => h'.elim))

theorem compTurn_set (elt target iter : Expr) (ifs : List Expr) (scope : Scope) (pos : Pos) (it acc : Value) (env : Env) :
    compTurn (.SetComp elt [⟨target, iter, ifs, 0⟩] scope pos) 0 it acc env = (do
      standAt iter.pos
      match ← pyNext it with
      | none => pure (.done .next)
      | some v =>
        letOwnedTupleGo target it v
        assign target env v
        let mut ok := true
        for c in ifs do
          if ok then ok ← isTrue c env (eval c env)
        if ok then
          (do let v ← eval elt env; standAt elt.pos; let _ ← call (.builtin "set.add") [acc, v])
        again (.compLoop (.SetComp elt [⟨target, iter, ifs, 0⟩] scope pos) 0 it acc env)) := by rfl
theorem compLoop_goS {elt target iter : Expr} {ifs : List Expr} {scope : Scope} {pos : Pos} {it acc : Value} {env : Env} (I : Nat → Shared → Prop)
    (turn : ∀ n s, I n s → wpAny (model prog w) A (pyNext it) (fun r s₁ => match r with
      | none => R (.ok .next) s₁
      | some v => wpAny (model prog w) A (letOwnedTupleGo target it v) (fun _ s₀ => wpAny (model prog w) A (assign target env v) (fun _ s₂ =>
          wpAny (model prog w) A (testsOf ifs env) (fun ok s₃ =>
            if ok = true then wpAny (model prog w) A (eval elt env) (fun x s₄ =>
              wpAny (model prog w) A (call (.builtin "set.add") [acc, x]) (fun _ s₅ => ∃ m, m < n ∧ I m s₅) (fun _ _ => False) s₄) (fun _ _ => False) s₃
            else ∃ m, m < n ∧ I m s₃) (fun _ _ => False) s₂) (fun _ _ => False) s₀) (fun _ _ => False) s₁) (fun _ _ => False) s)
    (n : Nat) (h : I n s) :
    codeAny (model prog w) A (.compLoop (.SetComp elt [⟨target, iter, ifs, 0⟩] scope pos) 0 it acc env) R s := by
  refine codeAny_loop rfl I (fun n s hI => ?_) n h
  show wpAny _ A ((compTurn (.SetComp elt [⟨target, iter, ifs, 0⟩] scope pos) 0 it acc env).onRaise (fun x => do noteFrame x env; theTreesLotGoes x)) _ _ s
  refine wpAny_noted ?_
  rw [compTurn_set]
  refine wpAny_bind (wpAny_standAt (wpAny_bind (wpAny_mono (turn n s hI) (fun r s₁ h₁ => ?_) fun _ _ h' => h'.elim)))
  cases r with
  | none => exact wpAny_pure h₁
  | some v =>
    refine wpAny_bind (wpAny_mono h₁ (fun _ s₀ h₀ => ?_) fun _ _ h' => h'.elim)
    refine wpAny_bind (wpAny_mono h₀ (fun _ s₂ h₂ => wpAny_bind (wpAny_mono h₂ (fun ok s₃ h₃ => ?_) fun _ _ h' => h'.elim)) fun _ _ h' => h'.elim)
    cases ok with
    | false => exact wpAny_pure ⟨rfl, h₃⟩
    | true =>
      exact wpAny_bind (wpAny_bind (wpAny_mono h₃ (fun x s₄ h₄ => wpAny_bind (wpAny_standAt (wpAny_bind (wpAny_mono h₄ (fun _ s₅ h₅ => wpAny_pure (wpAny_pure ⟨rfl, h₅⟩)) fun _ _ h' => h'.elim)))) fun _ _ h' => h'.elim))

theorem compStart_set {elt target iter ifs rest scope pos it acc env}
    (h0 : codeAny (model prog w) A (.compLoop (.SetComp elt (⟨target, iter, ifs, 0⟩ :: rest) scope pos) 0 it acc env) R s)
    (h : wpAny (model prog w) A (pyIter it) (fun it' s' => codeAny (model prog w) A (.compLoop (.SetComp elt (⟨target, iter, ifs, 0⟩ :: rest) scope pos) 0 it' acc env) R s')
      (notedBy (model prog w) A env fun x s' => R (.error x) s') s) :
    codeAny (model prog w) A (.compStart (.SetComp elt (⟨target, iter, ifs, 0⟩ :: rest) scope pos) 0 it acc env) R s := by
  refine codeAny_of_tree ?_
  show wpAny _ _ ((compStart (.SetComp elt (⟨target, iter, ifs, 0⟩ :: rest) scope pos) 0 it acc env).onRaise (fun x => do noteFrame x env; standAt theWindowsPlace)) _ _ s
  refine wpAny_notedAt ?_
  unfold compStart
  show wpAny _ _ (ask >>= _) _ _ s
  refine wpAny_bind (wpAny_askSetting (wpAny_ite ?_))
  split
  · first
      | exact wpAny_bind (wpAny_pure (wpAny_pure (And.intro rfl h0)))
      | exact wpAny_pure (And.intro rfl h0)
  · first
      | exact wpAny_bind (wpAny_rule (wpAny_bind (wpAny_standAt (wpAny_bind (wpAny_mono h (fun it' s' h' => wpAny_pure (And.intro rfl h')) fun _ _ x => x)))))
      | (refine wpAny_bind (wpAny_rule ?_); show wpAny _ _ (standAt iter.pos >>= _) _ _ s; exact wpAny_bind (wpAny_standAt (wpAny_bind (wpAny_mono h (fun it' s' h' => wpAny_pure (And.intro rfl h')) fun _ _ x => x))))
end
end TL
namespace TL
open PySem PyProof.Rows
def oth (e : Int) : Int := e + 1 - 2 * (e % 2)
theorem xor_one (x : Int) : Builtin.bitXor x 1 = oth x := by
  rw [bitXor_and, bitAnd_m1]; unfold oth; omega
theorem oth_oth (e : Int) : oth (oth e) = e := by unfold oth; omega
theorem oth_half (e : Int) : oth e / 2 = e / 2 := by unfold oth; omega
end TL
set_option Elab.async false
set_option linter.all false
set_option maxRecDepth 100000
set_option maxHeartbeats 4000000
namespace TL
open PySem PySem.Spec PyProof.Rows L2
abbrev St := L2.St

/-! ### a comprehension's block -/
def cxComp (X : Cx) (scope : Scope) (cl : List (Str × Addr)) (N : List Str) (fp : List Addr) (s3 : Shared) (H3 : Hp) : Cx where
  prog := X.prog
  w := X.w
  K := X.K
  mg := X.mg
  base := X.base
  A := X.A
  N := N
  s₀ := s3
  H₀ := H3
  env := compEnvC scope cl s3.heap.objs.size X.env
  outer := X.stack
  stack := X.stack
  ex := fp
  fn := fun _ => false
  calm := X.calm
  pn := []
  xe := fun _ _ => False

def capOk (NX : List Str) (scope : Scope) (N : List Str) (cap : List (Option Nat)) : Bool :=
  (N.zip cap).all fun p => match p.2 with
    | none => true
    | some j => decide (NX[j]? = some p.1) && decide (scope.names.lookup p.1 = some .free)
/-- closed facts about a comprehension's scope: its own names stand first (own of them), then the captured ones -/
structure CompOk (scX : Scope) (NX : List Str) (scope : Scope) (N : List Str) (own : Nat) (cap : List (Option Nat)) : Prop where
  kind : scope.kind = .function
  nocell : ∀ y ∈ scope.names, y.2 ≠ .cell
  loc : ∀ y ∈ scope.names, y.2 = .local → scope.names.lookup y.1 = some .local
  fre : ∀ y ∈ scope.names, y.2 = .free → scX.names.lookup y.1 = some .cell ∨ scX.names.lookup y.1 = some .free
  len : cap.length = N.length
  capd : capOk NX scope N cap = true
  ownd : (cap.take own).all (·.isNone) = true
  nd : N.Nodup

def capSt (cap : List (Option Nat)) (σ : St) : St := cap.map fun o => o.bind fun j => (σ[j]?).bind id
theorem capSt_len {cap : List (Option Nat)} {σ : St} : (capSt cap σ).length = cap.length := by simp [capSt]
theorem capSt_get {cap : List (Option Nat)} {σ : St} {i : Nat} {v : V} (h : (capSt cap σ)[i]? = some (some v)) : ∃ j, cap[i]? = some (some j) ∧ σ[j]? = some (some v) := by
  unfold capSt at h
  rw [List.getElem?_map] at h
  cases e : cap[i]? with
  | none => rw [e] at h; cases h
  | some o =>
    rw [e] at h
    cases o with
    | none => cases h
    | some j =>
      refine ⟨j, rfl, ?_⟩
      have h' : (σ[j]?).bind id = some v := by simpa using h
      cases q : σ[j]? with
      | none => rw [q] at h'; cases h'
      | some z => rw [q] at h'; exact congrArg some h'
theorem CompOk.at {scX : Scope} {NX : List Str} {scope : Scope} {N : List Str} {own : Nat} {cap : List (Option Nat)} (C : CompOk scX NX scope N own cap) {i j : Nat} {x : Str} (h1 : N[i]? = some x) (h2 : cap[i]? = some (some j)) :
    NX[j]? = some x ∧ scope.names.lookup x = some .free := by
  have h := C.capd
  unfold capOk at h
  have hm : (x, some j) ∈ N.zip cap := by
    refine List.mem_iff_getElem?.mpr ⟨i, ?_⟩
    rw [List.getElem?_zip_eq_some]
    exact ⟨h1, h2⟩
  have := List.all_eq_true.mp h _ hm
  simpa using this
theorem CompOk.own_none {scX : Scope} {NX : List Str} {scope : Scope} {N : List Str} {own : Nat} {cap : List (Option Nat)} (C : CompOk scX NX scope N own cap) {i j : Nat} (hi : i < own) (h : cap[i]? = some (some j)) : False := by
  have hm : some j ∈ cap.take own := by
    refine List.mem_iff_getElem?.mpr ⟨i, ?_⟩
    rw [List.getElem?_take_of_lt hi]
    exact h
  have := List.all_eq_true.mp C.ownd _ hm
  cases this

section
variable {X : Cx} {pins : List (Addr × Obj)} {σ : St} {H H3 : Hp} {s s3 : Shared} {scope : Scope} {N : List Str} {own : Nat} {cap : List (Option Nat)} {cl : List (Str × Addr)} {fp : List Addr}

theorem inv_comp (I3 : Inv X pins σ H3 s3) (C : CompOk X.env.scope X.N scope N own cap) (hcl1 : ∀ x c, cl.lookup x = some c → X.env.cells.lookup x = some c) (hcl2 : ∀ y ∈ scope.names, y.2 = .free → ∃ c, cl.lookup y.1 = some c)
    (hf : ∀ b ∈ fp, FpOk X pins H3 b ∧ b < s3.heap.objs.size) {h4 : Heap} {tk : Nat} {m4 : Str → Option Value} (hn : h4.Ns s3.heap.objs.size m4) (hk : ∀ b u, s3.heap.get? b = some u → h4.get? b = some u) :
    Inv (cxComp X scope cl N fp s3 H3) [] (capSt cap σ) H3 { s3 with heap := h4, toks := tk } := by
  refine ⟨⟨I3.ok.mod, C.kind, I3.ok.glob, I3.ok.blt, Nat.le_refl _, fun x y c e1 e2 => I3.ok.inj x y c (hcl1 _ _ e1) (hcl1 _ _ e2), fun x hx => ?_, fun x c h => ?_, I3.ok.hd, I3.ok.frames, .inl rfl, fun b hb => ?_,
    I3.bs, Nat.le_trans I3.ok.bsz I3.sz, fun b o e hb => ?_, fun b hb hz => ?_, I3.stack, I3.stkFree⟩, rfl, I3.bare, Un.kept hk, ⟨m4, hn, fun i x v e1 e2 e3 => ?_⟩, fun x c e => ?_, I3.hok.fresh (Nat.le_refl _), fun x c e => I3.freeC x c (hcl1 x c e),
    fun p hp => absurd (show p ∈ ([] : List (Addr × Obj)) from hp) (by simp), I3.hok.kept hk, ?_⟩
  · obtain ⟨y, hy, e, f⟩ := relabel_cell_or_free (env := X.env) C.nocell hx
    obtain ⟨c, q⟩ := hcl2 y hy f
    exact ⟨c, by rw [← e]; exact q⟩
  · exact absurd (show false = true from h) Bool.false_ne_true
  · obtain ⟨⟨f0, f1, f2, f3, f4, f5⟩, hlt⟩ := hf b hb
    exact ⟨Nat.ne_of_lt hlt, fun x c e => f4 x c (hcl1 x c e)⟩
  · obtain ⟨⟨f0, f1, f2, f3, f4, f5⟩, hlt⟩ := hf b hb
    rcases f3 with z | z
    · exact I3.ok.noex b o e z
    · exact absurd (Nat.lt_of_lt_of_le (Heap.lt_size e) (Nat.le_trans I3.ok.bsz z)) (Nat.lt_irrefl _)
  · obtain ⟨⟨f0, f1, f2, f3, f4, f5⟩, hlt⟩ := hf b hb
    rcases List.mem_cons.mp (I3.stkSub b hz) with z | z
    · exact f1 z
    · exact f2 z
  · obtain ⟨j, c1, c2⟩ := capSt_get e2
    obtain ⟨d1, d2⟩ := C.at e1 c1
    have hk2 := C.fre (x, .free) (PySem.mem_of_lookup d2) rfl
    obtain ⟨mX, hnX, hl⟩ := I3.loc
    obtain ⟨u, r, l⟩ := hl j x v d1 c2 (.inr hk2)
    refine ⟨u, r, ?_⟩
    rcases l with ⟨k, _⟩ | ⟨k, c, e, z⟩
    · exfalso
      have k' : X.env.scope.names.lookup x = some .local := k
      rcases hk2 with q | q
      · rw [k'] at q; cases q
      · rw [k'] at q; cases q
    · obtain ⟨c', q⟩ := hcl2 (x, .free) (PySem.mem_of_lookup d2) rfl
      have e' := hcl1 x c' q
      rw [e] at e'
      cases e'
      obtain ⟨o, ho, hd⟩ := z
      exact .inr ⟨lookup_relabel_free (env := X.env) d2, c, q, o, hk _ _ ho, hd⟩
  · obtain ⟨v, o, ho, hd⟩ := I3.cell x c (hcl1 x c e)
    exact ⟨v, o, hk _ _ ho, hd⟩
  · rw [capSt_len]; exact C.len

/-- behind the block -/
theorem comp_back {pins' : List (Addr × Obj)} {σ' : St} {H' : Hp} {s' : Shared} (I3 : Inv X pins σ H3 s3) (hf : ∀ b ∈ fp, FpOk X pins H3 b) (I' : Inv (cxComp X scope cl N fp s3 H3) pins' σ' H' s') : Inv X pins σ H' s' :=
  I3.call' (ch := fp) I'.os I'.base I'.hok I'.bare fun b hb => by
    obtain ⟨f0, f1, f2, f3, f4, f5⟩ := hf b hb
    exact ⟨f3, f1, f4, f5⟩
/-- an address of the block's own namespace -/
structure Apart (X : Cx) (pins : List (Addr × Obj)) (C : Addr) : Prop where
  loc : C ≠ X.env.locals
  new : X.s₀.heap.objs.size ≤ C
  cel : ∀ x c, X.env.cells.lookup x = some c → c ≠ C
  pin : ∀ p ∈ X.pn ++ pins, p.1 ≠ C
theorem Inv.apart (I3 : Inv X pins σ H3 s3) : Apart X pins s3.heap.objs.size :=
  ⟨Nat.ne_of_gt I3.lt, I3.sz, fun x c e => by obtain ⟨v, o, ho, _⟩ := I3.cell x c e; exact Nat.ne_of_lt (Heap.lt_size ho), fun p hp => Nat.ne_of_lt (Heap.lt_size (I3.pin p hp).1)⟩
theorem comp_gone {C : Addr} {h' : Heap} (I : Inv X pins σ H s) (P : Apart X pins C) (hn : H C = none) (hs : Heap.SameBut C s.heap h') : Inv X pins σ H { s with heap := h' } :=
  I.turned (t' := s.toks) (fun b o hb e => (hs.2 b hb).trans e) hn P.loc (.inr P.new) P.cel P.pin
end

/-! ### targets that store into a comprehension's own names -/
structure GOwn (own : Nat) (g : TG) : Prop where
  mono : ∀ v σ H Q Q', (∀ σ' H', Q σ' H' → Q' σ' H') → g v σ H Q → g v σ H Q'
  own : ∀ v σ H Q, g v σ H Q → g v σ H fun σ' H' => Q σ' H' ∧ σ'.length = σ.length ∧ ∀ i, own ≤ i → σ'[i]? = σ[i]?
structure GsOwn (own : Nat) (g : TGs) : Prop where
  mono : ∀ v σ H Q Q', (∀ σ' H', Q σ' H' → Q' σ' H') → g v σ H Q → g v σ H Q'
  own : ∀ v σ H Q, g v σ H Q → g v σ H fun σ' H' => Q σ' H' ∧ σ'.length = σ.length ∧ ∀ i, own ≤ i → σ'[i]? = σ[i]?
theorem GOwn.name {own i : Nat} (h : i < own) : GOwn own (gName i) :=
  ⟨fun v σ H Q Q' f q => f _ _ q, fun v σ H Q q => ⟨q, List.length_set, fun j hj => List.getElem?_set_ne (by omega)⟩⟩
theorem GsOwn.nil {own : Nat} : GsOwn own gNil := ⟨fun v σ H Q Q' f q => ⟨q.1, f _ _ q.2⟩, fun v σ H Q q => ⟨q.1, q.2, rfl, fun _ _ => rfl⟩⟩
theorem GsOwn.cons {own : Nat} {t : TG} {u : TGs} (h1 : GOwn own t) (h2 : GsOwn own u) : GsOwn own (gCons t u) where
  mono := fun v σ H Q Q' f ⟨x, r, e, q⟩ => ⟨x, r, e, h1.mono _ _ _ _ _ (fun σ' H' q => h2.mono _ _ _ _ _ f q) q⟩
  own := fun v σ H Q ⟨x, r, e, q⟩ => ⟨x, r, e, h1.mono _ _ _ _ _ (fun σ1 H1 ⟨q, l1, o1⟩ => h2.mono _ _ _ _ _ (fun σ2 H2 ⟨q, l2, o2⟩ => ⟨q, l2.trans l1, fun i hi => (o2 i hi).trans (o1 i hi)⟩) (h2.own _ _ _ _ q)) (h1.own _ _ _ _ q)⟩
theorem GOwn.tup {own n : Nat} {K : PySem.W.Frag} {t : TGs} (h : GsOwn own t) : GOwn own (gTup K n t) where
  mono := fun v σ H Q Q' f ⟨a, xs, e, q1, q2, q⟩ => ⟨a, xs, e, q1, q2, h.mono _ _ _ _ _ f q⟩
  own := fun v σ H Q ⟨a, xs, e, q1, q2, q⟩ => ⟨a, xs, e, q1, q2, h.own _ _ _ _ q⟩

/-! ### the tests of a comprehension -/
def PIfs (X : Cx) (ifs : List Expr) (t : TT) : Prop :=
  ∀ (pins : List (Addr × Obj)) (s : Shared) (σ : St) (H : Hp) (Q : Bool → Hp → Prop), Inv X pins σ H s → t σ H Q → wpAny (model X.prog X.w) X.A (testsOf ifs X.env) (TP X pins σ Q) X.xe s
def tYes : TT := fun _ H Q => Q true H
theorem pifs_nil {X : Cx} : PIfs X [] tYes := fun _ _ _ H _ I h => wpAny_tests_nil ⟨H, I, h⟩
theorem pifs_one {X : Cx} {c : Expr} {t : TT} (h : PT X c t) : PIfs X [c] t := fun pins s σ H Q I q => wpAny_tests_one (h pins s σ H Q I q)

/-! ### a list comprehension -/
/-- one turn and all behind it: W speaks of the turn, a measure, the items so far, the heap; l: the new list -/
def LcW (J : It) (g : TG) (tt : TT) (te : TE) (cap : List (Option Nat)) (σ : St) (Q : VK) (l : Addr) (H1 : Hp) : Prop :=
  ∃ W : Nat → Nat → List V → Hp → Prop, (∃ m, W 0 m [] (upd H1 l (.lst []))) ∧ ∀ i m acc H, W i m acc H →
    (J.stop i H ∧ Q (.ref l) H) ∨ (J.go i H ∧ ∃ N : List V → Hp → Prop, (∀ acc' H', N acc' H' → ∃ m', m' < m ∧ W (i + 1) m' acc' H') ∧
      ∀ x H', J.yld i H x H' → g x (capSt cap σ) H' fun σ2 H2 => tt σ2 H2 fun b H3 =>
        if b = true then te σ2 H3 fun y H4 => H4 l = some (.lst acc) ∧ acc.length < sizeLine ∧ N (acc ++ [y]) (upd H4 l (.lst (acc ++ [y])))
        else N acc H3)
def tLC (wi : TI) (cap : List (Option Nat)) (g : TG) (tt : TT) (te : TE) : TE := fun σ H Q => wi σ H fun J H1 => ∀ l, H1 l = none →
  LcW J g tt te cap σ Q l H1

section
variable {X : Cx} {pins : List (Addr × Obj)} {σ : St} {H1 : Hp} {s2 : Shared} {scope : Scope} {N : List Str} {own : Nat} {cap : List (Option Nat)} {cl : List (Str × Addr)} {fp : List Addr}
  {tg iter elt : Expr} {ifs : List Expr} {pos : Pos} {g : TG} {tt : TT} {te : TE} {wi : TI}

theorem comp_run {it : Addr} {tn : Nat → Heap → Prop} {J : It} {Q : VK} {RR : Value → Addr → Result → Shared → Prop} {E : Value → Shared → Prop} (I : Inv X pins σ H1 s2) (T : Turn X.prog X.w X.K tg J fp it tn) (t0 : tn 0 s2.heap)
    (f : ∀ b ∈ fp, FpOk X pins H1 b) (hc : X.calm = true) (C : CompOk X.env.scope X.N scope N own cap) (ho : GOwn own g)
    (hcl1 : ∀ x c, cl.lookup x = some c → X.env.cells.lookup x = some c) (hcl2 : ∀ y ∈ scope.names, y.2 = .free → ∃ c, cl.lookup y.1 = some c)
    (hg : ∀ s3 H3, PG (cxComp X scope cl N fp s3 H3) tg g) (ht : ∀ s3 H3, PIfs (cxComp X scope cl N fp s3 H3) ifs tt) (he : ∀ s3 H3, PE (cxComp X scope cl N fp s3 H3) elt te)
    (hw : ∀ l, H1 l = none → LcW J g tt te cap σ Q l H1)
    (fin : ∀ l C s' H' m', Inv X pins σ H' s' → s'.heap.Ns C m' → H' C = none → Apart X pins C → Q (.ref l) H' → RR (.ref l) C (.ok .next) s') :
    wpAny (model X.prog X.w) X.A (newList []) (fun acc s₃ => wpAny (model X.prog X.w) X.A (newFunctionEnv scope X.env.globals cl [] X.env.qual none .none (some X.env)) (fun cenv s₄ =>
      codeAny (model X.prog X.w) X.A (.compStart (.ListComp elt [⟨tg, iter, ifs, 0⟩] scope pos) 0 (.ref it) acc { cenv with scope := relabel scope X.env }) (RR acc cenv.locals) s₄) E s₃) E s2 := by
  refine wpAny_newObj_type (wpAny_newFunctionEnv C.nocell (by intro y hy; simp at hy) (fun h₁ hns₁ hsb₁ => ?_) C.kind)
  dsimp only at hns₁ hsb₁ ⊢
  obtain ⟨W, ⟨m0, w0⟩, turn⟩ := hw s2.heap.objs.size I.fresh
  have I3 : Inv X pins σ (upd H1 s2.heap.objs.size (.lst [])) { s2 with heap := s2.heap.push { cls := .type "list", dict := none, data := .seq ([] : List Value).toArray } } := I.lnew (ys := []) (its := []) (t' := s2.toks) .nil (Nat.zero_le _)
  generalize hs3 : ({ s2 with heap := s2.heap.push { cls := .type "list", dict := none, data := .seq ([] : List Value).toArray } } : Shared) = s3 at I3
  have hh3 : s3.heap = s2.heap.push { cls := .type "list", dict := none, data := .seq ([] : List Value).toArray } := by rw [← hs3]
  rw [← hh3] at hns₁ hsb₁ ⊢
  have e4 : ({ s2 with heap := h₁, toks := s2.toks + ([] : List (Str × Value)).length } : Shared) = { s3 with heap := h₁, toks := s2.toks } := by rw [← hs3]; rfl
  rw [e4]
  have k4 : ∀ b u, s3.heap.get? b = some u → h₁.get? b = some u := fun b u e => hsb₁.extBut b u (Nat.ne_of_lt (Heap.lt_size e)) (Heap.get?_push_of_some _ e)
  have k3 : ∀ b u, s2.heap.get? b = some u → s3.heap.get? b = some u := fun b u e => by rw [hh3]; exact Heap.get?_push_of_some _ e
  have hb2 : ∀ b ∈ fp, b < s2.heap.objs.size := fun b hb => by obtain ⟨o, e, _⟩ := T.obj _ _ t0 b hb; exact Heap.lt_size e
  have f3 : ∀ b ∈ fp, FpOk X pins (upd H1 s2.heap.objs.size (.lst [])) b := fun b hb => by
    obtain ⟨f0, fr⟩ := f b hb
    exact ⟨by rw [upd_ne (Nat.ne_of_lt (hb2 b hb))]; exact f0, fr⟩
  have hb3 : ∀ b ∈ fp, b < s3.heap.objs.size := fun b hb => by obtain ⟨o, e, _⟩ := T.obj _ _ t0 b hb; exact Heap.lt_size (k3 b o e)
  have I4 := inv_comp (tk := s2.toks) I3 C hcl1 hcl2 (fun b hb => ⟨f3 b hb, hb3 b hb⟩) hns₁ k4
  generalize hH3 : upd H1 s2.heap.objs.size (.lst []) = H3 at *
  have st4 : tn 0 h₁ := T.keep _ _ _ t0 fun b hb o e => k4 b o (k3 b o e)
  have fpX : ∀ {H' : Hp}, (∀ b ∈ fp, H' b = none) → ∀ b ∈ fp, FpOk (cxComp X scope cl N fp s3 H3) [] H' b := fun {H'} hn b hb => by
    obtain ⟨f0, f1, f2, f3', f4, f5⟩ := f3 b hb
    refine ⟨hn b hb, Nat.ne_of_lt (hb3 b hb), fun hz => ?_, .inl hb, fun x c e => f4 x c (hcl1 x c e), fun p hp => absurd (show p ∈ ([] : List (Addr × Obj)) from hp) (by simp)⟩
    rcases List.mem_cons.mp (I3.stkSub b hz) with z | z
    · exact f1 z
    · exact f2 z
  have loop : codeAny (model X.prog X.w) X.A (.compLoop (.ListComp elt [⟨tg, iter, ifs, 0⟩] scope pos) 0 (.ref it) (.ref s2.heap.objs.size) (compEnvC scope cl s3.heap.objs.size X.env)) (RR (.ref s2.heap.objs.size) s3.heap.objs.size) { s3 with heap := h₁, toks := s2.toks } := by
    refine compLoop_go (fun n s' => ∃ i acc H', Inv (cxComp X scope cl N fp s3 H3) [] (capSt cap σ) H' s' ∧ tn i s'.heap ∧ (∀ b ∈ fp, H' b = none) ∧ W i n acc H') ?_ m0 ⟨0, [], H3, I4, st4, fun b hb => (f3 b hb).1, w0⟩
    rintro n s' ⟨i, acc, H', I', st, fr, w⟩
    rcases turn i n acc H' w with ⟨stop, q⟩ | ⟨go, NN, hNN, step⟩
    · refine thn (T.done (cxComp X scope cl N fp s3 H3) rfl rfl rfl hc i [] s' _ H' (fun _ _ => False) I' (fpX fr) st stop) fun r s5 ⟨hr, I5⟩ => ?_
      subst hr
      obtain ⟨m5, hn5, _⟩ := id I5.loc
      exact fin _ _ s5 H' m5 (comp_back I3 f3 I5) hn5 I5.free (TL.Inv.apart I3) q
    · refine thn (T.item (cxComp X scope cl N fp s3 H3) rfl rfl rfl hc i [] s' _ H' (fun _ _ => False) I' (fpX fr) st go) fun r s5 ⟨u, hr, h5⟩ => ?_
      subst hr
      refine thn h5 fun _ s6 ⟨x, H6, I6, r6, y6, st6, fr6⟩ => ?_
      have I6' := I6.pinned (fpX fr6) (T.obj _ _ st6)
      refine thn (hg s3 H3 _ s6 _ H6 x u _ I6' r6 (ho.own _ _ _ _ (step x H6 y6))) fun _ s7 ⟨σ7, H7, I7, q7, l7, o7⟩ => ?_
      have cov : ∀ (i : Nat) v, (capSt cap σ)[i]? = some (some v) → σ7[i]? = some (some v) := fun i v e => by
        obtain ⟨j, c1, c2⟩ := capSt_get e
        by_cases hi : i < own
        · exact (C.own_none hi c1).elim
        · rw [o7 i (by omega)]; exact e
      have back : ∀ {H8 : Hp} {s8 : Shared}, Inv (cxComp X scope cl N fp s3 H3) ([] ++ pinsAt fp s6.heap) σ7 H8 s8 → Inv (cxComp X scope cl N fp s3 H3) [] (capSt cap σ) H8 s8 ∧ tn (i + 1) s8.heap ∧ ∀ b ∈ fp, H8 b = none := fun {H8 s8} I8 => by
        refine ⟨(Inv.unpinned (pins := []) I8).weak l7.symm cov, T.keep _ _ _ st6 fun b hb o e => (I8.pin (b, o) (List.mem_append_right _ (List.mem_append_right _ (mem_pinsAt hb e)))).1, fun b hb => ?_⟩
        obtain ⟨o, e, d⟩ := T.obj _ _ st6 b hb
        exact (I8.pin (b, o) (List.mem_append_right _ (List.mem_append_right _ (mem_pinsAt hb e)))).2.1
      refine thn (ht s3 H3 _ s7 σ7 H7 _ I7 q7) fun b s8 ⟨H8, I8, q8⟩ => ?_
      cases b with
      | false =>
        rw [if_neg Bool.false_ne_true] at q8 ⊢
        obtain ⟨m', hm, w8⟩ := hNN _ _ q8
        obtain ⟨J1, J2, J3⟩ := back I8
        exact ⟨m', hm, i + 1, acc, H8, J1, J2, J3, w8⟩
      | true =>
        rw [if_pos rfl] at q8 ⊢
        refine thn (he s3 H3 _ s8 σ7 H8 _ I8 q8) fun v s9 ⟨y, H9, I9, r9, ha, hz, n9⟩ => ?_
        obtain ⟨m', hm, w9⟩ := hNN _ _ n9
        refine thn (mt_append _ s9 σ7 H9 (.ref s2.heap.objs.size) [y] (.ref s2.heap.objs.size) [v] (fun _ H10 => W (i + 1) m' (acc ++ [y]) H10) I9 rfl (.cons r9 .nil) ⟨_, acc, y, rfl, rfl, ha, hz, w9⟩) fun _ s10 ⟨_, H10, I10, _, w10⟩ => ?_
        obtain ⟨J1, J2, J3⟩ := back I10
        exact ⟨m', hm, i + 1, acc ++ [y], H10, J1, J2, J3, w10⟩
  exact codeAny_compStart_list loop (T.self X.A 0 _ _ _ st4 loop)

theorem pe_lc (hi : PI X tg iter wi) (hc : X.calm = true) (C : CompOk X.env.scope X.N scope N own cap) (ho : GOwn own g)
    (hg : ∀ cl fp s3 H3, PG (cxComp X scope cl N fp s3 H3) tg g) (ht : ∀ cl fp s3 H3, PIfs (cxComp X scope cl N fp s3 H3) ifs tt) (he : ∀ cl fp s3 H3, PE (cxComp X scope cl N fp s3 H3) elt te)
    (hs : ∀ x, foldedSetIterable iter X.env x = pure x := by intro _; rfl) : PE X (.ListComp elt [⟨tg, iter, ifs, 0⟩] scope pos) (tLC wi cap g tt te) := by
  intro pins s σ H Q I h
  obtain ⟨cl, ecl, hcl1, hcl2⟩ := closure_ok (scope := scope) (env := X.env) fun y hy hf => I.ok.has y.1 (C.fre y hy hf)
  rw [eval_ListComp]
  refine wpAny_comprehension_free (use := none) rfl hs ecl C.kind C.loc (thn (hi pins s σ H _ I h) fun xv s1 h1 => thn h1 fun itv s2 h2 => ?_)
  obtain ⟨it, fp, tn, J, H2, e, I2, T, st2, f2, hw⟩ := h2
  subst e
  refine comp_run (RR := fun acc C => compPost (model X.prog X.w) X.A X.xe none (EP X pins σ Q) acc C) I2 T st2 f2 hc C ho hcl1 hcl2 (hg cl fp) (ht cl fp) (he cl fp) hw fun l Ca s' H' m' I' hn hfree hP q => ?_
  exact ⟨m', hn, fun h'' hs'' => ⟨.ref l, H', comp_gone I' hP hfree hs'', rfl, q⟩⟩

/-- name = [..], a plain local name on the comprehension's own row: the store comes ahead of the block's end -/
theorem ps_lc {i : Nat} {x : Str} {pos' spos : Pos} (hN : X.N.Nodup) (hi' : X.N[i]? = some x) (hx : X.env.scope.names.lookup x = some .local) (hi : PI X tg iter wi) (hc : X.calm = true) (C : CompOk X.env.scope X.N scope N own cap) (ho : GOwn own g)
    (hg : ∀ cl fp s3 H3, PG (cxComp X scope cl N fp s3 H3) tg g) (ht : ∀ cl fp s3 H3, PIfs (cxComp X scope cl N fp s3 H3) ifs tt) (he : ∀ cl fp s3 H3, PE (cxComp X scope cl N fp s3 H3) elt te)
    (hsw : swapsWith (.ListComp elt [⟨tg, iter, ifs, 0⟩] scope pos) (some (.Name x pos')) spos.line X.env = pure true := by rfl)
    (hs : ∀ x, foldedSetIterable iter X.env x = pure x := by intro _; rfl) : PS X (.Assign [.Name x pos'] (.ListComp elt [⟨tg, iter, ifs, 0⟩] scope pos) spos) (tAsg (tLC wi cap g tt te) (gName i)) := by
  intro pins s σ H D I h
  obtain ⟨cl, ecl, hcl1, hcl2⟩ := closure_ok (scope := scope) (env := X.env) fun y hy hf => I.ok.has y.1 (C.fre y hy hf)
  rw [exec_Assign_Name_used _ _ _ _ hsw]
  refine wpAny_bind (wpAny_standAt (wpAny_bind ?_))
  show wpAny _ X.A (do let _ ← comprehension (.ListComp elt [⟨tg, iter, ifs, 0⟩] scope pos) scope X.env _ (newList []) false (eval iter X.env) (some (assign (.Name x pos') X.env))) _ _ s
  refine wpAny_bind (wpAny_mono (wpAny_comprehension_free (use := some (assign (.Name x pos') X.env)) (Q := fun _ s' => SP X pins D .next s') rfl hs ecl C.kind C.loc
    (thn (hi pins s σ H _ I h) fun xv s1 h1 => thn h1 fun itv s2 h2 => ?_)) (fun _ s' hq => wpAny_pure (wpAny_pure hq)) fun _ _ e => e)
  obtain ⟨it, fp, tn, J, H2, e, I2, T, st2, f2, hw⟩ := h2
  subst e
  refine comp_run (RR := fun acc C => compPost (model X.prog X.w) X.A X.xe (some (assign (.Name x pos') X.env)) (fun _ s' => SP X pins D .next s') acc C) I2 T st2 f2 hc C ho hcl1 hcl2 (hg cl fp) (ht cl fp) (he cl fp) hw fun l Ca s' H' m' I' hn hfree hP q => ?_
  show wpAny _ X.A (assign (.Name x pos') X.env (.ref l)) _ _ _
  refine wpAny_assign_Name (store_ok2 I' hN hi' (.inl hx) (v := .ref l) rfl (fun s5 I5 ⟨a, sb, ha⟩ => ?_) (.inr hx))
  have hne : Ca ≠ a := by
    rcases ha with z | z
    · rw [z]; exact hP.loc
    · exact fun e => hP.cel x a z e.symm
  refine ⟨m', hn.sameBut sb hne, fun h'' hs'' => ⟨_, H', comp_gone I5 hP hfree hs'', q⟩⟩
end

/-! ### the forms one uses -/
section
variable {K : PySem.W.Frag} {a l : Addr} {xs : List V} {g : TG} {tt : TT} {te : TE} {cap : List (Option Nat)} {σ : St} {Q : VK} {H1 : Hp}
theorem lc_list (Pv : Nat → List V → Hp → Prop) (h0 : Pv 0 [] (upd H1 l (.lst []))) (hl : ∀ i acc H, i ≤ xs.length → Pv i acc H → SqL K H a xs)
    (hs : ∀ i x acc H, xs[i]? = some x → Pv i acc H → g x (capSt cap σ) H fun σ2 H2 => tt σ2 H2 fun b H3 =>
        if b = true then te σ2 H3 fun y H4 => H4 l = some (.lst acc) ∧ acc.length < sizeLine ∧ Pv (i + 1) (acc ++ [y]) (upd H4 l (.lst (acc ++ [y])))
        else Pv (i + 1) acc H3) (hd : ∀ acc H, Pv xs.length acc H → Q (.ref l) H) : LcW (Itl K a) g tt te cap σ Q l H1 := by
  refine ⟨fun i m acc H => m = xs.length - i ∧ i ≤ xs.length ∧ Pv i acc H, ⟨xs.length, by simp, Nat.zero_le _, h0⟩, ?_⟩
  rintro i m acc H ⟨rfl, hi, p⟩
  have q := hl i acc H hi p
  by_cases hlt : i < xs.length
  · refine .inr ⟨⟨xs, xs[i], q, by simp [hlt]⟩, Pv (i + 1), fun acc' H' p' => ⟨xs.length - (i + 1), by omega, rfl, hlt, p'⟩, fun x H' y => ?_⟩
    obtain ⟨e, y⟩ := y
    subst e
    exact hs i x acc _ (y xs q) p
  · have e : i = xs.length := by omega
    subst e
    exact .inl ⟨⟨xs, q, Nat.le_refl _⟩, hd acc H p⟩
theorem same_upd {H : Hp} {l : Addr} {o : HO} (hn : H l = none) : Same H (upd H l o) := fun b u e => by rw [upd_ne (ne_of_none e hn)]; exact e
/-- each turn tests and reckons by pure functions of the data ds, and makes nothing that is kept -/
theorem lc_pure {α : Type} (ds : List α) (p : α → Bool) (f : α → V) (hn : H1 l = none) (hx : SqL K H1 a xs) (hlen : xs.length = ds.length) (hz : xs.length < sizeLine)
    (hs : ∀ (i : Nat) x d H, xs[i]? = some x → ds[i]? = some d → Same H1 H → ∀ (P1 : VK) (P0 : Hp → Prop), (p d = true → P1 (f d) H) → (p d = false → P0 H) →
      g x (capSt cap σ) H fun σ2 H2 => tt σ2 H2 fun b H3 => if b = true then te σ2 H3 P1 else P0 H3)
    (hq : Q (.ref l) (upd H1 l (.lst ((ds.filter p).map f)))) : LcW (Itl K a) g tt te cap σ Q l H1 := by
  refine lc_list (fun i acc H => acc = ((ds.take i).filter p).map f ∧ H = upd H1 l (.lst acc)) ⟨rfl, rfl⟩ (fun i acc H _ ⟨_, e⟩ => by rw [e]; exact (same_upd hn).seq hx) ?_ ?_
  · rintro i x acc H hi ⟨e1, e2⟩
    have hlt : i < xs.length := (List.getElem?_eq_some_iff.mp hi).1
    have hd : ds[i]? = some (ds[i]'(by omega)) := by simp
    generalize ds[i]'(by omega) = d at hd
    have step : ((ds.take (i + 1)).filter p).map f = acc ++ (if p d = true then [f d] else []) := by
      rw [take_succ_filter p ds i d hd, List.map_append, e1]
      cases p d <;> rfl
    refine hs i x d H hi hd (by rw [e2]; exact same_upd hn) _ _ (fun hp => ?_) (fun hp => ?_)
    · refine ⟨by rw [e2, upd_same], ?_, ?_, ?_⟩
      · have h1 : acc.length ≤ i := by
          rw [e1, List.length_map]
          exact Nat.le_trans (List.length_filter_le _ _) (by rw [List.length_take]; omega)
        omega
      · rw [step, hp]; rfl
      · rw [e2, upd_upd]
    · refine ⟨?_, e2⟩
      rw [step, hp, if_neg Bool.false_ne_true, List.append_nil]
  · rintro acc H ⟨e1, e2⟩
    rw [hlen, List.take_length] at e1
    rw [e2, e1]
    exact hq
end
end TL
set_option Elab.async false
set_option linter.all false
set_option maxRecDepth 100000
set_option maxHeartbeats 4000000
namespace TL
open PySem PySem.Spec PyProof.Rows L2

/-! ### data in the heap: L says how a list stands at an address, T how a tuple does -/
mutual
def Dg (L T : Addr → List V → Prop) : PyData → V → Prop
  | .none, v => v = .non
  | .bool b, v => v = .bl b
  | .int i, v => v = .int i
  | .str x, v => v = .str x
  | .list ds, v => ∃ a vs, v = .ref a ∧ L a vs ∧ Dgs L T ds vs
  | .tuple ds, v => ∃ a vs, v = .ref a ∧ T a vs ∧ Dgs L T ds vs
  | .dict _, _ => False
def Dgs (L T : Addr → List V → Prop) : List PyData → List V → Prop
  | [], vs => vs = []
  | d :: ds, vs => ∃ v r, vs = v :: r ∧ Dg L T d v ∧ Dgs L T ds r
end
mutual
theorem Dg.mono {L T L' T' : Addr → List V → Prop} (hL : ∀ a vs, L a vs → L' a vs) (hT : ∀ a vs, T a vs → T' a vs) : ∀ {d : PyData} {v : V}, Dg L T d v → Dg L' T' d v
  | .none, _, h => by simpa only [Dg] using h
  | .bool _, _, h => by simpa only [Dg] using h
  | .int _, _, h => by simpa only [Dg] using h
  | .str _, _, h => by simpa only [Dg] using h
  | .list ds, _, h => by
    simp only [Dg] at h ⊢
    obtain ⟨a, vs, e, l, q⟩ := h
    exact ⟨a, vs, e, hL a vs l, Dgs.mono hL hT q⟩
  | .tuple ds, _, h => by
    simp only [Dg] at h ⊢
    obtain ⟨a, vs, e, l, q⟩ := h
    exact ⟨a, vs, e, hT a vs l, Dgs.mono hL hT q⟩
  | .dict _, _, h => by simp only [Dg] at h
theorem Dgs.mono {L T L' T' : Addr → List V → Prop} (hL : ∀ a vs, L a vs → L' a vs) (hT : ∀ a vs, T a vs → T' a vs) : ∀ {ds : List PyData} {vs : List V}, Dgs L T ds vs → Dgs L' T' ds vs
  | [], _, h => by simpa only [Dgs] using h
  | d :: ds, _, h => by
    simp only [Dgs] at h ⊢
    obtain ⟨v, r, e, l, q⟩ := h
    exact ⟨v, r, e, Dg.mono hL hT l, Dgs.mono hL hT q⟩
end
section
variable {L T : Addr → List V → Prop}
theorem dg_int {i : Int} {v : V} : Dg L T (.int i) v ↔ v = .int i := by simp only [Dg]
theorem dg_str {i : Str} {v : V} : Dg L T (.str i) v ↔ v = .str i := by simp only [Dg]
theorem dg_list {ds : List PyData} {v : V} : Dg L T (.list ds) v ↔ ∃ a vs, v = .ref a ∧ L a vs ∧ Dgs L T ds vs := by simp only [Dg]
theorem dg_tuple {ds : List PyData} {v : V} : Dg L T (.tuple ds) v ↔ ∃ a vs, v = .ref a ∧ T a vs ∧ Dgs L T ds vs := by simp only [Dg]
theorem dgs_nil {vs : List V} : Dgs L T [] vs ↔ vs = [] := by simp only [Dgs]
theorem dgs_cons {d : PyData} {ds : List PyData} {vs : List V} : Dgs L T (d :: ds) vs ↔ ∃ v r, vs = v :: r ∧ Dg L T d v ∧ Dgs L T ds r := by simp only [Dgs]
theorem Dgs.length : ∀ {ds : List PyData} {vs : List V}, Dgs L T ds vs → vs.length = ds.length
  | [], _, h => by rw [dgs_nil.mp h]; rfl
  | d :: ds, _, h => by
    obtain ⟨v, r, rfl, _, q⟩ := dgs_cons.mp h
    rw [List.length_cons, List.length_cons, Dgs.length q]
theorem dgs_ints : ∀ {ns : List Int} {vs : List V}, Dgs L T (ns.map .int) vs ↔ vs = ns.map V.int
  | [], vs => dgs_nil
  | n :: ns, vs => by
    rw [List.map_cons, dgs_cons]
    constructor
    · rintro ⟨v, r, rfl, h1, h2⟩
      rw [dg_int.mp h1, dgs_ints.mp h2]; rfl
    · rintro rfl
      exact ⟨_, _, rfl, dg_int.mpr rfl, dgs_ints.mpr rfl⟩
theorem Dgs.append : ∀ {ds es : List PyData} {vs us : List V}, Dgs L T ds vs → Dgs L T es us → Dgs L T (ds ++ es) (vs ++ us)
  | [], _, _, _, h, k => by rw [dgs_nil.mp h]; exact k
  | d :: ds, _, _, _, h, k => by
    obtain ⟨v, r, rfl, h1, q⟩ := dgs_cons.mp h
    exact dgs_cons.mpr ⟨v, _, rfl, h1, Dgs.append q k⟩
theorem Dgs.one {d : PyData} {v : V} (h : Dg L T d v) : Dgs L T [d] [v] := dgs_cons.mpr ⟨v, [], rfl, h, dgs_nil.mpr rfl⟩
theorem Dgs.two {d e : PyData} {v u : V} (h : Dg L T d v) (k : Dg L T e u) : Dgs L T [d, e] [v, u] := dgs_cons.mpr ⟨v, [u], rfl, h, .one k⟩
theorem Dgs.get : ∀ {ds : List PyData} {vs : List V} {i : Nat} {v : V}, Dgs L T ds vs → vs[i]? = some v → ∃ d, ds[i]? = some d ∧ Dg L T d v
  | [], _, _, _, h, e => by rw [dgs_nil.mp h] at e; simp at e
  | d :: ds, _, 0, v, h, e => by
    obtain ⟨x, r, rfl, h1, q⟩ := dgs_cons.mp h
    simp at e; subst e
    exact ⟨d, rfl, h1⟩
  | d :: ds, _, i + 1, v, h, e => by
    obtain ⟨x, r, rfl, h1, q⟩ := dgs_cons.mp h
    obtain ⟨d', e1, e2⟩ := Dgs.get (i := i) (v := v) q (by simpa using e)
    exact ⟨d', by simpa using e1, e2⟩
theorem Dgs.get' : ∀ {ds : List PyData} {vs : List V} {i : Nat} {d : PyData}, Dgs L T ds vs → ds[i]? = some d → ∃ v, vs[i]? = some v ∧ Dg L T d v
  | [], _, _, _, h, e => by simp at e
  | d :: ds, _, 0, d', h, e => by
    obtain ⟨x, r, rfl, h1, q⟩ := dgs_cons.mp h
    simp at e; subst e
    exact ⟨x, rfl, h1⟩
  | d :: ds, _, i + 1, d', h, e => by
    obtain ⟨x, r, rfl, h1, q⟩ := dgs_cons.mp h
    obtain ⟨v, e1, e2⟩ := Dgs.get' (i := i) (d := d') q (by simpa using e)
    exact ⟨v, by simpa using e1, e2⟩
theorem Dgs.insert : ∀ {ds : List PyData} {vs : List V} (i : Nat) {d : PyData} {v : V}, Dgs L T ds vs → Dg L T d v → Dgs L T (ds.take i ++ d :: ds.drop i) (vs.take i ++ v :: vs.drop i)
  | ds, vs, 0, d, v, h, k => dgs_cons.mpr ⟨v, vs, by simp, k, by simpa using h⟩
  | [], vs, i + 1, d, v, h, k => by rw [dgs_nil.mp h]; simpa using Dgs.one k
  | x :: ds, vs, i + 1, d, v, h, k => by
    obtain ⟨y, r, rfl, h1, q⟩ := dgs_cons.mp h
    exact dgs_cons.mpr ⟨y, _, rfl, h1, Dgs.insert i q k⟩
end

/-- data as it may be read -/
abbrev Da (K : PySem.W.Frag) (H : Hp) : PyData → V → Prop := Dg (SqL K H) (SqT K H)
abbrev Das (K : PySem.W.Frag) (H : Hp) : List PyData → List V → Prop := Dgs (SqL K H) (SqT K H)
theorem same_tseq {K : PySem.W.Frag} {H H' : Hp} {a : Addr} {xs : List V} (e : Same H H') (h : SqT K H a xs) : SqT K H' a xs := by
  rcases h with (h | ⟨o, h⟩) | h
  · exact .inl (.inl (e _ _ h))
  · exact .inl (.inr ⟨o, e _ _ h⟩)
  · exact .inr h
theorem Da.same {K : PySem.W.Frag} {H H' : Hp} (e : Same H H') {d : PyData} {v : V} (h : Da K H d v) : Da K H' d v := Dg.mono (fun _ _ q => e.seq q) (fun _ _ q => same_tseq e q) h
theorem Das.same {K : PySem.W.Frag} {H H' : Hp} (e : Same H H') {d : List PyData} {v : List V} (h : Das K H d v) : Das K H' d v := Dgs.mono (fun _ _ q => e.seq q) (fun _ _ q => same_tseq e q) h

section
variable {X : Cx} {pins : List (Addr × Obj)} {σ : St} {H : Hp} {s : Shared}
mutual
theorem Da.reads (I : Inv X pins σ H s) : ∀ {d : PyData} {v : V} {u : Value}, Da X.K H d v → RelV v u → ∃ as, Reads s.heap u d as
  | .none, v, u, h, r => by
    have e : v = .non := by simpa only [Dg] using h
    subst e; cases r; exact ⟨_, .none⟩
  | .bool b, v, u, h, r => by
    have e : v = .bl b := by simpa only [Dg] using h
    subst e; cases r; exact ⟨_, .bool b⟩
  | .int i, v, u, h, r => by
    have e : v = .int i := by simpa only [Dg] using h
    subst e; obtain ⟨t, rfl⟩ := r; exact ⟨_, .int i t⟩
  | .str i, v, u, h, r => by
    have e : v = .str i := by simpa only [Dg] using h
    subst e; obtain ⟨t, rfl⟩ := r; exact ⟨_, .str i t⟩
  | .list ds, v, u, h, r => by
    obtain ⟨a, vs, rfl, l, q⟩ := dg_list.mp h
    cases r
    obtain ⟨its, rv, p, hz⟩ := I.list l
    obtain ⟨as, rs⟩ := Das.reads I q rv
    obtain ⟨o, ho, hc, n, hd⟩ := p.isList
    exact ⟨_, .list ho hc hd (by simpa using rs)⟩
  | .tuple ds, v, u, h, r => by
    obtain ⟨a, vs, rfl, l, q⟩ := dg_tuple.mp h
    cases r
    obtain ⟨its, rv, p, hz⟩ := I.tuple l
    obtain ⟨as, rs⟩ := Das.reads I q rv
    obtain ⟨o, ho, hc, n, hd⟩ := p
    exact ⟨_, .tuple ho hc hd (by simpa using rs)⟩
  | .dict _, v, u, h, r => by simp only [Dg] at h
theorem Das.reads (I : Inv X pins σ H s) : ∀ {ds : List PyData} {vs : List V} {us : List Value}, Das X.K H ds vs → Vals vs us → ∃ as, ReadsAll s.heap us ds as
  | [], vs, us, h, r => by
    rw [dgs_nil.mp h] at r; cases r; exact ⟨_, .nil⟩
  | d :: ds, vs, us, h, r => by
    obtain ⟨v, w, rfl, h1, q⟩ := dgs_cons.mp h
    cases r with
    | cons r1 r2 =>
      obtain ⟨as, e1⟩ := Da.reads I h1 r1
      obtain ⟨bs, e2⟩ := Das.reads I q r2
      exact ⟨_, .cons e1 e2⟩
end
end

/-! ### ==, !=, in, not in over data -/
section
variable {X : Cx}
def OkD (d : PyData) : Prop := d.canLay0 = true ∧ d.depth ≤ 20
def rEqD (K : PySem.W.Frag) : R2 := fun x y H Q => ∃ d e, Da K H d x ∧ Da K H e y ∧ OkD d ∧ OkD e ∧ Q (.bl (PyData.eqv d e)) H
def rNeD (K : PySem.W.Frag) : R2 := fun x y H Q => ∃ d e, Da K H d x ∧ Da K H e y ∧ OkD d ∧ OkD e ∧ Q (.bl (!PyData.eqv d e)) H
theorem op_eqD (hu : X.A.units + 64 < cLine) : OpR X (compareOp .Eq) (rEqD X.K) := by
  intro pins s σ H x y v u Q I rx ry h
  obtain ⟨d, e, h1, h2, o1, o2, q⟩ := h
  obtain ⟨as, r1⟩ := Da.reads I h1 rx
  obtain ⟨bs, r2⟩ := Da.reads I h2 ry
  exact SeqAt.compareEq_reads r1 r2 o1.1 o2.1 (by have := o1.2; have := o2.2; omega) ⟨.bl _, H, I, rfl, q⟩
theorem op_neD (hu : X.A.units + 64 < cLine) : OpR X (compareOp .NotEq) (rNeD X.K) := by
  intro pins s σ H x y v u Q I rx ry h
  obtain ⟨d, e, h1, h2, o1, o2, q⟩ := h
  obtain ⟨as, r1⟩ := Da.reads I h1 rx
  obtain ⟨bs, r2⟩ := Da.reads I h2 ry
  exact SeqAt.compareNe_reads r1 r2 o1.1 o2.1 (by have := o1.2; have := o2.2; omega) ⟨.bl _, H, I, rfl, q⟩
def OkDs (ds : List PyData) : Prop := PyData.canLayAll0 ds = true ∧ PyData.depthAll ds ≤ 20
def rInD (K : PySem.W.Frag) (neg : Bool) : R2 := fun x y H Q => ∃ ds d, Da K H (.list ds) y ∧ Da K H d x ∧ OkDs ds ∧ OkD d ∧ Q (.bl (if neg then !(ds.any fun z => PyData.eqv z d) else ds.any fun z => PyData.eqv z d)) H
theorem op_notInD (hu : X.A.units + 64 < cLine) : OpR X (compareOp .NotIn) (rInD X.K true) := by
  intro pins s σ H x y v u Q I rx ry h
  obtain ⟨ds, d, h1, h2, o1, o2, q⟩ := h
  obtain ⟨as, r1⟩ := Da.reads I h1 ry
  obtain ⟨bs, r2⟩ := Da.reads I h2 rx
  exact SeqAt.notIn_list_reads r1 r2 o1.1 o2.1 (by have := o1.2; have := o2.2; omega) ⟨.bl _, H, I, rfl, q⟩
end

/-! ### shapes -/
theorem canLayAll0_map {α : Type} {f : α → PyData} (h : ∀ x, (f x).canLay0 = true) : ∀ l : List α, PyData.canLayAll0 (l.map f) = true
  | [] => by simp [PyData.canLayAll0]
  | x :: l => by simp [PyData.canLayAll0, h x, canLayAll0_map h l]
theorem depthAll_map {α : Type} {f : α → PyData} {k : Nat} (h : ∀ x, (f x).depth ≤ k) : ∀ l : List α, PyData.depthAll (l.map f) ≤ k
  | [] => by simp [PyData.depthAll]
  | x :: l => by
    simp only [List.map_cons, PyData.depthAll]
    exact Nat.max_le.mpr ⟨h x, depthAll_map h l⟩
def dI (ns : List Int) : PyData := .list (ns.map .int)
def dP (p : Int × Int) : PyData := .tuple [.int p.1, .int p.2]
def dJ (js : List (Int × Int)) : PyData := .list (js.map dP)
def dL (l : Int × List (Int × Int)) : PyData := .tuple [.int l.1, dJ l.2]
theorem okD_int (i : Int) : OkD (.int i) := ⟨rfl, by simp [PyData.depth]⟩
theorem okD_ints (ns : List Int) : OkD (dI ns) := ⟨by simp only [dI, PyData.canLay0]; exact canLayAll0_map (fun _ => rfl) ns, by
  simp only [dI, PyData.depth]
  have := depthAll_map (f := PyData.int) (k := 0) (fun _ => by simp [PyData.depth]) ns
  omega⟩
theorem canLay_P (p : Int × Int) : (dP p).canLay0 = true := by simp [dP, PyData.canLay0, PyData.canLayAll0]
theorem depth_P (p : Int × Int) : (dP p).depth ≤ 1 := by simp [dP, PyData.depth, PyData.depthAll]
theorem okD_P (p : Int × Int) : OkD (dP p) := ⟨canLay_P p, by have := depth_P p; omega⟩
theorem okDs_P (js : List (Int × Int)) : OkDs (js.map dP) := ⟨canLayAll0_map canLay_P js, by have := depthAll_map depth_P js; omega⟩
theorem eqv_same {d : PyData} (h : OkD d) : PyData.eqv d d = true := SeqAt.eqv_refl d h.1
theorem eqv_P (p q : Int × Int) : PyData.eqv (dP p) (dP q) = decide (p = q) := by
  obtain ⟨a, b⟩ := p
  obtain ⟨c, d⟩ := q
  simp only [dP, PyData.eqv, PyData.eqvAll, Bool.and_true]
  rw [Bool.eq_iff_iff]
  simp
theorem any_P (js : List (Int × Int)) (p : Int × Int) : ((js.map dP).any fun z => PyData.eqv z (dP p)) = decide (p ∈ js) := by
  rw [List.any_map, Bool.eq_iff_iff, List.any_eq_true, decide_eq_true_iff]
  constructor
  · rintro ⟨x, hx, e⟩
    have e' : PyData.eqv (dP x) (dP p) = true := e
    rw [eqv_P, decide_eq_true_iff] at e'
    rw [← e']; exact hx
  · intro h
    exact ⟨p, h, by show PyData.eqv (dP p) (dP p) = true; rw [eqv_P]; simp⟩
theorem eqv_list_nil (ds : List PyData) : PyData.eqv (.list ds) (.list []) = ds.isEmpty := by
  cases ds <;> simp [PyData.eqv, PyData.eqvAll]
theorem okD_nil : OkD (.list []) := okD_ints []
end TL
set_option Elab.async false
set_option linter.all false
set_option maxRecDepth 100000
set_option maxHeartbeats 4000000
namespace TL
open PySem PySem.Spec PyProof.Rows L2

/-! ### xs.insert(i, y), 0 ≤ i -/
section
variable {X : Cx}
theorem ins_arr (its : List Value) (k : Nat) (y : Value) : (its.toArray.extract 0 k).push y ++ its.toArray.extract k = (its.take k ++ y :: its.drop k).toArray := PySem.W.kl_ins_eq its k y
def rInsert : V → List V → Hp → VK → Prop := fun x vs H Q => ∃ l xs i y, x = .ref l ∧ vs = [.int i, y] ∧ H l = some (.lst xs) ∧ 0 ≤ i ∧ i ≤ xs.length ∧ xs.length < sizeLine ∧ Q .non (upd H l (.lst (xs.take i.toNat ++ y :: xs.drop i.toNat)))
theorem mt_insert : MtM X "list.insert" rInsert := by
  intro pins s σ H x vs v us Q I rx rv h
  obtain ⟨l, xs, i, y, rfl, rfl, hH, h0, h1, hz, q⟩ := h
  cases rx
  obtain ⟨ui, u, rfl, ri, ru⟩ := rv.two
  obtain ⟨t, rfl⟩ := ri
  obtain ⟨z, its, n, r, hl, e⟩ := I.lstM hH
  have hs : its.toArray.size ≤ sizeLine := by rw [List.size_toArray]; omega
  have hf : Builtin.List.listFitsIndex i = true := by
    unfold Builtin.List.listFitsIndex
    have h63 : (sizeLine : Nat) < 2 ^ 62 := by rw [sizeLine_eq]; decide
    simp only [Bool.and_eq_true, decide_eq_true_eq]
    constructor <;> omega
  refine call_meets PySem.F.slot_list_insert ⟨_, e, rfl⟩ PySem.F.entry_list_insert (PySem.F.args_list_insert_3 _ _ _) (PySem.AutoSeq1.list_insert_list_int_val_1 l its.toArray n i t u (by simp [hf]) hs) ⟨e, ?_⟩
  refine ⟨.non, _, I.lset (its' := its.take i.toNat ++ u :: its.drop i.toNat) (ys := xs.take i.toNat ++ y :: xs.drop i.toNat) hH e ?_ ((r.take i.toNat).append (.cons ru (r.drop i.toNat))) ?_, rfl, q⟩
  · have hk : (if i < 0 then (i + (its.toArray.size : Int)).toNat else min i.toNat its.toArray.size) = i.toNat := by
      rw [if_neg (by omega), List.size_toArray]
      omega
    show (its.toArray.extract 0 (if i < 0 then (i + (its.toArray.size : Int)).toNat else min i.toNat its.toArray.size)).push u ++ its.toArray.extract (if i < 0 then (i + (its.toArray.size : Int)).toNat else min i.toNat its.toArray.size) = _
    rw [hk, ins_arr]
  · rw [List.length_append, List.length_cons, List.length_take, List.length_drop]
    omega
end

/-! ### sorted(list of ints) -/
def srt (ns : List Int) : List Int := ns.mergeSort (fun a b => decide (a ≤ b))
theorem srt_perm (ns : List Int) : (srt ns).Perm ns := List.mergeSort_perm ns _
theorem srt_pair (ns : List Int) : (srt ns).Pairwise (· ≤ ·) := by
  have h := List.pairwise_mergeSort (le := fun a b : Int => decide (a ≤ b)) (by intro a b c h1 h2; simp only [decide_eq_true_eq] at *; omega) (by intro a b; simp only [Bool.or_eq_true, decide_eq_true_eq]; omega) ns
  exact h.imp (by intro a b h; simpa using h)
theorem srt_unique {a b : List Int} (hp : a.Perm b) (ha : a.Pairwise (· ≤ ·)) (hb : b.Pairwise (· ≤ ·)) : a = b := PySem.W.ksm_same hp ha hb
theorem srt_eq {a ns : List Int} (hp : a.Perm ns) (ha : a.Pairwise (· ≤ ·)) : a = srt ns := srt_unique (hp.trans (srt_perm ns).symm) ha (srt_pair ns)
theorem srt_congr {a b : List Int} (hp : a.Perm b) : srt a = srt b := srt_eq ((srt_perm a).trans hp) (srt_pair a)
theorem srt_mem {ns : List Int} {x : Int} : x ∈ srt ns ↔ x ∈ ns := (srt_perm ns).mem_iff
theorem srt_length (ns : List Int) : (srt ns).length = ns.length := (srt_perm ns).length_eq
section
variable {X : Cx}
theorem call_sorted : CallR X (.builtin "sorted") (fun xs H Q => ∃ a ns, xs = [.ref a] ∧ SqL X.K H a (ns.map V.int) ∧ ns.length < 64 ∧ ∀ p, H p = none → Q (.ref p) (upd H p (.lst ((srt ns).map V.int)))) := by
  intro pins s σ H xs us Q I r h
  obtain ⟨a, ns, rfl, hx, h64, q⟩ := h
  obtain ⟨u, rfl, ru⟩ := vals1 r
  cases ru
  obtain ⟨its, rv, p, hz⟩ := I.list hx
  have hlen := rv.length
  rw [List.length_map] at hlen
  refine sorted_ints p.isList (intsAre_of rv) (by omega) fun out ns' h1 h2 h3 => ?_
  obtain ⟨e, he⟩ := sortedAll_at s.heap its out
  have e' : ns' = srt ns := srt_eq h2 h3
  subst e'
  have vo : Vals ((srt ns).map V.int) out.toList := vals_ints h1
  refine ⟨.ref (s.heap.objs.size + 1), _, I.laid (t' := s.toks) (o := .lst ((srt ns).map V.int)) (fun b ob q => sortedAll_old q) (Nat.le_succ _) ⟨?_, out.toList, e, vo, ?_⟩, rfl, q _ (I.hok.fresh (Nat.le_succ _))⟩
  · rw [List.length_map, srt_length]
    rw [List.length_map] at hz
    exact hz
  · rw [he, Array.toArray_toList]
end

/-! ### an iterator has turned and handed out a new tuple -/
theorem Inv.turnedTup {X : Cx} {pins : List (Addr × Obj)} {σ : St} {H : Hp} {s : Shared} {h' : Heap} {t' : Nat} {ch : List Addr} {xs : List V} {us : List Value} (I : Inv X pins σ H s) (hf : ∀ b ∈ ch, FpOk X pins H b)
    (keep : ∀ b o, b ∉ ch → s.heap.get? b = some o → h'.get? b = some o) (r : Vals xs us) (hz : xs.length ≤ sizeLine) (ht : h'.get? s.heap.objs.size = some { cls := .type "tuple", data := .seq us.toArray }) :
    Inv X pins σ (upd H s.heap.objs.size (.tup xs)) { s with heap := h', toks := t' } := by
  have hn : H s.heap.objs.size = none := I.fresh
  have nch : ∀ b u, H b = some u → b ∉ ch := fun b u q z => by rw [(hf b z).1] at q; cases q
  refine I.step (g' := s.gens) (d' := s.drawn) (ch := ch) (fun b hb => ?_) (fun b o _ _ hc q _ => keep b o hc q) (fun b o _ _ hc q _ => ⟨o.slots, keep b o hc q⟩) (fun b o _ q n => ?_)
    (fun b o hc q => ⟨o, keep b o hc q⟩) (fun b ys q => by rw [upd_ne (ne_of_none q hn)]; exact q) (fun b o ys q => by rw [upd_ne (ne_of_none q hn)]; exact q) (fun b ps q => ⟨#[], by rw [upd_ne (ne_of_none q hn), q]; simp⟩) (fun m hm => ?_) (fun b u q => ?_) I.bare
  · obtain ⟨f0, f1, f2, f3, f4, f5⟩ := hf b hb
    exact ⟨f3, f1, f4, f5⟩
  · rw [upd_ne (Nat.ne_of_lt (Heap.lt_size q))]; exact n
  · obtain ⟨o, es, ep, ho, r⟩ := hm
    exact ⟨o, es, ep, keep _ o (fun z => (hf _ z).2.1 rfl) ho, r⟩
  · by_cases hb : b = s.heap.objs.size
    · subst hb
      rw [upd_same] at q
      cases q
      exact ⟨hz, us, r, ⟨_, ht, rfl, _, rfl⟩⟩
    · rw [upd_ne hb] at q
      refine (I.hok b u q).stay (fun c v hc q' => keep c v ?_ q') (fun c z => by rw [upd_ne (ne_of_none z hn)]; exact z) fun c ys z => by rw [upd_ne (ne_of_none z hn)]; exact z
      rcases hc with z | z
      · rw [z]; exact nch b u q
      · exact nch c _ z

/-! ### enumerate(list), a tuple as target -/
section
variable {X : Cx}
end
/-! ### reversed(list) -/
def Itv (K : PySem.W.Frag) (a : Addr) : It :=
  ⟨fun i H => ∃ xs x, SqL K H a xs ∧ xs.reverse[i]? = some x, fun i H x H' => H' = H ∧ ∀ xs, SqL K H a xs → xs.reverse[i]? = some x, fun i H => ∃ xs, SqL K H a xs ∧ xs.length = i⟩
theorem turn_rev {P : Program} {w : World} {K : PySem.W.Frag} {tg : Expr} (a it : Addr) (n : Nat) : Turn P w K tg ⟨fun i H => (Itv K a).go i H ∧ ∃ xs, SqL K H a xs ∧ xs.length = n, (Itv K a).yld, fun i H => i = n⟩ [it] it (fun i h => i ≤ n ∧ h.IsRevIter it a ((n : Int) - 1 - (i : Int))) where
  mem := by simp
  obj := fun i h st b hb => by
    have e : b = it := by simpa using hb
    subst e
    obtain ⟨_, o, e, c, d⟩ := st
    exact ⟨o, e, fun v z => by rw [d] at z; cases z⟩
  keep := fun i h h' st k => ⟨st.1, st.2.at fun o e => k it (by simp) o e⟩
  item := by
    intro X hP hw hK hc i pins s σ H E I hf st hg
    subst hP hw hK
    obtain ⟨⟨xs, x, hq, hx⟩, ys, hq2, hn⟩ := hg
    have e0 := I.list_inj hq2 hq
    subst e0
    obtain ⟨its, rv, p, hz⟩ := I.list hq
    have hil : i < ys.length := by have := (List.getElem?_eq_some_iff.mp hx).1; rwa [List.length_reverse] at this
    have hx' : ys[ys.length - 1 - i]? = some x := by rw [List.getElem?_reverse hil] at hx; exact hx
    obtain ⟨u, hu, ru⟩ := rv.get hx'
    obtain ⟨f0, f1, f2, f3, f4, f5⟩ := hf it (by simp)
    have e1 : (n : Int) - 1 - (i : Int) = ((ys.length - 1 - i : Nat) : Int) := by omega
    have st2 := st.2
    rw [e1] at st2
    refine wpAny_pyNext_rev_item st2 p.isList (x := u) (by simpa using hu) fun h' st' sb => ?_
    have I1 : Inv X pins σ H { s with heap := h' } := I.turned (t' := s.toks) (fun b o hb e => (sb.2 b hb).trans e) f0 f1 f3 f4 f5
    have e2 : ((ys.length - 1 - i : Nat) : Int) - 1 = (n : Int) - 1 - ((i + 1 : Nat) : Int) := by omega
    rw [e2] at st'
    obtain ⟨o, e, c, d⟩ := id st'
    exact ⟨u, rfl, go_of (s := { s with heap := h' }) e c d (by decide) ⟨x, H, I1, ru, ⟨rfl, fun zs hy => by rw [I.list_inj hy hq]; exact hx⟩, ⟨by omega, st'⟩, fun b hb => (hf b hb).1⟩⟩
  done := by
    intro X hP hw hK hc i pins s σ H E I hf st hg
    subst hP hw hK
    have hg : i = n := hg
    subst hg
    obtain ⟨f0, f1, f2, f3, f4, f5⟩ := hf it (by simp)
    have e1 : (i : Int) - 1 - (i : Int) = -1 := by omega
    have st2 := st.2
    rw [e1] at st2
    exact wpAny_pyNext_rev_end (I.ok.hd hc) st2 fun h' eb => ⟨rfl, I.turned (t' := s.toks) (fun b o hb e => eb b o hb e) f0 f1 f3 f4 f5⟩
  self := fun _ _ _ _ _ st h => wpAny_pyIter_revIter st.2 h
section
variable {X : Cx} {tg : Expr}
def iRev (K : PySem.W.Frag) (ta : TA) : TI := fun σ H R => ta σ H fun vs H1 => ∃ a xs, vs = [.ref a] ∧ SqL K H1 a xs ∧ R ⟨fun i H => (Itv K a).go i H ∧ ∃ ys, SqL K H a ys ∧ ys.length = xs.length, (Itv K a).yld, fun i H => i = xs.length⟩ H1
theorem pi_rev {a : Expr} {ta : TA} {p pos : Pos} (hg : Gl X "reversed") (hm : X.mg "reversed" = none) (ha : PA X [a] ta) (hs : starEach [a] X.env = [(false, eval a X.env)] := by rfl) : PI X tg (.Call (.Name "reversed" p) [a] [] pos) (iRev X.K ta) := by
  intro pins s σ H R I h
  refine Call_ (ld_blt I hg hm boot_reversed (PyProof.Rows.callWith_type1 (thn (ha pos pins s σ H _ I h) fun us s1 ⟨vs, H1, I1, r1, q1⟩ => ?_) hs rfl))
  obtain ⟨a, xs, e, hq, q⟩ := q1
  subst e
  obtain ⟨u, rfl, ru⟩ := vals1 r1
  cases ru
  obtain ⟨its, rv, pl, hz⟩ := I1.list hq
  have hl := rv.length
  refine call_reversed_list pl.isList ?_
  have hit : Heap.IsRevIter (s1.heap.push (revObj a ((its.toArray.size : Int) - 1))) s1.heap.objs.size a (((xs.length : Nat) : Int) - 1 - ((0 : Nat) : Int)) := by
    refine ⟨_, Heap.get?_push_size _ rfl, rfl, ?_⟩
    have e1 : ((xs.length : Nat) : Int) - 1 - ((0 : Nat) : Int) = (its.toArray.size : Int) - 1 := by rw [List.size_toArray]; omega
    rw [e1]; rfl
  refine wpAny_pyIter_revIter (s := { s1 with heap := s1.heap.push (revObj a ((its.toArray.size : Int) - 1)) }) hit ?_
  refine ⟨s1.heap.objs.size, [s1.heap.objs.size], _, _, H1, rfl, I1.kept (t' := s1.toks) (fun b o e => Heap.get?_push_of_some _ e), turn_rev a _ xs.length, ⟨Nat.zero_le _, hit⟩, fun b hb => ?_, q⟩
  have e : b = s1.heap.objs.size := by simpa using hb
  subst e
  exact I1.fpOk (Nat.le_refl _) (I1.hok.fresh (Nat.le_refl _))
end

/-! ### xs[::-1] -/
section
variable {X : Cx} {e : Expr} {te : TE} {pos p2 : Pos}
def tRevSl (K : PySem.W.Frag) (te ts : TE) : TE := fun σ H Q => te σ H fun x H1 => ts σ H1 fun y H2 => ∃ i, y = .int i ∧ ∃ a xs, some i = some (-1 : Int) ∧ x = .ref a ∧ SqL K H2 a xs ∧ ∀ p, H2 p = none → Q (.ref p) (upd H2 p (.lst xs.reverse))
theorem pe_revsl {st : Expr} {ts : TE} (he : PE X e te) (hs : PE X st ts) : PE X (.Subscript e (.Slice none none (some st) p2) pos) (tRevSl X.K te ts) := by
  intro pins s σ H Q I h
  refine Subscript_ (thn (he pins s σ H _ I h) fun v s1 ⟨x, H1, I1, r1, q1⟩ => ?_)
  refine wpAny_Slice ?_
  rw [evalPart_none]
  refine wpAny_pure (wpAny_pure (thn (po_some hs pins s1 σ H1 (fun o H2 => ∃ a xs, o = some (-1) ∧ x = .ref a ∧ SqL X.K H2 a xs ∧ ∀ p, H2 p = none → Q (.ref p) (upd H2 p (.lst xs.reverse))) I1 q1) fun vk s3 ⟨o, H3, I3, pk, q3⟩ => ?_))
  · obtain ⟨a, xs, rfl, rfl, hq, q⟩ := q3
    cases r1
    have I4 : Inv X pins σ H3 { s3 with heap := s3.heap.push { cls := .type "slice", data := .fields #[.none, .none, vk] } } := I3.kept (t' := s3.toks) fun b ob q => Heap.get?_push_of_some _ q
    obtain ⟨its, r, ht, hz⟩ := I4.list hq
    have hlen := r.length
    refine tail_any (ops := [.ref a, .ref s3.heap.objs.size]) ht.isList.typeIs slot_list_getitem.lookup ?_ (by with_unfolding_all rfl)
    refine wpAny_getItem_list_slice ht.isList (Heap.IsSliceOf.new ..) .none .none pk (by simp) ?_ (by rw [List.size_toArray] <;> omega)
    rw [PySem.W.krv_pick]
    refine ⟨.ref _, _, I4.laid (t' := s3.toks) (o := .lst xs.reverse) (fun b ob q => Heap.get?_push_of_some _ q) (Nat.le_refl _) ⟨by rw [List.length_reverse]; exact hz, its.reverse, 0, r.reverse, ?_⟩, rfl, q _ (I4.hok.fresh (Nat.le_refl _))⟩
    exact Heap.get?_push_size _ rfl
end
end TL
set_option Elab.async false
set_option linter.all false
set_option maxRecDepth 100000
set_option maxHeartbeats 4000000
namespace TL
open PySem PySem.Spec PyProof.Rows L2

/-! ### isinstance(x, T), T a built-in type -/
/-! ### names of the module that are the builtins' own -/
structure Bl (mg : Str → Option Value) : Prop where
  len : mg "len" = none
  range : mg "range" = none
  sorted : mg "sorted" = none
  enumerate : mg "enumerate" = none
  reversed : mg "reversed" = none
  min : mg "min" = none
  max : mg "max" = none
  list : mg "list" = none
  int : mg "int" = none
  isinstance : mg "isinstance" = none
/-- a def of the module -/
structure Fn (K : PySem.W.Frag) (mg : Str → Option Value) (x : Str) (st : Stmt) (ps : List Str) (f : Addr) (fd : FuncData) : Prop where
  F : Fun K x x st f fd
  m : mg x = some (.ref f)
  b : Binds K fd ps []

/-! ### the mathematics of a line -/
def below (js : List (Int × Int)) (e : Int) : List Int := (js.filter fun p => decide (p.2 = e)).map (·.1)
def above (js : List (Int × Int)) (e : Int) : List Int := (js.filter fun p => decide (p.1 = e)).map (·.2)
def inc (js : List (Int × Int)) (e : Int) : Nat := (below js e).length + (above js e).length
def jn (js : List (Int × Int)) (e : Int) : List Int := srt (below js e ++ above js e)
/-- what the makers of lines keep -/
structure LineOk (l : Int × List (Int × Int)) : Prop where
  one : 1 ≤ l.1
  most : l.1 ≤ 40
  len : l.2.length ≤ 80
  inc : ∀ e, inc l.2 e ≤ 60
  ends : ∀ p ∈ l.2, 0 ≤ p.1 ∧ p.1 ≤ p.2 ∧ p.2 < 2 * l.1
theorem inc_le (js : List (Int × Int)) (e : Int) : inc js e ≤ 2 * js.length := by
  unfold inc below above
  rw [List.length_map, List.length_map]
  have h1 := List.length_filter_le (fun p : Int × Int => decide (p.2 = e)) js
  have h2 := List.length_filter_le (fun p : Int × Int => decide (p.1 = e)) js
  omega
/-! ### new lists of ints -/
/-- a new list of these ints has come, nothing else is changed -/
def NewInts (H : Hp) (ns : List Int) (Q : VK) : Prop := ∀ (p : Addr) (H' : Hp), Same H H' → H p = none → H' p = some (.lst (ns.map V.int)) → Q (.ref p) H'
theorem Same.upd {H H' : Hp} {l : Addr} {o : HO} (s : Same H H') (hn : H l = none) : Same H (upd H' l o) := fun b u e => by rw [upd_ne (ne_of_none e hn)]; exact s b u e
theorem da_ints {K : PySem.W.Frag} {H : Hp} {ns : List Int} {v : V} : Da K H (dI ns) v ↔ ∃ a, v = .ref a ∧ SqL K H a (ns.map V.int) := by
  unfold dI
  refine Iff.trans dg_list ?_
  constructor
  · rintro ⟨a, vs, rfl, h, q⟩
    rw [dgs_ints.mp q] at h
    exact ⟨a, rfl, h⟩
  · rintro ⟨a, rfl, h⟩
    exact ⟨a, _, rfl, h, dgs_ints.mpr rfl⟩
theorem da_new {K : PySem.W.Frag} {H : Hp} {ns : List Int} {p : Addr} (h : H p = some (.lst (ns.map V.int))) : Da K H (dI ns) (.ref p) := da_ints.mpr ⟨p, rfl, SqL.of h⟩
/-- the joints of a line, pair by pair -/
theorem da_line {K : PySem.W.Frag} {H : Hp} {l : Int × List (Int × Int)} {v : V} (h : Da K H (dL l) v) : ∃ a b, v = .ref a ∧ SqT K H a [.int l.1, .ref b] ∧ ∃ vs, SqL K H b vs ∧ Das K H (l.2.map dP) vs := by
  unfold dL at h
  obtain ⟨a, vs, rfl, ht, q⟩ := dg_tuple.mp h
  obtain ⟨v1, r, rfl, h1, q⟩ := dgs_cons.mp q
  obtain ⟨v2, r, rfl, h2, q⟩ := dgs_cons.mp q
  cases dgs_nil.mp q
  cases dg_int.mp h1
  unfold dJ at h2
  obtain ⟨b, us, rfl, hl, q⟩ := dg_list.mp h2
  exact ⟨a, b, rfl, ht, us, hl, q⟩
theorem das_pair {K : PySem.W.Frag} {H : Hp} {js : List (Int × Int)} {vs : List V} {i : Nat} {x : V} (h : Das K H (js.map dP) vs) (e : vs[i]? = some x) : ∃ a p, js[i]? = some p ∧ x = .ref a ∧ SqT K H a [.int p.1, .int p.2] := by
  obtain ⟨d, e1, hd⟩ := Dgs.get h e
  rw [List.getElem?_map] at e1
  cases q : js[i]? with
  | none => rw [q] at e1; cases e1
  | some p =>
    rw [q] at e1
    cases e1
    unfold dP at hd
    obtain ⟨a, us, rfl, ht, q⟩ := dg_tuple.mp hd
    obtain ⟨v1, r, rfl, h1, q⟩ := dgs_cons.mp q
    obtain ⟨v2, r, rfl, h2, q⟩ := dgs_cons.mp q
    cases dgs_nil.mp q
    cases dg_int.mp h1
    cases dg_int.mp h2
    exact ⟨a, p, rfl, rfl, ht⟩
theorem okDs_I (ms : List Int) : OkDs (ms.map PyData.int) := ⟨canLayAll0_map (fun _ => rfl) ms, by have := depthAll_map (f := PyData.int) (k := 0) (fun _ => by simp [PyData.depth]) ms; omega⟩
theorem any_I (ms : List Int) (x : Int) : ((ms.map PyData.int).any fun z => PyData.eqv z (.int x)) = decide (x ∈ ms) := by
  rw [List.any_map, Bool.eq_iff_iff, List.any_eq_true, decide_eq_true_iff]
  constructor
  · rintro ⟨y, hy, e⟩
    have e' : PyData.eqv (.int y) (.int x) = true := e
    simp only [PyData.eqv, beq_iff_eq] at e'
    rw [← e']; exact hy
  · intro h
    exact ⟨x, h, by show PyData.eqv (.int x) (.int x) = true; simp [PyData.eqv]⟩

theorem yes_if {σ : St} {H : Hp} {A B : Hp → Prop} (h : A H) : tYes σ H (fun b H3 => if b = true then A H3 else B H3) := iteT (A := A H) (B := B H) h
theorem name_yes {i : Nat} {x : V} {σ : St} {H : Hp} {te : TE} {P1 : VK} {P0 : Hp → Prop} (h : te (σ.set i (some x)) H P1) : gName i x σ H (fun σ2 H2 => tYes σ2 H2 fun b H3 => if b = true then te σ2 H3 P1 else P0 H3) := iteT (A := te (σ.set i (some x)) H P1) (B := P0 H) h
theorem filt_true {α : Type} (xs : List α) : (xs.filter fun _ => true) = xs := by simp
/-! ### the rules that name K, for a comprehension's block (K := K) rfl -/
section
variable {X : Cx} {K : PySem.W.Frag}
theorem op_notInDk (hK : X.K = K) (hu : X.A.units + 64 < cLine) : OpR X (compareOp .NotIn) (rInD K true) := hK ▸ op_notInD hu
theorem op_eqDk (hK : X.K = K) (hu : X.A.units + 64 < cLine) : OpR X (compareOp .Eq) (rEqD K) := hK ▸ op_eqD hu
theorem ix_listk (hK : X.K = K) : IxR X (rIxL K) := hK ▸ ix_list
theorem ix_tupk (hK : X.K = K) : IxR X (rIxT K) := hK ▸ ix_tup
end

/-! ### a comprehension over any iterator that leaves the heap as it is -/
structure JS (J : It) (n : Nat) (H1 : Hp) (it : Nat → V → Prop) : Prop where
  go : ∀ i H, Same H1 H → i < n → J.go i H
  yld : ∀ i H x H', Same H1 H → i < n → J.yld i H x H' → H' = H ∧ it i x
  stop : ∀ H, Same H1 H → J.stop n H
theorem js_list {K : PySem.W.Frag} {a : Addr} {xs : List V} {H1 : Hp} (hx : SqL K H1 a xs) : JS (Itl K a) xs.length H1 (fun i x => xs[i]? = some x) :=
  ⟨fun i H s hi => ⟨xs, xs[i], s.seq hx, by simp⟩, fun i H x H' s hi y => ⟨y.1, y.2 xs (s.seq hx)⟩, fun H s => ⟨xs, s.seq hx, Nat.le_refl _⟩⟩
theorem js_rev {K : PySem.W.Frag} {a : Addr} {xs : List V} {H1 : Hp} (hx : SqL K H1 a xs) : JS ⟨fun i H => (Itv K a).go i H ∧ ∃ ys, SqL K H a ys ∧ ys.length = xs.length, (Itv K a).yld, fun i H => i = xs.length⟩ xs.length H1 (fun i x => xs.reverse[i]? = some x) :=
  ⟨fun i H s hi => ⟨⟨xs, xs.reverse[i]'(by rw [List.length_reverse]; exact hi), s.seq hx, List.getElem?_eq_getElem _⟩, xs, s.seq hx, rfl⟩, fun i H x H' s hi y => ⟨y.1, y.2 xs (s.seq hx)⟩, fun H s => rfl⟩
theorem lc_pureJ {α : Type} {J : It} {n : Nat} {it : Nat → V → Prop} {l : Addr} {g : TG} {tt : TT} {te : TE} {cap : List (Option Nat)} {σ : St} {Q : VK} {H1 : Hp} (S : JS J n H1 it) (ds : List α) (p : α → Bool) (f : α → V) (hn : H1 l = none) (hlen : n = ds.length) (hz : n < sizeLine)
    (hs : ∀ (i : Nat) x d H, it i x → ds[i]? = some d → Same H1 H → ∀ (P1 : VK) (P0 : Hp → Prop), (p d = true → P1 (f d) H) → (p d = false → P0 H) →
      g x (capSt cap σ) H fun σ2 H2 => tt σ2 H2 fun b H3 => if b = true then te σ2 H3 P1 else P0 H3)
    (hq : Q (.ref l) (upd H1 l (.lst ((ds.filter p).map f)))) : LcW J g tt te cap σ Q l H1 := by
  refine ⟨fun i m acc H => m = n - i ∧ i ≤ n ∧ acc = ((ds.take i).filter p).map f ∧ H = upd H1 l (.lst acc), ⟨n, by simp, Nat.zero_le _, rfl, rfl⟩, ?_⟩
  rintro i m acc H ⟨rfl, hi, e1, e2⟩
  have sm : Same H1 H := by rw [e2]; exact same_upd hn
  by_cases hlt : i < n
  · refine .inr ⟨S.go i H sm hlt, fun acc' H' => acc' = ((ds.take (i + 1)).filter p).map f ∧ H' = upd H1 l (.lst acc'), fun acc' H' ⟨p1, p2⟩ => ⟨n - (i + 1), by omega, rfl, hlt, p1, p2⟩, fun x H' y0 => ?_⟩
    obtain ⟨e, y⟩ := S.yld i H x H' sm hlt y0
    clear y0
    subst e
    have hd : ds[i]? = some (ds[i]'(by omega)) := by simp
    generalize ds[i]'(by omega) = d at hd
    have step : ((ds.take (i + 1)).filter p).map f = acc ++ (if p d = true then [f d] else []) := by
      rw [take_succ_filter p ds i d hd, List.map_append, e1]
      cases p d <;> rfl
    refine hs i x d H' y hd sm _ _ (fun hp => ?_) (fun hp => ?_)
    · refine ⟨by rw [e2, upd_same], ?_, ?_, ?_⟩
      · have h1 : acc.length ≤ i := by
          rw [e1, List.length_map]
          exact Nat.le_trans (List.length_filter_le _ _) (by rw [List.length_take]; omega)
        omega
      · rw [step, hp]; rfl
      · rw [e2, upd_upd]
    · refine ⟨?_, e2⟩
      rw [step, hp, if_neg Bool.false_ne_true, List.append_nil]
  · have e : i = n := by omega
    subst e
    refine .inl ⟨S.stop H sm, ?_⟩
    rw [hlen, List.take_length] at e1
    rw [e2, e1]
    exact hq
end TL
set_option Elab.async false
set_option linter.all false
set_option maxRecDepth 100000
set_option maxHeartbeats 4000000
namespace TL
open PySem PySem.Spec PyProof.Rows L2

/-! ### moves -/
abbrev Mv := (Str × Int) × List Int
def dMv (m : Mv) : PyData := .tuple [.tuple [.str m.1.1, .int m.1.2], dI m.2]
def dMs (ms : List Mv) : PyData := .list (ms.map dMv)
def fr (l : Int × List (Int × Int)) (ns : List Int) (e : Int) : List Int := (jn l.2 e).filter fun t => !decide (t / 2 ∈ ns.map (· / 2))
def onM (ns : List Int) (e : Int) : Mv := (("on", e), ns.drop 1 ++ [e])
def backM (ns : List Int) (e : Int) : Mv := (("back", e), oth e :: ns.dropLast)
def mvs (l : Int × List (Int × Int)) (ns : List Int) : List Mv := (fr l ns (oth (ns.getLastD 0))).map (onM ns) ++ (fr l ns (ns.headD 0)).map (backM ns)
/-- a list within: tracked, new since H, not at t -/
def Lf (H H2 : Hp) (t : Addr) : Addr → List V → Prop := fun a us => H2 a = some (.lst us) ∧ H a = none ∧ a ≠ t
theorem sqt_upd {K : PySem.W.Frag} {H : Hp} {t b : Addr} {vs xs : List V} {o : HO} (ht : H t = some (.lst vs)) (h : SqT K H b xs) : SqT K (upd H t o) b xs := by
  rcases h with (h | ⟨o, h⟩) | h
  · exact .inl (.inl (by rw [upd_ne (ne_of h ht (by intro z; cases z))]; exact h))
  · exact .inl (.inr ⟨o, by rw [upd_ne (ne_of h ht (by intro z; cases z))]; exact h⟩)
  · exact .inr h
theorem Dgs.grow {K : PySem.W.Frag} {H H2 H5 : Hp} {t : Addr} {o : HO} {vs : List V} {ds : List PyData} {us : List V} (D : Dgs (Lf H H2 t) (SqT K H2) ds us) (S5 : Same H2 H5) (ht : H5 t = some (.lst vs)) :
    Dgs (Lf H (upd H5 t o) t) (SqT K (upd H5 t o)) ds us :=
  Dgs.mono (fun a us ⟨h1, h2, h3⟩ => ⟨by rw [upd_ne h3]; exact S5 _ _ h1, h2, h3⟩) (fun a us h => sqt_upd ht (same_tseq S5 h)) D
/-- one move more -/
theorem push_move {K : PySem.W.Frag} {H H2 H5 : Hp} {t p1 p4 p5 : Addr} {vs : List V} {ms : List Mv} {w : Str} {e : Int} {xs : List Int} (S : Same H H2) (hn : H t = none) (ht : H2 t = some (.lst vs)) (D : Dgs (Lf H H2 t) (SqT K H2) (ms.map dMv) vs)
    (S5 : Same H2 H5) (h1 : H5 p1 = some (.tup [.str w, .int e])) (n4 : H2 p4 = none) (h4 : H5 p4 = some (.lst (xs.map V.int))) (h5 : H5 p5 = some (.tup [.ref p1, .ref p4])) :
    Same H (upd H5 t (.lst (vs ++ [.ref p5]))) ∧ (upd H5 t (.lst (vs ++ [.ref p5]))) t = some (.lst (vs ++ [.ref p5])) ∧
      Dgs (Lf H (upd H5 t (.lst (vs ++ [.ref p5]))) t) (SqT K (upd H5 t (.lst (vs ++ [.ref p5])))) ((ms ++ [((w, e), xs)]).map dMv) (vs ++ [.ref p5]) := by
  have ht5 := S5 _ _ ht
  have q4 : p4 ≠ t := (ne_of_none ht n4).symm
  refine ⟨Same.upd (S.trans S5) hn, upd_same, ?_⟩
  rw [List.map_append]
  refine Dgs.append (D.grow S5 ht5) (Dgs.one ?_)
  refine dg_tuple.mpr ⟨p5, _, rfl, sqt_upd ht5 (SqT.of h5), Dgs.two ?_ ?_⟩
  · exact dg_tuple.mpr ⟨p1, _, rfl, sqt_upd ht5 (SqT.of h1), Dgs.two (dg_str.mpr rfl) (dg_int.mpr rfl)⟩
  · exact dg_list.mpr ⟨p4, _, rfl, ⟨by rw [upd_ne q4]; exact h4, Same.free S n4, q4⟩, dgs_ints.mpr rfl⟩
/-- a new list of moves has come -/
def NewMoves (K : PySem.W.Frag) (H : Hp) (ms : List Mv) (Q : VK) : Prop := ∀ (p : Addr) (vs : List V) (H' : Hp), Same H H' → H p = none → H' p = some (.lst vs) → Dgs (Lf H H' p) (SqT K H') (ms.map dMv) vs → Q (.ref p) H'
theorem da_moves {K : PySem.W.Frag} {H H' : Hp} {ms : List Mv} {p : Addr} {vs : List V} (h : H' p = some (.lst vs)) (D : Dgs (Lf H H' p) (SqT K H') (ms.map dMv) vs) : Da K H' (dMs ms) (.ref p) :=
  dg_list.mpr ⟨p, vs, rfl, SqL.of h, Dgs.mono (fun a us h => SqL.of h.1) (fun _ _ h => h) D⟩

/-! ### slices and places -/
theorem cut_tail (ns : List Int) : cutV (ns.map V.int) (some 1) none = (ns.drop 1).map V.int := by
  unfold cutV
  rw [HT.sIx_none]
  have e : HT.sIx (ns.map V.int).length 0 (some 1) = min 1 (ns.map V.int).length := HT.sIx_nat _ _ 1
  rw [e, List.length_map, List.map_drop]
  cases ns with
  | nil => rfl
  | cons a r =>
    have e1 : min 1 (a :: r).length = 1 := by simp
    rw [e1]
    simp
    exact List.take_of_length_le (by simp)
theorem cut_init (ns : List Int) : cutV (ns.map V.int) none (some (-1)) = ns.dropLast.map V.int := by
  unfold cutV
  have e : HT.sIx (ns.map V.int).length (ns.map V.int).length (some (-1)) = ns.length - 1 := by
    have h := HT.clip_eq (-1) (ns.map V.int).length (ns.map V.int).length
    rw [List.length_map] at h ⊢
    rw [if_pos (by decide)] at h
    omega
  rw [e, HT.sIx_none, List.drop_zero, Nat.sub_zero, ← List.map_take, List.dropLast_eq_take]
theorem at_last {ns : List Int} (h : ns ≠ []) : atI (ns.map V.int) (-1) = some (V.int (ns.getLastD 0)) := by
  obtain ⟨r, x, rfl⟩ : ∃ r x, ns = r ++ [x] := ⟨ns.dropLast, ns.getLast h, (List.dropLast_concat_getLast h).symm⟩
  rw [List.map_append]
  show atI (r.map V.int ++ [V.int x]) (-1) = _
  rw [atI_last]
  have e : (r ++ [x]).getLastD 0 = x := by simp [List.getLastD_eq_getLast?]
  rw [e]
theorem at_first {ns : List Int} (h : ns ≠ []) : atI (ns.map V.int) 0 = some (V.int (ns.headD 0)) := by
  cases ns with
  | nil => exact absurd rfl h
  | cons a r => exact atI_nat (j := 0) rfl
end TL
set_option Elab.async false
set_option linter.all false
set_option maxRecDepth 100000
set_option maxHeartbeats 4000000
namespace TL
open PySem PySem.Spec PyProof.Rows L2
/-! ### lists of pairs that are being built: no list stands within -/
abbrev NoL : Addr → List V → Prop := fun _ _ => False
abbrev Ps (K : PySem.W.Frag) (H : Hp) (js : List (Int × Int)) (vs : List V) : Prop := Dgs NoL (SqT K H) (js.map dP) vs
theorem Ps.same {K : PySem.W.Frag} {H H' : Hp} {js : List (Int × Int)} {vs : List V} (D : Ps K H js vs) (S : Same H H') : Ps K H' js vs := Dgs.mono (fun _ _ h => h) (fun _ _ h => same_tseq S h) D
theorem Ps.updt {K : PySem.W.Frag} {H : Hp} {js : List (Int × Int)} {vs us : List V} {t : Addr} {o : HO} (D : Ps K H js vs) (ht : H t = some (.lst us)) : Ps K (upd H t o) js vs := Dgs.mono (fun _ _ h => h) (fun _ _ h => sqt_upd ht h) D
theorem Ps.das {K : PySem.W.Frag} {H : Hp} {js : List (Int × Int)} {vs : List V} (D : Ps K H js vs) : Das K H (js.map dP) vs := Dgs.mono (fun _ _ h => h.elim) (fun _ _ h => h) D
theorem Ps.da {K : PySem.W.Frag} {H : Hp} {js : List (Int × Int)} {vs : List V} {t : Addr} (D : Ps K H js vs) (ht : H t = some (.lst vs)) : Da K H (dJ js) (.ref t) := dg_list.mpr ⟨t, vs, rfl, SqL.of ht, D.das⟩
theorem Ps.len {K : PySem.W.Frag} {H : Hp} {js : List (Int × Int)} {vs : List V} (D : Ps K H js vs) : vs.length = js.length := by rw [D.length, List.length_map]
theorem pair_dg {K : PySem.W.Frag} {H : Hp} {p : Addr} {x : Int × Int} (h : H p = some (.tup [.int x.1, .int x.2])) : Dg NoL (SqT K H) (dP x) (.ref p) := dg_tuple.mpr ⟨p, _, rfl, SqT.of h, Dgs.two (dg_int.mpr rfl) (dg_int.mpr rfl)⟩
theorem Ps.ins {K : PySem.W.Frag} {H : Hp} {js : List (Int × Int)} {vs : List V} {t p : Addr} {x : Int × Int} {o : HO} (i : Nat) (D : Ps K H js vs) (ht : H t = some (.lst vs)) (hp : H p = some (.tup [.int x.1, .int x.2])) : Ps K (upd H t o) (js.take i ++ x :: js.drop i) (vs.take i ++ .ref p :: vs.drop i) := by
  show Dgs _ _ ((js.take i ++ x :: js.drop i).map dP) _
  rw [List.map_append, List.map_cons, List.map_take, List.map_drop]
  exact Dgs.insert i (D.updt ht) (Dg.mono (fun _ _ h => h) (fun _ _ h => sqt_upd ht h) (pair_dg hp))
theorem da_mkline {K : PySem.W.Frag} {H : Hp} {l : Int × List (Int × Int)} {p t : Addr} (h : H p = some (.tup [.int l.1, .ref t])) (hd : Da K H (dJ l.2) (.ref t)) : Da K H (dL l) (.ref p) := dg_tuple.mpr ⟨p, _, rfl, SqT.of h, Dgs.two (dg_int.mpr rfl) hd⟩
theorem perm_ins {α : Type} (l : List α) (i : Nat) (x : α) : (l.take i ++ x :: l.drop i).Perm (x :: l) := by
  have h := List.perm_middle (a := x) (l₁ := l.take i) (l₂ := l.drop i)
  rw [List.take_append_drop] at h
  exact h
theorem min_if (i j : Int) : (if j < i then j else i) = min i j := by omega
theorem max_if (i j : Int) : (if j > i then j else i) = max i j := by omega
theorem at_int {ns : List Int} {i : Int} (h0 : 0 ≤ i) (h1 : i < ns.length) : ∃ x, ns[i.toNat]? = some x ∧ x ∈ ns ∧ atI (ns.map V.int) i = some (V.int x) := by
  have hlt : i.toNat < ns.length := by omega
  refine ⟨ns[i.toNat], by simp, List.getElem_mem _, ?_⟩
  have h := atI_nat (xs := ns.map V.int) (j := i.toNat) (v := V.int ns[i.toNat]) (by rw [List.getElem?_map]; simp)
  have e1 : ((i.toNat : Nat) : Int) = i := by omega
  rw [e1] at h
  exact h
end TL
set_option maxRecDepth 100000
namespace L2
open PySem PySem.Spec PySem.Calls PyProof.Rows PySem.W

section
variable {prog : Program} {w : World} {A : Around} {E : Value → Shared → Prop} {s : Shared} {K : Frag} {a C : Addr} {o : Obj}

/-- the facts of an own exception's class -/
structure ExC (K : Frag) (C : Addr) : Prop where
  obj : mroIn K C (.type "object") = some true
  bex : mroIn K C (.type "BaseException") = some true
  cls : findIn K (.ref C) "__class__" = some (some (.builtin "object.__class__"))
  ga : findIn K (.ref C) "__getattribute__" = some (some (.builtin "BaseException.__getattribute__"))
  gn : findIn K (.ref C) "__getattr__" = some none
  isc : (clsIn K C).isSome = true

end
end L2
set_option maxRecDepth 100000
set_option linter.all false
namespace L2
open PySem PySem.Spec PySem.Calls PyProof.Rows PySem.W

/-! ### exceptions: how one lies behind a call -/
section
variable {P : Program} {w : World} {H H1 : Hp} {h : Heap} {a : Addr} {o : HO}
theorem ObjOk.some (x : ObjOk P w H h a o) : ∃ u, h.get? a = Option.some u := by
  cases o with
  | lst xs => obtain ⟨_, _, _, _, e⟩ := x; exact ⟨_, e⟩
  | tup xs => obtain ⟨_, _, _, p⟩ := x; obtain ⟨u, e, _⟩ := p; exact ⟨u, e⟩
  | dK kvs => obtain ⟨_, _, _, _, o, _, _, e, _⟩ := x; exact ⟨_, e⟩
  | dT kvs => obtain ⟨_, _, _, _, o, _, _, e, _⟩ := x; exact ⟨_, e⟩
  | set S n => obtain ⟨o, _, _, _, e, _⟩ := x; exact ⟨_, e⟩
  | ins C dx fs => obtain ⟨_, _, _, e, _⟩ := x; exact ⟨_, e⟩
  | own y => obtain ⟨_, e⟩ := x; exact ⟨_, e⟩
  | xd fs => obtain ⟨_, ⟨_, _, _, e, _⟩, _⟩ := x; exact ⟨_, e⟩
  | rng lo hi => obtain ⟨_, _, _, e⟩ := x; exact ⟨_, e⟩
  | frz ob u => obtain ⟨e, _⟩ := x; exact ⟨_, e⟩
  | tbl ps => exact ⟨_, (show h.get? a = Option.some _ from x)⟩
  | met f y => exact ⟨_, (show h.get? a = Option.some _ from x)⟩
  | ext φ => obtain ⟨_, ⟨_, e⟩, _⟩ := x; exact ⟨_, e⟩
theorem HOk.none_of (x : HOk P w H h) (e : h.get? a = Option.none) : H a = Option.none := by
  cases q : H a with
  | none => rfl
  | some u => obtain ⟨v, z⟩ := (x a u q).some; rw [e] at z; cases z
end

/-- what is kept by an exception that flies: B holds all but the frames and what is made for the exception -/
structure Fl0 (P : Program) (w : World) (base : Heap) (l : List Env) (H H1 : Hp) (h0 B h : Heap) : Prop where
  bas : base.StaysIn B
  hok : HOk P w H1 B
  kp : ∀ b o, h0.get? b = some o → H b = none → b ∉ frs l → B.get? b = some o
  thr : ∀ b o, h0.get? b = some o → b ∉ frs l → ∃ o', B.get? b = some o'
  un : Un (frs l) [] H H1 h0 h
theorem Fl0.step {P : Program} {w : World} {base : Heap} {l : List Env} {H H1 : Hp} {h0 B h h' : Heap} (x : Fl0 P w base l H H1 h0 B h) (st : B.StaysIn h') (ff : h.FunFrames B l) (ff' : h'.FunFrames B l) (sm : h.UpToSlots h') :
    Fl0 P w base l H H1 h0 B h' := by
  refine ⟨x.bas, x.hok, x.kp, x.thr, ⟨fun b o q n hb _ => st b o (x.kp b o q n hb), fun b o q n hb _ => ?_, x.un.free, fun b o q _ => ?_, x.un.tups, x.un.frzs, x.un.tbls⟩⟩
  · obtain ⟨sl, e⟩ := x.un.slot b o q n hb (by simp)
    obtain ⟨_, o2, e2, nf⟩ := ff.mem hb
    rw [e] at e2; cases e2
    obtain ⟨sl', e'⟩ := sm b _ e nf
    exact ⟨sl', e'⟩
  · by_cases hb : b ∈ frs l
    · obtain ⟨_, o2, e2, _⟩ := ff'.mem hb
      exact ⟨o2, e2⟩
    · obtain ⟨o', e⟩ := x.thr b o q hb
      exact ⟨o', st b o' e⟩

structure Fl (P : Program) (w : World) (base : Heap) (l : List Env) (H H1 : Hp) (h0 : Heap) (e C : Addr) (B h : Heap) : Prop extends Fl0 P w base l H H1 h0 B h where
  fly : ∃ a0, Heap.FlyingW B l e (.ref C) a0 h

def CXr (P : Program) (w : World) (base : Heap) : CXT := fun l H s E ev s' =>
  ∃ e C H1 B, ev = .ref e ∧ s'.os = s.os ∧ AllBare s'.gens ∧ Fl P w base l H H1 s.heap e C B s'.heap ∧ E (.ref C) (some e) H1

section
variable {X : Cx} {pins : List (Addr × Obj)} {σ : St} {H H1 : Hp} {s s' : Shared} {e C : Addr} {B : Heap}

theorem Fl.inv (x : Fl X.prog X.w X.base X.stack H H1 s.heap e C B s'.heap) (I : Inv X pins σ H s) (ho : s'.os = s.os) (hg : AllBare s'.gens) : Inv X pins σ H1 s' := by
  obtain ⟨a0, f⟩ := x.fly
  exact I.call' (ch := []) ho x.un (x.hok.kept f.1) hg (fun b z => absurd z (by simp))

/-- a def's own exception -/
theorem raise_fl {M : Model} {E : Value → Shared → Prop} {Q : Unit → Shared → Prop} {h' : Heap} {vs : List Value} (I : Inv X pins σ H s) (hst : X.stack = X.env :: X.outer) (hf : X.env.frame = some X.env.locals) (hex : X.ex = [])
    (hx : Heap.MadeExcOf s.heap h' e (.ref C) vs) (hQ : ∀ B h'', Fl X.prog X.w X.base X.outer X.H₀ H X.s₀.heap e C B h'' → Q () { s with heap := h'' }) :
    wpAny M X.A (leaving X.env (.ref e)) Q E { s with heap := h' } := by
  have hfr := I.ok.frames
  rw [hst] at hfr
  have hstk := I.stack
  rw [hst] at hstk
  have hin : ∀ env ∈ (X.env :: X.outer), ∀ b, env.frame = some b → b ∈ frs (X.env :: X.outer) := fun env he b hb => List.mem_filterMap.mpr ⟨env, he, hb⟩
  have nb : ∀ b, b ≠ X.env.locals → b ∉ X.fs → b ∉ frs (X.env :: X.outer) := fun b h1 h2 hb => by
    unfold frs at hb
    rw [List.filterMap_cons, hf] at hb
    rcases List.mem_cons.mp hb with z | z
    · exact h1 z
    · exact h2 z
  have neL : ∀ b o, X.s₀.heap.get? b = some o → b ≠ X.env.locals := fun b o e => Nat.ne_of_lt (Nat.lt_of_lt_of_le (Heap.lt_size e) I.ok.above)
  refine wpAny_leaves_madeW (base := hideAll s.heap (frs (X.env :: X.outer))) hfr hf (fun b o q => of_hideAll _ q) (funFrames_hide hstk hin) hx fun h'' t x1 x2 x3 x4 => ?_
  have hok : HOk X.prog X.w H (hideAll s.heap (frs (X.env :: X.outer))) := fun b u q => by
    refine (I.hok b u q).stay (fun c v hc z => hideAll_get _ z fun hm => ?_) (fun _ z => z) fun _ _ z => z
    have hn : H c = none := I.stkFree c (by rw [hst]; exact hm)
    rcases hc with rfl | hc
    · rw [hn] at q; cases q
    · rw [hn] at hc; cases hc
  have z0 : Fl0 X.prog X.w X.base X.outer X.H₀ H X.s₀.heap (hideAll s.heap (frs (X.env :: X.outer))) h' := by
    have ub : Un X.fs [] X.H₀ H X.s₀.heap s.heap := by have := I.base; rw [hex] at this; exact this
    refine ⟨fun b o q => hideAll_get _ (I.bk b o q) fun hm => ?_, hok, fun b o q n hb => hideAll_get _ (ub.keep b o q n hb (by simp)) (nb b (neL b o q) hb), fun b o q hb => ?_, ub.trans (Un.kept hx.keeps)⟩
    · have := (hstk.mem hm).1
      rw [q] at this; cases this
    · obtain ⟨o', e1⟩ := ub.there b o q (by simp)
      exact ⟨o', hideAll_get _ e1 (nb b (neL b o q) hb)⟩
  have ff : h'.FunFrames (hideAll s.heap (frs (X.env :: X.outer))) X.outer := by
    obtain ⟨_, _, z⟩ := (funFrames_hide hstk hin).of_keeps fun b o hb _ => ⟨o, hx.keeps b o hb, rfl⟩
    exact z
  exact hQ _ h'' ⟨z0.step x1.1 ff x1.2.2.1 x4, _, x1⟩

/-- a callee's exception leaves this def -/
theorem pass_fl {M : Model} {E : Value → Shared → Prop} {Q : Unit → Shared → Prop} (I : Inv X pins σ H s) (hst : X.stack = X.env :: X.outer) (hf : X.env.frame = some X.env.locals) (hex : X.ex = [])
    (ho : s'.os = s.os) (hg : AllBare s'.gens) (x : Fl X.prog X.w X.base X.stack H H1 s.heap e C B s'.heap) (hQ : ∀ B h'', Fl X.prog X.w X.base X.outer X.H₀ H1 X.s₀.heap e C B h'' → Q () { s' with heap := h'' }) :
    wpAny M X.A (leaving X.env (.ref e)) Q E s' := by
  have J := x.inv I ho hg
  have hfr := I.ok.frames
  obtain ⟨a0, f⟩ := x.fly
  have nb : ∀ b, b ≠ X.env.locals → b ∉ X.fs → b ∉ frs X.stack := fun b h1 h2 hb => (List.mem_cons.mp (I.stkSub b hb)).elim h1 h2
  have neL : ∀ b o, X.s₀.heap.get? b = some o → b ≠ X.env.locals := fun b o e => Nat.ne_of_lt (Nat.lt_of_lt_of_le (Heap.lt_size e) I.ok.above)
  rw [hst] at hfr f
  have ub : Un X.fs [] X.H₀ H X.s₀.heap s.heap := by have := I.base; rw [hex] at this; exact this
  have uj : Un X.fs [] X.H₀ H1 X.s₀.heap s'.heap := by have := J.base; rw [hex] at this; exact this
  have z0 : Fl0 X.prog X.w X.base X.outer X.H₀ H1 X.s₀.heap B s'.heap := by
    refine ⟨x.bas, x.hok, fun b o q n hb => x.kp b o (ub.keep b o q n hb (by simp)) (ub.free b o q n (by simp)) (nb b (neL b o q) hb), fun b o q hb => ?_, uj⟩
    obtain ⟨o', e1⟩ := ub.there b o q (by simp)
    exact x.thr b o' e1 (nb b (neL b o q) hb)
  have ff : s'.heap.FunFrames B X.outer := f.2.2.1.2.2
  exact wpAny_leaves_onW hfr hf f fun h'' x1 x2 => hQ B h'' ⟨z0.step x1.1 ff x1.2.2.1 x2, a0, x1⟩
end

section
variable {P : Program} {w : World} {K : PySem.W.Frag} {mg : Str → Option Value} {base : Heap} {N : List Str} {qual : Str} {scope : Scope} {f : Addr} {cd : Value} {A : Around} {outer : List Env} {s₀ : Shared} {H₀ : Hp} {E : XK}

/-- what a def wants of a raise -/
def Raises (X : Cx) (E : XK) : Prop := ∀ (pins : List (Addr × Obj)) (σ : St) (H : Hp) (s : Shared) (h' : Heap) (e C : Addr) (vs : List Value), Inv X pins σ H s → Heap.MadeExcOf s.heap h' e (.ref C) vs → E (.ref C) (some e) H → X.xe (.ref e) { s with heap := h' }

theorem raises_cx : Raises (cxOf (CXr P w base) P w K mg base N qual scope f cd A outer s₀ H₀ E) E := fun pins σ H s h' e C vs I hx q =>
  raise_fl I rfl rfl rfl hx fun B h'' z => ⟨e, C, H, B, rfl, I.os, I.bare, z, q⟩
theorem passes_cx : Passes (CXr P w base) (cxOf (CXr P w base) P w K mg base N qual scope f cd A outer s₀ H₀ E) E := fun pins σ H s e s' I hx => by
  obtain ⟨a, C, H1, B, rfl, ho, hg, z, q⟩ := hx
  exact pass_fl I rfl rfl rfl ho hg z fun B' h'' z' => ⟨a, C, H1, B', rfl, ho.trans I.os, hg, z', q⟩
end
end L2
set_option maxRecDepth 100000
set_option linter.all false
namespace L2
open PySem PySem.Spec PySem.Calls PyProof.Rows PySem.W

/-- an own exception's class, by the fragment -/
theorem exc_obj {K : Frag} {h : Heap} {C : Addr} {bmB : List Value} {newId : String} (X : K.In h) (q : excIn K C bmB newId = true) :
    ∃ bm N nm qn bs hdct sn sub ab col dd k0 k1 k2 k3 k5 mN, h.get? C = some (excClassObj nm qn C N bs bm hdct sn sub ab col dd k0 k1 k2 k3 k5 newId) ∧ h.Ns N mN ∧ mN "__init__" = none ∧ OwnTail h bmB bm := by
  unfold excIn at q
  split at q
  · rename_i d1 c1 l1 lk
    split at q
    · rename_i D1 tl j0 j1 j2 j3 nn j5 e1 e2
      simp only [Bool.and_eq_true, beq_iff_eq, Bool.not_eq_true'] at q
      obtain ⟨⟨⟨⟨⟨q1, q2⟩, q3⟩, q4⟩, q5⟩, q6⟩ := q
      subst q1 q2
      cases c1
      dsimp only at e1 q3 q5 q6
      subst e1 q3
      cases l1
      dsimp only at e2
      subst e2
      exact ⟨tl, _, _, _, _, _, _, _, _, _, d1, j0, j1, j2, j3, j5, _, X _ _ lk, .of_isNs (isNs_of_in X q5), nsMap_none_of_in X q5 q6, tail_of_in X q4⟩
    · cases q
  · cases q

section
variable {X : Cx} {E : XK} {x : Str} {np cpos pos : Pos} {C : Addr} {bmB : List Value} {Bn newId initId : String} {e₀ : Expr} {rest : List Expr} {ta : TA}
/-- raise C(..) -/
def tRaise (C : Addr) (E : XK) (ta : TA) : TS := fun _ σ H => ta σ H fun vs H1 => vs.length ≤ sizeLine ∧ ∀ e, H1 e = none → E (.ref C) (some e) H1
theorem ps_raise (hR : Raises X E) (hc : X.calm = true) (hg : Gl X x) (hm : X.mg x = some (.ref C)) (q : excIn X.K C bmB newId = true) (FB : ExcBaseFacts Bn newId initId bmB) (ha : PA X (e₀ :: rest) ta)
    (he : starEach (e₀ :: rest) X.env = (false, eval e₀ X.env) :: starEach rest X.env := by rfl) (hpl : (backTo cpos (starEach rest X.env)).any (·.1) = false := by rfl) (hd : (x == ("__debug__" : Str)) = false := by decide) :
    PS X (.Raise (some (.Call (.Name x np) (e₀ :: rest) [] cpos)) none pos) (tRaise C E ta) := by
  intro pins s σ H D I h
  obtain ⟨tl, N, nm, qn, bs, hdct, sn, sub, ab, col, dd, k0, k1, k2, k3, k5, mN, hC, hN, hni, T⟩ := exc_obj I.mod.kin q
  refine wpAny_Raise_call_subT (C := C) (nm := nm) (q := qn) (N := N) (bs := bs) (bm := tl) (hdct := hdct) (sn := sn) (sub := sub) (ab := ab) (col := col) (dd := dd) (k0 := k0) (k1 := k1) (k2 := k2) (k3 := k3) (k5 := k5)
    FB (mN := mN) (T.hasType FB.hasBase) (I.ok.hd hc) (by rw [he]; show (false || (backTo cpos (starEach rest X.env)).any (·.1)) = false; rw [hpl]; rfl) hni (ld_glob I hg hm ⟨rfl, ?_⟩ hd)
  have h2 := ha cpos pins s σ H _ I h
  rw [he] at h2 ⊢
  exact Calls.evalArgs_plain (wpAny_mono h2 (fun us s1 ⟨vs, H1, I1, r, z1, z2⟩ => ⟨rfl, r.length ▸ z1, I1.bk _ _ hC, hN.keeps I1.bk, T.keeps I1.bk, fun h' e hx => hR pins σ H1 s1 h' e C us I1 hx (z2 e (I1.hok.none_of hx.new))⟩) fun _ _ y => y)
end

/-! ### an exception that is kept -/
section
variable {X : Cx} {pins : List (Addr × Obj)} {σ : St} {H H1 : Hp} {s s' : Shared} {e C : Addr} {B : Heap}
/-- within an except suite -/
abbrev Cx.caught (X : Cx) (e : Addr) : Cx := { X with A := X.A.mark (some (.ref e)), calm := false, xe := fun _ _ => False }
end

end L2
set_option maxRecDepth 100000
set_option linter.all false
namespace L2
open PySem PySem.Spec PySem.Calls PyProof.Rows PySem.W

/-! ### calls within try: the wish about exceptions may look at the names -/
section
variable {X : Cx} {CX : CXT} {k : Nat} {f : Addr} {fd : FuncData} {ps : List Str} {sp : Sp} {dvs : List V} {ds : List Value} {E : St → XK} {x : Str} {p pos : Pos} {e : Expr} {es : List Expr} {t : TA}
end

/-! ### try: .. except T as n: .. -/
/-- the try's body: pins are borne by the context -/
abbrev Cx.trying (X : Cx) (pn : List (Addr × Obj)) (W : Value → Shared → Prop) : Cx := { X with pn := X.pn ++ pn, xe := W }
section
variable {X : Cx} {pins pn : List (Addr × Obj)} {σ : St} {H : Hp} {s : Shared} {W : Value → Shared → Prop}
end

/-- the ends of an except suite: the name goes -/
abbrev Ends.gone (D : Ends) (j : Nat) : Ends := { nx := fun σ H => D.nx (σ.set j none) H, rt := D.rt, bk := fun σ H => D.bk (σ.set j none) H, ct := fun σ H => D.ct (σ.set j none) H }
section
variable {X : Cx} {body suite : List Stmt} {b₀ : Stmt} {x n : Str} {np hpos pos : Pos} {D : Addr} {j : Nat} {tb : (St → XK) → TS} {th : TS}
end

/-! ### isinstance of a kept exception -/
end L2
set_option maxRecDepth 100000
set_option linter.all false
namespace L2
open PySem PySem.Spec PySem.Calls PyProof.Rows PySem.W TL

/-! ### a def that may raise -/
section
variable {P : Program} {w : World} {K : PySem.W.Frag} {mg : Str → Option Value} {base : Heap}
theorem Fun.okX {x qual : Str} {st : Stmt} {f : Addr} {fd : FuncData} {N ps : List Str} {k : Nat} {sp : Sp} (F : Fun K x qual st f fd) (S : FnScope N ps (defScope st)) (len : ∀ vs H Q E, sp vs H Q E → vs.length = ps.length)
    (hbody : ∀ (cdv : Value) (A : Around) (outer : List Env) (s : Shared) (H : Hp) (vs : List V) (Q : VK) (E : XK), Room k (A.deeper (envOfC qual (defScope st) s.heap.objs.size f cdv)) → sp vs H Q E →
      ∃ t, PSs (cxOf (CXr P w base) P w K mg base N qual (defScope st) f cdv A outer s H E) (defBody st) t ∧ t { nx := fun _ H' => Q .non H', rt := Q } (start N vs) H) : FnOk P w K mg base (CXr P w base) (k + 1) f fd ps sp := by
  obtain ⟨oc, od, kV, doc, pm, an, cdv, ct, osl, rfl, lk, hcd⟩ := F.ex
  exact fn_of lk hcd S len fun A outer s H vs Q E hr hsp => hbody cdv A outer s H vs Q E hr hsp
end

/-- an own exception's class -/
abbrev bmV : List Value := [.type "ValueError", .type "Exception", .type "BaseException", .type "object"]
structure Xc (K : Frag) (mg : Str → Option Value) (x : Str) (C : Addr) : Prop where
  m : mg x = some (.ref C)
  q : excIn K C bmV "ValueError.__new__" = true
  e : ExC K C
/-! ### count and index of truths -/
section
variable {X : Cx}
end
end L2
set_option maxRecDepth 100000
set_option linter.all false
namespace L2
open PySem PySem.Spec PySem.Calls PyProof.Rows PySem.W TL

/-- the refusals' classes, by the fragment's deciders -/
structure XcIn (K : Frag) (x : Str) (C : Addr) : Prop where
  b : nsIn K mainGlobals x = some (some (.ref C))
  q : excIn K C bmV "ValueError.__new__" = true
  o : mroIn K C (.type "object") = some true
  p : mroIn K C (.type "BaseException") = some true
  r : findIn K (.ref C) "__class__" = some (some (.builtin "object.__class__"))
  g : findIn K (.ref C) "__getattribute__" = some (some (.builtin "BaseException.__getattribute__"))
  h : findIn K (.ref C) "__getattr__" = some none
  i : isClsIn K C = true
  t : typeIn K (.ref C) = some (.type "type")
section
variable {K : Frag} {h : Heap} {mg : Str → Option Value} {x : Str} {C D : Addr}
theorem XcIn.isc (a : XcIn K x C) : (clsIn K C).isSome = true := by
  have := a.i
  unfold isClsIn at this
  exact this
theorem XcIn.ex (a : XcIn K x C) : ExC K C := ⟨a.o, a.p, a.r, a.g, a.h, a.isc⟩
theorem XcIn.xc (a : XcIn K x C) (X : K.In h) (G : h.Ns mainGlobals mg) : Xc K mg x C := ⟨mg_of X G a.b, a.q, a.ex⟩
variable {c1 c2 c3 c4 c5 c6 c7 : Addr}
end
end L2
set_option Elab.async false
set_option linter.all false
set_option maxRecDepth 100000
set_option maxHeartbeats 4000000
namespace TL
open PySem PySem.Spec PyProof.Rows L2

/-- more of the built-in names -/
structure Bm (mg : Str → Option Value) : Prop extends Bl mg where
  zip : mg "zip" = none
  sum : mg "sum" = none
  all : mg "all" = none
  set : mg "set" = none
  tuple : mg "tuple" = none
  abs : mg "abs" = none
  bool : mg "bool" = none
  dict : mg "dict" = none
  str : mg "str" = none

/-! ### an iterator has turned: some of its own objects are changed -/
theorem Inv.turnedN {X : Cx} {pins : List (Addr × Obj)} {σ : St} {H : Hp} {s : Shared} {h' : Heap} {t' : Nat} {ch : List Addr} (I : Inv X pins σ H s) (hf : ∀ b ∈ ch, FpOk X pins H b)
    (keep : ∀ b o, b ∉ ch → s.heap.get? b = some o → h'.get? b = some o) : Inv X pins σ H { s with heap := h', toks := t' } := by
  have nch : ∀ b u, H b = some u → b ∉ ch := fun b u q z => by rw [(hf b z).1] at q; cases q
  refine I.step (g' := s.gens) (d' := s.drawn) (ch := ch) (fun b hb => ?_) (fun b o _ _ hc q _ => keep b o hc q) (fun b o _ _ hc q _ => ⟨o.slots, keep b o hc q⟩) (fun _ _ _ _ n => n)
    (fun b o hc q => ⟨o, keep b o hc q⟩) (fun _ _ e => e) (fun _ _ _ e => e) (fun b ps e => ⟨#[], by rw [e]; simp⟩) (fun m hm => ?_) (fun b u q => ?_) I.bare
  · obtain ⟨f0, f1, f2, f3, f4, f5⟩ := hf b hb
    exact ⟨f3, f1, f4, f5⟩
  · obtain ⟨o, es, ep, ho, r⟩ := hm
    exact ⟨o, es, ep, keep _ o (fun z => (hf _ z).2.1 rfl) ho, r⟩
  · refine (I.hok b u q).stay (fun c v hc q' => keep c v ?_ q') (fun c z => z) fun c ys z => z
    rcases hc with z | z
    · rw [z]; exact nch b u q
    · exact nch c _ z

/-! ### zip(list, list), a tuple as target -/
def Itz (K : PySem.W.Frag) (a b : Addr) : It :=
  ⟨fun i H => ∃ xs ys x y, SqL K H a xs ∧ SqL K H b ys ∧ xs[i]? = some x ∧ ys[i]? = some y,
   fun i H v H' => ∃ p, H p = none ∧ v = .ref p ∧ ∀ xs ys x y, SqL K H a xs → SqL K H b ys → xs[i]? = some x → ys[i]? = some y → H' = upd H p (.tup [x, y]),
   fun i H => ∃ xs ys, SqL K H a xs ∧ SqL K H b ys ∧ (xs.length ≤ i ∨ ys.length ≤ i)⟩
theorem turn_zip {P : Program} {w : World} {K : PySem.W.Frag} {es : List Expr} {x1 : Nat} {pt : Pos} {a b z TI TO i1 i2 : Addr} (D : ZipApart z TI TO i1 i2 a b) :
    Turn P w K (.Tuple es x1 pt) (Itz K a b) [z, TI, TO, i1, i2] z (fun i h => IsZip h z TI TO .none ∧ IsPair h TI (.ref i1) (.ref i2) ∧ (∃ u v, IsPair h TO u v) ∧ h.IsListIter i1 a i ∧ h.IsListIter i2 b i) where
  mem := by simp
  obj := fun i h st c hc => by
    obtain ⟨hz, h1, ⟨u, v, h2⟩, h3, h4⟩ := st
    obtain ⟨o3, q3, _, d3⟩ := h3
    obtain ⟨o4, q4, _, d4⟩ := h4
    simp only [List.mem_cons, List.not_mem_nil, or_false] at hc
    rcases hc with rfl | rfl | rfl | rfl | rfl
    · exact ⟨_, hz, fun v z => by cases z⟩
    · exact ⟨_, h1, fun v z => by cases z⟩
    · exact ⟨_, h2, fun v z => by cases z⟩
    · exact ⟨_, q3, fun v z => by rw [d3] at z; cases z⟩
    · exact ⟨_, q4, fun v z => by rw [d4] at z; cases z⟩
  keep := fun i h h' ⟨hz, h1, ⟨u, v, h2⟩, h3, h4⟩ k => ⟨k z (by simp) _ hz, k TI (by simp) _ h1, ⟨u, v, k TO (by simp) _ h2⟩, h3.at fun o q => k i1 (by simp) o q, h4.at fun o q => k i2 (by simp) o q⟩
  item := by
    intro X hP hw hK hc i pins s σ H E I hf st hg
    subst hP hw hK
    obtain ⟨hz, h1, ⟨u0, v0, h2⟩, h3, h4⟩ := st
    obtain ⟨xs, ys, x, y, hx, hy, ex, ey⟩ := hg
    obtain ⟨its, rv, p, hzx⟩ := I.list hx
    obtain ⟨jts, rw', p', hzy⟩ := I.list hy
    obtain ⟨u, hu, ru⟩ := rv.get ex
    obtain ⟨v, hv, rv'⟩ := rw'.get ey
    refine wpAny_pyNext_zip_item D hz h1 h2 h3 h4 p.isList p'.isList (x := u) (y := v) (by simpa using hu) (by simpa using hv) fun h' a1 a2 a3 a4 a5 a6 hk => ?_
    refine ⟨_, rfl, ?_⟩
    refine wpAny_letOwnedTupleGo_zip (s := { s with heap := h' }) a1 fun h'' m1 m2 => ?_
    have lt : ∀ {c o}, s.heap.get? c = some o → s.heap.objs.size ≠ c := fun e => Nat.ne_of_gt (Heap.lt_size e)
    have keep : ∀ b o, b ∉ [z, TI, TO, i1, i2] → s.heap.get? b = some o → h''.get? b = some o := fun b o hb q => m2.extBut b o (fun z => hb (by simp [z])) (hk b o (fun z => hb (by simp [z])) (fun z => hb (by simp [z])) (fun z => hb (by simp [z])) (fun z => hb (by simp [z])) q)
    have ht : h''.get? s.heap.objs.size = some { cls := .type "tuple", data := .seq [u, v].toArray } := m2.extBut _ _ (lt hz) a5
    have J1 : Inv X pins σ (upd H s.heap.objs.size (.tup [x, y])) { s with heap := h'', toks := s.toks } := Inv.turnedTup I hf keep (.cons ru (.cons rv' .nil)) (by show 2 ≤ sizeLine; decide) ht
    have hn : H s.heap.objs.size = none := I.fresh
    refine ⟨.ref s.heap.objs.size, _, J1, rfl, ⟨_, hn, rfl, fun xs' ys' x' y' q1 q2 q3 q4 => ?_⟩, ⟨m1, ?_, ⟨_, _, m2.extBut _ _ D.TOz a2⟩, a3.extBut m2.extBut D.i1z, a4.extBut m2.extBut D.i2z⟩, fun c hb => ?_⟩
    · have e1 := I.list_inj q1 hx
      have e2 := I.list_inj q2 hy
      subst e1 e2
      rw [ex] at q3
      rw [ey] at q4
      cases q3
      cases q4
      rfl
    · exact m2.extBut _ _ D.TIz (hk _ _ D.TIz D.TITO D.TIi1 D.TIi2 h1)
    · have q : ∃ o, s.heap.get? c = some o := by
        obtain ⟨o3, q3, _, d3⟩ := h3
        obtain ⟨o4, q4, _, d4⟩ := h4
        have hb' := hb
        simp only [List.mem_cons, List.not_mem_nil, or_false] at hb'
        rcases hb' with rfl | rfl | rfl | rfl | rfl
        · exact ⟨_, hz⟩
        · exact ⟨_, h1⟩
        · exact ⟨_, h2⟩
        · exact ⟨_, q3⟩
        · exact ⟨_, q4⟩
      obtain ⟨o, q⟩ := q
      rw [upd_ne (Nat.ne_of_lt (Heap.lt_size q))]
      exact (hf c hb).1
  done := by
    intro X hP hw hK hc i pins s σ H E I hf st hg
    subst hP hw hK
    obtain ⟨hz, h1, ⟨u0, v0, h2⟩, h3, h4⟩ := st
    obtain ⟨xs, ys, hx, hy, e⟩ := hg
    obtain ⟨its, rv, p, hzx⟩ := I.list hx
    obtain ⟨jts, rw', p', hzy⟩ := I.list hy
    have l1 := rv.length
    have l2 := rw'.length
    refine wpAny_pyNext_zip_end (I.ok.hd hc) D hz h1 h2 h3 h4 p.isList p'.isList ?_ fun h' hk => ⟨rfl, Inv.turnedN (t' := s.toks) I hf fun b o hb q => hk b o (fun z => hb (by simp [z])) (fun z => hb (by simp [z])) (fun z => hb (by simp [z])) (fun z => hb (by simp [z])) q⟩
    rcases e with e | e
    · left; simp; omega
    · right; simp; omega
  self := fun _ _ _ _ _ ⟨hz, _⟩ h => wpAny_pyIter_zip hz h
section
variable {X : Cx}
def iZip (K : PySem.W.Frag) (ta : TA) : TI := fun σ H R => ta σ H fun vs H1 => ∃ a b, vs = [.ref a, .ref b] ∧ (∃ xs, SqL K H1 a xs) ∧ (∃ ys, SqL K H1 b ys) ∧ R (Itz K a b) H1
theorem pi_zip {a b : Expr} {ta : TA} {p pos : Pos} {es : List Expr} {x1 : Nat} {pt : Pos} (hg : Gl X "zip") (hm : X.mg "zip" = none) (ha : PA X [a, b] ta) (hs : starEach [a, b] X.env = [(false, eval a X.env), (false, eval b X.env)] := by rfl) (hs2 : starEach [b] X.env = [(false, eval b X.env)] := by rfl) :
    PI X (.Tuple es x1 pt) (.Call (.Name "zip" p) [a, b] [] pos) (iZip X.K ta) := by
  intro pins s σ H R I h
  refine Call_ (ld_blt I hg hm boot_zip (PyProof.Rows.callWith_type1 (thn (ha pos pins s σ H _ I h) fun us s1 ⟨vs, H1, I1, r1, q1⟩ => ?_) (by rw [hs, hs2]) (by rw [hs2]; rfl)))
  obtain ⟨a, b, e, ⟨xs, hx⟩, ⟨ys, hy⟩, q⟩ := q1
  subst e
  obtain ⟨u, v, rfl, ru, rv⟩ := vals2 r1
  cases ru
  cases rv
  obtain ⟨its, rv, p, hzx⟩ := I1.list hx
  obtain ⟨jts, rw', p', hzy⟩ := I1.list hy
  have la : a < s1.heap.objs.size := by obtain ⟨o, n, e, _⟩ := p; exact Heap.lt_size e
  have lb : b < s1.heap.objs.size := by obtain ⟨o, n, e, _⟩ := p'; exact Heap.lt_size e
  refine call_zip_2 p.isList p'.isList fun h' k1 k2 k3 k4 k5 k6 k7 => ?_
  refine wpAny_pyIter_zip (s := { s1 with heap := h' }) k1 ?_
  have D : ZipApart (s1.heap.objs.size + 4) (s1.heap.objs.size + 2) (s1.heap.objs.size + 3) s1.heap.objs.size (s1.heap.objs.size + 1) a b := by
    generalize s1.heap.objs.size = z at la lb
    have la' : @LT.lt Nat _ a z := la
    have lb' : @LT.lt Nat _ b z := lb
    constructor <;> first | exact (show @Ne Nat _ _ by omega)
  refine ⟨s1.heap.objs.size + 4, [s1.heap.objs.size + 4, s1.heap.objs.size + 2, s1.heap.objs.size + 3, s1.heap.objs.size, s1.heap.objs.size + 1], _, _, H1, rfl, I1.kept (t' := s1.toks) k7, turn_zip D, ⟨k1, k2, ⟨_, _, k3⟩, k4, k5⟩, fun c hc => ?_, q⟩
  have hb' : s1.heap.objs.size ≤ c := by
    simp only [List.mem_cons, List.not_mem_nil, or_false] at hc
    rcases hc with rfl | rfl | rfl | rfl | rfl
    · exact Nat.le_add_right _ _
    · exact Nat.le_add_right _ _
    · exact Nat.le_add_right _ _
    · exact Nat.le_refl _
    · exact Nat.le_add_right _ _
  exact I1.fpOk hb' (I1.hok.fresh hb')
theorem for_zip {K : PySem.W.Frag} {a b : Addr} {xs ys : List V} {g : TG} {tb : TS} {D : Ends} {σ : St} {H : Hp} (n : Nat) (hn : n = min xs.length ys.length) (Pv : Nat → St → Hp → Prop) (h0 : Pv 0 σ H) (hl : ∀ i σ H, i ≤ n → Pv i σ H → SqL K H a xs ∧ SqL K H b ys)
    (hs : ∀ i x y σ H p, xs[i]? = some x → ys[i]? = some y → Pv i σ H → H p = none → g (.ref p) σ (upd H p (.tup [x, y])) fun σ2 H2 => tb { D with nx := Pv (i + 1), ct := Pv (i + 1), bk := D.nx } σ2 H2) (hd : ∀ σ H, Pv n σ H → D.nx σ H) :
    ∃ W : Nat → Nat → St → Hp → Prop, (∃ m, W 0 m σ H) ∧ ∀ i m σ H, W i m σ H →
      ((Itz K a b).stop i H ∧ D.nx σ H) ∨ ((Itz K a b).go i H ∧ ∃ N : St → Hp → Prop, (∀ σ' H', N σ' H' → ∃ m', m' < m ∧ W (i + 1) m' σ' H') ∧ ∀ x H', (Itz K a b).yld i H x H' → g x σ H' fun σ2 H2 => tb { D with nx := N, ct := N, bk := D.nx } σ2 H2) := by
  refine ⟨fun i m σ H => m = n - i ∧ i ≤ n ∧ Pv i σ H, ⟨n, by simp, Nat.zero_le _, h0⟩, ?_⟩
  rintro i m σ H ⟨rfl, hi, p⟩
  obtain ⟨q1, q2⟩ := hl i σ H hi p
  by_cases hlt : i < n
  · have h1 : i < xs.length := by omega
    have h2 : i < ys.length := by omega
    refine .inr ⟨⟨xs, ys, xs[i], ys[i], q1, q2, by simp [h1], by simp [h2]⟩, Pv (i + 1), fun σ' H' p' => ⟨n - (i + 1), by omega, rfl, hlt, p'⟩, fun x H' y => ?_⟩
    obtain ⟨pa, hp, e, y⟩ := y
    subst e
    have hx : xs[i]? = some xs[i] := by simp [h1]
    have hy : ys[i]? = some ys[i] := by simp [h2]
    rw [y xs ys _ _ q1 q2 hx hy]
    exact hs i _ _ σ H pa hx hy p hp
  · have e : i = n := by omega
    subst e
    exact .inl ⟨⟨xs, ys, q1, q2, by omega⟩, hd σ H p⟩

/-! ### sum, all of a list -/
theorem call_sum (hc : X.calm = true) : CallR X (.builtin "sum") (fun xs H Q => ∃ (a : Addr) (ns : List Int), xs = [.ref a] ∧ SqL X.K H a (ns.map V.int) ∧ Q (.int ns.sum) H) := by
  intro pins s σ H xs us Q I r h
  obtain ⟨a, ns, rfl, hx, q⟩ := h
  obtain ⟨u, rfl, ru⟩ := vals1 r
  cases ru
  obtain ⟨its, rv, p, hz⟩ := I.list hx
  have hi : IntsAre its ns := intsAre_of rv
  obtain ⟨xs, hx⟩ := hi.allInts.items
  have hl' : s.heap.IsList a (intItems xs) := hx ▸ p.isList
  refine sum_intListG (I.ok.hd hc) hl' fun h' tk t' hk => ?_
  have e1 : ns = xs.toList.map (·.1) := by
    rw [← nums_intItems, ← hx]
    exact (show numsOf its.toArray.toList = ns from hi.numsOf).symm
  have e2 : preSum (numAt xs) xs.size = ns.sum := by
    rw [preSum_eq, List.take_of_length_le (by simp), e1]
  rw [e2]
  exact ⟨.int ns.sum, H, I.kept (t' := tk) hk, ⟨_, rfl⟩, q⟩
theorem boolsAre_of : ∀ {bs : List Bool} {us : List Value}, Vals (bs.map V.bl) us → us = bs.map Value.bool
  | [], _, .nil => rfl
  | b :: bs, _, .cons r t => by
    cases r
    rw [boolsAre_of t]; rfl
theorem call_all (hc : X.calm = true) : CallR X (.builtin "all") (fun xs H Q => ∃ (a : Addr) (bs : List Bool), xs = [.ref a] ∧ SqL X.K H a (bs.map V.bl) ∧ Q (.bl (bs.all id)) H) := by
  intro pins s σ H xs us Q I r h
  obtain ⟨a, bs, rfl, hx, q⟩ := h
  obtain ⟨u, rfl, ru⟩ := vals1 r
  cases ru
  obtain ⟨its, rv, p, hz⟩ := I.list hx
  have e := boolsAre_of rv
  subst e
  have hl := p.isList
  have hlt : a < s.heap.objs.size := by obtain ⟨_, e, _⟩ := hl; exact Heap.lt_size e
  refine call_all_walk (wpAny_pyIter_list hl ?_)
  refine ⟨s.heap.objs.size, [s.heap.objs.size, a], [s.heap.objs.size], (bs.map Value.bool).toArray.size, _, _, fun i => (bs[i]?).getD true, rfl, Walks.list (A := X.A.in1) (I.ok.hd hc) _ a (Nat.ne_of_lt hlt) (bs.map Value.bool).toArray,
    ⟨⟨_, Heap.get?_push_size _ rfl, rfl, rfl⟩, hl.push _⟩, fun i v s' Q' E' hP hQ => ?_, fun h' tk hk => ?_⟩
  · have hP' : (bs.map Value.bool)[i]? = some v := by simpa using hP
    rw [List.getElem?_map] at hP'
    cases q : bs[i]? with
    | none => rw [q] at hP'; cases hP'
    | some b =>
      rw [q] at hP'
      cases hP'
      have hQ' : Q' b s' := by simpa [q] using hQ
      exact wpAny_truthy_bool hQ'
  · have e : ((List.range (bs.map Value.bool).toArray.size).all fun i => (bs[i]?).getD true) = bs.all id := by
      rw [List.size_toArray, List.length_map]; exact PyProof.Rows.LSm.range_all bs
    rw [e]
    have kk : ∀ b x, s.heap.get? b = some x → h'.get? b = some x := fun b x e => hk b x (fun hm => by rw [List.mem_singleton.mp hm] at e; exact Nat.lt_irrefl _ (Heap.lt_size e)) (Heap.get?_push_of_some _ e)
    exact ⟨.bl (bs.all id), H, I.kept (t' := tk) kk, rfl, q⟩
end

/-! ### a comprehension by an invariant, any iterator -/
section
variable {K : PySem.W.Frag} {l : Addr} {g : TG} {tt : TT} {te : TE} {cap : List (Option Nat)} {σ : St} {Q : VK} {H1 : Hp} {J : It}
theorem lc_any (n : Nat) (Pv : Nat → List V → Hp → Prop) (h0 : Pv 0 [] (upd H1 l (.lst []))) (go : ∀ i acc H, i < n → Pv i acc H → J.go i H) (st : ∀ acc H, Pv n acc H → J.stop n H)
    (hs : ∀ i x acc H H', i < n → Pv i acc H → J.yld i H x H' → g x (capSt cap σ) H' fun σ2 H2 => tt σ2 H2 fun b H3 =>
        if b = true then te σ2 H3 fun y H4 => H4 l = some (.lst acc) ∧ acc.length < sizeLine ∧ Pv (i + 1) (acc ++ [y]) (upd H4 l (.lst (acc ++ [y])))
        else Pv (i + 1) acc H3) (hd : ∀ acc H, Pv n acc H → Q (.ref l) H) : LcW J g tt te cap σ Q l H1 := by
  refine ⟨fun i m acc H => m = n - i ∧ i ≤ n ∧ Pv i acc H, ⟨n, by simp, Nat.zero_le _, h0⟩, ?_⟩
  rintro i m acc H ⟨rfl, hi, p⟩
  by_cases hlt : i < n
  · exact .inr ⟨go i acc H hlt p, fun acc' H' => Pv (i + 1) acc' H', fun acc' H' p' => ⟨n - (i + 1), by omega, rfl, hlt, p'⟩, fun x H' y => hs i x acc H H' hlt p y⟩
  · have e : i = n := by omega
    subst e
    exact .inl ⟨st acc H p, hd acc H p⟩
/-- the heap may grow -/
theorem lc_grow {α : Type} (n : Nat) (ds : List α) (p : α → Bool) (f : α → V) (hn : H1 l = none) (hlen : n = ds.length) (hz : n < sizeLine) (go : ∀ i H, Same H1 H → i < n → J.go i H) (st : ∀ H, Same H1 H → J.stop n H)
    (hs : ∀ i x d H H', Same H1 H → J.yld i H x H' → ds[i]? = some d → ∀ (P1 : VK) (P0 : Hp → Prop), (∀ H2, p d = true → Same H H2 → P1 (f d) H2) → (∀ H2, p d = false → Same H H2 → P0 H2) →
      g x (capSt cap σ) H' fun σ2 H2 => tt σ2 H2 fun b H3 => if b = true then te σ2 H3 P1 else P0 H3)
    (hq : ∀ H', Same H1 H' → H' l = some (.lst ((ds.filter p).map f)) → Q (.ref l) H') : LcW J g tt te cap σ Q l H1 := by
  refine lc_any n (fun i acc H => acc = ((ds.take i).filter p).map f ∧ Same H1 H ∧ H l = some (.lst acc)) ⟨rfl, same_upd hn, upd_same⟩ (fun i acc H hi ⟨_, s, _⟩ => go i H s hi) (fun acc H ⟨_, s, _⟩ => st H s) ?_ ?_
  · rintro i x acc H H' hi ⟨e1, s, hl⟩ y
    have hd : ds[i]? = some (ds[i]'(by omega)) := by simp
    generalize ds[i]'(by omega) = d at hd
    have step : ((ds.take (i + 1)).filter p).map f = acc ++ (if p d = true then [f d] else []) := by
      rw [List.take_add_one, hd, List.filter_append, List.map_append, e1]
      congr 1
      by_cases hp : p d = true
      · simp [hp]
      · have hp' : p d = false := by simpa using hp
        simp [hp']
    have la : acc.length < sizeLine := by
      have h1 : acc.length ≤ i := by
        rw [e1, List.length_map]
        exact Nat.le_trans (List.length_filter_le _ _) (by rw [List.length_take]; omega)
      omega
    refine hs i x d H H' s y hd _ _ (fun H2 hp s2 => ?_) (fun H2 hp s2 => ?_)
    · refine ⟨s2 _ _ hl, la, ?_, Same.upd (s.trans s2) hn, upd_same⟩
      rw [step, if_pos hp]
    · refine ⟨?_, s.trans s2, s2 _ _ hl⟩
      rw [step, if_neg (by rw [hp]; exact Bool.false_ne_true), List.append_nil]
  · rintro acc H ⟨e1, s, hl⟩
    rw [List.take_of_length_le (by omega)] at e1
    subst e1
    exact hq H s hl
end
end TL
set_option Elab.async false
set_option linter.all false
set_option maxRecDepth 100000
set_option maxHeartbeats 4000000
namespace TL
open PySem PySem.Spec PyProof.Rows L2

/-! ### sets of ints -/
def sPut (S : Int → Bool) (k : Int) : Int → Bool := fun k' => S k' || decide (k' = k)
def nPut (S : Int → Bool) (n : Nat) (k : Int) : Nat := if S k = true then n else n + 1
section
variable {X : Cx} {pins : List (Addr × Obj)} {σ : St} {H : Hp} {s : Shared}
theorem Inv.setM {l : Addr} {S : Int → Bool} {n : Nat} (I : Inv X pins σ H s) (h : H l = some (.set S n)) : s.heap.SetOf (intKind X.prog X.w) l S n := I.hok l _ h
theorem isInt_self (k : Int) (t : Tok) : Value.isInt k (.int k t) = true := by simp [Value.isInt]
def rSAdd : V → List V → Hp → VK → Prop := fun x vs H Q => ∃ l S n k, x = .ref l ∧ vs = [.int k] ∧ H l = some (.set S n) ∧ n + 1 < scanBound ∧ Q .non (upd H l (.set (sPut S k) (nPut S n k)))
theorem mt_sadd : MtR X "set.add" rSAdd := by
  intro pins s σ H x vs v us Q I rx rv h
  obtain ⟨l, S, n, k, rfl, rfl, hH, hb, q⟩ := h
  cases rx
  obtain ⟨u, rfl, t, rfl⟩ := rv.one
  have hS := Inv.setM I hH
  refine call_set_add (knd := intKind X.prog X.w) (k := k) (isInt_self k t) rfl hS hb fun h' sb hS' => ?_
  refine ⟨.non, _, I.write (t' := s.toks + 1) (o := .set (sPut S k) (nPut S n k)) (x := l) (e := l) (by rw [hH]; exact trivial) (.inl rfl) (fun b u hb e => sb.extBut b u hb e) ?_ ?_, rfl, q⟩
  · obtain ⟨o, _, _, _, e, _⟩ := hS'; exact ⟨o, e⟩
  · exact hS'
theorem call_lenS : CallR X (.builtin "len") (fun xs H Q => ∃ p S n, xs = [.ref p] ∧ H p = some (.set S n) ∧ Q (.int n) H) := by
  intro pins s σ H xs us Q I r h
  obtain ⟨p, S, n, rfl, hH, q⟩ := h
  obtain ⟨u, rfl, rx⟩ := vals1 r
  cases rx
  obtain ⟨o, es, ep, t, e, hex, hd, hel, hm, hb, hf, hn⟩ := Inv.setM I hH
  refine call_len_set e hex hd hf ?_ ⟨.int n, H, I.tok _, ⟨_, by rw [hn]⟩, q⟩
  have : scanBound = 4096 := rfl
  omega
end

section
variable {X : Cx} {pins : List (Addr × Obj)} {σ : St} {H1 : Hp} {s2 : Shared} {scope : Scope} {N : List Str} {own : Nat} {cap : List (Option Nat)} {cl : List (Str × Addr)} {fp : List Addr}
  {tg iter elt : Expr} {ifs : List Expr} {pos : Pos} {g : TG} {tt : TT} {te : TE} {wi : TI}
/-- a set comprehension of ints -/
def ScW (J : It) (g : TG) (tt : TT) (te : TE) (cap : List (Option Nat)) (σ : St) (Q : VK) (l : Addr) (H1 : Hp) : Prop :=
  ∃ W : Nat → Nat → Hp → Prop, (∃ m, W 0 m (upd H1 l (.set (fun _ => false) 0))) ∧ ∀ i m H, W i m H →
    (J.stop i H ∧ Q (.ref l) H) ∨ (J.go i H ∧ ∃ N : Hp → Prop, (∀ H', N H' → ∃ m', m' < m ∧ W (i + 1) m' H') ∧
      ∀ x H', J.yld i H x H' → g x (capSt cap σ) H' fun σ2 H2 => tt σ2 H2 fun b H3 =>
        if b = true then te σ2 H3 fun y H4 => ∃ S n k, y = .int k ∧ H4 l = some (.set S n) ∧ n + 1 < scanBound ∧ N (upd H4 l (.set (sPut S k) (nPut S n k)))
        else N H3)
def tSC (wi : TI) (cap : List (Option Nat)) (g : TG) (tt : TT) (te : TE) : TE := fun σ H Q => wi σ H fun J H1 => ∀ l, H1 l = none →
  ScW J g tt te cap σ Q l H1
theorem comp_runS {it : Addr} {tn : Nat → Heap → Prop} {J : It} {Q : VK} {RR : Value → Addr → Result → Shared → Prop} {E : Value → Shared → Prop} (I : Inv X pins σ H1 s2) (T : Turn X.prog X.w X.K tg J fp it tn) (t0 : tn 0 s2.heap)
    (f : ∀ b ∈ fp, FpOk X pins H1 b) (hc : X.calm = true) (C : CompOk X.env.scope X.N scope N own cap) (ho : GOwn own g)
    (hcl1 : ∀ x c, cl.lookup x = some c → X.env.cells.lookup x = some c) (hcl2 : ∀ y ∈ scope.names, y.2 = .free → ∃ c, cl.lookup y.1 = some c)
    (hg : ∀ s3 H3, PG (cxComp X scope cl N fp s3 H3) tg g) (ht : ∀ s3 H3, PIfs (cxComp X scope cl N fp s3 H3) ifs tt) (he : ∀ s3 H3, PE (cxComp X scope cl N fp s3 H3) elt te)
    (hw : ∀ l, H1 l = none → ScW J g tt te cap σ Q l H1)
    (fin : ∀ l C s' H' m', Inv X pins σ H' s' → s'.heap.Ns C m' → H' C = none → Apart X pins C → Q (.ref l) H' → RR (.ref l) C (.ok .next) s') :
    wpAny (model X.prog X.w) X.A (newSet (.type "set")) (fun acc s₃ => wpAny (model X.prog X.w) X.A (newFunctionEnv scope X.env.globals cl [] X.env.qual none .none (some X.env)) (fun cenv s₄ =>
      codeAny (model X.prog X.w) X.A (.compStart (.SetComp elt [⟨tg, iter, ifs, 0⟩] scope pos) 0 (.ref it) acc { cenv with scope := relabel scope X.env }) (RR acc cenv.locals) s₄) E s₃) E s2 := by
  refine wpAny_newSet_of (knd := intKind X.prog X.w) fun led hset => ?_
  refine wpAny_newFunctionEnv C.nocell (by intro y hy; simp at hy) (fun h₁ hns₁ hsb₁ => ?_) C.kind
  dsimp only at hns₁ hsb₁ ⊢
  obtain ⟨W, ⟨m0, w0⟩, turn⟩ := hw s2.heap.objs.size I.fresh
  have I3 : Inv X pins σ (upd H1 s2.heap.objs.size (.set (fun _ => false) 0)) { s2 with heap := s2.heap.push { cls := .type "set", dict := none, data := .set #[] 0 (.fresh 0 0 led) } } :=
    I.laid (t' := s2.toks) (fun b u e => Heap.get?_push_of_some _ e) (Nat.le_refl _) hset
  generalize hs3 : ({ s2 with heap := s2.heap.push { cls := .type "set", dict := none, data := .set #[] 0 (.fresh 0 0 led) } } : Shared) = s3 at I3
  have hh3 : s3.heap = s2.heap.push { cls := .type "set", dict := none, data := .set #[] 0 (.fresh 0 0 led) } := by rw [← hs3]
  rw [← hh3] at hns₁ hsb₁ ⊢
  have e4 : ({ s2 with heap := h₁, toks := s2.toks + ([] : List (Str × Value)).length } : Shared) = { s3 with heap := h₁, toks := s2.toks } := by rw [← hs3]; rfl
  rw [e4]
  have k4 : ∀ b u, s3.heap.get? b = some u → h₁.get? b = some u := fun b u e => hsb₁.extBut b u (Nat.ne_of_lt (Heap.lt_size e)) (Heap.get?_push_of_some _ e)
  have k3 : ∀ b u, s2.heap.get? b = some u → s3.heap.get? b = some u := fun b u e => by rw [hh3]; exact Heap.get?_push_of_some _ e
  have hb2 : ∀ b ∈ fp, b < s2.heap.objs.size := fun b hb => by obtain ⟨o, e, _⟩ := T.obj _ _ t0 b hb; exact Heap.lt_size e
  have f3 : ∀ b ∈ fp, FpOk X pins (upd H1 s2.heap.objs.size (.set (fun _ => false) 0)) b := fun b hb => by
    obtain ⟨f0, fr⟩ := f b hb
    exact ⟨by rw [upd_ne (Nat.ne_of_lt (hb2 b hb))]; exact f0, fr⟩
  have hb3 : ∀ b ∈ fp, b < s3.heap.objs.size := fun b hb => by obtain ⟨o, e, _⟩ := T.obj _ _ t0 b hb; exact Heap.lt_size (k3 b o e)
  have I4 := inv_comp (tk := s2.toks) I3 C hcl1 hcl2 (fun b hb => ⟨f3 b hb, hb3 b hb⟩) hns₁ k4
  generalize hH3 : upd H1 s2.heap.objs.size (.set (fun _ => false) 0) = H3 at *
  have st4 : tn 0 h₁ := T.keep _ _ _ t0 fun b hb o e => k4 b o (k3 b o e)
  have fpX : ∀ {H' : Hp}, (∀ b ∈ fp, H' b = none) → ∀ b ∈ fp, FpOk (cxComp X scope cl N fp s3 H3) [] H' b := fun {H'} hn b hb => by
    obtain ⟨f0, f1, f2, f3', f4, f5⟩ := f3 b hb
    refine ⟨hn b hb, Nat.ne_of_lt (hb3 b hb), fun hz => ?_, .inl hb, fun x c e => f4 x c (hcl1 x c e), fun p hp => absurd (show p ∈ ([] : List (Addr × Obj)) from hp) (by simp)⟩
    rcases List.mem_cons.mp (I3.stkSub b hz) with z | z
    · exact f1 z
    · exact f2 z
  have loop : codeAny (model X.prog X.w) X.A (.compLoop (.SetComp elt [⟨tg, iter, ifs, 0⟩] scope pos) 0 (.ref it) (.ref s2.heap.objs.size) (compEnvC scope cl s3.heap.objs.size X.env)) (RR (.ref s2.heap.objs.size) s3.heap.objs.size) { s3 with heap := h₁, toks := s2.toks } := by
    refine compLoop_goS (fun n s' => ∃ i H', Inv (cxComp X scope cl N fp s3 H3) [] (capSt cap σ) H' s' ∧ tn i s'.heap ∧ (∀ b ∈ fp, H' b = none) ∧ W i n H') ?_ m0 ⟨0, H3, I4, st4, fun b hb => (f3 b hb).1, w0⟩
    rintro n s' ⟨i, H', I', st, fr, w⟩
    rcases turn i n H' w with ⟨stop, q⟩ | ⟨go, NN, hNN, step⟩
    · refine thn (T.done (cxComp X scope cl N fp s3 H3) rfl rfl rfl hc i [] s' _ H' (fun _ _ => False) I' (fpX fr) st stop) fun r s5 ⟨hr, I5⟩ => ?_
      subst hr
      obtain ⟨m5, hn5, _⟩ := id I5.loc
      exact fin _ _ s5 H' m5 (comp_back I3 f3 I5) hn5 I5.free (TL.Inv.apart I3) q
    · refine thn (T.item (cxComp X scope cl N fp s3 H3) rfl rfl rfl hc i [] s' _ H' (fun _ _ => False) I' (fpX fr) st go) fun r s5 ⟨u, hr, h5⟩ => ?_
      subst hr
      refine thn h5 fun _ s6 ⟨x, H6, I6, r6, y6, st6, fr6⟩ => ?_
      have I6' := I6.pinned (fpX fr6) (T.obj _ _ st6)
      refine thn (hg s3 H3 _ s6 _ H6 x u _ I6' r6 (ho.own _ _ _ _ (step x H6 y6))) fun _ s7 ⟨σ7, H7, I7, q7, l7, o7⟩ => ?_
      have cov : ∀ (i : Nat) v, (capSt cap σ)[i]? = some (some v) → σ7[i]? = some (some v) := fun i v e => by
        obtain ⟨j, c1, c2⟩ := capSt_get e
        by_cases hi : i < own
        · exact (C.own_none hi c1).elim
        · rw [o7 i (by omega)]; exact e
      have back : ∀ {H8 : Hp} {s8 : Shared}, Inv (cxComp X scope cl N fp s3 H3) ([] ++ pinsAt fp s6.heap) σ7 H8 s8 → Inv (cxComp X scope cl N fp s3 H3) [] (capSt cap σ) H8 s8 ∧ tn (i + 1) s8.heap ∧ ∀ b ∈ fp, H8 b = none := fun {H8 s8} I8 => by
        refine ⟨(Inv.unpinned (pins := []) I8).weak l7.symm cov, T.keep _ _ _ st6 fun b hb o e => (I8.pin (b, o) (List.mem_append_right _ (List.mem_append_right _ (mem_pinsAt hb e)))).1, fun b hb => ?_⟩
        obtain ⟨o, e, d⟩ := T.obj _ _ st6 b hb
        exact (I8.pin (b, o) (List.mem_append_right _ (List.mem_append_right _ (mem_pinsAt hb e)))).2.1
      refine thn (ht s3 H3 _ s7 σ7 H7 _ I7 q7) fun b s8 ⟨H8, I8, q8⟩ => ?_
      cases b with
      | false =>
        rw [if_neg Bool.false_ne_true] at q8 ⊢
        obtain ⟨m', hm, w8⟩ := hNN _ q8
        obtain ⟨J1, J2, J3⟩ := back I8
        exact ⟨m', hm, i + 1, H8, J1, J2, J3, w8⟩
      | true =>
        rw [if_pos rfl] at q8 ⊢
        refine thn (he s3 H3 _ s8 σ7 H8 _ I8 q8) fun v s9 ⟨y, H9, I9, r9, S, nn, k, ey, ha, hz, n9⟩ => ?_
        obtain ⟨m', hm, w9⟩ := hNN _ n9
        subst ey
        refine thn (mt_sadd _ s9 σ7 H9 (.ref s2.heap.objs.size) [.int k] (.ref s2.heap.objs.size) [v] (fun _ H10 => W (i + 1) m' H10) I9 rfl (.cons r9 .nil) ⟨_, S, nn, k, rfl, rfl, ha, hz, w9⟩) fun _ s10 ⟨_, H10, I10, _, w10⟩ => ?_
        obtain ⟨J1, J2, J3⟩ := back I10
        exact ⟨m', hm, i + 1, H10, J1, J2, J3, w10⟩
  exact compStart_set loop (T.self X.A 0 _ _ _ st4 loop)
theorem pe_sc (hi : PI X tg iter wi) (hc : X.calm = true) (C : CompOk X.env.scope X.N scope N own cap) (ho : GOwn own g)
    (hg : ∀ cl fp s3 H3, PG (cxComp X scope cl N fp s3 H3) tg g) (ht : ∀ cl fp s3 H3, PIfs (cxComp X scope cl N fp s3 H3) ifs tt) (he : ∀ cl fp s3 H3, PE (cxComp X scope cl N fp s3 H3) elt te)
    (hs : ∀ x, foldedSetIterable iter X.env x = pure x := by intro _; rfl) : PE X (.SetComp elt [⟨tg, iter, ifs, 0⟩] scope pos) (tSC wi cap g tt te) := by
  intro pins s σ H Q I h
  obtain ⟨cl, ecl, hcl1, hcl2⟩ := closure_ok (scope := scope) (env := X.env) fun y hy hf => I.ok.has y.1 (C.fre y hy hf)
  rw [arm_eval_SetComp]
  refine wpAny_comprehension_free (use := none) rfl hs ecl C.kind C.loc (thn (hi pins s σ H _ I h) fun xv s1 h1 => thn h1 fun itv s2 h2 => ?_)
  obtain ⟨it, fp, tn, J, H2, e, I2, T, st2, f2, hw⟩ := h2
  subst e
  refine comp_runS (RR := fun acc C => compPost (model X.prog X.w) X.A X.xe none (EP X pins σ Q) acc C) I2 T st2 f2 hc C ho hcl1 hcl2 (hg cl fp) (ht cl fp) (he cl fp) hw fun l Ca s' H' m' I' hn hfree hP q => ?_
  exact ⟨m', hn, fun h'' hs'' => ⟨.ref l, H', comp_gone I' hP hfree hs'', rfl, q⟩⟩
end

/-! ### how many unlike ones -/
def dn (ks : List Int) : Nat → Nat
  | 0 => 0
  | i + 1 => if ks.getD i 0 ∈ ks.take i then dn ks i else dn ks i + 1
theorem dn_le (ks : List Int) : ∀ i, dn ks i ≤ i
  | 0 => Nat.le_refl _
  | i + 1 => by
    have := dn_le ks i
    unfold dn
    split <;> omega
theorem dn_eq {ks : List Int} : ∀ {i}, dn ks i = i ↔ ∀ j, j < i → ks.getD j 0 ∉ ks.take j
  | 0 => ⟨fun _ j h => absurd h (Nat.not_lt_zero j), fun _ => rfl⟩
  | i + 1 => by
    have h1 := dn_le ks i
    have h2 := @dn_eq ks i
    unfold dn
    constructor
    · intro h j hj
      split at h
      · omega
      · rcases Nat.lt_succ_iff_lt_or_eq.mp hj with z | z
        · exact h2.mp (by omega) j z
        · subst z; assumption
    · intro h
      rw [if_neg (h i (by omega)), h2.mpr fun j hj => h j (by omega)]
theorem nodup_take (ks : List Int) : ks.Nodup ↔ ∀ j, j < ks.length → ks.getD j 0 ∉ ks.take j := by
  constructor
  · intro h j hj hm
    obtain ⟨i, hi, e⟩ := List.mem_iff_getElem.mp hm
    rw [List.length_take] at hi
    rw [List.getElem_take] at e
    have e2 : ks.getD j 0 = ks[j] := by rw [List.getD_eq_getElem?_getD, List.getElem?_eq_getElem hj]; rfl
    rw [e2] at e
    have := (List.getElem_inj h).mp e
    omega
  · intro h
    rw [List.Nodup, List.pairwise_iff_getElem]
    intro i j hi hj hij e
    refine h j hj ?_
    have e2 : ks.getD j 0 = ks[j] := by rw [List.getD_eq_getElem?_getD, List.getElem?_eq_getElem hj]; rfl
    rw [e2, ← e]
    exact List.mem_iff_getElem.mpr ⟨i, by rw [List.length_take]; omega, by rw [List.getElem_take]⟩
theorem dn_nodup (ks : List Int) : dn ks ks.length = ks.length ↔ ks.Nodup := dn_eq.trans (nodup_take ks).symm
theorem dn_lt (ks : List Int) : dn ks ks.length < ks.length ↔ ¬ ks.Nodup := by
  rw [← dn_nodup]
  have := dn_le ks ks.length
  omega
theorem take_snoc {ks : List Int} {i : Nat} (hi : i < ks.length) : ks.take (i + 1) = ks.take i ++ [ks.getD i 0] := by
  rw [List.take_add_one, List.getD_eq_getElem?_getD, List.getElem?_eq_getElem hi]; rfl
theorem sPut_take {ks : List Int} {i : Nat} (hi : i < ks.length) : sPut (fun k => decide (k ∈ ks.take i)) (ks.getD i 0) = fun k => decide (k ∈ ks.take (i + 1)) := by
  funext k
  rw [take_snoc hi]
  simp [sPut]
theorem nPut_take (ks : List Int) (i : Nat) : nPut (fun k => decide (k ∈ ks.take i)) (dn ks i) (ks.getD i 0) = dn ks (i + 1) := by
  unfold nPut
  rw [dn]
  by_cases h : ks.getD i 0 ∈ ks.take i
  · rw [if_pos h, if_pos (by simpa using h)]
  · rw [if_neg h, if_neg (by simpa using h)]
section
variable {X : Cx}
end
section
variable {l : Addr} {g : TG} {tt : TT} {te : TE} {cap : List (Option Nat)} {σ : St} {Q : VK} {H1 : Hp} {J : It}
theorem sc_pureJ {α : Type} {n : Nat} {it : Nat → V → Prop} (S : JS J n H1 it) (ds : List α) (f : α → Int) (hn : H1 l = none) (hlen : n = ds.length) (hz : n + 1 < scanBound)
    (hs : ∀ (i : Nat) x d H, it i x → ds[i]? = some d → Same H1 H → ∀ (P1 : VK) (P0 : Hp → Prop), P1 (.int (f d)) H →
      g x (capSt cap σ) H fun σ2 H2 => tt σ2 H2 fun b H3 => if b = true then te σ2 H3 P1 else P0 H3)
    (hq : Q (.ref l) (upd H1 l (.set (fun k => decide (k ∈ ds.map f)) (dn (ds.map f) n)))) : ScW J g tt te cap σ Q l H1 := by
  refine ⟨fun i m H => m = n - i ∧ i ≤ n ∧ H = upd H1 l (.set (fun k => decide (k ∈ (ds.map f).take i)) (dn (ds.map f) i)), ⟨n, by simp, Nat.zero_le _, ?_⟩, ?_⟩
  · congr 2
  rintro i m H ⟨rfl, hi, e2⟩
  have sm : Same H1 H := by rw [e2]; exact same_upd hn
  by_cases hlt : i < n
  · refine .inr ⟨S.go i H sm hlt, fun H' => H' = upd H1 l (.set (fun k => decide (k ∈ (ds.map f).take (i + 1))) (dn (ds.map f) (i + 1))), fun H' p2 => ⟨n - (i + 1), by omega, rfl, hlt, p2⟩, fun x H' y0 => ?_⟩
    obtain ⟨e, y⟩ := S.yld i H x H' sm hlt y0
    clear y0
    subst e
    have hd : ds[i]? = some (ds[i]'(by omega)) := by simp
    generalize ds[i]'(by omega) = d at hd
    refine hs i x d H' y hd sm _ _ ⟨_, _, f d, rfl, by rw [e2]; exact upd_same, ?_, ?_⟩
    · have := dn_le (ds.map f) i
      omega
    · have e3 : (ds.map f).getD i 0 = f d := by rw [List.getD_eq_getElem?_getD, List.getElem?_map, hd]; rfl
      have h1 := sPut_take (ks := ds.map f) (i := i) (by rw [List.length_map]; omega)
      have h2 := nPut_take (ds.map f) i
      rw [e3] at h1 h2
      rw [h1, h2, e2, upd_upd]
  · have e : i = n := by omega
    subst e
    refine .inl ⟨S.stop H sm, ?_⟩
    rw [e2, List.take_of_length_le (by rw [List.length_map]; omega)]
    exact hq
end
end TL
set_option Elab.async false
set_option linter.all false
set_option maxRecDepth 100000
set_option maxHeartbeats 4000000
namespace TL
open PySem PySem.Spec PyProof.Rows L2

/-! ### the heap but for one address -/
def hid (p : Addr) (H : Hp) : Hp := fun b => if b = p then none else H b
theorem hid_same {p : Addr} {H : Hp} : Same (hid p H) H := fun b o h => by
  unfold hid at h
  by_cases e : b = p
  · rw [if_pos e] at h; cases h
  · rw [if_neg e] at h; exact h
theorem hid_ne {p b : Addr} {H : Hp} (h : b ≠ p) : hid p H b = H b := by unfold hid; rw [if_neg h]
theorem hid_self {p : Addr} {H : Hp} : hid p H p = none := by unfold hid; rw [if_pos rfl]
theorem hid_mono {p : Addr} {H H' : Hp} (s : Same H H') : Same (hid p H) (hid p H') := fun b o h => by
  by_cases e : b = p
  · subst e; rw [hid_self] at h; cases h
  · rw [hid_ne e] at h ⊢; exact s _ _ h
theorem hid_upd {p : Addr} {H : Hp} {o : HO} : hid p (upd H p o) = hid p H := by
  funext b
  by_cases e : b = p
  · subst e; rw [hid_self, hid_self]
  · rw [hid_ne e, hid_ne e, upd_ne e]
/-- what stood ahead of p stands without it -/
theorem same_hid {p : Addr} {H H' : Hp} (s : Same H H') (hn : H p = none) : Same H (hid p H') := fun b o h => by
  rw [hid_ne (ne_of_none h hn)]; exact s _ _ h
theorem hid_tup {K : PySem.W.Frag} {p a : Addr} {H : Hp} {vs xs : List V} (hp : H p = some (.lst vs)) (h : SqT K H a xs) : SqT K (hid p H) a xs := by
  rcases h with (h | ⟨o, h⟩) | h
  · exact .inl (.inl (by rw [hid_ne (ne_of h hp (by intro z; cases z))]; exact h))
  · exact .inl (.inr ⟨o, by rw [hid_ne (ne_of h hp (by intro z; cases z))]; exact h⟩)
  · exact .inr h

/-! ### slices by nats -/
theorem cut_drop (xs : List V) {i : Int} (h : 0 ≤ i) : cutV xs (some i) none = xs.drop i.toNat := by
  unfold cutV
  rw [HT.sIx_none]
  have e : HT.sIx xs.length 0 (some i) = min i.toNat xs.length := by
    have := HT.sIx_nat xs.length 0 i.toNat
    rw [show ((i.toNat : Nat) : Int) = i by omega] at this
    exact this
  rw [e]
  by_cases h2 : i.toNat ≤ xs.length
  · rw [Nat.min_eq_left h2, List.take_of_length_le (by rw [List.length_drop]; omega)]
  · rw [Nat.min_eq_right (by omega), List.drop_of_length_le (Nat.le_refl _), List.drop_of_length_le (by omega), List.take_nil]
section
variable {L T : Addr → List V → Prop}
end
theorem at_neg1 {xs : List V} {v : V} (h : xs[xs.length - 1]? = some v) : atI xs (-1) = some v := by
  have h1 := (List.getElem?_eq_some_iff.mp h).1
  have hne : xs ≠ [] := fun e => by rw [e] at h1; simp at h1
  have e : xs.getLast hne = v := by
    rw [List.getLast_eq_getElem]
    exact (List.getElem?_eq_some_iff.mp h).2
  rw [← List.dropLast_concat_getLast hne, e]
  exact atI_last _ _
theorem at_nat {xs : List V} {v : V} {i : Int} (h0 : 0 ≤ i) (h : xs[i.toNat]? = some v) : atI xs i = some v := by
  have := atI_nat h
  rw [show ((i.toNat : Nat) : Int) = i by omega] at this
  exact this

/-! ### a comprehension that yields data -/
section
variable {K : PySem.W.Frag} {l : Addr} {g : TG} {tt : TT} {te : TE} {cap : List (Option Nat)} {σ : St} {Q : VK} {H1 : Hp} {J : It}
end
end TL
set_option Elab.async false
set_option linter.all false
set_option maxRecDepth 100000
set_option maxHeartbeats 4000000
namespace TL
open PySem PySem.Spec PyProof.Rows L2

/-! ### a call that could raise, but doesn't -/
theorem passes_no {P : Program} {w : World} {base : Heap} {X : Cx} : Passes (CXr P w base) X E0 := fun _ _ _ _ _ _ _ hx => by
  obtain ⟨_, _, _, _, _, _, _, _, q⟩ := hx
  exact q.elim

/-! ### a dict is known while it is walked -/
section
variable {X : Cx} {pins : List (Addr × Obj)} {σ : St} {H : Hp} {s : Shared} {a : Addr} {kvs : List (List Key × V)}
end

/-! ### the keys of a dict, whatever they are -/
section
variable {prog : Program} {w : World} {A : Around} {E : Value → Shared → Prop} {s : Shared} {d it : Addr} {o : Obj} {es : Array DictEntry} {ep i : Nat}
end
section
variable {X : Cx}
end
end TL
set_option Elab.async false
set_option linter.all false
set_option maxRecDepth 100000
set_option maxHeartbeats 4000000
namespace TL
open PySem PySem.Spec PyProof.Rows L2
section
variable {X : Cx} {pins : List (Addr × Obj)} {σ : St} {H : Hp} {s : Shared} {a b : Addr} {kvs : List (List Key × V)} {k : List Key} {v : V} {r : Value} {A : Around} {E : Value → Shared → Prop}
/-- f"..{name}..", the name an int of the module -/
theorem pe_fstr3 {x y n : Str} {i : Int} {u : Value} {k1 k2 : Nat} {p1 p2 p3 p4 pos : Pos} (hg : Gl X n) (hm : X.mg n = some u) (r : RelV (.int i) u) (hi : i.natAbs.log2 < 1920) (hz : x.length ≤ 1000 ∧ y.length ≤ 1000 ∧ (Str.ofString (toString i)).length ≤ 1000)
    (hd : (n == ("__debug__" : Str)) = false := by decide) : PE X (.JoinedStr [.Constant (.str x) k1 p1, .FormattedValue (.Name n p2) (-1) none p3, .Constant (.str y) k2 p4] pos) (fun _ H Q => ∀ z, Q (.str z) H) := by
  intro pins s σ H Q I q
  obtain ⟨t, rfl⟩ := r
  have hl : ∀ a b : Str, (a ++ b).length = a.length + b.length := strLen_append
  have he : Str.empty.length = 0 := rfl
  refine wpAny_JoinedStr ?_
  refine PySem.wpAny_Constant_str ⟨x, _, rfl, by rw [hl, he, sizeLine_eq]; omega, ?_⟩
  refine wpAny_FormattedValue_plain (ld_glob (I.tok _) hg hm (wpAny_formatField_int hi ⟨_, _, rfl, by rw [hl, hl, he, sizeLine_eq]; omega, ?_⟩) hd)
  refine PySem.wpAny_Constant_str ⟨y, _, rfl, by rw [hl, hl, hl, he, sizeLine_eq]; omega, ?_⟩
  refine ⟨by rw [hl, hl, hl, he, sizeLine_eq]; omega, ⟨.str _, H, ?_, ⟨_, rfl⟩, q _⟩⟩
  exact I.tok _
end

/-! ### the rules that name K, once more -/
section
variable {X : Cx} {K : PySem.W.Frag}
end
end TL
set_option Elab.async false
set_option linter.all false
set_option maxRecDepth 100000
set_option maxHeartbeats 4000000
namespace TL
open PySem PySem.Spec PyProof.Rows L2
abbrev Ln := Int × List (Int × Int)
/-! ### trains, as lists -/
structure TrOk (l : Ln) (ns : List Int) : Prop where
  ends : ∀ e ∈ ns, 0 ≤ e ∧ e < 2 * l.1
  nd : (ns.map (· / 2)).Nodup
  ch : ∀ (i : Nat) x y, ns[i]? = some x → ns[i + 1]? = some y → y ∈ jn l.2 (oth x)
theorem jn_iff {l : Ln} (ok : LineOk l) {e x : Int} : x ∈ jn l.2 e ↔ (min e x, max e x) ∈ l.2 := by
  unfold jn
  rw [srt_mem, List.mem_append]
  constructor
  · rintro (z | z)
    · obtain ⟨p, hp, rfl⟩ := List.mem_map.mp z
      obtain ⟨h1, h2⟩ := List.mem_filter.mp hp
      have h2 : p.2 = e := by simpa using h2
      have := ok.ends p h1
      have e1 : (min e p.1, max e p.1) = p := Prod.ext (by show min e p.1 = p.1; omega) (by show max e p.1 = p.2; omega)
      rw [e1]; exact h1
    · obtain ⟨p, hp, rfl⟩ := List.mem_map.mp z
      obtain ⟨h1, h2⟩ := List.mem_filter.mp hp
      have h2 : p.1 = e := by simpa using h2
      have := ok.ends p h1
      have e1 : (min e p.2, max e p.2) = p := Prod.ext (by show min e p.2 = p.1; omega) (by show max e p.2 = p.2; omega)
      rw [e1]; exact h1
  · intro h
    by_cases hx : e ≤ x
    · have e1 : (min e x, max e x) = (e, x) := Prod.ext (by show min e x = e; omega) (by show max e x = x; omega)
      rw [e1] at h
      exact .inr (List.mem_map.mpr ⟨(e, x), List.mem_filter.mpr ⟨h, by simp⟩, rfl⟩)
    · have e1 : (min e x, max e x) = (x, e) := Prod.ext (by show min e x = x; omega) (by show max e x = e; omega)
      rw [e1] at h
      exact .inl (List.mem_map.mpr ⟨(x, e), List.mem_filter.mpr ⟨h, by simp⟩, rfl⟩)
theorem jn_symm {l : Ln} (ok : LineOk l) {e x : Int} (h : x ∈ jn l.2 e) : e ∈ jn l.2 x := by
  rw [jn_iff ok] at h ⊢
  rw [show min x e = min e x by omega, show max x e = max e x by omega]; exact h
theorem jn_end {l : Ln} (ok : LineOk l) {e x : Int} (h : x ∈ jn l.2 e) : 0 ≤ x ∧ x < 2 * l.1 := by
  have := ok.ends _ ((jn_iff ok).mp h)
  dsimp only at this
  omega
theorem fr_mem {l : Ln} {ns : List Int} {e x : Int} (h : x ∈ fr l ns e) : x ∈ jn l.2 e ∧ x / 2 ∉ ns.map (· / 2) := by
  obtain ⟨h1, h2⟩ := List.mem_filter.mp h
  exact ⟨h1, by simpa using h2⟩
theorem TrOk.on {l : Ln} {ns : List Int} {e : Int} (ok : LineOk l) (T : TrOk l ns) (hne : ns ≠ []) (he : e ∈ fr l ns (oth (ns.getLastD 0))) : TrOk l (ns.drop 1 ++ [e]) := by
  obtain ⟨h1, h2⟩ := fr_mem he
  have hl : 1 ≤ ns.length := by cases ns with | nil => exact absurd rfl hne | cons x r => simp
  refine ⟨fun x hx => ?_, ?_, fun i x y hx hy => ?_⟩
  · rcases List.mem_append.mp hx with z | z
    · exact T.ends x (List.mem_of_mem_drop z)
    · have z : x = e := by simpa using z
      rw [z]; exact jn_end ok h1
  · rw [List.map_append, List.nodup_append]
    refine ⟨by rw [List.map_drop]; exact T.nd.sublist (List.drop_sublist _ _), by simp, fun a ha b hb z => ?_⟩
    have hb : b = e / 2 := by simpa using hb
    rw [List.map_drop] at ha
    exact h2 (by rw [← hb, ← z]; exact List.mem_of_mem_drop ha)
  · have ld : (ns.drop 1).length = ns.length - 1 := List.length_drop
    by_cases hi : i + 1 < (ns.drop 1).length
    · rw [List.getElem?_append_left hi, List.getElem?_drop] at hy
      rw [List.getElem?_append_left (by omega), List.getElem?_drop] at hx
      exact T.ch (1 + i) x y hx (by rw [← hy]; congr 1)
    · have hlt := (List.getElem?_eq_some_iff.mp hy).1
      rw [List.length_append, List.length_singleton] at hlt
      have e1 : i + 1 = (ns.drop 1).length := by omega
      rw [e1, List.getElem?_append_right (Nat.le_refl _), Nat.sub_self] at hy
      cases hy
      rw [List.getElem?_append_left (by omega), List.getElem?_drop] at hx
      have e2 : ns.getLastD 0 = x := by
        rw [List.getLastD_eq_getLast?, List.getLast?_eq_getElem?, show ns.length - 1 = 1 + i by omega, hx]; rfl
      rw [e2] at h1
      exact h1
theorem TrOk.back {l : Ln} {ns : List Int} {e : Int} (ok : LineOk l) (T : TrOk l ns) (hne : ns ≠ []) (he : e ∈ fr l ns (ns.headD 0)) : TrOk l (oth e :: ns.dropLast) := by
  obtain ⟨h1, h2⟩ := fr_mem he
  have hl : 1 ≤ ns.length := by cases ns with | nil => exact absurd rfl hne | cons x r => simp
  refine ⟨fun x hx => ?_, ?_, fun i x y hx hy => ?_⟩
  · rcases List.mem_cons.mp hx with z | z
    · rw [z]
      have := jn_end ok h1
      unfold oth
      omega
    · exact T.ends x ((List.dropLast_sublist ns).subset z)
  · rw [List.map_cons, List.nodup_cons]
    refine ⟨fun z => h2 ?_, ?_⟩
    · rw [oth_half] at z
      have := (List.dropLast_sublist ns).map (· / 2)
      exact this.subset z
    · exact T.nd.sublist ((List.dropLast_sublist ns).map _)
  · cases i with
    | zero =>
      cases hx
      have hy : ns.dropLast[0]? = some y := hy
      rw [oth_oth]
      have hy2 : ns[0]? = some y := by
        have := (List.getElem?_eq_some_iff.mp hy).1
        rw [List.getElem?_dropLast] at hy
        split at hy
        · exact hy
        · cases hy
      have e2 : ns.headD 0 = y := by cases ns with | nil => cases hy2 | cons a r => cases hy2; rfl
      rw [e2] at h1
      exact jn_symm ok h1
    | succ j =>
      have hx : ns.dropLast[j]? = some x := hx
      have hy : ns.dropLast[j + 1]? = some y := hy
      rw [List.getElem?_dropLast] at hx hy
      split at hx
      · split at hy
        · exact T.ch j x y hx hy
        · cases hy
      · cases hx
theorem mvs_ok {l : Ln} {ns : List Int} {m : Mv} (ok : LineOk l) (T : TrOk l ns) (hne : ns ≠ []) (hm : m ∈ mvs l ns) : TrOk l m.2 ∧ m.2.length = ns.length ∧ m.2 ≠ [] := by
  have hl : 1 ≤ ns.length := by cases ns with | nil => exact absurd rfl hne | cons x r => simp
  rcases List.mem_append.mp hm with z | z
  · obtain ⟨e, he, rfl⟩ := List.mem_map.mp z
    refine ⟨T.on ok hne he, ?_, fun e => ?_⟩
    · simp only [onM, List.length_append, List.length_drop, List.length_cons, List.length_nil]; omega
    · simp [onM] at e
  · obtain ⟨e, he, rfl⟩ := List.mem_map.mp z
    refine ⟨T.back ok hne he, ?_, fun e => ?_⟩
    · simp only [backM, List.length_cons, List.length_dropLast]; omega
    · simp [backM] at e

/-! ### how many there can be -/
end TL
namespace TL
open PySem PySem.Spec PyProof.Rows L2
/-! ### the standings, in order -/
abbrev Ent := List Int × Option (List Int × (Str × Int))
end TL
set_option Elab.async false
set_option linter.all false
set_option maxRecDepth 100000
set_option maxHeartbeats 4000000
namespace TL
open PySem PySem.Spec PyProof.Rows L2

/-! ### true lines -/
def okJ (m : Int) (p : Int × Int) : Prop := (0 ≤ p.1 ∧ p.1 < 2 * m) ∧ (0 ≤ p.2 ∧ p.2 < 2 * m) ∧ p.1 ≤ p.2 ∧ p.1 / 2 ≠ p.2 / 2
def isLine (l : Ln) : Prop := 1 ≤ l.1 ∧ l.1 ≤ 40 ∧ l.2.length ≤ 80 ∧ (∀ p ∈ l.2, okJ l.1 p) ∧ l.2.Nodup
/-! ### pieces renamed and turned about -/
end TL
namespace TL
end TL
set_option Elab.async false
set_option linter.all false
set_option maxRecDepth 100000
set_option maxHeartbeats 4000000
namespace TL
open PySem PySem.Spec PyProof.Rows L2
/-! ### xs += ys -/
section
variable {prog : Program} {w : World} {A : Around} {E : Value → Shared → Prop} {s : Shared} {l b : Addr} {items items2 : Array Value} {n n2 : Nat}
end
section
variable {X : Cx}
end
end TL
set_option Elab.async false
set_option linter.all false
set_option maxRecDepth 100000
set_option maxHeartbeats 4000000
namespace TS
open PySem

/-! ### the walk over a table's slots comes by all of them -/
def lcg : Nat → Nat → Nat
  | 0, x => x
  | d + 1, x => 5 * lcg d x + 1
theorem lcg_add (d : Nat) : ∀ e x, lcg (e + d) x = lcg e (lcg d x)
  | 0, x => by rw [Nat.zero_add]; rfl
  | e + 1, x => by rw [Nat.add_right_comm]; show 5 * lcg (e + d) x + 1 = 5 * lcg e (lcg d x) + 1; rw [lcg_add d e x]
theorem lcg_pow : ∀ k, ∃ q, q % 2 = 1 ∧ ∀ x, lcg (2 ^ k) x = x + 2 ^ k * q * (4 * x + 1)
  | 0 => ⟨1, rfl, fun x => by show 5 * x + 1 = _; omega⟩
  | k + 1 => by
    obtain ⟨q, hq, h⟩ := lcg_pow k
    refine ⟨q * (1 + 2 * 2 ^ k * q), ?_, fun x => ?_⟩
    · have e : q * (1 + 2 * 2 ^ k * q) = q + 2 * (q * 2 ^ k * q) := by
        rw [Nat.mul_add, Nat.mul_one, Nat.mul_assoc 2, Nat.mul_left_comm q 2, Nat.mul_assoc q]
      rw [e, Nat.add_mul_mod_self_left]; exact hq
    · rw [Nat.pow_succ, Nat.mul_two, lcg_add, h x, h]
      generalize 2 ^ k = p
      have e : ∀ y, p * q * (4 * (x + y) + 1) = p * q * (4 * x + 1) + 4 * (p * q * y) := fun y => by
        rw [show 4 * (x + y) + 1 = (4 * x + 1) + 4 * y by omega, Nat.mul_add, Nat.mul_left_comm (p * q) 4 y]
      rw [e]
      have e2 : (p + p) * (q * (1 + 2 * p * q)) * (4 * x + 1) = 2 * (p * q * (4 * x + 1)) + 4 * (p * q * (p * q * (4 * x + 1))) := by
        have a1 : (p + p) * (q * (1 + 2 * p * q)) = 2 * (p * q) + 4 * (p * q * (p * q)) := by
          rw [← Nat.two_mul, Nat.mul_assoc, ← Nat.mul_assoc p q, Nat.mul_add, Nat.mul_one, Nat.mul_add]
          congr 1
          rw [Nat.mul_assoc 2 p q, Nat.mul_left_comm (p * q) 2, ← Nat.mul_assoc]
        rw [a1, Nat.add_mul, Nat.mul_assoc 2, Nat.mul_assoc 4, Nat.mul_assoc (p * q)]
      rw [e2]
      omega
theorem lcg_all : ∀ k x y, ∃ d, d < 2 ^ k ∧ lcg d x % 2 ^ k = y % 2 ^ k
  | 0, x, y => ⟨0, Nat.one_pos, by simp [Nat.mod_one]⟩
  | k + 1, x, y => by
    obtain ⟨d, hd, e⟩ := lcg_all k x y
    have hp : 0 < 2 ^ k := Nat.two_pow_pos k
    have h2 : 2 ^ (k + 1) = 2 ^ k * 2 := Nat.pow_succ ..
    obtain ⟨q, hq, h⟩ := lcg_pow k
    have split : ∀ a, a % (2 ^ k * 2) = a % 2 ^ k + 2 ^ k * (a / 2 ^ k % 2) := fun a => Nat.mod_mul
    by_cases c : lcg d x / 2 ^ k % 2 = y / 2 ^ k % 2
    · exact ⟨d, by omega, by rw [h2, split, split, e, c]⟩
    · refine ⟨2 ^ k + d, by omega, ?_⟩
      rw [lcg_add, h, h2, split, split]
      generalize hz : lcg d x = z at *
      have h4 : (q * (4 * z + 1)) % 2 = 1 := by
        rw [Nat.mul_mod, hq, show (4 * z + 1) % 2 = 1 by omega]
      have e1 : (z + 2 ^ k * q * (4 * z + 1)) % 2 ^ k = z % 2 ^ k := by rw [Nat.mul_assoc, Nat.add_mul_mod_self_left]
      have e2 : (z + 2 ^ k * q * (4 * z + 1)) / 2 ^ k = z / 2 ^ k + q * (4 * z + 1) := by rw [Nat.mul_assoc, Nat.add_mul_div_left _ _ hp]
      rw [e1, e2, e]
      congr 2
      have := Nat.mod_two_eq_zero_or_one (z / 2 ^ k)
      have := Nat.mod_two_eq_zero_or_one (y / 2 ^ k)
      omega

/-! ### the places that are looked at, one behind the other -/
open SetTable
def adv (mask : Nat) (p : Probe) : Probe :=
  if p.more > 0 then { p with j := p.j + 1, more := p.more - 1 } else
  { p with j := (leap mask p.i p.perturb).1, more := runEnd mask (leap mask p.i p.perturb).1 - (leap mask p.i p.perturb).1, i := (leap mask p.i p.perturb).1, perturb := (leap mask p.i p.perturb).2 }
theorem adv_eq (t : SetTable) (p : Probe) : t.advance p = adv t.mask p := by unfold advance adv; split <;> rfl
def pAt (mask : Nat) (h : Int) : Nat → Probe
  | 0 => { j := bits h % (mask + 1), more := runEnd mask (bits h % (mask + 1)) - bits h % (mask + 1), i := bits h % (mask + 1), perturb := bits h, dummy := none }
  | n + 1 => adv mask (pAt mask h n)
theorem pAt_dummy (mask : Nat) (h : Int) : ∀ n, (pAt mask h n).dummy = none
  | 0 => rfl
  | n + 1 => by
    show (adv mask (pAt mask h n)).dummy = none
    unfold adv
    split <;> exact pAt_dummy mask h n
/-- the r-th leap -/
def lpI (mask : Nat) (h : Int) : Nat → Nat × Nat
  | 0 => (bits h % (mask + 1), bits h)
  | r + 1 => leap mask (lpI mask h r).1 (lpI mask h r).2
def lpT (mask : Nat) (h : Int) : Nat → Nat
  | 0 => 0
  | r + 1 => lpT mask h r + (runEnd mask (lpI mask h r).1 - (lpI mask h r).1) + 1
theorem runEnd_ge (mask i : Nat) : i ≤ runEnd mask i := by unfold runEnd; split <;> omega
theorem runEnd_le (mask i : Nat) : runEnd mask i ≤ i + 9 := by unfold runEnd; split <;> omega
theorem runEnd_mask {mask i : Nat} (h : i ≤ mask) : runEnd mask i ≤ mask := by unfold runEnd; split <;> omega
theorem pAt_leap (mask : Nat) (h : Int) : ∀ r d, d ≤ runEnd mask (lpI mask h r).1 - (lpI mask h r).1 →
    pAt mask h (lpT mask h r + d) = { j := (lpI mask h r).1 + d, more := runEnd mask (lpI mask h r).1 - (lpI mask h r).1 - d, i := (lpI mask h r).1, perturb := (lpI mask h r).2, dummy := none }
  | 0, 0, _ => rfl
  | r + 1, 0, _ => by
    have ih := pAt_leap mask h r _ (Nat.le_refl _)
    show pAt mask h (lpT mask h r + (runEnd mask (lpI mask h r).1 - (lpI mask h r).1) + 1) = _
    show adv mask (pAt mask h (lpT mask h r + (runEnd mask (lpI mask h r).1 - (lpI mask h r).1))) = _
    rw [ih]
    unfold adv
    simp only [Nat.sub_self, gt_iff_lt, Nat.lt_irrefl, if_false]
    rfl
  | r, d + 1, hd => by
    have ih := pAt_leap mask h r d (by omega)
    show adv mask (pAt mask h (lpT mask h r + d)) = _
    rw [ih]
    unfold adv
    rw [if_pos (by show _ > 0; simp only; omega)]
    simp only [Probe.mk.injEq, and_true, true_and]
    omega
theorem lpI_le (mask : Nat) (h : Int) : ∀ r, (lpI mask h r).1 ≤ mask
  | 0 => Nat.le_of_lt_succ (Nat.mod_lt (bits h) (Nat.succ_pos mask))
  | r + 1 => Nat.le_of_lt_succ (Nat.mod_lt ((lpI mask h r).1 * 5 + 1 + (lpI mask h r).2 / 32) (Nat.succ_pos mask))
theorem bits_lt (h : Int) : bits h < 2 ^ 64 := by unfold bits; omega
theorem lpI_pert (mask : Nat) (h : Int) : ∀ r, (lpI mask h r).2 = bits h / 32 ^ r
  | 0 => by simp [lpI]
  | r + 1 => by
    show (lpI mask h r).2 / 32 = _
    rw [lpI_pert mask h r, Nat.div_div_eq_div_mul, Nat.pow_succ]
theorem lpI_zero (mask : Nat) (h : Int) {r : Nat} (hr : 13 ≤ r) : (lpI mask h r).2 = 0 := by
  rw [lpI_pert]
  have h1 := bits_lt h
  have h2 : 32 ^ 13 ≤ 32 ^ r := Nat.pow_le_pow_right (by decide) hr
  exact Nat.div_eq_of_lt (Nat.lt_of_lt_of_le h1 (Nat.le_trans (by decide) h2))
theorem lpI_lcg (mask : Nat) (h : Int) {s : Nat} (hs : 13 ≤ s) : ∀ d, (lpI mask h (s + d)).1 = lcg d (lpI mask h s).1 % (mask + 1)
  | 0 => by show (lpI mask h s).1 = (lpI mask h s).1 % (mask + 1); rw [Nat.mod_eq_of_lt (Nat.lt_succ_of_le (lpI_le mask h s))]
  | d + 1 => by
    have ih := lpI_lcg mask h hs d
    show ((lpI mask h (s + d)).1 * 5 + 1 + (lpI mask h (s + d)).2 / 32) % (mask + 1) = (5 * lcg d (lpI mask h s).1 + 1) % (mask + 1)
    rw [lpI_zero mask h (by omega), ih, Nat.zero_div, Nat.add_zero, Nat.mul_comm _ 5, Nat.add_mod, Nat.mul_mod_mod, ← Nat.add_mod]
theorem lpI_all {mask k : Nat} (hk : mask + 1 = 2 ^ k) (h : Int) (r0 : Nat) {j : Nat} (hj : j ≤ mask) : ∃ r, r0 + 1 ≤ r ∧ r ≤ r0 + mask + 14 ∧ (lpI mask h r).1 = j := by
  obtain ⟨s, h1, h2, h3⟩ : ∃ s, 13 ≤ s ∧ r0 + 1 ≤ s ∧ s ≤ r0 + 14 := by
    by_cases c : 13 ≤ r0 + 1
    · exact ⟨r0 + 1, c, by omega, by omega⟩
    · exact ⟨13, by omega, by omega, by omega⟩
  obtain ⟨d, hd, e⟩ := lcg_all k (lpI mask h s).1 j
  refine ⟨s + d, by omega, by omega, ?_⟩
  rw [lpI_lcg mask h h1, hk, e, Nat.mod_eq_of_lt (by omega)]
theorem lpT_le (mask : Nat) (h : Int) (r : Nat) : ∀ e, lpT mask h (r + e) ≤ lpT mask h r + 10 * e
  | 0 => Nat.le_refl _
  | e + 1 => by
    have := lpT_le mask h r e
    have h2 := runEnd_le mask (lpI mask h (r + e)).1
    show lpT mask h (r + e) + (runEnd mask (lpI mask h (r + e)).1 - (lpI mask h (r + e)).1) + 1 ≤ _
    omega
theorem lpT_lt (mask : Nat) (h : Int) (r : Nat) : lpT mask h r < lpT mask h (r + 1) := by
  show _ < lpT mask h r + (runEnd mask (lpI mask h r).1 - (lpI mask h r).1) + 1
  omega
theorem lpT_mono (mask : Nat) (h : Int) (r : Nat) : ∀ e, lpT mask h r ≤ lpT mask h (r + e)
  | 0 => Nat.le_refl _
  | e + 1 => Nat.le_trans (lpT_mono mask h r e) (Nat.le_of_lt (lpT_lt mask h (r + e)))
theorem lpT_find (mask : Nat) (h : Int) : ∀ n, ∃ r, lpT mask h r ≤ n ∧ n < lpT mask h (r + 1)
  | 0 => ⟨0, Nat.le_refl _, lpT_lt mask h 0⟩
  | n + 1 => by
    obtain ⟨r, h1, h2⟩ := lpT_find mask h n
    by_cases c : n + 1 < lpT mask h (r + 1)
    · exact ⟨r, by omega, c⟩
    · exact ⟨r + 1, by omega, by have := lpT_lt mask h (r + 1); omega⟩
/-- from any place on all slots are come by -/
theorem pAt_all {mask k : Nat} (hk : mask + 1 = 2 ^ k) (h : Int) (n : Nat) {j : Nat} (hj : j ≤ mask) : ∃ m, n ≤ m ∧ m < n + 10 * turns mask ∧ (pAt mask h m).j = j := by
  obtain ⟨r0, h1, h2⟩ := lpT_find mask h n
  obtain ⟨r, h3, h4, e⟩ := lpI_all hk h r0 hj
  refine ⟨lpT mask h r, ?_, ?_, ?_⟩
  · obtain ⟨x, rfl⟩ : ∃ x, r = r0 + 1 + x := ⟨r - (r0 + 1), by omega⟩
    have := lpT_mono mask h (r0 + 1) x
    omega
  · obtain ⟨x, rfl⟩ : ∃ x, r = r0 + x := ⟨r - r0, by omega⟩
    have := lpT_le mask h r0 x
    unfold turns
    omega
  · have := pAt_leap mask h r 0 (Nat.zero_le _)
    rw [Nat.add_zero] at this
    rw [this]
    simpa using e
theorem pAt_le (mask : Nat) (h : Int) (n : Nat) : (pAt mask h n).j ≤ mask := by
  obtain ⟨r, h1, h2⟩ := lpT_find mask h n
  have h3 := runEnd_mask (lpI_le mask h r)
  have h4 := pAt_leap mask h r (n - lpT mask h r) (by
    have : n < lpT mask h r + (runEnd mask (lpI mask h r).1 - (lpI mask h r).1) + 1 := h2
    omega)
  rw [show lpT mask h r + (n - lpT mask h r) = n by omega] at h4
  rw [h4]
  have : n < lpT mask h r + (runEnd mask (lpI mask h r).1 - (lpI mask h r).1) + 1 := h2
  have h5 := runEnd_ge mask (lpI mask h r).1
  show (lpI mask h r).1 + (n - lpT mask h r) ≤ mask
  omega
end TS
set_option Elab.async false
set_option linter.all false
set_option maxRecDepth 100000
set_option maxHeartbeats 4000000
namespace TS
open PySem
open SetTable

/-! ### where a slot stands among the taken ones -/
theorem below_go {xs : Array Nat} {j : Nat} (hs : xs.toList.Pairwise (· < ·)) : ∀ fuel lo hi, hi - lo ≤ fuel → lo ≤ hi → hi ≤ xs.size → (∀ i (h : i < xs.size), i < lo → xs[i] < j) → (∀ i (h : i < xs.size), hi ≤ i → j ≤ xs[i]) →
    below.go xs j fuel lo hi ≤ xs.size ∧ (∀ i (h : i < xs.size), i < below.go xs j fuel lo hi → xs[i] < j) ∧ (∀ i (h : i < xs.size), below.go xs j fuel lo hi ≤ i → j ≤ xs[i])
  | 0, lo, hi, h1, h2, h3, h4, h5 => by
    have : lo = hi := by omega
    subst this
    exact ⟨h3, h4, h5⟩
  | fuel + 1, lo, hi, h1, h2, h3, h4, h5 => by
    unfold below.go
    by_cases c : lo < hi
    · rw [if_pos c]
      dsimp only
      have hm : (lo + hi) / 2 < xs.size := by omega
      have e : xs.getD ((lo + hi) / 2) j = xs[(lo + hi) / 2] := by simp [Array.getD, hm]
      have mono : ∀ a b (ha : a < xs.size) (hb : b < xs.size), a < b → xs[a] < xs[b] := fun a b ha hb hab => by
        have := List.pairwise_iff_getElem.mp hs a b (by simpa using ha) (by simpa using hb) hab
        simpa using this
      rw [e]
      by_cases d : xs[(lo + hi) / 2] < j
      · rw [if_pos d]
        refine below_go hs fuel _ _ (by omega) (by omega) h3 (fun i h hi' => ?_) h5
        by_cases q : i = (lo + hi) / 2
        · subst q; exact d
        · exact Nat.lt_trans (mono i _ h hm (by omega)) d
      · rw [if_neg d]
        refine below_go hs fuel _ _ (by omega) (by omega) (by omega) h4 (fun i h hi' => ?_)
        by_cases q : i = (lo + hi) / 2
        · subst q; omega
        · have := mono _ i hm h (by omega); omega
    · rw [if_neg c]
      have : lo = hi := by omega
      subst this
      exact ⟨h3, h4, h5⟩
theorem below_spec {xs : Array Nat} (hs : xs.toList.Pairwise (· < ·)) (j : Nat) :
    below xs j ≤ xs.size ∧ (∀ i (h : i < xs.size), i < below xs j → xs[i] < j) ∧ (∀ i (h : i < xs.size), below xs j ≤ i → j ≤ xs[i]) :=
  below_go hs xs.size 0 xs.size (by omega) (by omega) (Nat.le_refl _) (fun i h c => by omega) fun i h c => by omega
theorem below_at {xs : Array Nat} (hs : xs.toList.Pairwise (· < ·)) {i j : Nat} (h : xs[i]? = some j) : below xs j = i := by
  obtain ⟨h1, h2, h3⟩ := below_spec hs j
  obtain ⟨hi, e⟩ := Array.getElem?_eq_some_iff.mp h
  have mono : ∀ a b (ha : a < xs.size) (hb : b < xs.size), a < b → xs[a] < xs[b] := fun a b ha hb hab => by
    have := List.pairwise_iff_getElem.mp hs a b (by simpa using ha) (by simpa using hb) hab
    simpa using this
  rcases Nat.lt_trichotomy (below xs j) i with c | c | c
  · have := h3 (below xs j) (by omega) (Nat.le_refl _)
    have := mono _ _ (by omega) hi c
    omega
  · exact c
  · have := h2 i hi c
    omega
/-- put in its place -/
theorem insert_sorted {xs : Array Nat} (hs : xs.toList.Pairwise (· < ·)) {j : Nat} (hj : j ∉ xs.toList) : (insertAt xs (below xs j) j).toList.Pairwise (· < ·) := by
  obtain ⟨h1, h2, h3⟩ := below_spec hs j
  rw [SetTable.toList_insertAt]
  have a : ∀ y ∈ xs.toList.take (below xs j), y < j := fun y hy => by
    obtain ⟨i, hi, e⟩ := List.mem_iff_getElem.mp hy
    rw [List.length_take] at hi
    rw [List.getElem_take] at e
    rw [← e]
    exact h2 i (by simpa using (show i < xs.toList.length by omega)) (by omega)
  have b : ∀ y ∈ xs.toList.drop (below xs j), j < y := fun y hy => by
    obtain ⟨i, hi, e⟩ := List.mem_iff_getElem.mp hy
    rw [List.length_drop] at hi
    rw [List.getElem_drop] at e
    have hm : y ∈ xs.toList := List.mem_of_mem_drop hy
    have : j ≠ y := fun z => hj (z ▸ hm)
    have := h3 (below xs j + i) (by simpa using (show below xs j + i < xs.toList.length by omega)) (by omega)
    rw [← e] at *
    simp at *
    omega
  refine List.pairwise_append.mpr ⟨hs.sublist (List.take_sublist _ _), List.pairwise_cons.mpr ⟨b, hs.sublist (List.drop_sublist _ _)⟩, fun x hx y hy => ?_⟩
  rcases List.mem_cons.mp hy with rfl | hy
  · exact a x hx
  · exact Nat.lt_trans (a x hx) (b y hy)
theorem slot_live {t : SetTable} (hs : t.place.toList.Pairwise (· < ·)) {i j : Nat} (h : t.place[i]? = some j) : t.slot j = .live i := by
  unfold slot
  dsimp only
  rw [below_at hs h, h]
  simp
theorem slot_empty {t : SetTable} (hd : t.dummies = #[]) {j : Nat} (h : j ∉ t.place.toList) : t.slot j = .empty := by
  unfold slot
  dsimp only
  rw [if_neg, hd, if_neg]
  · simp [has]
  · intro z
    have z' : t.place[below t.place j]? = some j := by simpa using z
    exact h (by rw [Array.mem_toList_iff]; exact Array.mem_of_getElem? z')

/-! ### a table that is well laid -/
theorem sub_len : ∀ {l m : List Nat}, l.Nodup → (∀ x ∈ l, x ∈ m) → l.length ≤ m.length
  | [], m, _, _ => Nat.zero_le _
  | x :: l, m, hn, hs => by
    rw [List.nodup_cons] at hn
    have hx := hs x List.mem_cons_self
    have := @sub_len l (m.erase x) hn.2 fun y hy => by
      refine (List.mem_erase_of_ne ?_).mpr (hs y (List.mem_cons_of_mem _ hy))
      rintro rfl
      exact hn.1 hy
    have h2 := List.length_erase_of_mem hx
    have h3 : 0 < m.length := List.length_pos_of_mem hx
    rw [List.length_cons]
    omega
theorem some_free {l : List Nat} {mask : Nat} (h : l.length ≤ mask) : ∃ j, j ≤ mask ∧ j ∉ l := by
  refine Classical.byContradiction fun c => ?_
  have := @sub_len (List.range (mask + 1)) l List.nodup_range fun x hx => Classical.byContradiction fun q => c ⟨x, by have := List.mem_range.mp hx; omega, q⟩
  rw [List.length_range] at this
  omega
/-- j is the n-th place of h, and all ahead of it are taken -/
def ReachAt (mask : Nat) (taken : List Nat) (h : Int) (j : Nat) : Prop := ∃ n, (pAt mask h n).j = j ∧ ∀ m, m < n → (pAt mask h m).j ∈ taken
structure WFT (t : SetTable) (hs : List Int) : Prop where
  pow : ∃ k, 3 ≤ k ∧ t.mask + 1 = 2 ^ k
  small : t.mask ≤ 8191
  dum : t.dummies = #[]
  rise : t.place.toList.Pairwise (· < ·)
  all : ∀ j ∈ t.place.toList, j ≤ t.mask
  len : t.place.size = hs.length
  room : hs.length * 5 < t.mask * 3
  reach : ∀ i (h : i < hs.length) j, t.place[i]? = some j → ReachAt t.mask t.place.toList hs[i] j
theorem WFT.fits {t : SetTable} {hs : List Int} (W : WFT t hs) : t.fits hs.length = true := by
  have := W.room
  simp only [SetTable.fits, SetTable.fill, W.len, W.dum, beq_self_eq_true, Bool.true_and, decide_eq_true_eq]
  show hs.length + 0 ≤ t.mask
  omega
theorem WFT.gave {t : SetTable} {hs : List Int} (W : WFT t hs) : t.gaveWay = false := by
  obtain ⟨k, hk, e⟩ := W.pow
  obtain ⟨k, rfl⟩ : ∃ q, k = q + 1 := ⟨k - 1, by omega⟩
  rw [Nat.pow_succ] at e
  unfold gaveWay
  have : t.mask % 2 = 1 := by omega
  rw [this]; rfl
theorem WFT.fresh (a b : Nat) (led : Bool) : WFT (SetTable.fresh a b led) [] :=
  ⟨⟨3, by decide, rfl⟩, (by show 7 ≤ 8191; decide), rfl, List.Pairwise.nil, fun j hj => by simp [SetTable.fresh] at hj, rfl, (by show 0 * 5 < 7 * 3; decide), fun i h => by simp at h⟩
/-- what stops the walk: an empty slot, or one with the same hash -/
def Hit (t : SetTable) (hs : List Int) (h : Int) (n : Nat) : Prop := (pAt t.mask h n).j ∉ t.place.toList ∨ ∃ i, t.place[i]? = some (pAt t.mask h n).j ∧ hs.getD i 0 = h
def hitRes (t : SetTable) (h : Int) (n : Nat) : SetTable.Met := match t.slot (pAt t.mask h n).j with
  | .live i => .candidate (pAt t.mask h n).j i (pAt t.mask h (n + 1))
  | _ => .empty (pAt t.mask h n).j none
theorem probe_go {t : SetTable} {hs : List Int} (W : WFT t hs) {ha : Nat → Int} {h : Int} (hh : ∀ i, i < hs.length → ha i = hs.getD i 0) : ∀ (d fuel n : Nat), d < fuel → Hit t hs h (n + d) → (∀ m, n ≤ m → m < n + d → ¬ Hit t hs h m) →
    SetTable.probe.go t ha h fuel (pAt t.mask h n) = some (hitRes t h (n + d)) := by
  intro d
  induction d with
  | zero =>
    intro fuel n hf hit _
    obtain ⟨f, rfl⟩ : ∃ f, fuel = f + 1 := ⟨fuel - 1, by omega⟩
    unfold SetTable.probe.go hitRes
    rw [Nat.add_zero] at hit ⊢
    rcases hit with z | ⟨i, z, e⟩
    · rw [slot_empty W.dum z, pAt_dummy]
    · rw [slot_live W.rise z]
      have hi : i < hs.length := by rw [← W.len]; exact (Array.getElem?_eq_some_iff.mp z).1
      dsimp only
      rw [hh i hi, e, beq_self_eq_true, if_pos rfl, adv_eq]
      rfl
  | succ d ih =>
    intro fuel n hf hit hno
    obtain ⟨f, rfl⟩ : ∃ f, fuel = f + 1 := ⟨fuel - 1, by omega⟩
    have hn := hno n (Nat.le_refl _) (by omega)
    unfold Hit at hn
    rw [not_or, Classical.not_not] at hn
    obtain ⟨n1, n2⟩ := hn
    obtain ⟨i, hi⟩ := Array.mem_iff_getElem?.mp (Array.mem_toList_iff.mp n1)
    have hi' : i < hs.length := by rw [← W.len]; exact (Array.getElem?_eq_some_iff.mp hi).1
    unfold SetTable.probe.go
    rw [slot_live W.rise hi]
    dsimp only
    rw [hh i hi', if_neg (by intro z; exact n2 ⟨i, hi, by simpa using z⟩), adv_eq]
    have := ih f (n + 1) (by omega) (by rw [show n + 1 + d = n + (d + 1) by omega]; exact hit) fun m h1 h2 => hno m (by omega) (by omega)
    rw [show n + (d + 1) = n + 1 + d by omega]
    exact this
theorem first_hit {P : Nat → Prop} : ∀ d n, P (n + d) → ∃ e, e ≤ d ∧ P (n + e) ∧ ∀ m, n ≤ m → m < n + e → ¬ P m
  | 0, n, h => ⟨0, Nat.le_refl _, h, fun m h1 h2 => by omega⟩
  | d + 1, n, h => by
    by_cases c : P n
    · exact ⟨0, Nat.zero_le _, c, fun m h1 h2 => by omega⟩
    · obtain ⟨e, h1, h2, h3⟩ := first_hit (P := P) d (n + 1) (by rw [show n + 1 + d = n + (d + 1) by omega]; exact h)
      refine ⟨e + 1, by omega, by rw [show n + (e + 1) = n + 1 + e by omega]; exact h2, fun m h4 h5 => ?_⟩
      by_cases q : m = n
      · subst q; exact c
      · exact h3 m (by omega) (by omega)
/-- the walk from n on stops, at the first that stops it -/
theorem probe_ends {t : SetTable} {hs : List Int} (W : WFT t hs) {ha : Nat → Int} {h : Int} (hh : ∀ i, i < hs.length → ha i = hs.getD i 0) (n : Nat) :
    ∃ m, n ≤ m ∧ Hit t hs h m ∧ (∀ q, n ≤ q → q < m → ¬ Hit t hs h q) ∧ t.probe ha h (pAt t.mask h n) = some (hitRes t h m) := by
  obtain ⟨k, _, hk⟩ := W.pow
  obtain ⟨j, hj, hf⟩ := @some_free t.place.toList t.mask (by
    have := W.room; have h1 := W.len
    rw [Array.length_toList]; omega)
  obtain ⟨m, h1, h2, e⟩ := pAt_all hk h n hj
  obtain ⟨d, rfl⟩ : ∃ d, m = n + d := ⟨m - n, by omega⟩
  obtain ⟨e', h3, h4, h5⟩ := first_hit (P := Hit t hs h) d n (.inl (by rw [e]; exact hf))
  exact ⟨n + e', by omega, h4, h5, probe_go W hh e' _ n (by omega) h4 h5⟩
/-- put into an empty slot -/
theorem WFT.put {t : SetTable} {hs : List Int} (W : WFT t hs) {h : Int} {n : Nat} (he : (pAt t.mask h n).j ∉ t.place.toList) (hn : ∀ m, m < n → (pAt t.mask h m).j ∈ t.place.toList) (b : Bool)
    (hr : (hs.length + 1) * 5 < t.mask * 3) : WFT { (t.put (pAt t.mask h n).j).1 with plain := b } (hs.take (t.put (pAt t.mask h n).j).2 ++ h :: hs.drop (t.put (pAt t.mask h n).j).2) := by
  generalize hj : (pAt t.mask h n).j = j at he
  have hp : (t.put j).2 = below t.place j := rfl
  have hpl : (t.put j).1.place = insertAt t.place (below t.place j) j := rfl
  have hle := (below_spec W.rise j).1
  have hL : (insertAt t.place (below t.place j) j).toList = t.place.toList.take (below t.place j) ++ j :: t.place.toList.drop (below t.place j) := SetTable.toList_insertAt ..
  have hmem : ∀ x, x ∈ t.place.toList → x ∈ (insertAt t.place (below t.place j) j).toList := fun x hx => by
    rw [hL]
    rw [← List.take_append_drop (below t.place j) t.place.toList] at hx
    rcases List.mem_append.mp hx with z | z
    · exact List.mem_append_left _ z
    · exact List.mem_append_right _ (List.mem_cons_of_mem _ z)
  have len : (hs.take (below t.place j) ++ h :: hs.drop (below t.place j)).length = hs.length + 1 := by
    rw [List.length_append, List.length_cons, List.length_take, List.length_drop]
    have := W.len
    omega
  refine ⟨W.pow, W.small, ?_, insert_sorted W.rise he, fun x hx => ?_, ?_, ?_, fun i hi x hx => ?_⟩
  · show (if has t.dummies j then eraseAt t.dummies (below t.dummies j) else t.dummies) = #[]
    rw [W.dum]
    simp [has]
  · have hx : x ∈ (insertAt t.place (below t.place j) j).toList := hx
    show x ≤ t.mask
    rw [hL] at hx
    rcases List.mem_append.mp hx with z | z
    · exact W.all x (List.mem_of_mem_take z)
    · rcases List.mem_cons.mp z with rfl | z
      · rw [← hj]; exact pAt_le t.mask h n
      · exact W.all x (List.mem_of_mem_drop z)
  · rw [hp, len]
    show (insertAt t.place (below t.place j) j).size = _
    rw [← Array.length_toList, hL, List.length_append, List.length_cons, List.length_take, List.length_drop, Array.length_toList, W.len]
    have := W.len
    omega
  · rw [hp, len]; exact hr
  · rw [hp] at hi
    have hx : (insertAt t.place (below t.place j) j)[i]? = some x := hx
    rw [← Array.getElem?_toList, hL] at hx
    have hg : ∀ (y : Int), (hs.take (below t.place j) ++ h :: hs.drop (below t.place j))[i]? = some y → ReachAt t.mask (insertAt t.place (below t.place j) j).toList y x := by
      intro y hy
      have up : ∀ {y x}, ReachAt t.mask t.place.toList y x → ReachAt t.mask (insertAt t.place (below t.place j) j).toList y x := fun {y x} ⟨n, a, b⟩ => ⟨n, a, fun m hm => hmem _ (b m hm)⟩
      have hlt : (hs.take (below t.place j)).length = below t.place j := by rw [List.length_take]; have := W.len; omega
      have hlt2 : (t.place.toList.take (below t.place j)).length = below t.place j := by rw [List.length_take, Array.length_toList]; omega
      rcases Nat.lt_trichotomy i (below t.place j) with c | c | c
      · rw [List.getElem?_append_left (by omega), List.getElem?_take_of_lt c] at hx hy
        obtain ⟨hl, e⟩ := List.getElem?_eq_some_iff.mp hy
        have := W.reach i hl x (by rw [← Array.getElem?_toList]; exact hx)
        rw [e] at this
        exact up this
      · subst c
        rw [List.getElem?_append_right (by omega), hlt, Nat.sub_self] at hy
        rw [List.getElem?_append_right (by omega), hlt2, Nat.sub_self] at hx
        simp at hx hy
        subst hx hy
        exact ⟨n, hj, fun m hm => hmem _ (hn m hm)⟩
      · obtain ⟨i, rfl⟩ : ∃ q, i = q + 1 := ⟨i - 1, by omega⟩
        rw [List.getElem?_append_right (by omega), hlt, show i + 1 - below t.place j = (i - below t.place j) + 1 by omega, List.getElem?_cons_succ, List.getElem?_drop, show below t.place j + (i - below t.place j) = i by omega] at hy
        rw [List.getElem?_append_right (by omega), hlt2, show i + 1 - below t.place j = (i - below t.place j) + 1 by omega, List.getElem?_cons_succ, List.getElem?_drop, show below t.place j + (i - below t.place j) = i by omega] at hx
        obtain ⟨hl, e⟩ := List.getElem?_eq_some_iff.mp hy
        have := W.reach i hl x (by rw [← Array.getElem?_toList]; exact hx)
        rw [e] at this
        exact up this
    exact hg _ (List.getElem?_eq_getElem hi)
end TS
set_option Elab.async false
set_option linter.all false
set_option maxRecDepth 100000
set_option maxHeartbeats 4000000
namespace TS
open PySem
open SetTable

/-! ### all are laid anew -/
def takenIn (owner : Array (Option Nat)) (j : Nat) : Prop := ∃ i, owner[j]? = some (some i)
theorem free_spec {mask : Nat} {owner : Array (Option Nat)} (hz : owner.size = mask + 1) (h : Int) : ∀ fuel r, (∃ r', r ≤ r' ∧ r' < r + fuel ∧ owner[(lpI mask h r').1]? = some none) →
    ∃ n j, layClean.free mask owner fuel (lpI mask h r).1 (lpI mask h r).2 = some j ∧ lpT mask h r ≤ n ∧ (pAt mask h n).j = j ∧ owner[j]? = some none ∧ ∀ m, lpT mask h r ≤ m → m < n → takenIn owner (pAt mask h m).j := by
  intro fuel
  induction fuel with
  | zero => rintro r ⟨r', h1, h2, _⟩; omega
  | succ fuel ih =>
    rintro r ⟨r', h1, h2, h3⟩
    have hrm := runEnd_mask (lpI_le mask h r)
    have hrg := runEnd_ge mask (lpI mask h r).1
    have hget : ∀ k, k < runEnd mask (lpI mask h r).1 + 1 - (lpI mask h r).1 → ∃ o, owner[(lpI mask h r).1 + k]? = some o ∧ owner.getD ((lpI mask h r).1 + k) (some 0) = o := fun k hk => by
      have hl : (lpI mask h r).1 + k < owner.size := by omega
      exact ⟨owner[(lpI mask h r).1 + k], Array.getElem?_eq_getElem hl, by simp [Array.getD, hl]⟩
    have hj : ∀ k, k < runEnd mask (lpI mask h r).1 + 1 - (lpI mask h r).1 → (pAt mask h (lpT mask h r + k)).j = (lpI mask h r).1 + k := fun k hk => by
      rw [pAt_leap mask h r k (by omega)]
    unfold layClean.free
    cases hf : (List.range (runEnd mask (lpI mask h r).1 + 1 - (lpI mask h r).1)).find? fun k => (owner.getD ((lpI mask h r).1 + k) (some 0)).isNone with
    | some k =>
      dsimp only
      obtain ⟨hk1, as, bs, hk2, hk3⟩ := List.find?_eq_some_iff_append.mp hf
      have hkm : k < runEnd mask (lpI mask h r).1 + 1 - (lpI mask h r).1 := by
        have := List.mem_of_find?_eq_some hf
        simpa using this
      obtain ⟨o, o1, o2⟩ := hget k hkm
      rw [o2] at hk1
      have : o = none := by cases o with | none => rfl | some _ => simp at hk1
      subst this
      refine ⟨lpT mask h r + k, _, rfl, Nat.le_add_right _ _, hj k hkm, o1, fun m m1 m2 => ?_⟩
      obtain ⟨k', rfl⟩ : ∃ k', m = lpT mask h r + k' := ⟨m - lpT mask h r, by omega⟩
      obtain ⟨o', o3, o4⟩ := hget k' (by omega)
      rw [hj k' (by omega)]
      have hin : k' ∈ as := by
        have e1 : (List.range (runEnd mask (lpI mask h r).1 + 1 - (lpI mask h r).1))[as.length]? = some k := by rw [hk2]; simp
        have e2 : as.length = k := by
          rw [List.getElem?_eq_some_iff] at e1
          obtain ⟨_, e1⟩ := e1
          simpa using e1
        have e3 : (List.range (runEnd mask (lpI mask h r).1 + 1 - (lpI mask h r).1))[k']? = some k' := by
          rw [List.getElem?_range (by omega)]
        rw [hk2, List.getElem?_append_left (by omega)] at e3
        exact List.mem_of_getElem? e3
      have := hk3 k' hin
      rw [o4] at this
      cases o' with
      | none => simp at this
      | some i => exact ⟨i, o3⟩
    | none =>
      dsimp only
      have hall := List.find?_eq_none.mp hf
      have hno : ∀ k, k < runEnd mask (lpI mask h r).1 + 1 - (lpI mask h r).1 → takenIn owner ((lpI mask h r).1 + k) := fun k hk => by
        obtain ⟨o, o1, o2⟩ := hget k hk
        have := hall k (List.mem_range.mpr hk)
        rw [o2] at this
        cases o with
        | none => simp at this
        | some i => exact ⟨i, o1⟩
      have hne : r' ≠ r := by
        rintro rfl
        obtain ⟨i, e⟩ := hno 0 (by omega)
        rw [Nat.add_zero, h3] at e
        cases e
      obtain ⟨n, j, e1, e2, e3, e4, e5⟩ := ih (r + 1) ⟨r', by omega, by omega, h3⟩
      refine ⟨n, j, e1, Nat.le_trans (Nat.le_of_lt (lpT_lt mask h r)) e2, e3, e4, fun m m1 m2 => ?_⟩
      by_cases c : m < lpT mask h (r + 1)
      · have c' : m < lpT mask h r + (runEnd mask (lpI mask h r).1 - (lpI mask h r).1) + 1 := c
        obtain ⟨k', rfl⟩ : ∃ k', m = lpT mask h r + k' := ⟨m - lpT mask h r, by omega⟩
        rw [hj k' (by omega)]
        exact hno k' (by omega)
      · exact e5 m (by omega) m2
/-- what stands in the slots behind the first k -/
structure Laid (mask : Nat) (hs : List Int) (owner : Array (Option Nat)) (k : Nat) : Prop where
  size : owner.size = mask + 1
  only : ∀ (j i : Nat), owner[j]? = some (some i) → i < k
  one : ∀ (i j j' : Nat), owner[j]? = some (some i) → owner[j']? = some (some i) → j = j'
  each : ∀ i (h : i < hs.length), i < k → ∃ (j n : Nat), owner[j]? = some (some i) ∧ (pAt mask hs[i] n).j = j ∧ ∀ m, m < n → takenIn owner (pAt mask hs[i] m).j
theorem laid_free {mask : Nat} {hs : List Int} {owner : Array (Option Nat)} {k : Nat} (L : Laid mask hs owner k) (hk : k ≤ mask) : ∃ j, j ≤ mask ∧ owner[j]? = some none := by
  refine Classical.byContradiction fun c => ?_
  have hall : ∀ j, j ≤ mask → ∃ i, owner[j]? = some (some i) := fun j hj => by
    have hl : j < owner.size := by rw [L.size]; omega
    cases e : owner[j] with
    | none => exact (c ⟨j, hj, by rw [Array.getElem?_eq_getElem hl, e]⟩).elim
    | some i => exact ⟨i, by rw [Array.getElem?_eq_getElem hl, e]⟩
  let f : Nat → Nat := fun j => match owner[j]? with | some (some i) => i | _ => 0
  have hf : ∀ j, j ≤ mask → owner[j]? = some (some (f j)) := fun j hj => by
    obtain ⟨i, e⟩ := hall j hj
    show _ = some (some (match owner[j]? with | some (some i) => i | _ => 0))
    rw [e]
  have := @sub_len ((List.range (mask + 1)).map f) (List.range k) (by
    rw [List.Nodup, List.pairwise_map]
    refine List.Pairwise.imp_of_mem (fun {a b} ha hb hab e => ?_) (List.nodup_range (n := mask + 1))
    have ha := List.mem_range.mp ha
    have hb := List.mem_range.mp hb
    have h1 := hf a (by omega)
    have h2 := hf b (by omega)
    rw [e] at h1
    exact hab (L.one _ _ _ h1 h2)) fun x hx => by
      obtain ⟨j, hj, rfl⟩ := List.mem_map.mp hx
      exact List.mem_range.mpr (L.only j _ (hf j (by have := List.mem_range.mp hj; omega)))
  rw [List.length_map, List.length_range, List.length_range] at this
  omega
def layStep (mask : Nat) (acc : Option (Array (Option Nat) × Nat)) (h : Int) : Option (Array (Option Nat) × Nat) := do
    let (owner, k) ← acc
    let j ← layClean.free mask owner (turns mask) (bits h % (mask + 1)) (bits h)
    pure (owner.setIfInBounds j (some k), k + 1)
theorem lay_step {mask p : Nat} (hp : mask + 1 = 2 ^ p) {hs : List Int} {owner : Array (Option Nat)} {k : Nat} (L : Laid mask hs owner k) (hk : k < hs.length) (hm : hs.length ≤ mask) :
    ∃ owner', layStep mask (some (owner, k)) hs[k] = some (owner', k + 1) ∧ Laid mask hs owner' (k + 1) := by
  obtain ⟨j0, h1, h2⟩ := laid_free L (by omega)
  obtain ⟨r, r1, r2, r3⟩ := lpI_all hp hs[k] 0 h1
  obtain ⟨n, j, e1, e2, e3, e4, e5⟩ := free_spec L.size hs[k] (turns mask) 0 ⟨r, by omega, by unfold turns; omega, by rw [r3]; exact h2⟩
  refine ⟨owner.setIfInBounds j (some k), ?_, ?_⟩
  · have e1' : layClean.free mask owner (turns mask) (bits hs[k] % (mask + 1)) (bits hs[k]) = some j := e1
    show (layClean.free mask owner (turns mask) (bits hs[k] % (mask + 1)) (bits hs[k]) >>= fun j => pure (owner.setIfInBounds j (some k), k + 1)) = _
    rw [e1']; rfl
  have hj : j < owner.size := (Array.getElem?_eq_some_iff.mp e4).1
  have hself : (owner.setIfInBounds j (some k))[j]? = some (some k) := by simp [hj]
  have hoth : ∀ x, x ≠ j → (owner.setIfInBounds j (some k))[x]? = owner[x]? := fun x hx => by simp [Array.getElem?_setIfInBounds, Ne.symm hx]
  have up : ∀ x, takenIn owner x → takenIn (owner.setIfInBounds j (some k)) x := fun x ⟨i, hi⟩ => by
    by_cases c : x = j
    · subst c; exact ⟨k, hself⟩
    · exact ⟨i, by rw [hoth x c]; exact hi⟩
  refine ⟨by simp [L.size], fun x i hx => ?_, fun i x y hx hy => ?_, fun i hi hik => ?_⟩
  · by_cases c : x = j
    · subst c; rw [hself] at hx; cases hx; omega
    · rw [hoth x c] at hx; have := L.only x i hx; omega
  · by_cases c : x = j
    · by_cases d : y = j
      · rw [c, d]
      · subst c; rw [hself] at hx; cases hx
        rw [hoth y d] at hy; have := L.only y _ hy; omega
    · rw [hoth x c] at hx
      by_cases d : y = j
      · subst d; rw [hself] at hy; cases hy; have := L.only x _ hx; omega
      · rw [hoth y d] at hy; exact L.one i x y hx hy
  · by_cases c : i = k
    · subst c
      exact ⟨j, n, hself, e3, fun m hm => up _ (e5 m (Nat.zero_le _) hm)⟩
    · obtain ⟨x, n', q1, q2, q3⟩ := L.each i hi (by omega)
      refine ⟨x, n', ?_, q2, fun m hm => up _ (q3 m hm)⟩
      rw [hoth x (fun z => by subst z; rw [e4] at q1; cases q1)]
      exact q1
theorem lay_all {mask p : Nat} (hp : mask + 1 = 2 ^ p) (hs : List Int) (hm : hs.length ≤ mask) : ∀ (rest : List Int) (k : Nat) (owner : Array (Option Nat)), hs.drop k = rest → k ≤ hs.length → Laid mask hs owner k →
    ∃ owner', rest.foldl (layStep mask) (some (owner, k)) = some (owner', hs.length) ∧ Laid mask hs owner' hs.length
  | [], k, owner, e, hk, L => by
    have : k = hs.length := by have := congrArg List.length e; rw [List.length_drop] at this; simp at this; omega
    subst this
    exact ⟨owner, rfl, L⟩
  | x :: rest, k, owner, e, hk, L => by
    have hlt : k < hs.length := by have := congrArg List.length e; rw [List.length_drop] at this; simp at this; omega
    have hx : hs[k] = x ∧ hs.drop (k + 1) = rest := by
      rw [List.drop_eq_getElem_cons hlt] at e
      injection e with a b
      exact ⟨a, b⟩
    obtain ⟨o', e1, L'⟩ := lay_step hp L hlt hm
    rw [hx.1] at e1
    obtain ⟨o2, e2, L2⟩ := lay_all hp hs hm rest (k + 1) o' hx.2 hlt L'
    exact ⟨o2, by rw [List.foldl_cons, e1]; exact e2, L2⟩
theorem layClean_ok {mask p : Nat} (hp : mask + 1 = 2 ^ p) {hs : Array Int} (hm : hs.size ≤ mask) : ∃ owner, layClean mask hs = some owner ∧ Laid mask hs.toList owner hs.size := by
  obtain ⟨o, e, L⟩ := lay_all hp hs.toList (by simpa using hm) hs.toList 0 (Array.replicate (mask + 1) none) rfl (Nat.zero_le _)
    ⟨by simp, fun j i h => by simp [Array.getElem?_replicate] at h, fun i j j' h => by simp [Array.getElem?_replicate] at h, fun i _ h => by omega⟩
  refine ⟨o, ?_, by simpa using L⟩
  unfold layClean
  rw [← Array.foldl_toList]
  have e' : hs.toList.foldl (fun acc h => do
    let (owner, k) ← acc
    let j ← layClean.free mask owner (turns mask) (bits h % (mask + 1)) (bits h)
    pure (owner.setIfInBounds j (some k), k + 1)) (some (Array.replicate (mask + 1) none, 0)) = some (o, hs.toList.length) := e
  rw [e']
  rfl
/-- the slots that are taken, rising, and whose they are -/
def liveOf (mask : Nat) (owner : Array (Option Nat)) : List (Nat × Nat) := (List.range (mask + 1)).filterMap fun j => (owner.getD j none).map (j, ·)
theorem live_mem {mask : Nat} {owner : Array (Option Nat)} (hz : owner.size = mask + 1) {j i : Nat} : (j, i) ∈ liveOf mask owner ↔ owner[j]? = some (some i) := by
  unfold liveOf
  rw [List.mem_filterMap]
  constructor
  · rintro ⟨x, hx, e⟩
    have hx := List.mem_range.mp hx
    have hl : x < owner.size := by omega
    have : owner.getD x none = owner[x] := by simp [Array.getD, hl]
    rw [this] at e
    cases q : owner[x] with
    | none => rw [q] at e; simp at e
    | some y =>
      rw [q] at e
      simp at e
      obtain ⟨rfl, rfl⟩ := e
      rw [Array.getElem?_eq_getElem hl, q]
  · intro h
    obtain ⟨hl, e⟩ := Array.getElem?_eq_some_iff.mp h
    refine ⟨j, List.mem_range.mpr (by omega), ?_⟩
    simp [Array.getD, hl, e]
theorem live_rise (owner : Array (Option Nat)) (mask : Nat) : (liveOf mask owner).Pairwise fun a b => a.1 < b.1 := by
  unfold liveOf
  rw [List.pairwise_filterMap]
  refine List.Pairwise.imp (fun {a b} hab x hx y hy => ?_) (List.pairwise_lt_range (n := mask + 1))
  rw [Option.map_eq_some_iff] at hx hy
  obtain ⟨_, _, rfl⟩ := hx
  obtain ⟨_, _, rfl⟩ := hy
  exact hab
theorem perm_range {l : List Nat} {n : Nat} (hn : l.Nodup) (h : ∀ i, i ∈ l ↔ i < n) : l.Perm (List.range n) := by
  refine (List.perm_ext_iff_of_nodup hn List.nodup_range).mpr fun i => ?_
  rw [h i, List.mem_range]
theorem laid_ok {mask p : Nat} (hp : mask + 1 = 2 ^ p) (h3 : 3 ≤ p) {hs : Array Int} (hm : hs.size * 5 < mask * 3) (hsm : mask ≤ 8191) (fg mv : Nat) (led plain : Bool) :
    ∃ t order, SetTable.laid mask fg mv led plain hs = some (t, order) ∧ t.led = led ∧ t.mask = mask ∧ order.toList.Perm (List.range hs.size) ∧ WFT t (order.toList.map fun i => hs.getD i 0) := by
  obtain ⟨owner, e, L⟩ := layClean_ok hp (hs := hs) (by omega)
  refine ⟨_, _, by unfold SetTable.laid; rw [e]; rfl, rfl, rfl, ?_, ?_⟩
  · show ((liveOf mask owner).map (·.2)).toArray.toList.Perm _
    rw [List.toList_toArray]
    refine perm_range ?_ fun i => ?_
    · rw [List.Nodup, List.pairwise_map]
      refine List.Pairwise.imp_of_mem (fun {a b} ha hb hab z => ?_) (live_rise owner mask)
      have ha := (live_mem L.size (j := a.1) (i := a.2)).mp ha
      have hb := (live_mem L.size (j := b.1) (i := b.2)).mp hb
      rw [z] at ha
      have := L.one _ _ _ ha hb
      omega
    · rw [List.mem_map]
      constructor
      · rintro ⟨⟨j, i'⟩, hj, rfl⟩
        exact L.only j i' ((live_mem L.size).mp hj)
      · intro hi
        obtain ⟨j, n, e1, _⟩ := L.each i (by simpa using hi) hi
        exact ⟨(j, i), (live_mem L.size).mpr e1, rfl⟩
  · have hperm : ((liveOf mask owner).map (·.2)).Perm (List.range hs.size) := by
      refine perm_range ?_ fun i => ?_
      · rw [List.Nodup, List.pairwise_map]
        refine List.Pairwise.imp_of_mem (fun {a b} ha hb hab z => ?_) (live_rise owner mask)
        have ha := (live_mem L.size (j := a.1) (i := a.2)).mp ha
        have hb := (live_mem L.size (j := b.1) (i := b.2)).mp hb
        rw [z] at ha
        have := L.one _ _ _ ha hb
        omega
      · rw [List.mem_map]
        constructor
        · rintro ⟨⟨j, i'⟩, hj, rfl⟩
          exact L.only j i' ((live_mem L.size).mp hj)
        · intro hi
          obtain ⟨j, n, e1, _⟩ := L.each i (by simpa using hi) hi
          exact ⟨(j, i), (live_mem L.size).mpr e1, rfl⟩
    have hlen : (liveOf mask owner).length = hs.size := by
      have := hperm.length_eq
      rw [List.length_map, List.length_range] at this
      exact this
    refine ⟨⟨p, h3, hp⟩, hsm, rfl, ?_, fun j hj => ?_, ?_, ?_, fun i hi j hj => ?_⟩
    · show ((liveOf mask owner).map (·.1)).toArray.toList.Pairwise (· < ·)
      rw [List.toList_toArray, List.pairwise_map]
      exact live_rise owner mask
    · have hj : j ∈ ((liveOf mask owner).map (·.1)).toArray.toList := hj
      rw [List.toList_toArray] at hj
      obtain ⟨⟨a, b⟩, hab, rfl⟩ := List.mem_map.mp hj
      have := (Array.getElem?_eq_some_iff.mp ((live_mem L.size).mp hab)).1
      show a ≤ mask
      have := L.size
      omega
    · show ((liveOf mask owner).map (·.1)).toArray.size = (((liveOf mask owner).map (·.2)).toArray.toList.map _).length
      simp
    · show (((liveOf mask owner).map (·.2)).toArray.toList.map _).length * 5 < mask * 3
      rw [List.toList_toArray, List.length_map, List.length_map, hlen]
      exact hm
    · have hj : ((liveOf mask owner).map (·.1)).toArray[i]? = some j := hj
      rw [List.getElem?_toArray, List.getElem?_map] at hj
      have hi' : i < (liveOf mask owner).length := by simpa [liveOf] using hi
      rw [List.getElem?_eq_getElem hi'] at hj
      simp only [Option.map_some, Option.some.injEq] at hj
      have hmem : (liveOf mask owner)[i] ∈ liveOf mask owner := List.getElem_mem hi'
      have ho := (live_mem L.size (j := (liveOf mask owner)[i].1) (i := (liveOf mask owner)[i].2)).mp hmem
      have hlt := L.only _ _ ho
      obtain ⟨j', n, e1, e2, e3⟩ := L.each (liveOf mask owner)[i].2 (by simpa using hlt) hlt
      have hjj := L.one _ _ _ ho e1
      have hh : (((liveOf mask owner).map (·.2)).toArray.toList.map fun i => hs.getD i 0)[i]'(by simpa using hi') = hs.toList[(liveOf mask owner)[i].2]'(by simpa using hlt) := by
        simp [Array.getD, hlt]
      show ReachAt mask _ _ j
      refine ⟨n, ?_, fun m hm' => ?_⟩
      · have : (pAt mask ((((liveOf mask owner).map (·.2)).toArray.toList.map fun i => hs.getD i 0)[i]'(by simpa using hi')) n).j = j := by rw [hh, e2, ← hj, hjj]
        exact this
      · have h5 := e3 m hm'
        have : (pAt mask ((((liveOf mask owner).map (·.2)).toArray.toList.map fun i => hs.getD i 0)[i]'(by simpa using hi')) m).j ∈ ((liveOf mask owner).map (·.1)).toArray.toList := by
          rw [hh, List.toList_toArray]
          obtain ⟨i2, h6⟩ := h5
          exact List.mem_map.mpr ⟨(_, i2), (live_mem L.size).mpr h6, rfl⟩
        exact this
theorem sizeAbove_go : ∀ fuel size n, (∃ k, 3 ≤ k ∧ size = 2 ^ k) → n < size * 2 ^ fuel → ∃ k, 3 ≤ k ∧ sizeAbove.go n fuel size = 2 ^ k ∧ n < sizeAbove.go n fuel size
  | 0, size, n, ⟨k, hk, e⟩, h => ⟨k, hk, e, by simpa [sizeAbove.go] using h⟩
  | fuel + 1, size, n, ⟨k, hk, e⟩, h => by
    unfold sizeAbove.go
    by_cases c : size ≤ n
    · rw [if_pos c]
      exact sizeAbove_go fuel (size * 2) n ⟨k + 1, by omega, by rw [Nat.pow_succ, e]⟩ (by rw [Nat.mul_assoc, ← Nat.pow_succ']; exact h)
    · rw [if_neg c]
      exact ⟨k, hk, e, by omega⟩
theorem sizeAbove_ok {n : Nat} (h : n < 2 ^ 60) : ∃ k, 3 ≤ k ∧ sizeAbove n = 2 ^ k ∧ n < sizeAbove n :=
  sizeAbove_go 64 8 n ⟨3, by decide, rfl⟩ (Nat.lt_trans h (by decide))
theorem sizeAbove_le : ∀ fuel size n k, (∃ q, q ≤ k ∧ size = 2 ^ q) → n < 2 ^ k → sizeAbove.go n fuel size ≤ 2 ^ k
  | 0, size, n, k, ⟨q, h1, h2⟩, h => by unfold sizeAbove.go; rw [h2]; exact Nat.pow_le_pow_right (by decide) h1
  | fuel + 1, size, n, k, ⟨q, h1, h2⟩, h => by
    unfold sizeAbove.go
    by_cases c : size ≤ n
    · rw [if_pos c]
      refine sizeAbove_le fuel (size * 2) n k ⟨q + 1, ?_, by rw [h2, Nat.pow_succ]⟩ h
      refine Classical.byContradiction fun z => ?_
      have : q = k := by omega
      subst this
      omega
    · rw [if_neg c, h2]; exact Nat.pow_le_pow_right (by decide) h1
end TS
set_option Elab.async false
set_option linter.all false
set_option maxRecDepth 100000
set_option maxHeartbeats 4000000
namespace TL
open PySem TS

section
variable {prog : Program} {w : World} {K : Type} [DecidableEq K] {knd : KeyKind prog w K} {A : Around} {E : Value → Shared → Prop} {s : Shared}
theorem ofClass_byValue (n : Nat) {v : Value} (h : carriedByValue v = true) : ofAClassStatement n v = pure false := by
  cases v with
  | ref a => simp [carriedByValue] at h
  | _ => unfold ofAClassStatement; rfl
theorem wp_ofClass {ks : List K} {a : Addr} {Q : Bool → Shared → Prop} (hk : IsTupleKey knd s.heap ks a) (h : Q false s) : wpAny (model prog w) A (ofAClassStatement 8 (.ref a)) Q E s := by
  have hT := hk.typeIs
  obtain ⟨o, items, n, ho, _, hd, hi⟩ := hk
  unfold ofAClassStatement
  refine wpAny_bind (wpAny_typeOf hT ?_)
  dsimp only
  rw [if_pos (beq_self_eq_true _)]
  refine wpAny_bind (wpAny_pure ?_)
  simp only [Bool.not_true, Bool.false_eq_true, if_false]
  refine wpAny_bind (wpAny_seqItems ho hd ?_)
  dsimp only
  refine wpAny_bind ?_
  rw [← Array.forIn_toList]
  refine wpAny_forIn_list _ (fun rest r s' => r.1 = none ∧ s' = s ∧ ∀ v ∈ rest, carriedByValue v = true) _ ?_ ?_ _ _ ⟨rfl, rfl, hi.byValue⟩
  · rintro v rest r s' ⟨hr, rfl, hall⟩
    rw [ofClass_byValue _ (hall v List.mem_cons_self)]
    refine wpAny_bind (wpAny_pure ?_)
    simp only [Bool.false_eq_true, if_false]
    exact wpAny_pure ⟨rfl, rfl, fun u hu' => hall u (List.mem_cons_of_mem _ hu')⟩
  · rintro ⟨r1, r2⟩ s' ⟨hr, rfl, _⟩
    simp only at hr
    subst hr
    exact wpAny_pure h
theorem hashBy_scal (n : Nat) {v : Value} (h : v.scannable = true) : ∃ b, hashByValue n v = pure b := ⟨_, hashByValue_scannable n h⟩
theorem wp_hashBy {ks : List K} {a : Addr} {Q : Bool → Shared → Prop} (hk : IsTupleKey knd s.heap ks a) (hsc : ∀ k v, knd.is k v = true → v.scannable = true) (h : ∀ b, Q b s) : wpAny (model prog w) A (hashByValue 8 (.ref a)) Q E s := by
  have hT := hk.typeIs
  obtain ⟨o, items, n, ho, _, hd, hi⟩ := hk
  have hall : ∀ {x : List K} {vs : List Value}, ItemsAre knd x vs → ∀ v ∈ vs, v.scannable = true := by
    intro x vs hx
    induction hx with
    | nil => intro v hv; simp at hv
    | @cons k v' ks vs h1 _ ih =>
      intro v hv
      rcases List.mem_cons.mp hv with rfl | hv
      · exact hsc _ _ h1
      · exact ih v hv
  unfold hashByValue
  refine wpAny_bind (wpAny_specialOf hT F.slot_tuple_hash.lookup ?_)
  show wpAny _ _ (seqItems? (.ref a) >>= _) _ _ s
  refine wpAny_bind (wpAny_seqItems ho hd ?_)
  refine wpAny_bind ?_
  show wpAny _ _ (forIn items _ _) _ _ s
  rw [← Array.forIn_toList]
  refine wpAny_forIn_list _ (fun rest r s' => r.1 = none ∧ s' = s ∧ ∀ v ∈ rest, v.scannable = true) _ ?_ ?_ _ _ ⟨rfl, rfl, hall hi⟩
  · rintro v rest r s' ⟨hr, rfl, hall⟩
    obtain ⟨b, e⟩ := hashBy_scal 7 (hall v List.mem_cons_self)
    rw [e]
    refine wpAny_bind (wpAny_pure ?_)
    cases b with
    | true =>
      simp only [Bool.not_true, Bool.false_eq_true, if_false]
      exact wpAny_pure ⟨rfl, rfl, fun u hu' => hall u (List.mem_cons_of_mem _ hu')⟩
    | false =>
      simp only [Bool.not_false, if_true]
      exact wpAny_pure (wpAny_pure (h _))
  · rintro ⟨r1, r2⟩ s' ⟨hr, rfl, _⟩
    simp only at hr
    subst hr
    exact wpAny_pure (h _)
theorem wp_seen {ks : List K} {a : Addr} {Q : Bool → Shared → Prop} (hk : IsTupleKey knd s.heap ks a) {ys : List Value} (hy : ∀ y ∈ ys, ∃ b js, y = .ref b ∧ IsTupleKey knd s.heap js b) (h : Q false s) :
    wpAny (model prog w) A (searchCouldBeSeen (.ref a) ys) Q E s := by
  unfold searchCouldBeSeen
  refine wpAny_bind ?_
  refine wpAny_forIn_list _ (fun rest r s' => r.1 = none ∧ s' = s ∧ ∀ v ∈ rest, v ∈ ys) _ ?_ ?_ _ _ ⟨rfl, rfl, fun _ h => h⟩
  · rintro v rest r s' ⟨hr, rfl, hall⟩
    obtain ⟨b, js, rfl, hb⟩ := hy v (hall v List.mem_cons_self)
    dsimp only
    by_cases c : (a == b || carriedByValue (Value.ref a) && carriedByValue (Value.ref b)) = true
    · rw [if_pos c]
      exact wpAny_pure ⟨rfl, rfl, fun u hu' => hall u (List.mem_cons_of_mem _ hu')⟩
    · rw [if_neg c]
      refine wpAny_bind (wpAny_eqIsQuiet_tuple hk ?_)
      simp only [Bool.not_true, Bool.false_eq_true, if_false]
      refine wpAny_bind (wpAny_eqIsQuiet_tuple hb ?_)
      simp only [Bool.not_true, Bool.false_eq_true, if_false]
      refine wpAny_bind (wp_ofClass hk ?_)
      simp only [Bool.false_eq_true, if_false]
      refine wpAny_bind (wp_ofClass hb ?_)
      simp only [Bool.false_eq_true, if_false]
      exact wpAny_pure ⟨rfl, rfl, fun u hu' => hall u (List.mem_cons_of_mem _ hu')⟩
  · rintro ⟨r1, r2⟩ s' ⟨hr, rfl, _⟩
    simp only at hr
    subst hr
    exact wpAny_pure h

theorem wp_led {α : Type} {c : Bool} {m : Sem Bool} {T U : Sem α} {Q : α → Shared → Prop} (h : wpAny (model prog w) A m (fun b s' => b = false ∧ s' = s) E s) (hT : wpAny (model prog w) A T Q E s) :
    wpAny (model prog w) A (if c = true then m >>= fun b => if b = true then U else T else T) Q E s := by
  cases c with
  | false => rw [if_neg Bool.false_ne_true]; exact hT
  | true =>
    rw [if_pos rfl]
    refine wpAny_bind (wpAny_mono h (fun b s' hb => ?_) fun _ _ h' => h')
    obtain ⟨rfl, rfl⟩ := hb
    rw [if_neg Bool.false_ne_true]
    exact hT

/-! ### a set of tuples -/
def entS (knd : KeyKind prog w K) (x : List K × Addr) : Int × Value := (tupleKeyHash knd x.1, .ref x.2)
def SetH (knd : KeyKind prog w K) (h : Heap) (a : Addr) (xs : List (List K × Addr)) : Prop :=
  ∃ o es ep t, h.get? a = some o ∧ o.ExactSet ∧ o.data = .set es ep t ∧ es.toList = xs.map (entS knd) ∧ (xs.map (·.1)).Nodup ∧ WFT t (xs.map fun x => tupleKeyHash knd x.1)
theorem getS {es : Array (Int × Value)} {xs : List (List K × Addr)} (he : es.toList = xs.map (entS knd)) (i : Nat) : es[i]? = (xs[i]?).map (entS knd) := by
  rw [← Array.getElem?_toList, he, List.getElem?_map]
theorem wp_searchFrom {a b : Addr} {o : Obj} {es : Array (Int × Value)} {ep : Nat} {t : SetTable} {xs : List (List K × Addr)} {k : List K} {adding : Bool} {Q : SetFound → Shared → Prop} (hu : A.units < cLine)
    (ho : s.heap.get? a = some o) (hd : o.data = .set es ep t) (he : es.toList = xs.map (entS knd)) (hnd : (xs.map (·.1)).Nodup) (W : WFT t (xs.map fun x => tupleKeyHash knd x.1))
    (hx : ∀ x ∈ xs, IsTupleKey knd s.heap x.1 x.2) (hk : IsTupleKey knd s.heap k b) (m0 : Nat) (hm0 : (pAt t.mask (tupleKeyHash knd k) m0).j ∉ t.place.toList) (hm1 : ∀ m, m < m0 → (pAt t.mask (tupleKeyHash knd k) m).j ∈ t.place.toList)
    (hthere : ∀ (i : Nat) y, xs[i]? = some (k, y) → Q (.there (if adding then none else some i)) s) (hfree : k ∉ xs.map (·.1) → Q (.free (pAt t.mask (tupleKeyHash knd k) m0).j false) s) :
    ∀ (fuel n : Nat) (st : Option SetTable.Probe), m0 < fuel + n → n ≤ m0 → st.getD (t.probeStart (tupleKeyHash knd k)) = pAt t.mask (tupleKeyHash knd k) n → (∀ m, m < n → ∀ (i : Nat) y, t.place[i]? = some (pAt t.mask (tupleKeyHash knd k) m).j → xs[i]? ≠ some (k, y)) →
      wpAny (model prog w) A (setSearchFrom a (.ref b) (tupleKeyHash knd k) adding fuel st) Q E s := by
  intro fuel
  induction fuel with
  | zero => intro n st h1 h2; omega
  | succ fuel ih =>
    intro n st h1 h2 hst hbef
    have hsz : es.size = xs.length := by rw [← Array.length_toList, he, List.length_map]
    have hfit : t.fits es.size = true := by have := W.fits; rw [List.length_map] at this; rw [hsz]; exact this
    unfold setSearchFrom
    refine wpAny_bind (wpAny_setState_of ho hd hfit ?_)
    dsimp only
    rw [W.gave]
    simp only [Bool.false_eq_true, if_false]
    rw [hst]
    obtain ⟨m, g1, g2, g3, g4⟩ := probe_ends W (ha := fun i => (es[i]?.map (·.1)).getD 0) (h := tupleKeyHash knd k) (fun i hi => by
      rw [List.length_map] at hi
      show ((es[i]?).map (·.1)).getD 0 = _
      rw [getS he, List.getElem?_eq_getElem hi, List.getD_eq_getElem?_getD, List.getElem?_map, List.getElem?_eq_getElem hi]; rfl) n
    generalize hP : t.probe _ (tupleKeyHash knd k) (pAt t.mask (tupleKeyHash knd k) n) = P
    have hP' : P = some (hitRes t (tupleKeyHash knd k) m) := by rw [← hP]; exact g4
    subst hP'
    dsimp only
    have hmm : m ≤ m0 := Classical.byContradiction fun c => g3 m0 h2 (by omega) (.inl hm0)
    unfold hitRes
    have hno : ∀ q, q < m → ∀ (i : Nat) y, t.place[i]? = some (pAt t.mask (tupleKeyHash knd k) q).j → xs[i]? ≠ some (k, y) := fun q hq i y hp hxi => by
      by_cases c : q < n
      · exact hbef q c i y hp hxi
      · refine g3 q (by omega) hq (.inr ⟨i, hp, ?_⟩)
        rw [List.getD_eq_getElem?_getD, List.getElem?_map, hxi]; rfl
    by_cases hin : (pAt t.mask (tupleKeyHash knd k) m).j ∈ t.place.toList
    · obtain ⟨i, hi⟩ := Array.mem_iff_getElem?.mp (Array.mem_toList_iff.mp hin)
      rw [slot_live W.rise hi]
      dsimp only
      have hil : i < xs.length := by have := (Array.getElem?_eq_some_iff.mp hi).1; rw [W.len, List.length_map] at this; exact this
      have hxi : xs[i]? = some (xs[i].1, xs[i].2) := List.getElem?_eq_getElem hil
      have hei : es[i]? = some (tupleKeyHash knd xs[i].1, .ref xs[i].2) := by rw [getS he, hxi]; rfl
      have hki := hx xs[i] (List.getElem_mem hil)
      refine wp_led (wp_seen hk (fun y hy => ?_) ⟨rfl, rfl⟩) ?_
      · obtain ⟨z, hz, rfl⟩ := List.mem_map.mp hy
        rw [Array.toList_filter] at hz
        have hz := (List.mem_filter.mp hz).1
        rw [he] at hz
        obtain ⟨q, hq, rfl⟩ := List.mem_map.mp hz
        exact ⟨q.2, q.1, rfl, hx q hq⟩
      rw [hei]
      dsimp only
      refine wpAny_bind (wpAny_holding (wpAny_eqBool_tuple hu hki hk ?_))
      refine wpAny_bind (wpAny_setState_of ho hd hfit ?_)
      dsimp only
      by_cases hkk : xs[i].1 = k
      · have hxi' : xs[i]? = some (k, xs[i].2) := by rw [← hkk]; exact hxi
        rw [decide_eq_true hkk]
        have q := hthere i _ hxi'
        cases adding with
        | true =>
          simp only [Bool.and_self, if_true]
          exact wpAny_pure q
        | false =>
          simp only [Bool.false_and, Bool.false_eq_true, if_false]
          have hsm : t.sameMemory t.moves t.mask = some true := by unfold SetTable.sameMemory; simp
          rw [hsm]
          simp only [if_true]
          rw [slot_live W.rise hi]
          dsimp only
          rw [hei]
          dsimp only
          refine wpAny_bind (wpAny_isSame_ref_self ?_)
          refine wpAny_bind (wpAny_pure ?_)
          simp only [if_true]
          exact wpAny_pure q
      · rw [decide_eq_false hkk]
        simp only [Bool.and_false, Bool.false_eq_true, if_false]
        have hsm : t.sameMemory t.moves t.mask = some true := by unfold SetTable.sameMemory; simp
        rw [hsm]
        simp only [if_true]
        rw [slot_live W.rise hi]
        dsimp only
        rw [hei]
        dsimp only
        refine wpAny_bind (wpAny_isSame_ref_self ?_)
        refine wpAny_bind (wpAny_pure ?_)
        simp only [if_true]
        have hne : m ≠ m0 := fun z => hm0 (by rw [← z]; exact hin)
        refine ih (m + 1) (some _) (by omega) (by omega) rfl fun q hq i' y hp hxi' => ?_
        by_cases c : q < m
        · exact hno q c i' y hp hxi'
        · have : q = m := by omega
          subst this
          have e1 := below_at W.rise hp
          have e2 := below_at W.rise hi
          have : i' = i := by omega
          subst this
          rw [hxi] at hxi'
          cases hxi'
          exact hkk rfl
    · rw [slot_empty W.dum hin]
      dsimp only
      have hme : m = m0 := Classical.byContradiction fun c => hin (hm1 m (by omega))
      subst hme
      refine wpAny_pure (hfree fun hmem => ?_)
      obtain ⟨x, hx1, hx2⟩ := List.mem_map.mp hmem
      obtain ⟨i, hi1⟩ := List.mem_iff_getElem?.mp hx1
      have hil : i < xs.length := (List.getElem?_eq_some_iff.mp hi1).1
      have hip : i < t.place.size := by rw [W.len, List.length_map]; exact hil
      have hxk : xs[i].1 = k := by rw [← hx2]; congr 1; exact (List.getElem?_eq_some_iff.mp hi1).2
      obtain ⟨nn, r1, r2⟩ := W.reach i (by rw [List.length_map]; exact hil) _ (Array.getElem?_eq_getElem hip)
      have hh : (xs.map fun x => tupleKeyHash knd x.1)[i]'(by rw [List.length_map]; exact hil) = tupleKeyHash knd k := by rw [List.getElem_map, hxk]
      rw [hh] at r1 r2
      rcases Nat.lt_trichotomy nn m with c | c | c
      · exact hno nn c i x.2 (by rw [r1]; exact Array.getElem?_eq_getElem hip) (by rw [hi1, ← hx2])
      · subst c
        exact hin (by rw [r1]; simp)
      · exact hin (r2 m c)
end
end TL
set_option Elab.async false
set_option linter.all false
set_option maxRecDepth 100000
set_option maxHeartbeats 4000000
namespace TL
open PySem TS
section
variable {prog : Program} {w : World} {K : Type} [DecidableEq K] {knd : KeyKind prog w K} {A : Around} {E : Value → Shared → Prop} {s : Shared}
theorem wft_empty {t : SetTable} {hs : List Int} (W : WFT t hs) (h : Int) : ∃ m0, m0 < 100000 ∧ (pAt t.mask h m0).j ∉ t.place.toList ∧ ∀ m, m < m0 → (pAt t.mask h m).j ∈ t.place.toList := by
  obtain ⟨k, _, hk⟩ := W.pow
  obtain ⟨j, hj, hf⟩ := @some_free t.place.toList t.mask (by
    have := W.room; have h1 := W.len
    rw [Array.length_toList]; omega)
  obtain ⟨m, h1, h2, e⟩ := pAt_all hk h 0 hj
  obtain ⟨e', h3, h4, h5⟩ := first_hit (P := fun n => (pAt t.mask h n).j ∉ t.place.toList) m 0 (by rw [Nat.zero_add, e]; exact hf)
  rw [Nat.zero_add] at h4
  refine ⟨e', ?_, h4, fun q hq => Classical.byContradiction fun c => h5 q (Nat.zero_le _) (by omega) c⟩
  have := W.small
  unfold SetTable.turns at h2
  omega
theorem wp_search {a b : Addr} {o : Obj} {es : Array (Int × Value)} {ep : Nat} {t : SetTable} {xs : List (List K × Addr)} {k : List K} {adding : Bool} {Q : SetFound → Shared → Prop} (hu : A.units < cLine)
    (ho : s.heap.get? a = some o) (hd : o.data = .set es ep t) (he : es.toList = xs.map (entS knd)) (hnd : (xs.map (·.1)).Nodup) (W : WFT t (xs.map fun x => tupleKeyHash knd x.1))
    (hx : ∀ x ∈ xs, IsTupleKey knd s.heap x.1 x.2) (hk : IsTupleKey knd s.heap k b)
    (hthere : ∀ (i : Nat) y, xs[i]? = some (k, y) → Q (.there (if adding then none else some i)) s)
    (hfree : k ∉ xs.map (·.1) → ∀ m0, (pAt t.mask (tupleKeyHash knd k) m0).j ∉ t.place.toList → (∀ m, m < m0 → (pAt t.mask (tupleKeyHash knd k) m).j ∈ t.place.toList) → Q (.free (pAt t.mask (tupleKeyHash knd k) m0).j false) s) :
    wpAny (model prog w) A (setSearch a (.ref b) (tupleKeyHash knd k) adding) Q E s := by
  obtain ⟨m0, g1, g2, g3⟩ := wft_empty W (tupleKeyHash knd k)
  exact wp_searchFrom hu ho hd he hnd W hx hk m0 g2 g3 hthere (fun h => hfree h m0 g2 g3) 100000 0 none (by omega) (Nat.zero_le _) rfl fun m hm => by omega
theorem byScan_ref (b : Addr) (es : Array (Int × Value)) : byScan (.ref b) es = false := by simp [byScan, Value.scannable]
theorem wp_findH {a b : Addr} {xs : List (List K × Addr)} {k : List K} {Q : Option Nat → Shared → Prop} (hu : A.units < cLine) (hS : SetH knd s.heap a xs) (hx : ∀ x ∈ xs, IsTupleKey knd s.heap x.1 x.2) (hk : IsTupleKey knd s.heap k b)
    (h : ∀ r : Option Nat, r.isSome = decide (k ∈ xs.map (·.1)) → Q r s) : wpAny (model prog w) A (setFind a (.ref b) (tupleKeyHash knd k)) Q E s := by
  obtain ⟨o, es, ep, t, ho, hex, hd, he, hnd, W⟩ := hS
  have hsz : es.size = xs.length := by rw [← Array.length_toList, he, List.length_map]
  have hfit : t.fits es.size = true := by have := W.fits; rw [List.length_map] at this; rw [hsz]; exact this
  unfold setFind setFindIn
  refine wpAny_bind (wpAny_setState_of ho hd hfit ?_)
  dsimp only
  rw [byScan_ref]
  simp only [Bool.false_eq_true, if_false]
  refine wpAny_bind (wp_search hu ho hd he hnd W hx hk (fun i y hi => ?_) fun hn m0 _ _ => ?_)
  · refine wpAny_pure (h _ ?_)
    have : k ∈ xs.map (·.1) := List.mem_map.mpr ⟨_, List.mem_of_getElem? hi, rfl⟩
    simp [this]
  · refine wpAny_pure (h _ ?_)
    rw [decide_eq_false hn]; rfl
theorem SetH.typeIs {a : Addr} {xs : List (List K × Addr)} (hS : SetH knd s.heap a xs) : s.TypeIs (.ref a) "set" := let ⟨o, _, _, _, ho, hc, _⟩ := hS; ⟨o, ho, hc.1⟩
theorem SetH.noDict {a : Addr} {xs : List (List K × Addr)} (hS : SetH knd s.heap a xs) : ∀ b, Value.ref a = .ref b → ∃ ob, s.heap.get? b = some ob ∧ ob.dict = none :=
  fun b e => by injection e with e; subst e; exact let ⟨o, _, _, _, ho, hc, _⟩ := hS; ⟨o, ho, hc.2.1⟩
theorem wp_containsH {a b : Addr} {xs : List (List K × Addr)} {k : List K} {Q : Bool → Shared → Prop} (hu : A.units + 1 < cLine) (hS : SetH knd s.heap a xs) (hx : ∀ x ∈ xs, IsTupleKey knd s.heap x.1 x.2) (hk : IsTupleKey knd s.heap k b)
    (h : ∀ c : Bool, (c = true ↔ k ∈ xs.map (·.1)) → Q c { s with toks := s.toks + (k.length + 1) }) : wpAny (model prog w) A (contains (.ref a) (.ref b)) Q E s := by
  unfold contains
  try with_reducible refine wpAny_holding ?_
  refine wpAny_bind (wpAny_specialOf hS.typeIs F.slot_set_contains.lookup ?_)
  show wpAny _ _ (if (some (Value.builtin "set.__contains__") == some Value.none) = true then _ else _) _ E s
  rw [if_neg (by rw [beq_builtin_none]; exact Bool.false_ne_true)]
  refine wpAny_bind (wpAny_callSpecialUnlessNone?_slot (name := Str.ofString "__contains__") hS.typeIs F.slot_set_contains
    (wpAny_call_entry F.slot_set_contains hS.typeIs entry_set_contains ?_ (F.args_set_contains_2 _ _)))
  unfold Builtin.«frozenset.__contains__» Builtin.Frozenset.oneOther
  simp only [List.isEmpty_nil, bind_assoc]
  unfold Builtin.Frozenset.addrOf Builtin.Frozenset.withSetAsKey setContains
  refine wpAny_bind (wpAny_pure ?_)
  try dsimp only
  refine wpAny_bind (wpAny_pure ?_)
  try dsimp only
  refine wpAny_bind (wpAny_tryCatch ?_)
  refine wpAny_holding ?_
  refine wpAny_bind (wpAny_pyHash_tuple (tupleKind_room_in1 (knd := knd) hu) hk ?_)
  refine wpAny_bind (wp_findH (s := { s with toks := s.toks + (k.length + 1) }) (tupleKind_room_in1 (knd := knd) hu) hS hx hk fun r hr => ?_)
  refine wpAny_pure ?_
  show wpAny _ _ (ret (Value.bool r.isSome)) _ _ _
  rw [hr]
  exact wpAny_pure ⟨_, rfl, wpAny_truthy_bool (h _ decide_eq_true_iff)⟩
theorem storeS {h : Heap} {a : Addr} {o : Obj} {es : Array (Int × Value)} {ep : Nat} {t : SetTable} (ho : h.get? a = some o) (hd : o.data = .set es ep t) (es' : Array (Int × Value)) (t' : SetTable) :
    (h.update a (Obj.putSet es' t')).get? a = some { o with data := .set es' (ep + 1) t' } := by
  have := Heap.get?_update_self (Obj.putSet es' t') ho (by rw [putSet_of es' t' hd]; rfl)
  rw [putSet_of es' t' hd] at this; exact this
theorem perm_map_getD {α : Type} {order : List Nat} {xs : List α} (hp : order.Perm (List.range xs.length)) : (order.filterMap fun i => xs[i]?).Perm xs := by
  have := hp.filterMap (fun i => xs[i]?)
  rw [List.filterMap_getElem?_range_length] at this
  exact this
theorem filterMap_map_order {α β : Type} (f : α → β) {order : List Nat} {xs : List α} : (order.filterMap fun i => (xs.map f)[i]?) = (order.filterMap fun i => xs[i]?).map f := by
  rw [List.map_filterMap]
  congr 1
  funext i
  rw [List.getElem?_map]
theorem order_hash {order : List Nat} {hs : List Int} (hp : order.Perm (List.range hs.length)) : (order.map fun i => hs.getD i 0) = order.filterMap fun i => hs[i]? := by
  have hall : ∀ i ∈ order, i < hs.length := fun i hi => List.mem_range.mp (hp.mem_iff.mp hi)
  clear hp
  induction order with
  | nil => rfl
  | cons x l ih =>
    have hx := hall x List.mem_cons_self
    rw [List.map_cons, List.filterMap_cons, List.getElem?_eq_getElem hx, ih fun i hi => hall i (List.mem_cons_of_mem _ hi), List.getD_eq_getElem?_getD, List.getElem?_eq_getElem hx]
    rfl
theorem insert_map {α β : Type} (f : α → β) (xs : List α) (x : α) (p : Nat) : (xs.map f).take p ++ f x :: (xs.map f).drop p = (xs.take p ++ x :: xs.drop p).map f := by
  rw [List.map_append, List.map_cons, List.map_take, List.map_drop]
theorem wp_addTailH {a b : Addr} {o : Obj} {es : Array (Int × Value)} {ep : Nat} {t : SetTable} {xs : List (List K × Addr)} {k : List K} {Q : Bool → Shared → Prop}
    (ho : s.heap.get? a = some o) (hex : o.ExactSet) (hd : o.data = .set es ep t) (he : es.toList = xs.map (entS knd)) (hnd : (xs.map (·.1)).Nodup) (W : WFT t (xs.map fun x => tupleKeyHash knd x.1)) (hroom : xs.length < 2000)
    (hn : k ∉ xs.map (·.1)) {m0 : Nat} (g1 : (pAt t.mask (tupleKeyHash knd k) m0).j ∉ t.place.toList) (g2 : ∀ m, m < m0 → (pAt t.mask (tupleKeyHash knd k) m).j ∈ t.place.toList)
    (hnew : ∀ h' xs', Heap.SameBut a s.heap h' → SetH knd h' a xs' → xs'.Perm (xs ++ [(k, b)]) → Q true { s with heap := h' }) {t2 : SetTable} {c : Bool} (ht : t2 = { (t.put (pAt t.mask (tupleKeyHash knd k) m0).j).1 with plain := c }) {n : Nat} (hnn : n = es.size + 1) :
    wpAny (model prog w) A (do
      storeSet a (SetTable.insertAt es (t.put (pAt t.mask (tupleKeyHash knd k) m0).j).2 (tupleKeyHash knd k, Value.ref b)) t2
      if (!false && t2.tooFull) = true then do
        setRelay a (SetTable.grown n)
        pure true
      else pure true) Q E s := by
  have hsz : es.size = xs.length := by rw [← Array.length_toList, he, List.length_map]
  generalize hp : (t.put (pAt t.mask (tupleKeyHash knd k) m0).j).2 = p
  have hp' : p = SetTable.below t.place (pAt t.mask (tupleKeyHash knd k) m0).j := by rw [← hp]; rfl
  have hple : p ≤ xs.length := by
    have h1 := (below_spec W.rise (pAt t.mask (tupleKeyHash knd k) m0).j).1
    have h2 := W.len
    rw [List.length_map] at h2
    omega
  generalize hes : SetTable.insertAt es p (tupleKeyHash knd k, Value.ref b) = es1
  have he1 : es1.toList = (xs.take p ++ (k, b) :: xs.drop p).map (entS knd) := by
    rw [← hes, SetTable.toList_insertAt, he]
    exact insert_map (entS knd) xs (k, b) p
  have hperm : (xs.take p ++ (k, b) :: xs.drop p).Perm (xs ++ [(k, b)]) := by
    refine List.perm_middle.trans ?_
    rw [List.take_append_drop]
    exact (List.perm_append_singleton (k, b) xs).symm
  have hl1 : (xs.take p ++ (k, b) :: xs.drop p).length = xs.length + 1 := by rw [hperm.length_eq]; simp
  have hs1 : es1.size = xs.length + 1 := by rw [← Array.length_toList, he1, List.length_map, hl1]
  have hnd1 : ((xs.take p ++ (k, b) :: xs.drop p).map (·.1)).Nodup := by
    refine (hperm.map (·.1)).nodup_iff.mpr ?_
    rw [List.map_append]
    refine List.nodup_append.mpr ⟨hnd, by simp, fun x hx y hy => ?_⟩
    simp at hy
    subst hy
    exact fun z => hn (z ▸ hx)
  have hh1 : (xs.take p ++ (k, b) :: xs.drop p).map (fun x => tupleKeyHash knd x.1) = (xs.map fun x => tupleKeyHash knd x.1).take p ++ tupleKeyHash knd k :: (xs.map fun x => tupleKeyHash knd x.1).drop p :=
    (insert_map (fun x => tupleKeyHash knd x.1) xs (k, b) p).symm
  have hmask : t2.mask = t.mask := by rw [ht]; rfl
  have hpl2 : t2.place.size = xs.length + 1 := by
    have h2 := W.len
    rw [List.length_map] at h2
    have : t2.place = SetTable.insertAt t.place p (pAt t.mask (tupleKeyHash knd k) m0).j := by rw [ht, hp']; rfl
    rw [this, ← Array.length_toList, SetTable.toList_insertAt, List.length_append, List.length_cons, List.length_take, List.length_drop, Array.length_toList]
    omega
  have hdum2 : t2.dummies = #[] := by
    rw [ht]
    show (if SetTable.has t.dummies _ then SetTable.eraseAt t.dummies _ else t.dummies) = #[]
    rw [W.dum]
    simp [SetTable.has]
  have hfill : t2.fill = xs.length + 1 := by unfold SetTable.fill; rw [hpl2, hdum2]; rfl
  have hroomW := W.room
  rw [List.length_map] at hroomW
  have h7 : 7 ≤ t.mask := by
    obtain ⟨q, q1, q2⟩ := W.pow
    have : 2 ^ 3 ≤ 2 ^ q := Nat.pow_le_pow_right (by decide) q1
    omega
  have hz1 : es1.size ≤ sizeLine := by rw [hs1, sizeLine_eq]; omega
  refine wpAny_bind (wpAny_storeSet_of ho hd ?_ hz1)
  have ho1 := storeS ho hd es1 t2
  have sb1 : Heap.SameBut a s.heap (s.heap.update a (Obj.putSet es1 t2)) := Heap.SameBut.update s.heap a (Obj.putSet es1 t2)
  by_cases full : t2.tooFull = true
  · rw [full]
    simp only [Bool.not_false, Bool.and_self, if_true]
    unfold setRelay
    have hfit1 : t2.fits es1.size = true := by
      simp only [SetTable.fits, hfill, hpl2, hs1, beq_self_eq_true, Bool.true_and, decide_eq_true_eq, hmask]
      omega
    refine wpAny_bind (wpAny_bind (wpAny_setState_of (s := { s with heap := s.heap.update a (Obj.putSet es1 t2) }) ho1 rfl hfit1 ?_))
    dsimp only
    have hgr : SetTable.grown n = 4 * (xs.length + 1) := by
      unfold SetTable.grown
      rw [if_neg (by omega)]
      omega
    obtain ⟨q, q1, q2, q3⟩ := sizeAbove_ok (n := SetTable.grown n) (by rw [hgr]; omega)
    have hle : SetTable.sizeAbove (SetTable.grown n) ≤ 2 ^ 13 := sizeAbove_le 64 8 _ 13 ⟨3, by decide, rfl⟩ (by rw [hgr]; omega)
    rw [if_neg (by rw [sizeLine_eq]; omega)]
    generalize hbig : SetTable.sizeAbove (SetTable.grown n) = big at q2 q3 hle
    have hhs : (es1.map (·.1)).toList = (xs.take p ++ (k, b) :: xs.drop p).map (fun x => tupleKeyHash knd x.1) := by
      rw [Array.toList_map, he1, List.map_map]; rfl
    have hhsz : (es1.map (·.1)).size = xs.length + 1 := by rw [Array.size_map]; exact hs1
    have hb8 : 2 ^ 13 = 8192 := by decide
    obtain ⟨t3, order, e3, _, _, pe, W3⟩ := laid_ok (mask := big - 1) (p := q) (by omega) q1 (hs := es1.map (·.1)) (by rw [hhsz]; omega) (by omega) t2.finger (t2.movedTo (big - 1)) t2.led t2.plain
    have e3' : t2.relaid (es1.map (·.1)) (SetTable.grown n) = some (t3, order) := by
      unfold SetTable.relaid
      rw [hbig]; exact e3
    rw [e3']
    refine wpAny_bind ?_
    have pe' : order.toList.Perm (List.range (xs.take p ++ (k, b) :: xs.drop p).length) := by rw [hl1, ← hhsz]; exact pe
    have he2 : (order.filterMap (es1[·]?)).toList = ((order.toList.filterMap fun i => (xs.take p ++ (k, b) :: xs.drop p)[i]?)).map (entS knd) := by
      rw [Array.toList_filterMap, ← filterMap_map_order, ← he1]
      congr 1
      funext i
      rw [Array.getElem?_toList]
    have hpm := perm_map_getD pe'
    have hs2 : (order.filterMap (es1[·]?)).size = es1.size := by
      rw [← Array.length_toList, he2, List.length_map, hpm.length_eq, hl1, hs1]
    have hne : ((order.filterMap (es1[·]?)).size != es1.size) = false := by rw [hs2]; simp
    show wpAny _ _ (if ((order.filterMap (es1[·]?)).size != es1.size) = true then _ else _) _ _ _
    rw [hne, if_neg Bool.false_ne_true]
    refine wpAny_pure ?_
    dsimp only
    refine wpAny_storeSet_of (s := { s with heap := s.heap.update a (Obj.putSet es1 t2) }) ho1 rfl ?_ (by rw [hs2]; exact hz1)
    refine wpAny_pure (hnew _ _ (sb1.trans (Heap.SameBut.update _ a _)) ⟨_, _, _, t3, storeS ho1 rfl _ _, hex, rfl, he2, ?_, ?_⟩ (hpm.trans hperm))
    · exact ((hpm.map (·.1)).nodup_iff).mpr hnd1
    · have : (order.toList.map fun i => (es1.map (·.1)).getD i 0) = (order.toList.filterMap fun i => (xs.take p ++ (k, b) :: xs.drop p)[i]?).map (fun x => tupleKeyHash knd x.1) := by
        rw [← filterMap_map_order, ← hhs, ← order_hash (by rw [hhs, List.length_map]; exact pe')]
        congr 1
        funext i
        simp [Array.getD_eq_getD_getElem?, List.getD_eq_getElem?_getD]
      rw [← this]
      exact W3
  · have full' : t2.tooFull = false := by cases h : t2.tooFull with | false => rfl | true => exact (full h).elim
    rw [full']
    simp only [Bool.and_false, Bool.false_eq_true, if_false]
    refine wpAny_pure (hnew _ _ sb1 ⟨_, es1, ep + 1, t2, ho1, hex, rfl, he1, hnd1, ?_⟩ hperm)
    rw [hh1, ht, ← hp]
    refine W.put g1 g2 c ?_
    rw [List.length_map]
    unfold SetTable.tooFull at full'
    rw [hfill, hmask] at full'
    simp at full'
    omega
theorem wp_addHashedH {a b : Addr} {xs : List (List K × Addr)} {k : List K} {Q : Bool → Shared → Prop} (hu : A.units < cLine) (hsc : ∀ k v, knd.is k v = true → v.scannable = true) (hS : SetH knd s.heap a xs)
    (hx : ∀ x ∈ xs, IsTupleKey knd s.heap x.1 x.2) (hk : IsTupleKey knd s.heap k b) (hroom : xs.length < 2000)
    (hold : k ∈ xs.map (·.1) → Q false s) (hnew : k ∉ xs.map (·.1) → ∀ h' xs', Heap.SameBut a s.heap h' → SetH knd h' a xs' → xs'.Perm (xs ++ [(k, b)]) → Q true { s with heap := h' }) :
    wpAny (model prog w) A (setAddHashed a (.ref b) (tupleKeyHash knd k)) Q E s := by
  obtain ⟨o, es, ep, t, ho, hex, hd, he, hnd, W⟩ := hS
  have hsz : es.size = xs.length := by rw [← Array.length_toList, he, List.length_map]
  have hfit : t.fits es.size = true := by have := W.fits; rw [List.length_map] at this; rw [hsz]; exact this
  unfold setAddHashed setAddHashedIn
  refine wpAny_holding (wpAny_bind (wpAny_setState_of ho hd hfit ?_))
  dsimp only
  rw [byScan_ref]
  simp only [Bool.false_eq_true, if_false]
  refine wpAny_bind (wp_search hu ho hd he hnd W hx hk (fun i y hi => ?_) fun hn m0 g1 g2 => ?_)
  · exact wpAny_pure (hold (List.mem_map.mpr ⟨_, List.mem_of_getElem? hi, rfl⟩))
  · dsimp only
    refine wpAny_bind (wpAny_setState_of ho hd hfit ?_)
    dsimp only
    have tl : ∀ (bv : Bool), wpAny (model prog w) A (do
      storeSet a (SetTable.insertAt es (t.put (pAt t.mask (tupleKeyHash knd k) m0).j).2 (tupleKeyHash knd k, Value.ref b)) (if bv = true then (t.put (pAt t.mask (tupleKeyHash knd k) m0).j).1 else { (t.put (pAt t.mask (tupleKeyHash knd k) m0).j).1 with plain := false })
      if (!false && (if bv = true then (t.put (pAt t.mask (tupleKeyHash knd k) m0).j).1 else { (t.put (pAt t.mask (tupleKeyHash knd k) m0).j).1 with plain := false }).tooFull) = true then do
        setRelay a (SetTable.grown (es.size + 1))
        pure true
      else pure true) Q E s := fun bv => by
      cases bv with
      | true => exact wp_addTailH ho hex hd he hnd W hroom hn g1 g2 (hnew hn) (c := (t.put (pAt t.mask (tupleKeyHash knd k) m0).j).1.plain) (by rw [if_pos rfl]) rfl
      | false => exact wp_addTailH ho hex hd he hnd W hroom hn g1 g2 (hnew hn) (c := false) (by rw [if_neg Bool.false_ne_true]) rfl
    split
    · exact wpAny_bind (wp_hashBy hk hsc tl)
    · exact wpAny_bind (wpAny_pure (tl true))
theorem wp_addH {a b : Addr} {xs : List (List K × Addr)} {k : List K} {Q : Bool → Shared → Prop} (hu : A.units < cLine) (hsc : ∀ k v, knd.is k v = true → v.scannable = true) (hS : SetH knd s.heap a xs)
    (hx : ∀ x ∈ xs, IsTupleKey knd s.heap x.1 x.2) (hk : IsTupleKey knd s.heap k b) (hroom : xs.length < 2000)
    (hold : k ∈ xs.map (·.1) → Q false { s with toks := s.toks + (k.length + 1) }) (hnew : k ∉ xs.map (·.1) → ∀ h' xs', Heap.SameBut a s.heap h' → SetH knd h' a xs' → xs'.Perm (xs ++ [(k, b)]) → Q true { s with heap := h', toks := s.toks + (k.length + 1) }) :
    wpAny (model prog w) A (setAdd a (.ref b)) Q E s := by
  unfold setAdd
  refine wpAny_holding ?_
  refine wpAny_bind (wpAny_pyHash_tuple hu hk ?_)
  exact wp_addHashedH (s := { s with toks := s.toks + (k.length + 1) }) hu hsc hS hx hk hroom hold hnew
theorem call_set_addH {a b : Addr} {xs : List (List K × Addr)} {k : List K} {Q : Value → Shared → Prop} (hu : A.units + 1 < cLine) (hsc : ∀ k v, knd.is k v = true → v.scannable = true) (hS : SetH knd s.heap a xs)
    (hx : ∀ x ∈ xs, IsTupleKey knd s.heap x.1 x.2) (hk : IsTupleKey knd s.heap k b) (hroom : xs.length < 2000)
    (hold : k ∈ xs.map (·.1) → Q .none { s with toks := s.toks + (k.length + 1) }) (hnew : k ∉ xs.map (·.1) → ∀ h' xs', Heap.SameBut a s.heap h' → SetH knd h' a xs' → xs'.Perm (xs ++ [(k, b)]) → Q .none { s with heap := h', toks := s.toks + (k.length + 1) }) :
    wpAny (model prog w) A (call (.builtin "set.add") [.ref a, .ref b]) Q E s := by
  refine wpAny_call_entry F.slot_set_add hS.typeIs F.entry_set_add ?_ (F.args_set_add_2 _ _)
  unfold Builtin.«set.add» Builtin.Frozenset.oneOther
  simp only [List.isEmpty_nil, bind_assoc]
  unfold Builtin.Frozenset.addrOf
  refine wpAny_bind (wpAny_pure ?_)
  try dsimp only
  refine wpAny_bind (wpAny_pure ?_)
  try dsimp only
  refine wpAny_bind (wp_addH (tupleKind_room_in1 (knd := knd) hu) hsc hS hx hk hroom (fun z => ?_) fun z h' xs' q1 q2 q3 => ?_)
  · show wpAny _ _ (ret Value.none) _ _ _
    exact wpAny_pure ⟨_, rfl, hold z⟩
  · show wpAny _ _ (ret Value.none) _ _ _
    exact wpAny_pure ⟨_, rfl, hnew z h' xs' q1 q2 q3⟩
end
end TL
set_option Elab.async false
set_option linter.all false
set_option maxRecDepth 100000
set_option maxHeartbeats 4000000
namespace TL
open PySem PySem.Spec PyProof.Rows L2 TS

/-! ### sets of tuples of ints and texts -/
/-- the set at a, its members' keys and addresses -/
def SetO (P : Program) (w : World) (a : Addr) (xs : List (List Key × Addr)) : HO := .ext fun h => SetH (mixKind P w) h a xs
abbrev keysOf (xs : List (List Key × Addr)) : List (List Key) := xs.map fun x => x.1
def inK (k : List Key) (xs : List (List Key × Addr)) : Bool := xs.any fun x => decide (x.1 = k)
theorem inK_iff {k : List Key} {xs : List (List Key × Addr)} : inK k xs = true ↔ k ∈ keysOf xs := by
  unfold inK keysOf
  rw [List.any_eq_true, List.mem_map]
  exact ⟨fun ⟨x, h, e⟩ => ⟨x, h, of_decide_eq_true e⟩, fun ⟨x, h, e⟩ => ⟨x, h, decide_eq_true e⟩⟩
def TupsIn (K : PySem.W.Frag) (H : Hp) (xs : List (List Key × Addr)) : Prop := ∀ x ∈ xs, SqT K H x.2 (x.1.map kV)
theorem mix_scan {P : Program} {w : World} : ∀ (k : Key) (v : Value), (mixKind P w).is k v = true → v.scannable = true := fun k v h => by
  rcases keyIs_shape (k := k) (v := v) h with ⟨i, t, _, rfl⟩ | ⟨x, t, _, rfl⟩ <;> rfl
theorem SetH.stay {P : Program} {w : World} {h1 h2 : Heap} {a : Addr} {xs : List (List Key × Addr)} (p : SetH (mixKind P w) h1 a xs) (k : ∀ o, h1.get? a = some o → h2.get? a = some o) : SetH (mixKind P w) h2 a xs := by
  obtain ⟨o, es, ep, t, ho, r⟩ := p
  exact ⟨o, es, ep, t, k _ ho, r⟩
theorem SetH.obj {P : Program} {w : World} {h : Heap} {H : Hp} {a : Addr} {xs : List (List Key × Addr)} (p : SetH (mixKind P w) h a xs) : ObjOk P w H h a (SetO P w a xs) := by
  obtain ⟨o, es, ep, t, ho, r⟩ := id p
  exact ⟨p, ⟨o, ho⟩, fun h1 h2 q k => q.stay k⟩
section
variable {X : Cx} {pins : List (Addr × Obj)} {σ : St} {H : Hp} {s : Shared}
theorem Inv.setH {l : Addr} {xs : List (List Key × Addr)} (I : Inv X pins σ H s) (h : H l = some (SetO X.prog X.w l xs)) : SetH (mixKind X.prog X.w) s.heap l xs := (I.hok l _ h).1
theorem Inv.keyT {b : Addr} {k : List Key} (I : Inv X pins σ H s) (h : SqT X.K H b (k.map kV)) : IsTupleKey (mixKind X.prog X.w) s.heap k b := by
  obtain ⟨its, r, ⟨o, h1, h2, n, h3⟩, z⟩ := I.tuple h
  exact ⟨o, its.toArray, n, h1, h2, h3, by simpa using items_are r⟩
theorem Inv.keysT {xs : List (List Key × Addr)} (I : Inv X pins σ H s) (h : TupsIn X.K H xs) : ∀ x ∈ xs, IsTupleKey (mixKind X.prog X.w) s.heap x.1 x.2 := fun x hx => Inv.keyT I (h x hx)
theorem op_inT (hu : X.A.units + 1 < cLine) : OpR X (compareOp .In) (fun x y H Q => ∃ (l : Addr) (xs : List (List Key × Addr)) (k : List Key) (b : Addr), x = .ref b ∧ y = .ref l ∧ H l = some (SetO X.prog X.w l xs) ∧ TupsIn X.K H xs ∧ SqT X.K H b (k.map kV) ∧ Q (.bl (inK k xs)) H) := by
  intro pins s σ H x y v u Q I rx ry h
  obtain ⟨l, xs, k, b, rfl, rfl, hH, ht, hb, q⟩ := h
  cases rx
  cases ry
  show wpAny _ _ (do return Value.bool (← contains (.ref l) (.ref b))) _ _ s
  refine wpAny_bind (wp_containsH hu (Inv.setH I hH) (Inv.keysT I ht) (Inv.keyT I hb) fun c hc => ?_)
  have e : c = inK k xs := Bool.eq_iff_iff.mpr (hc.trans inK_iff.symm)
  exact wpAny_pure ⟨.bl (inK k xs), H, I.tok _, (by rw [e]; rfl), q⟩
/-- s.add(t) -/
def rSAddT (P : Program) (w : World) (K : PySem.W.Frag) : V → List V → Hp → VK → Prop := fun x vs H Q => ∃ (l : Addr) (xs : List (List Key × Addr)) (k : List Key) (b : Addr), x = .ref l ∧ vs = [.ref b] ∧ H l = some (SetO P w l xs) ∧ TupsIn K H xs ∧ SqT K H b (k.map kV) ∧ xs.length < 2000 ∧
  (k ∈ keysOf xs → Q .non H) ∧ (k ∉ keysOf xs → ∀ xs', xs'.Perm (xs ++ [(k, b)]) → Q .non (upd H l (SetO P w l xs')))
theorem mt_saddT (hu : X.A.units + 1 < cLine) : MtR X "set.add" (rSAddT X.prog X.w X.K) := by
  intro pins s σ H x vs v us Q I rx rv h
  obtain ⟨l, xs, k, b, rfl, rfl, hH, ht, hb, hz, q1, q2⟩ := h
  cases rx
  obtain ⟨u, rfl, rb⟩ := rv.one
  cases rb
  refine call_set_addH hu mix_scan (Inv.setH I hH) (Inv.keysT I ht) (Inv.keyT I hb) hz (fun z => ⟨.non, H, I.tok _, rfl, q1 z⟩) fun z h' xs' sb hS p => ?_
  refine ⟨.non, _, I.write (t' := s.toks + (k.length + 1)) (o := SetO X.prog X.w l xs') (x := l) (e := l) (by rw [hH]; exact trivial) (.inl rfl) (fun b u hb e => sb.extBut b u hb e) ?_ hS.obj, rfl, q2 z xs' p⟩
  obtain ⟨o, _, _, _, e, _⟩ := hS; exact ⟨o, e⟩
theorem call_set0T : CallR X (.type "set") (fun xs H Q => xs = [] ∧ ∀ p, H p = none → Q (.ref p) (upd H p (SetO X.prog X.w p []))) := by
  intro pins s σ H xs us Q I r h
  obtain ⟨rfl, q⟩ := h
  cases r
  refine call_set_0 fun led => ?_
  have hS : SetH (mixKind X.prog X.w) (s.heap.push { cls := .type "set", dict := none, data := .set #[] 0 (.fresh 0 0 led) }) s.heap.objs.size [] :=
    ⟨_, #[], 0, _, Heap.get?_push_size _ rfl, ⟨rfl, rfl, rfl⟩, rfl, rfl, List.nodup_nil, WFT.fresh _ _ _⟩
  exact ⟨.ref _, _, I.laid (t' := s.toks) (o := SetO X.prog X.w s.heap.objs.size []) (fun b u e => Heap.get?_push_of_some _ e) (Nat.le_refl _) hS.obj, rfl, q _ I.fresh⟩
end
end TL
set_option Elab.async false
set_option linter.all false
set_option maxRecDepth 100000
set_option maxHeartbeats 4000000
namespace TL
open PySem PySem.Spec PyProof.Rows L2 TS

/-! ### set(a list of tuples) -/
/-- xs are the members of the first i of the pairs -/
structure Met (ps : List (List Key × Addr)) (i : Nat) (xs : List (List Key × Addr)) : Prop where
  sub : ∀ x ∈ xs, x ∈ ps
  key : ∀ k, k ∈ keysOf xs ↔ k ∈ keysOf (ps.take i)
  nd : (keysOf xs).Nodup
theorem Met.zero (ps : List (List Key × Addr)) : Met ps 0 [] := ⟨fun x h => (nomatch h), fun k => by simp [keysOf], List.nodup_nil⟩
theorem keysOf_snoc {ps : List (List Key × Addr)} {i : Nat} {k : List Key} {b : Addr} (h : ps[i]? = some (k, b)) (k' : List Key) : k' ∈ keysOf (ps.take (i + 1)) ↔ k' ∈ keysOf (ps.take i) ∨ k' = k := by
  unfold keysOf
  rw [List.take_add_one, h, List.map_append, List.mem_append]
  simp
theorem Met.new {ps : List (List Key × Addr)} {i : Nat} {xs xs' : List (List Key × Addr)} {k : List Key} {b : Addr} (M : Met ps i xs) (h : ps[i]? = some (k, b)) (hk : k ∉ keysOf xs) (hp : xs'.Perm (xs ++ [(k, b)])) : Met ps (i + 1) xs' := by
  have hkeys : (keysOf xs').Perm (keysOf xs ++ [k]) := by
    have := hp.map fun x : List Key × Addr => x.1
    rwa [List.map_append] at this
  refine ⟨fun x hx => ?_, fun k' => ?_, ?_⟩
  · rcases List.mem_append.mp (hp.mem_iff.mp hx) with z | z
    · exact M.sub x z
    · rw [List.mem_singleton] at z; subst z; exact List.mem_of_getElem? h
  · rw [keysOf_snoc h, ← M.key, hkeys.mem_iff, List.mem_append, List.mem_singleton]
  · refine hkeys.nodup_iff.mpr (List.nodup_append.mpr ⟨M.nd, by simp, fun x hx y hy => ?_⟩)
    rw [List.mem_singleton] at hy
    subst hy
    exact fun z => hk (z ▸ hx)
theorem sub_lenK {α : Type} [DecidableEq α] : ∀ {l m : List α}, l.Nodup → (∀ x ∈ l, x ∈ m) → l.length ≤ m.length
  | [], m, _, _ => Nat.zero_le _
  | x :: l, m, hn, hs => by
    rw [List.nodup_cons] at hn
    have hx := hs x List.mem_cons_self
    have := @sub_lenK α _ l (m.erase x) hn.2 fun y hy => by
      refine (List.mem_erase_of_ne ?_).mpr (hs y (List.mem_cons_of_mem _ hy))
      rintro rfl
      exact hn.1 hy
    have h2 := List.length_erase_of_mem hx
    have h3 : 0 < m.length := List.length_pos_of_mem hx
    rw [List.length_cons]
    omega
section
variable {prog : Program} {w : World} {A : Around} {R : Result → Shared → Prop} {I : Addr} {fp wr : List Addr} {G : Array GenState → Array GenState → Prop} {n : Nat} {P : Nat → Value → Prop} {St : Nat → Shared → Prop}
end
section
variable {prog : Program} {w : World} {A : Around} {E : Value → Shared → Prop} {s : Shared}
end
section
variable {X : Cx}
end
end TL
set_option Elab.async false
set_option linter.all false
set_option maxRecDepth 100000
set_option maxHeartbeats 4000000
namespace TL
open PySem PySem.Spec PyProof.Rows L2 TS
section
variable {X : Cx} {o e : Expr} {es : List Expr} {to : TE} {t : TA} {name : Str} {apos cpos : Pos} {id : String} {r : V → List V → Hp → VK → Prop}
/-- a method of a set of tuples -/
def tBMS (P : Program) (w : World) (r : V → List V → Hp → VK → Prop) (to : TE) (t : TA) : TE := fun σ H Q => to σ H fun x H1 => (∃ p xs, x = .ref p ∧ H1 p = some (SetO P w p xs)) ∧ t σ H1 fun xs H2 => r x xs H2 Q
theorem pe_bmS (slot : Slot "set" name id) (hty : typeOf (.builtin id) = pure (.type "method_descriptor")) (hm : MtR X id r) (ho : PE X o to) (ha : PA X (e :: es) t)
    (hbase : attributeBase o name X.env (eval o X.env) = eval o X.env := by rfl)
    (hfew : ((backTo cpos (starEach (e :: es) X.env)).all (fun x => !x.1) && (backToKw cpos (keywordEach [] X.env)).all (fun x => x.1.isSome)
      && decide ((e :: es).length + ([] : List Keyword).length + (if ([] : List Keyword).isEmpty then 0 else 1) < 30)) = true := by rfl)
    (hline : (apos.endLine == cpos.line) = true := by rfl) (hs : starEach (e :: es) X.env = (false, eval e X.env) :: starEach es X.env := by rfl) (hplain : (backTo cpos (starEach es X.env)).any (·.1) = false := by rfl) :
    PE X (.Call (.Attribute o name apos) (e :: es) [] cpos) (tBMS X.prog X.w r to t) := by
  intro pins s σ H Q I h
  refine wpAny_Call_method_late hbase hfew hline rfl (thn (ho pins s σ H _ I h) fun v s1 ⟨x, H1, I1, r1, ⟨p, xs, ex, hp⟩, q1⟩ => ?_)
  subst ex
  cases r1
  have hS := Inv.setH I1 hp
  refine ⟨"set", id, PySem.F.plainAttrs_set, slot, hty, hS.typeIs, hS.noDict, ?_⟩
  have hA := ha cpos pins s1 σ H1 _ I1 q1
  rw [hs] at hA ⊢
  refine Calls.callWith_builtin (by show (false || (backTo cpos (starEach es X.env)).any (·.1)) = false; rw [hplain] <;> rfl) (Calls.evalArgs_plain ?_)
  exact thn hA fun us s2 ⟨vs, H2, I2, r2, q2⟩ => hm pins s2 σ H2 (.ref p) vs (.ref p) us Q I2 rfl r2 q2
end
/-- the joints of a line as tuples -/
def kP (p : Int × Int) : List Key := [.inl p.1, .inl p.2]
theorem kP_inj {p q : Int × Int} (h : kP p = kP q) : p = q := by
  obtain ⟨a, b⟩ := p
  obtain ⟨c, d⟩ := q
  simp only [kP, List.cons.injEq, Sum.inl.injEq, and_true] at h
  rw [h.1, h.2]
/-- the pairs as members: their keys, their addresses -/
theorem pairs_of {K : PySem.W.Frag} {H : Hp} : ∀ {js : List (Int × Int)} {vs : List V}, Das K H (js.map dP) vs → ∃ ps : List (List Key × Addr), vs = ps.map (fun p => V.ref p.2) ∧ keysOf ps = js.map kP ∧ TupsIn K H ps
  | [], vs, h => ⟨[], by rw [List.map_nil] at h; rw [dgs_nil.mp h]; rfl, rfl, fun x hx => (nomatch hx)⟩
  | j :: js, vs, h => by
    rw [List.map_cons] at h
    obtain ⟨v, r, rfl, h1, h2⟩ := dgs_cons.mp h
    obtain ⟨ps, e1, e2, e3⟩ := pairs_of h2
    unfold dP at h1
    obtain ⟨a, us, rfl, ht, q⟩ := dg_tuple.mp h1
    obtain ⟨v1, r', rfl, q1, q⟩ := dgs_cons.mp q
    obtain ⟨v2, r', rfl, q2, q⟩ := dgs_cons.mp q
    cases dgs_nil.mp q
    cases dg_int.mp q1
    cases dg_int.mp q2
    refine ⟨(kP j, a) :: ps, by rw [e1]; rfl, by unfold keysOf at e2 ⊢; rw [List.map_cons, e2]; rfl, fun x hx => ?_⟩
    rcases List.mem_cons.mp hx with rfl | hx
    · exact ht
    · exact e3 x hx
theorem mem_kP {js : List (Int × Int)} {p : Int × Int} : kP p ∈ js.map kP ↔ p ∈ js := by
  rw [List.mem_map]
  exact ⟨fun ⟨q, h, e⟩ => kP_inj e ▸ h, fun h => ⟨p, h, rfl⟩⟩
end TL
set_option Elab.async false
set_option linter.all false
set_option maxRecDepth 100000
set_option maxHeartbeats 4000000
namespace TL
open PySem PySem.Spec PyProof.Rows L2 HT TS

/-! ### t[::-1] of a pair -/
section
variable {prog : Program} {w : World} {A : Around} {E : Value → Shared → Prop} {s : Shared}
end
section
variable {X : Cx} {e : Expr} {te : TE} {pos p2 : Pos}
end

/-! ### a op1 b op2 c op3 d -/
section
variable {X : Cx} {a b c d : Expr} {ta tb tc td : TE} {pos : Pos}
end
end TL
set_option Elab.async false
set_option linter.all false
set_option maxRecDepth 100000
set_option maxHeartbeats 4000000
namespace TL
open PySem PySem.Spec PyProof.Rows L2

/-! ### texts as lists of code points -/
def mkS (l : List Nat) : Str := ⟨l.toArray⟩
theorem mkS_list (l : List Nat) : (mkS l).cps.toList = l := List.toList_toArray
theorem mkS_of (x : Str) : mkS x.cps.toList = x := by cases x; simp [mkS]
theorem mkS_len (l : List Nat) : (mkS l).length = l.length := by simp [mkS, Str.length]
/-! ### f"..{x}..": the parts one behind the other -/
abbrev TF := St → Hp → Str → (Str → Hp → Prop) → Prop
def PF (X : Cx) (es : List Expr) (t : TF) : Prop :=
  ∀ (pins : List (Addr × Obj)) (s : Shared) (σ : St) (H : Hp) (acc : Str) (Q : Str → Hp → Prop), Inv X pins σ H s → t σ H acc Q →
    Joins (model X.prog X.w) X.A X.xe (evalEach es X.env) acc (fun out s' => ∃ H', Inv X pins σ H' s' ∧ Q out H') s
section
variable {X : Cx} {e : Expr} {es : List Expr} {te : TE} {tf : TF} {pos : Pos}
def tFN : TF := fun _ H acc Q => Q acc H
def tFC (x : Str) (tf : TF) : TF := fun σ H acc Q => (acc ++ x).length ≤ sizeLine ∧ tf σ H (acc ++ x) Q
def tFV (te : TE) (tf : TF) : TF := fun σ H acc Q => te σ H fun v H1 => ∃ y, ((∃ i : Int, v = .int i ∧ i.natAbs.log2 < 1920 ∧ y = Str.ofString (toString i)) ∨ (v = .str y ∧ y.length ≤ sizeLine)) ∧ (acc ++ y).length ≤ sizeLine ∧ tf σ H1 (acc ++ y) Q
theorem pf_nil : PF X [] tFN := fun pins s σ H acc Q I h => ⟨H, I, h⟩
theorem pf_const {x : Str} {k : Nat} {p : Pos} (h : PF X es tf) : PF X (.Constant (.str x) k p :: es) (tFC x tf) := by
  intro pins s σ H acc Q I q
  exact PySem.wpAny_Constant_str ⟨x, _, rfl, q.1, h pins _ σ H _ Q (I.tok _) q.2⟩
theorem pf_val {p : Pos} (he : PE X e te) (h : PF X es tf) : PF X (.FormattedValue e (-1) none p :: es) (tFV te tf) := by
  intro pins s σ H acc Q I q
  show wpAny _ _ (eval (.FormattedValue e (-1) none p) X.env) _ _ s
  refine wpAny_FormattedValue_plain (thn (he pins s σ H _ I q) fun u s1 ⟨v, H1, I1, r, y, hy, hz, q1⟩ => ?_)
  rcases hy with ⟨i, rfl, hi, rfl⟩ | ⟨rfl, hl⟩
  · obtain ⟨t, rfl⟩ := r
    exact wpAny_formatField_int hi ⟨_, _, rfl, hz, h pins _ σ H1 _ Q (I1.tok _) q1⟩
  · obtain ⟨t, rfl⟩ := r
    exact wpAny_formatField_str ⟨_, _, rfl, hz, h pins _ σ H1 _ Q I1 q1⟩ ⟨_, _, rfl, hz, h pins _ σ H1 _ Q (I1.tok _) q1⟩ hl
theorem pe_fstr {v1 v2 : Expr} {rest : List Expr} (h : PF X (v1 :: v2 :: rest) tf) : PE X (.JoinedStr (v1 :: v2 :: rest) pos) (fun σ H Q => tf σ H Str.empty fun z H1 => z.length ≤ sizeLine ∧ Q (.str z) H1) := by
  intro pins s σ H Q I q
  refine wpAny_JoinedStr ?_
  have := h pins s σ H Str.empty (fun z H1 => z.length ≤ sizeLine ∧ Q (.str z) H1) I q
  refine joins_mono ?_ this
  rintro out s' ⟨H', I', hz, q'⟩
  exact ⟨hz, .str out, H', I'.tok _, ⟨_, rfl⟩, q'⟩
where
  joins_mono {M : Model} {A : Around} {E : Value → Shared → Prop} {Q Q' : Str → Shared → Prop} (hq : ∀ o s, Q o s → Q' o s) : ∀ {parts : List (Sem Value)} {acc : Str} {s : Shared}, Joins M A E parts acc Q s → Joins M A E parts acc Q' s
    | [], acc, s, h => hq _ _ h
    | x :: rest, acc, s, h => wpAny_mono h (fun v s1 ⟨y, t, e, hz, h1⟩ => ⟨y, t, e, hz, joins_mono hq h1⟩) fun _ _ x => x
end

/-! ### lists of texts -/
theorem Vals.strs : ∀ {ts : List Str} {its : List Value}, Vals (ts.map V.str) its → ∃ l : List (Str × Tok), its = strValues l ∧ l.map (·.1) = ts
  | [], _, .nil => ⟨[], rfl, rfl⟩
  | x :: ts, _, .cons r t => by
    obtain ⟨l, rfl, e⟩ := Vals.strs t
    obtain ⟨k, rfl⟩ := r
    exact ⟨(x, k) :: l, rfl, by rw [List.map_cons, e]⟩
theorem vals_strs : ∀ l : List (Str × Tok), Vals ((l.map (·.1)).map V.str) (strValues l)
  | [] => .nil
  | p :: l => .cons ⟨p.2, rfl⟩ (vals_strs l)
theorem joinOk_small {sep : Str} {ts : List Str} (h1 : ∀ y ∈ ts, y.length ≤ 1000) (h2 : ts.length ≤ 1000) (h3 : sep.length ≤ 10) : JoinOk sep ts = true := by
  unfold JoinOk
  rw [PySem.StrLaws.joinTotal]
  have h := PySem.StrLaws.sumLen_le ts h1
  have h4 : ts.length * sep.length ≤ 1000 * 10 := Nat.mul_le_mul h2 h3
  have h5 : ts.length * 1000 ≤ 1000 * 1000 := Nat.mul_le_mul_right _ h2
  unfold Builtin.Str.tooLong
  rw [sizeLine_eq]
  simp
  omega
section
variable {X : Cx}
theorem mt_join : MtR X "str.join" (fun x vs H Q => ∃ sep a ts, x = .str sep ∧ vs = [.ref a] ∧ SqL X.K H a (ts.map V.str) ∧ (∀ y ∈ ts, y.length ≤ 1000) ∧ ts.length ≤ 1000 ∧ sep.length ≤ 10 ∧ Q (.str (Str.join sep ts)) H) := by
  intro pins s σ H x vs v us Q I rx rv h
  obtain ⟨sep, a, ts, rfl, rfl, ha, h1, h2, h3, q⟩ := h
  obtain ⟨t, rfl⟩ := rx
  obtain ⟨u, rfl, ru⟩ := rv.one
  cases ru
  obtain ⟨its, r, p, hz⟩ := I.list ha
  obtain ⟨l, rfl, e⟩ := Vals.strs r
  refine SC.join (texts := ts) p.isList e (joinOk_small h1 h2 h3) fun t' k => ⟨.str _, H, I.tok _, ⟨_, rfl⟩, ?_⟩
  show Q (.str (Builtin.Str.glued sep ts)) H
  rw [PySem.StrLaws.glued_eq_join]
  exact q
theorem split_len (z y : Str) (hy : 1 ≤ y.length) : (Txt.split z y).length ≤ z.length + 1 ∧ (Builtin.Str.partsBetween z (Builtin.Str.occurrences z y 0 z.length (z.length + 1)) y.length).length ≤ z.length + 2 := by
  have h1 := PySem.StrLaws.occ_length_le z y 0 z.length (z.length + 1)
  have h2 : (Builtin.Str.partsBetween z (Builtin.Str.occurrences z y 0 z.length (z.length + 1)) y.length).length ≤ z.length + 2 := by
    unfold Builtin.Str.partsBetween
    simp
    omega
  refine ⟨?_, h2⟩
  -- each cut takes a sign of its own
  have : ∀ (ws : List Str), ws ≠ [] → ws.length ≤ (Str.join y ws).length + 1 := by
    intro ws
    induction ws with
    | nil => intro h; exact absurd rfl h
    | cons w r ih =>
      intro _
      cases r with
      | nil => show 1 ≤ w.length + 1; omega
      | cons w' r' =>
        have := ih (by simp)
        show (w' :: r').length + 1 ≤ (w ++ y ++ Str.join y (w' :: r')).length + 1
        rw [PySem.Str.length_append, PySem.Str.length_append]
        omega
  by_cases c : Txt.split z y = []
  · rw [c]; exact Nat.zero_le _
  · have h := this _ c
    rw [PySem.StrLaws.join_split] at h
    exact h
theorem mt_split : MtR X "str.split" (fun x vs H Q => ∃ z y, x = .str z ∧ vs = [.str y] ∧ 1 ≤ y.length ∧ z.length ≤ 100000 ∧ ∀ p, H p = none → Q (.ref p) (upd H p (.lst ((Txt.split z y).map V.str)))) := by
  intro pins s σ H x vs v us Q I rx rv h
  obtain ⟨z, y, rfl, rfl, hy, hz, q⟩ := h
  obtain ⟨t, rfl⟩ := rx
  obtain ⟨u, rfl, ru⟩ := rv.one
  obtain ⟨tu, rfl⟩ := ru
  have hy0 : (y.length == 0) = false := by simp; omega
  have hx : z.length ≤ sizeLine := by rw [sizeLine_eq]; omega
  have hl := split_len z y hy
  have hn : (Builtin.Str.partsBetween z (Builtin.Str.occurrences z y 0 z.length (z.length + 1)) y.length).length ≤ sizeLine := by rw [sizeLine_eq]; omega
  have fin : ∀ (l : List (Str × Tok)) (tk : Nat), l.map (·.1) = Txt.split z y → EP X pins σ Q (.ref s.heap.objs.size) { s with toks := tk, heap := s.heap.push { cls := .type "list", data := .seq (strValues l).toArray } } := fun l tk e => by
    refine ⟨.ref _, _, I.laid (t' := tk) (o := .lst ((Txt.split z y).map V.str)) (fun b ob q => Heap.get?_push_of_some _ q) (Nat.le_refl _) ⟨?_, strValues l, 0, ?_, Heap.get?_push_size _ rfl⟩, rfl, q _ I.fresh⟩
    · rw [List.length_map, sizeLine_eq]; omega
    · rw [← e]; exact vals_strs l
  cases h1 : (decide (z.length < y.length) || decide (Builtin.Str.strKind z < Builtin.Str.strKind y))
  · cases hf : (Builtin.Str.occurrences z y 0 z.length (z.length + 1)).isEmpty
    · refine call_meets PySem.F.slot_str_split (typeIs_str _ _ _) PySem.F.entry_str_split (PySem.F.args_str_split_2 _ _) (meets_str_split_sep z y t tu h1 hy0 hf hx hn) ?_
      show EP X pins σ Q _ { s with toks := _, heap := s.heap.push { cls := .type "list", data := .seq (strsFrom s.toks (Builtin.Str.partsBetween z (Builtin.Str.occurrences z y 0 z.length (z.length + 1)) y.length)).toArray } }
      rw [strsFrom_eq]
      exact fin _ _ ((numbered_texts _ _).trans ((if_neg (ne_true_of_eq_false h1)).trans (if_neg (ne_true_of_eq_false hf))).symm)
    · refine call_meets PySem.F.slot_str_split (typeIs_str _ _ _) PySem.F.entry_str_split (PySem.F.args_str_split_2 _ _) (meets_str_split_not_found z y t tu h1 hy0 hf) ?_
      exact fin [(z, t)] s.toks ((if_neg (ne_true_of_eq_false h1)).trans (if_pos hf)).symm
  · refine call_meets PySem.F.slot_str_split (typeIs_str _ _ _) PySem.F.entry_str_split (PySem.F.args_str_split_2 _ _) (meets_str_split_cannot_occur z y t tu h1) ?_
    exact fin [(z, t)] s.toks (if_pos h1).symm
end
end TL
set_option Elab.async false
set_option linter.all false
set_option maxRecDepth 100000
set_option maxHeartbeats 4000000
namespace TL
open PySem PySem.Spec PyProof.Rows L2

/-! ### a list taken apart: a, b = xs; a, *r = xs -/
section
variable {prog : Program} {w : World} {A : Around} {E : Value → Shared → Prop} {s : Shared}
theorem draw_list {it l : Addr} {items : Array Value} (hne : l ≠ it) : ∀ (n i : Nat) (s : Shared) (Q : List Value → Shared → Prop), s.heap.IsListIter it l i → s.heap.IsList l items → i + n ≤ items.size →
    (∀ h', h'.IsListIter it l (i + n) → Heap.SameBut it s.heap h' → Q ((items.toList.drop i).take n) { s with heap := h' }) → wpAny (model prog w) A (draw (.ref it) n) Q E s
  | 0, i, s, Q, hit, _, _, hQ => by
    show wpAny _ _ (pure []) Q E s
    exact wpAny_pure (by simpa using hQ s.heap hit (Heap.SameBut.refl ..))
  | n + 1, i, s, Q, hit, hl, hle, hQ => by
    have hlt : i < items.size := by omega
    show wpAny _ _ (pyNext (.ref it) >>= _) Q E s
    refine wpAny_bind (wpAny_pyNext_list_item hit hl (x := items[i]) (by simp [hlt]) fun h₁ hit₁ hs₁ => ?_)
    refine wpAny_bind (wpAny_holding (draw_list hne n (i + 1) _ _ hit₁ (hl.extBut hs₁.extBut hne) (by omega) fun h₂ hit₂ hs₂ => wpAny_pure ?_))
    have hd : items.toList.drop i = items[i] :: items.toList.drop (i + 1) := by simp [List.drop_eq_getElem_cons, hlt]
    have := hQ h₂ (by rw [show i + (n + 1) = i + 1 + n by omega]; exact hit₂) (hs₁.trans hs₂)
    rw [hd, List.take_succ_cons] at this
    exact this
theorem unpackItems_list {l : Addr} {items : Array Value} {Q : List Value → Shared → Prop} (hh : A.handled = none) (hl : s.heap.IsList l items)
    (hQ : ∀ h', Heap.ExtBut s.heap.objs.size s.heap h' → Q items.toList { s with heap := h' }) : wpAny (model prog w) A (unpackItems (.ref l) items.size none) Q E s := by
  have hlt : l ≠ s.heap.objs.size := by obtain ⟨o, ho, _⟩ := hl; exact Nat.ne_of_lt (Heap.lt_size ho)
  unfold unpackItems
  refine wpAny_bind ?_
  · unfold notIterableAtAll
    refine wpAny_bind (wpAny_specialOf hl.typeIs slot_list_iter.lookup ?_)
    refine wpAny_pure ?_
    simp only [Bool.false_eq_true, if_false]
    refine wpAny_bind (wpAny_holding (wpAny_pyIter_list hl ?_))
    refine wpAny_bind (wpAny_holding (draw_list hlt items.size 0 _ _ ⟨_, Heap.get?_push_size _ rfl, rfl, rfl⟩ (hl.push _) (by omega) fun h₁ hit₁ hs₁ => ?_))
    have hall : List.take items.size (List.drop 0 items.toList) = items.toList := by
      rw [List.drop_zero]; exact List.take_of_length_le (by simp)
    rw [hall]
    rw [if_neg (by simp)]
    have hl₁ : h₁.IsList l items := (hl.push _).extBut hs₁.extBut hlt
    refine wpAny_bind (wpAny_holding (wpAny_pyNext_list_end hh hit₁ hl₁ (by simp) fun h₂ he₂ => ?_))
    simp only [Option.isSome_none, Bool.false_eq_true, if_false]
    refine wpAny_pure (hQ h₂ fun b o hb e => he₂ b o hb (hs₁.extBut b o hb (Heap.get?_push_of_some _ e)))
end
section
variable {X : Cx} {pos : Pos}
/-- (a, b, ..) = a list of that length -/
def gLst (K : PySem.W.Frag) (n : Nat) (t : TGs) : TG := fun v σ H Q => ∃ a xs, v = .ref a ∧ SqL K H a xs ∧ xs.length = n ∧ t xs σ H Q
theorem pg_lst {es : List Expr} {k : Nat} {t : TGs} {n : Nat} (hc : X.calm = true) (h : PGs X es t)
    (hn : (assignEach es X.env).length = n := by rfl) (hst : (assignEach es X.env).findIdx? (·.1) = none := by rfl) : PG X (.Tuple es k pos) (gLst X.K n t) := by
  intro pins s σ H v u Q I r hw
  obtain ⟨a, xs, e1, hq, hl, hw⟩ := hw
  subst e1
  cases r
  obtain ⟨its, rv, ht, hz⟩ := I.list hq
  have hsz : its.toArray.size = n := by rw [List.size_toArray, ← rv.length]; exact hl
  rw [assign_Tuple]
  refine wpAny_bind (wpAny_standAt ?_)
  unfold unpack
  rw [hn, hst, ← hsz]
  refine wpAny_bind (wpAny_holding (unpackItems_list (I.ok.hd hc) ht.isList fun h' hx => ?_))
  have I1 : Inv X pins σ H { s with heap := h' } := I.kept (t' := s.toks) fun b o e => hx b o (Nat.ne_of_lt (Heap.lt_size e)) e
  exact h pins _ σ H xs _ Q I1 (by simpa using rv) hw
end
section
theorem WalksS.shift {prog : Program} {w : World} {A : Around} {I : Addr} {fp wr : List Addr} {G : Array GenState → Array GenState → Prop} {n : Nat} {P : Nat → Value → Prop} {St : Nat → Shared → Prop}
    (W : WalksS prog w A I fp wr G n P St) (k : Nat) (hk : k ≤ n) : WalksS prog w A I fp wr G (n - k) (fun i => P (i + k)) (fun i => St (i + k)) where
  sub := W.sub
  grefl := W.grefl
  gtrans := W.gtrans
  frame := fun i s h' tk st htk hb => W.frame (i + k) s h' tk st htk hb
  item := fun i s Q E hi st hQ => W.item (i + k) s Q E (by omega) st fun v s' hP st' hm => hQ v s' hP (by rw [show i + 1 + k = i + k + 1 by omega]; exact st') hm
  done := fun s Q E st hQ => W.done s Q E (by have e : n - k + k = n := by omega
                                              rw [e] at st; exact st) hQ
  self := fun i s Q E st hQ => W.self (i + k) s Q E st hQ
variable {prog : Program} {w : World} {A : Around} {E : Value → Shared → Prop} {s : Shared}
theorem itemsOf_list {items acc : Array Value} {k n : Nat} (h : ItemsOf (fun i v => items[i + k]? = some v) acc n) (hn : n = items.size - k) : acc.toList = items.toList.drop k := by
  refine List.ext_getElem? fun j => ?_
  rw [List.getElem?_drop, Array.getElem?_toList, Array.getElem?_toList]
  by_cases hj : j < acc.size
  · rw [Array.getElem?_eq_getElem hj]
    have := h.2 j _ (Array.getElem?_eq_getElem hj)
    rw [Nat.add_comm k j, this]
  · rw [Array.getElem?_eq_none (by omega), Array.getElem?_eq_none (by have := h.1; omega)]
theorem unpackItems_star1 {l : Addr} {x : Value} {r : List Value} {Q : List Value → Shared → Prop} (hh : A.handled = none) (hl : s.heap.IsList l (x :: r).toArray) (hz : r.length ≤ 200000)
    (hQ : ∀ (h' : Heap) (tk : Nat), (∀ b o, s.heap.get? b = some o → h'.get? b = some o) → Q [x, .ref h'.objs.size] { s with heap := h'.push { cls := .type "list", data := .seq r.toArray }, toks := tk }) :
    wpAny (model prog w) A (unpackItems (.ref l) 2 (some 1)) Q E s := by
  have hls : l < s.heap.objs.size := by obtain ⟨o, ho, _⟩ := hl; exact Heap.lt_size ho
  have hlt : l ≠ s.heap.objs.size := Nat.ne_of_lt hls
  have hsz : (x :: r).toArray.size = r.length + 1 := by simp
  unfold unpackItems
  refine wpAny_bind ?_
  unfold notIterableAtAll
  refine wpAny_bind (wpAny_specialOf hl.typeIs slot_list_iter.lookup ?_)
  refine wpAny_pure ?_
  simp only [Bool.false_eq_true, if_false]
  refine wpAny_bind (wpAny_holding (wpAny_pyIter_list hl ?_))
  refine wpAny_bind (wpAny_holding (draw_list hlt 1 0 _ _ ⟨_, Heap.get?_push_size _ rfl, rfl, rfl⟩ (hl.push _) (by omega) fun h₁ hit₁ hs₁ => ?_))
  have e1 : List.take 1 (List.drop 0 (x :: r).toArray.toList) = [x] := by simp
  rw [e1]
  show wpAny _ _ (if [x].length < 1 then _ else _) _ _ _
  rw [if_neg (by simp)]
  have hl₁ : h₁.IsList l (x :: r).toArray := (hl.push _).extBut hs₁.extBut hlt
  have hsz1 : h₁.objs.size = s.heap.objs.size + 1 := by have := hs₁.1; rw [this]; exact Heap.size_push _ _
  have hneI : l ≠ s.heap.objs.size := hlt
  refine wpAny_bind (wpAny_holding (wpAny_collect_iter (T := "list_iterator") (I := s.heap.objs.size) (.inr (.inr (.inl rfl))) (WalksS.shift ((Walks.list (by simp [hh]) s.heap.objs.size l hneI (x :: r).toArray).toS) 1 (by omega)) (fun i s' st => st.1.typeIs) ⟨hit₁, hl₁⟩ ?_ (by simp) ?_ (by rw [hsz, sizeLine_eq]; omega)))
  · intro b hb
    show b < h₁.objs.size
    rw [hsz1]
    simp only [List.mem_cons, List.not_mem_nil, or_false] at hb
    rcases hb with rfl | rfl
    · exact Nat.lt_succ_self _
    · exact Nat.lt_succ_of_lt hls
  intro s' acc hm hacc
  have e2 := itemsOf_list (k := 1) hacc (by rw [hsz])
  have e3 : (x :: r).toArray.toList.drop 1 = r := by simp
  rw [e3] at e2
  rw [e2]
  show wpAny _ _ (if r.length < 0 then _ else _) _ _ _
  rw [if_neg (by omega)]
  obtain ⟨h', g', d', tk', os'⟩ := s'
  have eg : g' = s.gens := hm.gens
  have ed : d' = s.drawn := hm.drawn
  have eo : os' = s.os := hm.os
  subst eg; subst ed; subst eo
  have e4 : List.take (r.length - 0) r = r := List.take_of_length_le (by omega)
  have e5 : List.drop (r.length - 0) r = [] := List.drop_of_length_le (by omega)
  show wpAny _ _ (newList (List.take (r.length - 0) r) >>= fun v => pure ([x] ++ [v] ++ List.drop (r.length - 0) r)) _ _ _
  rw [e4, e5]
  refine wpAny_bind (wpAny_newList ?_ (by rw [sizeLine_eq]; omega))
  refine wpAny_pure (hQ h' tk' fun b o e => ?_)
  have hb := Heap.lt_size e
  refine hm.heap b o ?_ (hs₁.extBut b o (Nat.ne_of_lt hb) (Heap.get?_push_of_some _ e))
  simp only [List.mem_cons, List.not_mem_nil, or_false]
  exact Nat.ne_of_lt hb
end
section
variable {X : Cx} {pos : Pos}
/-- a, *r = a list of one or more -/
def gStar1 (K : PySem.W.Frag) (t : TGs) : TG := fun v σ H Q => ∃ a x xs, v = .ref a ∧ SqL K H a (x :: xs) ∧ xs.length ≤ 200000 ∧ ∀ p, H p = none → t [x, .ref p] σ (upd H p (.lst xs)) Q
theorem pgs_star {e : Expr} {t : TG} {u : TGs} {es : List Expr} {p : Pos} (h1 : PG X e t) (h2 : PGs X es u)
    (hs : (assignEach (.Starred e p :: es) X.env).map (·.2) = assign e X.env :: (assignEach es X.env).map (·.2) := by rfl) : PGs X (.Starred e p :: es) (gCons t u) := by
  intro pins s σ H vs us Q I r h
  obtain ⟨v, vr, e1, h⟩ := h
  subst e1
  cases r with
  | cons r rr =>
    rw [hs]
    refine assignInOrder_cons (thn (h1 pins s σ H _ _ _ I r h) fun _ s1 ⟨σ1, H1, I1, q1⟩ => ?_)
    exact h2 pins s1 σ1 H1 _ _ Q I1 rr q1
theorem pg_star1 {es : List Expr} {k : Nat} {t : TGs} (hc : X.calm = true) (h : PGs X es t)
    (hn : (assignEach es X.env).length = 2 := by rfl) (hst : (assignEach es X.env).findIdx? (·.1) = some 1 := by rfl) : PG X (.Tuple es k pos) (gStar1 X.K t) := by
  intro pins s σ H v u Q I r hw
  obtain ⟨a, x, xs, e1, hq, hl, hw⟩ := hw
  subst e1
  cases r
  obtain ⟨its, rv, ht, hz⟩ := I.list hq
  cases rv with
  | @cons _ ux _ uxs rx rxs =>
    have hxl := rxs.length
    rw [assign_Tuple]
    refine wpAny_bind (wpAny_standAt ?_)
    unfold unpack
    rw [hn, hst]
    refine wpAny_bind (wpAny_holding (unpackItems_star1 (I.ok.hd hc) ht.isList (by omega) fun h' tk hk => ?_))
    have I1 : Inv X pins σ H { s with heap := h', toks := tk } := I.kept hk
    have I2 := I1.laid (a := h'.objs.size) (o := .lst xs) (h' := h'.push { cls := .type "list", data := .seq uxs.toArray }) (t' := tk) (fun b ob q => Heap.get?_push_of_some _ q) (Nat.le_refl _) ⟨by rw [List.length_cons] at hz; omega, uxs, 0, rxs, Heap.get?_push_size _ rfl⟩
    exact h pins _ σ _ [x, .ref h'.objs.size] [ux, .ref h'.objs.size] Q I2 (.cons rx (.cons rfl .nil)) (hw _ (I1.hok.fresh (Nat.le_refl _)))
end
end TL
set_option Elab.async false
set_option linter.all false
set_option maxRecDepth 100000
set_option maxHeartbeats 4000000
namespace TL
open PySem PySem.Spec PyProof.Rows L2

/-! ### text[:-1] -/
theorem picked_init (z : Str) : (Builtin.Str.strSliceIndices none (some (-1)) 1 z.length).filterMap (z.cps[·]?) = z.cps.toList.dropLast := by
  have e : Builtin.Str.strSliceIndices none (some (-1)) 1 z.length = Builtin.Str.strSliceIndices (some ((0 : Nat) : Int)) (some ((z.length - 1 : Nat) : Int)) 1 z.length := by
    unfold Builtin.Str.strSliceIndices
    dsimp only
    have h1 : ((1 : Int) > 0) := by decide
    simp only [h1, if_true]
    have e1 : max (0 : Int) (min ((0 : Nat) : Int) (z.length : Int)) = 0 := by omega
    have e2 : (if (-1 : Int) < 0 then -1 + (z.length : Int) else -1) = (z.length : Int) - 1 := by rw [if_pos (by decide)]; omega
    have e3 : (if ((z.length - 1 : Nat) : Int) < 0 then ((z.length - 1 : Nat) : Int) + (z.length : Int) else ((z.length - 1 : Nat) : Int)) = ((z.length - 1 : Nat) : Int) := by rw [if_neg (by omega)]
    have e4 : (if ((0 : Nat) : Int) < 0 then ((0 : Nat) : Int) + (z.length : Int) else ((0 : Nat) : Int)) = 0 := by rw [if_neg (by omega)]; rfl
    rw [e2, e3, e4]
    have e5 : max (0 : Int) (min ((z.length : Int) - 1) (z.length : Int)) = max (0 : Int) (min ((z.length - 1 : Nat) : Int) (z.length : Int)) := by omega
    have e6 : max (0 : Int) (min 0 (z.length : Int)) = 0 := by omega
    rw [e5, e6]
  rw [e, PySem.StrLaws.sliced_plain z (Nat.zero_le _) (by omega), List.drop_zero, List.dropLast_eq_take]
  simp [Str.length]
section
variable {X : Cx}
def rSlInit : V → Option Int → Option Int → Hp → VK → Prop := fun x lo hi H Q => ∃ z, x = .str z ∧ lo = none ∧ hi = some (-1) ∧ z.length ≤ sizeLine ∧ Q (.str (mkS z.cps.toList.dropLast)) H
theorem sl_strInit : SlR X rSlInit := by
  intro pins s σ H x v vl vu lo hi sl Q I rx hs pl pu h
  obtain ⟨z, rfl, rfl, rfl, hz, q⟩ := h
  obtain ⟨t, rfl⟩ := rx
  cases pl
  cases pu with
  | int i tk =>
    refine ⟨"str", _, slot_str_getitem.lookup, typeIs_str _ _ _, ?_⟩
    refine wpAny_getItem_str_slice (l := none) (u := some (-1, tk)) (st := none) hs rfl ?_
    unfold sliceMade
    have e : (⟨((slicePicked z none (some (-1, tk)) none).filterMap (z.cps[·]?)).toArray⟩ : Str) = mkS z.cps.toList.dropLast := by
      unfold mkS slicePicked
      congr 2
      exact picked_init z
    rw [e]
    refine post_val_or_str ?_
    by_cases c : (((none : Option (Int × Tok)).map (·.1)).getD 1 == 1 && (slicePicked z none (some (-1, tk)) none).length == z.length) = true
    · rw [if_pos c]
      have hz0 : z = mkS z.cps.toList.dropLast := by
        have c2 : (slicePicked z none (some (-1, tk)) none).length = z.length := by
          rw [Bool.and_eq_true] at c; exact eq_of_beq c.2
        have hl : (Builtin.Str.strSliceIndices none (some (-1)) 1 z.length).length = z.length := c2
        have : z.cps.toList.dropLast.length = z.cps.toList.length → z = mkS z.cps.toList.dropLast := fun h => by
          rw [List.length_dropLast] at h
          have h0 : z.cps.toList.length = 0 := by omega
          have : z.cps.toList = [] := List.eq_nil_of_length_eq_zero h0
          rw [this]
          rw [← mkS_of z, this]; rfl
        refine this ?_
        -- as many indices as signs: then there is no sign
        have e2 : Builtin.Str.strSliceIndices none (some (-1)) 1 z.length = Builtin.Str.strSliceIndices (some ((0 : Nat) : Int)) (some ((z.length - 1 : Nat) : Int)) 1 z.length := by
          unfold Builtin.Str.strSliceIndices
          dsimp only
          have h1 : ((1 : Int) > 0) := by decide
          simp only [h1, if_true]
          have e2 : (if (-1 : Int) < 0 then -1 + (z.length : Int) else -1) = (z.length : Int) - 1 := by rw [if_pos (by decide)]; omega
          have e3 : (if ((z.length - 1 : Nat) : Int) < 0 then ((z.length - 1 : Nat) : Int) + (z.length : Int) else ((z.length - 1 : Nat) : Int)) = ((z.length - 1 : Nat) : Int) := by rw [if_neg (by omega)]
          have e4 : (if ((0 : Nat) : Int) < 0 then ((0 : Nat) : Int) + (z.length : Int) else ((0 : Nat) : Int)) = 0 := by rw [if_neg (by omega)]; rfl
          rw [e2, e3, e4]
          have e5 : max (0 : Int) (min ((z.length : Int) - 1) (z.length : Int)) = max (0 : Int) (min ((z.length - 1 : Nat) : Int) (z.length : Int)) := by omega
          have e6 : max (0 : Int) (min 0 (z.length : Int)) = 0 := by omega
          rw [e5, e6]
        rw [e2, PySem.StrLaws.strSliceIndices_plain (Nat.zero_le _) (by omega), List.length_map, List.length_range] at hl
        have hzl : z.cps.toList.length = z.length := by simp [Str.length]
        rw [List.length_dropLast]
        omega
      rw [← hz0] at q
      exact ⟨hz, fun t' k => ⟨.str z, H, I.tok _, ⟨_, rfl⟩, q⟩⟩
    · rw [if_neg c]
      refine ⟨?_, fun t' k => ⟨.str _, H, I.tok _, ⟨_, rfl⟩, q⟩⟩
      rw [mkS_len, List.length_dropLast]
      have hzl : z.cps.toList.length = z.length := by simp [Str.length]
      omega
end

/-! ### for c in text -/
def Its (x : Str) : It := ⟨fun i _ => i < x.cps.size, fun i H v H' => H' = H ∧ ∃ c, x.cps[i]? = some c ∧ v = .str ⟨#[c]⟩, fun i _ => x.cps.size ≤ i⟩
theorem turn_strA {P : Program} {w : World} {K : PySem.W.Frag} {tg : Expr} (x : Str) (t : Tok) (it : Addr) : Turn P w K tg (Its x) [it] it (fun i h => h.IsStrIter it "str_ascii_iterator" x t i) where
  mem := by simp
  obj := fun i h st b hb => by
    have e : b = it := by simpa using hb
    subst e
    obtain ⟨o, e, c, d⟩ := st
    exact ⟨o, e, fun v z => by rw [d] at z; cases z⟩
  keep := fun i h h' st k => let ⟨o, ho, r⟩ := st; ⟨o, k it (by simp) o ho, r⟩
  item := by
    intro X hP hw hK hc i pins s σ H E I hf st hg
    subst hP hw hK
    have hg : i < x.cps.size := hg
    obtain ⟨f0, f1, f2, f3, f4, f5⟩ := hf it (by simp)
    refine wpAny_pyNext_ascii_item st (c := x.cps[i]) (by simp [hg]) fun h' st' sb => ?_
    have I1 : Inv X pins σ H { s with heap := h', toks := s.toks + 1 } := I.turned (t' := s.toks + 1) (fun b o hb e => (sb.2 b hb).trans e) f0 f1 f3 f4 f5
    obtain ⟨o, e, c, d⟩ := id st'
    exact ⟨_, rfl, go_of (s := { s with heap := h', toks := s.toks + 1 }) e c d (by decide) ⟨.str ⟨#[x.cps[i]]⟩, H, I1, ⟨_, rfl⟩, ⟨rfl, _, by simp [hg], rfl⟩, st', fun b hb => (hf b hb).1⟩⟩
  done := by
    intro X hP hw hK hc i pins s σ H E I hf st hg
    subst hP hw hK
    have hg : x.cps.size ≤ i := hg
    obtain ⟨f0, f1, f2, f3, f4, f5⟩ := hf it (by simp)
    exact wpAny_pyNext_ascii_end (I.ok.hd hc) st (by simp [hg]) fun h' eb => ⟨rfl, I.turned (t' := s.toks) (fun b o hb e => eb b o hb e) f0 f1 f3 f4 f5⟩
  self := fun _ _ _ _ _ st h => wpAny_pyIter_striter_ascii st h
theorem turn_strW {P : Program} {w : World} {K : PySem.W.Frag} {tg : Expr} (x : Str) (t : Tok) (it : Addr) : Turn P w K tg (Its x) [it] it (fun i h => h.IsStrIter it "str_iterator" x t i) where
  mem := by simp
  obj := fun i h st b hb => by
    have e : b = it := by simpa using hb
    subst e
    obtain ⟨o, e, c, d⟩ := st
    exact ⟨o, e, fun v z => by rw [d] at z; cases z⟩
  keep := fun i h h' st k => let ⟨o, ho, r⟩ := st; ⟨o, k it (by simp) o ho, r⟩
  item := by
    intro X hP hw hK hc i pins s σ H E I hf st hg
    subst hP hw hK
    have hg : i < x.cps.size := hg
    obtain ⟨f0, f1, f2, f3, f4, f5⟩ := hf it (by simp)
    refine wpAny_pyNext_wide_item st (c := x.cps[i]) (by simp [hg]) fun h' st' sb => ?_
    have I1 : Inv X pins σ H { s with heap := h', toks := s.toks + 1 } := I.turned (t' := s.toks + 1) (fun b o hb e => (sb.2 b hb).trans e) f0 f1 f3 f4 f5
    obtain ⟨o, e, c, d⟩ := id st'
    exact ⟨_, rfl, go_of (s := { s with heap := h', toks := s.toks + 1 }) e c d (by decide) ⟨.str ⟨#[x.cps[i]]⟩, H, I1, ⟨_, rfl⟩, ⟨rfl, _, by simp [hg], rfl⟩, st', fun b hb => (hf b hb).1⟩⟩
  done := by
    intro X hP hw hK hc i pins s σ H E I hf st hg
    subst hP hw hK
    have hg : x.cps.size ≤ i := hg
    obtain ⟨f0, f1, f2, f3, f4, f5⟩ := hf it (by simp)
    exact wpAny_pyNext_wide_end (I.ok.hd hc) st (by simp [hg]) fun h' eb => ⟨rfl, I.turned (t' := s.toks) (fun b o hb e => eb b o hb e) f0 f1 f3 f4 f5⟩
  self := fun _ _ _ _ _ st h => wpAny_pyIter_striter_wide st h
section
variable {X : Cx} {tg e : Expr} {te : TE}
def iStr (te : TE) : TI := fun σ H R => te σ H fun v H1 => ∃ x, v = .str x ∧ R (Its x) H1
theorem pi_str (he : PE X e te) : PI X tg e (iStr te) := by
  intro pins s σ H R I h
  refine thn (he pins s σ H _ I h) fun u s1 ⟨v, H1, I1, r, x, ex, q⟩ => ?_
  subst ex
  obtain ⟨t, rfl⟩ := r
  have fp : ∀ (o : Obj) (b : Addr), b ∈ [s1.heap.objs.size] → FpOk X pins H1 b := fun o b hb => by
    have e : b = s1.heap.objs.size := by simpa using hb
    subst e
    exact I1.fpOk (Nat.le_refl _) (I1.hok.fresh (Nat.le_refl _))
  cases ha : x.cps.all (· < 128)
  · refine wpAny_pyIter_wide ha ?_
    exact ⟨s1.heap.objs.size, [s1.heap.objs.size], _, _, H1, rfl, I1.kept (t' := s1.toks) (fun b o e => Heap.get?_push_of_some _ e), turn_strW x t _, ⟨_, Heap.get?_push_size _ rfl, rfl, rfl⟩, fp default, q⟩
  · refine wpAny_pyIter_ascii ha ?_
    exact ⟨s1.heap.objs.size, [s1.heap.objs.size], _, _, H1, rfl, I1.kept (t' := s1.toks) (fun b o e => Heap.get?_push_of_some _ e), turn_strA x t _, ⟨_, Heap.get?_push_size _ rfl, rfl, rfl⟩, fp default, q⟩
theorem js_str {x : Str} {H1 : Hp} : JS (Its x) x.cps.size H1 (fun i v => ∃ c, x.cps[i]? = some c ∧ v = .str ⟨#[c]⟩) :=
  ⟨fun i H s hi => hi, fun i H v H' s hi y => y, fun H s => Nat.le_refl _⟩
end
/-! ### int(text) -/
theorem call_intT {X : Cx} : CallR X (.type "int") (fun xs H Q => ∃ z n, xs = [.str z] ∧ PySem.intText? z = some n ∧ z.length ≤ 640 ∧ Q (.int n) H) := by
  intro pins s σ H xs us Q I r h
  obtain ⟨z, n, rfl, hn, hl, q⟩ := h
  obtain ⟨u, rfl, ru⟩ := vals1 r
  obtain ⟨t, rfl⟩ := ru
  exact PySem.W.KIN.call_text hn hl ⟨.int n, H, I.tok _, ⟨_, rfl⟩, q⟩
end TL
set_option Elab.async false
set_option linter.all false
set_option maxRecDepth 100000
set_option maxHeartbeats 4000000
namespace TL
open PySem PySem.Spec PyProof.Rows L2

/-! ### parted by a sign, and put together again -/
def chS (c : Nat) : Str := ⟨#[c]⟩
theorem join_cons2 (sep a b : Str) (r : List Str) : Str.join sep (a :: b :: r) = a ++ sep ++ Str.join sep (b :: r) := rfl
theorem join_one (sep a : Str) : Str.join sep [a] = a := rfl
theorem cps_app (a b : Str) : (a ++ b).cps.toList = a.cps.toList ++ b.cps.toList := by rw [Str.cps_append, Array.toList_append]
theorem str_ext {a b : Str} (h : a.cps.toList = b.cps.toList) : a = b := by rw [← mkS_of a, h, mkS_of]
theorem free_cut {c : Nat} : ∀ {a b x y : List Nat}, c ∉ a → c ∉ b → a ++ c :: x = b ++ c :: y → a = b ∧ x = y
  | [], [], x, y, _, _, h => ⟨rfl, by injection h⟩
  | [], q :: b, x, y, _, hb, h => by
    injection h with h1 _
    exact absurd (by rw [h1]; exact List.mem_cons_self) hb
  | p :: a, [], x, y, ha, _, h => by
    injection h with h1 _
    exact absurd (by rw [← h1]; exact List.mem_cons_self) ha
  | p :: a, q :: b, x, y, ha, hb, h => by
    injection h with h1 h2
    obtain ⟨e1, e2⟩ := free_cut (fun z => ha (List.mem_cons_of_mem _ z)) (fun z => hb (List.mem_cons_of_mem _ z)) h2
    exact ⟨by rw [h1, e1], e2⟩
theorem join_uniq {c : Nat} : ∀ {ws vs : List Str}, ws ≠ [] → vs ≠ [] → (∀ w ∈ ws, c ∉ w.cps.toList) → (∀ v ∈ vs, c ∉ v.cps.toList) → Str.join (chS c) ws = Str.join (chS c) vs → ws = vs
  | [], _, h, _, _, _, _ => absurd rfl h
  | _, [], _, h, _, _, _ => absurd rfl h
  | [w], [v], _, _, _, _, h => by rw [join_one, join_one] at h; rw [h]
  | [w], v :: v' :: vs, _, _, hw, _, h => by
    rw [join_one, join_cons2] at h
    refine absurd ?_ (hw w List.mem_cons_self)
    rw [h, cps_app, cps_app]
    exact List.mem_append_left _ (List.mem_append_right _ (by show c ∈ [c]; simp))
  | w :: w' :: ws, [v], _, _, _, hv, h => by
    rw [join_one, join_cons2] at h
    refine absurd ?_ (hv v List.mem_cons_self)
    rw [← h, cps_app, cps_app]
    exact List.mem_append_left _ (List.mem_append_right _ (by show c ∈ [c]; simp))
  | w :: w' :: ws, v :: v' :: vs, _, _, hw, hv, h => by
    rw [join_cons2, join_cons2] at h
    have h2 : (w ++ chS c ++ Str.join (chS c) (w' :: ws)).cps.toList = (v ++ chS c ++ Str.join (chS c) (v' :: vs)).cps.toList := by rw [h]
    rw [cps_app, cps_app, cps_app, cps_app, List.append_assoc, List.append_assoc] at h2
    obtain ⟨e1, e2⟩ := free_cut (hw w List.mem_cons_self) (hv v List.mem_cons_self) (show w.cps.toList ++ c :: _ = v.cps.toList ++ c :: _ from h2)
    have := join_uniq (c := c) (ws := w' :: ws) (vs := v' :: vs) (by simp) (by simp) (fun x hx => hw x (List.mem_cons_of_mem _ hx)) (fun x hx => hv x (List.mem_cons_of_mem _ hx)) (str_ext e2)
    rw [str_ext e1, this]
theorem split_ne (x : Str) (c : Nat) : Txt.split x (chS c) ≠ [] := by
  unfold Txt.split
  split
  · simp
  · split
    · simp
    · rw [PySem.StrLaws.partsBetween_eq]
      obtain ⟨p, r, e⟩ := PySem.StrLaws.partsFrom_ne x (chS c).length 0 (Builtin.Str.occurrences x (chS c) 0 x.length (x.length + 1))
      rw [e]; simp
theorem split_join {c : Nat} {ws : List Str} (h0 : ws ≠ []) (h : ∀ w ∈ ws, c ∉ w.cps.toList) : Txt.split (Str.join (chS c) ws) (chS c) = ws :=
  join_uniq (split_ne _ c) h0 (PySem.StrLaws.split_free _ c) h (PySem.StrLaws.join_split _ (chS c))
theorem join_snoc (sep w : Str) : ∀ {ws : List Str}, ws ≠ [] → Str.join sep (ws ++ [w]) = Str.join sep ws ++ sep ++ w
  | [], h => absurd rfl h
  | [a], _ => rfl
  | a :: b :: r, _ => by
    show Str.join sep (a :: b :: (r ++ [w])) = _
    rw [join_cons2, join_cons2]
    have := join_snoc sep w (ws := b :: r) (by simp)
    rw [show b :: (r ++ [w]) = (b :: r) ++ [w] from rfl, this]
    simp only [Str.append_assoc]

/-! ### numbers and ends as texts -/
def isDig (c : Nat) : Bool := decide (48 ≤ c ∧ c ≤ 57)
def rdNum (l : List Nat) : Option Int :=
  if l = [] ∨ 40 < l.length then none else if l.all isDig = false then none else if l.head? = some 48 ∧ l ≠ [48] then none else some ((NumText.digitsVal l : Nat) : Int)
def rdEnd (l : List Nat) : Option Int := (rdNum l.dropLast).bind fun n => if l.getLast? = some 60 then some (2 * n) else if l.getLast? = some 62 then some (2 * n + 1) else none
def txN (n : Int) : Str := Str.ofString (toString n)
def txE (e : Int) : Str := txN (e / 2) ++ chS (if e % 2 = 0 then 60 else 62)
theorem txN_cps {n : Int} (h : 0 ≤ n) : (txN n).cps.toList = (Nat.toDigits 10 n.toNat).map Char.toNat := by
  have := PySem.W.KIN.signs_num n.toNat
  rw [show ((n.toNat : Nat) : Int) = n by omega] at this
  exact this
theorem dig_small : ∀ m, m < 41 → rdNum ((Nat.toDigits 10 m).map Char.toNat) = some (m : Int) ∧ ((Nat.toDigits 10 m).map Char.toNat).all isDig = true ∧ ((Nat.toDigits 10 m).map Char.toNat).length ≤ 2 := by decide +kernel
theorem txN_rd {n : Int} (h0 : 0 ≤ n) (h1 : n < 41) : rdNum (txN n).cps.toList = some n ∧ (txN n).cps.toList.all isDig = true ∧ (txN n).length ≤ 2 := by
  obtain ⟨a, b, c⟩ := dig_small n.toNat (by omega)
  have e := txN_cps h0
  refine ⟨by rw [e, a]; congr 1; omega, by rw [e]; exact b, ?_⟩
  have : (txN n).length = (txN n).cps.toList.length := by simp [Str.length]
  rw [this, e]; exact c
theorem txE_rd {e : Int} (h0 : 0 ≤ e) (h1 : e < 82) : rdEnd (txE e).cps.toList = some e ∧ (∀ c ∈ (txE e).cps.toList, 48 ≤ c ∧ c ≤ 62) ∧ (txE e).length ≤ 3 := by
  obtain ⟨a, b, c⟩ := txN_rd (n := e / 2) (by omega) (by omega)
  have ec : (txE e).cps.toList = (txN (e / 2)).cps.toList ++ [if e % 2 = 0 then 60 else 62] := by unfold txE; rw [cps_app]; rfl
  refine ⟨?_, fun d hd => ?_, ?_⟩
  · unfold rdEnd
    rw [ec, List.dropLast_concat, a]
    show (if _ then _ else _) = _
    rw [List.getLast?_concat]
    by_cases z : e % 2 = 0
    · rw [if_pos z, if_pos rfl]; congr 1; omega
    · rw [if_neg z, if_neg (by decide), if_pos rfl]; congr 1; omega
  · rw [ec] at hd
    rcases List.mem_append.mp hd with z | z
    · have := List.all_eq_true.mp b d z
      unfold isDig at this
      have := of_decide_eq_true this
      omega
    · have z : d = if e % 2 = 0 then 60 else 62 := by simpa using z
      rw [z]; split <;> omega
  · unfold txE
    rw [Str.length_append]
    show _ + 1 ≤ 3
    omega
end TL
set_option Elab.async false
set_option linter.all false
set_option maxRecDepth 100000
set_option maxHeartbeats 4000000
namespace TL
open PySem PySem.Spec PyProof.Rows L2
/-! ### isinstance of any tuple, of any list -/
section
variable {X : Cx}
end
theorem none_back {H H' : Hp} (s : Same H H') {q : Addr} (h : H' q = none) : H q = none := by
  cases q0 : H q with
  | none => rfl
  | some o => rw [s _ _ q0] at h; cases h
theorem part_len {sep : Str} : ∀ {ws : List Str} {x : Str}, x ∈ ws → x.length ≤ (Str.join sep ws).length
  | [], _, h => nomatch h
  | [a], x, h => by
    have h : x = a := by simpa using h
    rw [h]; exact Nat.le_refl _
  | a :: b :: r, x, h => by
    rw [join_cons2, Str.length_append, Str.length_append]
    rcases List.mem_cons.mp h with rfl | h
    · omega
    · have := part_len (sep := sep) h
      omega
end TL
set_option Elab.async false
set_option linter.all false
set_option maxRecDepth 100000
set_option maxHeartbeats 4000000
namespace TL
open PySem PySem.Spec PyProof.Rows PySem.W L2

/-! ### an exception that flies out of a comprehension -/
theorem noteFrame_env {e : Value} {env env' : Env} (h : env.frame = env'.frame) : noteFrame e env = noteFrame e env' := by
  unfold noteFrame PySem.frameOf
  rw [h]
structure FlH (P : Program) (w : World) (base : Heap) (l : List Env) (H H1 : Hp) (h0 : Heap) (e C L : Addr) (B h : Heap) : Prop extends Fl0 P w base l H H1 h0 B h where
  held : ∃ a0, Heap.HeldW B l e (.ref C) a0 L h
section
variable {X : Cx} {pins : List (Addr × Obj)} {σ : St} {H H1 : Hp} {s s' : Shared} {e C : Addr} {B : Heap}
theorem pass_flH {M : Model} {E : Value → Shared → Prop} {Q : Unit → Shared → Prop} (I : Inv X pins σ H s) (hst : X.stack = X.env :: X.outer) (hf : X.env.frame = some X.env.locals) (hex : X.ex = [])
    (ho : s'.os = s.os) (hg : AllBare s'.gens) (x : FlH X.prog X.w X.base X.stack H H1 s.heap e C X.env.locals B s'.heap) (hQ : ∀ B h'', Fl X.prog X.w X.base X.outer X.H₀ H1 X.s₀.heap e C B h'' → Q () { s' with heap := h'' }) :
    wpAny M X.A (leaving X.env (.ref e)) Q E s' := by
  obtain ⟨a0, f⟩ := x.held
  have J : Inv X pins σ H1 s' := I.call' (ch := []) ho x.un (x.hok.kept f.1) hg (fun b z => absurd z (by simp))
  have nb : ∀ b, b ≠ X.env.locals → b ∉ X.fs → b ∉ frs X.stack := fun b h1 h2 hb => (List.mem_cons.mp (I.stkSub b hb)).elim h1 h2
  have neL : ∀ b o, X.s₀.heap.get? b = some o → b ≠ X.env.locals := fun b o e => Nat.ne_of_lt (Nat.lt_of_lt_of_le (Heap.lt_size e) I.ok.above)
  have ub : Un X.fs [] X.H₀ H X.s₀.heap s.heap := by have := I.base; rw [hex] at this; exact this
  have uj : Un X.fs [] X.H₀ H1 X.s₀.heap s'.heap := by have := J.base; rw [hex] at this; exact this
  have z0 : Fl0 X.prog X.w X.base X.outer X.H₀ H1 X.s₀.heap B s'.heap := by
    refine ⟨x.bas, x.hok, fun b o q n hb => x.kp b o (ub.keep b o q n hb (by simp)) (ub.free b o q n (by simp)) (nb b (neL b o q) hb), fun b o q hb => ?_, uj⟩
    obtain ⟨o', e1⟩ := ub.there b o q (by simp)
    exact x.thr b o' e1 (nb b (neL b o q) hb)
  rw [hst] at f
  have ff : s'.heap.FunFrames B X.outer := f.2.2.1.2.2
  unfold leaving
  refine wpAny_bind (wpAny_noteFrame_againW hf f.2.2.2 ?_)
  refine wpAny_landsW f fun h'' hfl sm => ?_
  obtain ⟨k1, k2, ⟨_, _, k3⟩, k4⟩ := hfl
  exact hQ B h'' ⟨z0.step k1 ff k3 sm, a0, k1, k2, k3, k4⟩
end
/-- what a def wants of an exception that a comprehension of its passes on -/
def PassH (X : Cx) (E : XK) : Prop := X.stack = X.env :: X.outer ∧ X.env.frame = some X.env.locals ∧ ∀ (pins : List (Addr × Obj)) (σ : St) (H : Hp) (s s' : Shared) (e C : Addr) (H1 : Hp) (B : Heap), Inv X pins σ H s → s'.os = s.os → AllBare s'.gens →
  FlH X.prog X.w X.base X.stack H H1 s.heap e C X.env.locals B s'.heap → E (.ref C) (some e) H1 → X.xe (.ref e) s'
theorem passH_cx {P : Program} {w : World} {K : PySem.W.Frag} {mg : Str → Option Value} {base : Heap} {N : List Str} {qual : Str} {scope : Scope} {f : Addr} {cd : Value} {A : Around} {outer : List Env} {s₀ : Shared} {H₀ : Hp} {E : XK} :
    PassH (cxOf (CXr P w base) P w K mg base N qual scope f cd A outer s₀ H₀ E) E :=
  ⟨rfl, rfl, fun pins σ H s s' e C H1 B I ho hg x q => pass_flH I rfl rfl rfl ho hg x fun B' h'' z' => ⟨e, C, H1, B', rfl, ho.trans I.os, hg, z', q⟩⟩

/-! ### the loop -/
section
variable {prog : Program} {w : World} {A : Around} {R : Result → Shared → Prop} {s : Shared} {XE : Value → Shared → Prop}
theorem compLoop_goX {elt target iter : Expr} {ifs : List Expr} {scope : Scope} {pos : Pos} {it acc : Value} {env : Env} (I : Nat → Shared → Prop) (err : ∀ x s', XE x s' → notedBy (model prog w) A env (fun x s'' => R (.error x) s'') x s')
    (turn : ∀ n s, I n s → wpAny (model prog w) A (pyNext it) (fun r s₁ => match r with
      | none => R (.ok .next) s₁
      | some v => wpAny (model prog w) A (letOwnedTupleGo target it v) (fun _ s₀ => wpAny (model prog w) A (assign target env v) (fun _ s₂ =>
          wpAny (model prog w) A (testsOf ifs env) (fun ok s₃ =>
            if ok = true then wpAny (model prog w) A (eval elt env) (fun x s₄ =>
              wpAny (model prog w) A (call (.builtin "list.append") [acc, x]) (fun _ s₅ => ∃ m, m < n ∧ I m s₅) XE s₄) XE s₃
            else ∃ m, m < n ∧ I m s₃) XE s₂) XE s₀) XE s₁) XE s)
    (n : Nat) (h : I n s) :
    codeAny (model prog w) A (.compLoop (.ListComp elt [⟨target, iter, ifs, 0⟩] scope pos) 0 it acc env) R s := by
  refine codeAny_loop rfl I (fun n s hI => ?_) n h
  show wpAny _ A ((compTurn (.ListComp elt [⟨target, iter, ifs, 0⟩] scope pos) 0 it acc env).onRaise (fun x => do noteFrame x env; theTreesLotGoes x)) _ _ s
  refine wpAny_noted ?_
  rw [compTurn_list]
  refine wpAny_bind (wpAny_standAt (wpAny_bind (wpAny_mono (turn n s hI) (fun r s₁ h₁ => ?_) err)))
  cases r with
  | none => exact wpAny_pure h₁
  | some v =>
    refine wpAny_bind (wpAny_mono h₁ (fun _ s₀ h₀ => ?_) err)
    refine wpAny_bind (wpAny_mono h₀ (fun _ s₂ h₂ => wpAny_bind (wpAny_mono h₂ (fun ok s₃ h₃ => ?_) err)) err)
    cases ok with
    | false => exact wpAny_pure ⟨rfl, h₃⟩
    | true =>
      exact wpAny_bind (wpAny_bind (wpAny_mono h₃ (fun x s₄ h₄ => wpAny_bind (wpAny_mono h₄ (fun _ s₅ h₅ => wpAny_pure (wpAny_pure ⟨rfl, h₅⟩)) err)) err))
end

/-! ### the whole comprehension -/
section
variable {M : Model} {A : Around} {E : Value → Shared → Prop} {s : Shared} {env : Env}
def compPostX (M : Model) (A : Around) (E : Value → Shared → Prop) (Q : Value → Shared → Prop) (acc : Value) (cenv : Env) (r : Result) (s' : Shared) : Prop :=
  match r with
  | .ok _ => ∃ m, s'.heap.Ns cenv.locals m ∧ ∀ h', Heap.SameBut cenv.locals s'.heap h' → Q acc { s' with heap := h' }
  | .error x => ∃ m, s'.heap.Ns cenv.locals m ∧ ∀ h', Heap.SameBut cenv.locals s'.heap h' → wpAny M A (passOn "comprehension.variables-let-go" x cenv : Sem Value) (fun _ _ => False) E { s' with heap := h' }
theorem comprehension_freeX {e : Expr} {scope : Scope} {pos : Pos} {newAcc first : Sem Value} {g : Comprehension} {gs : List Comprehension} {cl : List (Str × Addr)} {Q : Value → Shared → Prop}
    (hcl : clausesOf e = g :: gs) (hs : ∀ x, foldedSetIterable g.iter env x = pure x) (hclos : closureFor scope env = pure cl)
    (hkind : scope.kind = .function) (hnames : ∀ x ∈ scope.names, x.2 = .local → scope.names.lookup x.1 = some .local)
    (h : wpAny M A first (fun x s₁ => wpAny M A (pyIter x) (fun it s₂ => wpAny M A newAcc (fun acc s₃ =>
      wpAny M A (newFunctionEnv scope env.globals cl [] env.qual none .none (some env)) (fun cenv s₄ =>
        codeAny M A (.compStart e 0 it acc { cenv with scope := relabel scope env }) (compPostX M A E Q acc { cenv with scope := relabel scope env }) s₄) E s₃) E s₂) E s₁) E s) :
    wpAny M A (comprehension e scope env pos newAcc false first none) Q E s := by
  unfold comprehension
  rw [hclos, hcl]
  refine wpAny_bind (wpAny_mono h (fun x s₁ h₁ => wpAny_bind (wpAny_standAt (wpAny_bind (wpAny_of_eq (hs x) (wpAny_bind (wpAny_holding (wpAny_mono h₁ (fun it s₂ h₂ =>
    wpAny_standIf (wpAny_bind (wpAny_mono h₂ (fun acc s₃ h₃ => wpAny_bind (wpAny_pure (wpAny_bind (wpAny_mono h₃ (fun cenv s₄ h₄ => ?_) fun _ _ h' => h')))) fun _ _ h' => h')))
      fun _ _ h' => h'))))))) fun _ _ h' => h')
  dsimp only
  have hv : ∀ x ∈ (scope.names.filter fun x => (x.2 == .local || x.2 == .cell) && x.1 != (".0" : Str)).reverse, x.2 = .local →
      Env.kindOf { cenv with scope := relabel scope env } x.1 = some .local := fun x hx hl => lookup_relabel_local (hnames x (List.mem_filter.mp (List.mem_reverse.mp hx)).1 hl)
  refine wpAny_holding (wpAny_bind (wpAny_attempt (wpAny_holding (wpAny_run (codeAny_mono h₄ fun r s' hr => ?_)))))
  cases r with
  | ok f =>
    obtain ⟨m, hn, hr⟩ := hr
    exact wpAny_bind (wpAny_holding (wpAny_comp_letGo (cenv := { cenv with scope := relabel scope env }) hkind _ s' m hv hn fun h' m' _ hs' => wpAny_pure (hr h' hs')))
  | error x =>
    obtain ⟨m, hn, hr⟩ := hr
    exact wpAny_bind (wpAny_holding (wpAny_comp_letGo (cenv := { cenv with scope := relabel scope env }) hkind _ s' m hv hn fun h' m' _ hs' => wpAny_mono (hr h' hs') (fun _ _ f => f.elim) fun _ _ y => y))
end
end TL
set_option Elab.async false
set_option linter.all false
set_option maxRecDepth 100000
set_option maxHeartbeats 4000000
namespace TL
open PySem PySem.Spec PyProof.Rows PySem.W L2
theorem funFrames_to {h h' base base' : Heap} (k : ∀ b, base.get? b = none → base'.get? b = none) : ∀ {l : List Env}, h.FunFrames base l → (∀ b ∈ frs l, h'.get? b = h.get? b) → h'.FunFrames base' l
  | [], _, _ => trivial
  | env :: r, ⟨hk, ⟨L, o, hf, hn, ho, hd⟩, hr⟩, hs => by
    have hL : L ∈ frs (env :: r) := by unfold frs; rw [List.filterMap_cons, hf]; exact List.mem_cons_self
    refine ⟨hk, ⟨L, o, hf, k L hn, (hs L hL).trans ho, hd⟩, funFrames_to k hr fun b hb => hs b ?_⟩
    unfold frs at hb ⊢
    rw [List.filterMap_cons, hf]
    exact List.mem_cons_of_mem _ hb
theorem setFlight_heldW {M : Model} {A : Around} {E : Value → Shared → Prop} {s : Shared} {base : Heap} {l : List Env} {e L : Addr} {cls a0 : Value} {Q : Unit → Shared → Prop} (R : Heap.HeldW base l e cls a0 L s.heap)
    (h : ∀ h', Heap.HeldW base l e cls a0 L h' → s.heap.UpToSlots h' → Q () { s with heap := h' }) : wpAny M A (setFlight (.ref e) (some L)) Q E s := by
  obtain ⟨hkb, hen, hl, oe, vs, T, oT, ts, he, hcls, hd, h1, hnT, hTe, hT, hdT, h3⟩ := R
  have hsz3 : 3 < ts.size := (Array.getElem?_eq_some_iff.mp h3).1
  have other : ∀ b, b ≠ T → (s.heap.update T (Obj.mapFields (·.setIfInBounds 3 ((some L).elim Value.none fun f => rawInt f)))).get? b = s.heap.get? b :=
    fun b hb => Heap.get?_update_other _ _ (Ne.symm hb)
  have noRecord : ∀ b o, s.heap.get? b = some o → (∀ vs, o.data ≠ .fields vs) → b ≠ T := fun b o hb hnf q => by
    rw [q, hT] at hb; injection hb with hb; subst hb; exact hnf ts hdT
  unfold setFlight
  refine wpAny_bind (wpAny_field he hd h1 ?_)
  rw [if_pos (show (Value.ref T != Value.none) = true from by simp)]
  refine wpAny_setField hT hdT hsz3 (h _ ⟨fun b o hbo => (other b fun q => by rw [q, hnT] at hbo; cases hbo).trans (hkb b o hbo), hen,
    hl.of_keeps fun b o hb hnf => ⟨o, (other b (noRecord b o hb hnf)).trans hb, rfl⟩, ?_⟩ fun b o hb hnf => ⟨o.slots, (other b (noRecord b o hb hnf)).trans hb⟩)
  exact ⟨oe, vs, T, _, _, (other e (Ne.symm hTe)).trans he, hcls, hd, h1, hnT, hTe, Heap.get?_update_self _ hT (Obj.isFreed_of_fields (Obj.data_mapFields hdT _)), Obj.data_mapFields hdT _, by simp [hsz3]⟩
theorem passOn_heldW {M : Model} {A : Around} {E : Value → Shared → Prop} {s : Shared} {base : Heap} {l : List Env} {env : Env} {what : String} {e L : Addr} {cls a0 : Value} {Q : Value → Shared → Prop} (R : Heap.HeldW base l e cls a0 L s.heap) (hf : env.frame = some L)
    (h : ∀ h', Heap.HeldW base l e cls a0 L h' → s.heap.UpToSlots h' → E (.ref e) { s with heap := h' }) : wpAny M A (passOn what (.ref e) env : Sem Value) Q E s := by
  obtain ⟨_, _, _, oe, vs, T, oT, ts, he, _, hd, h1, _⟩ := id R
  unfold PySem.passOn
  refine wpAny_bind (wpAny_field he hd h1 ?_)
  rw [if_neg (show ¬ ((Value.ref T == Value.none) = true) from by simp), hf]
  first
    | exact wpAny_bind (setFlight_heldW R fun h' hh sm => wpAny_throw (h h' hh sm))
    | exact wpAny_bind (wpAny_pure (wpAny_bind (setFlight_heldW R fun h' hh sm => wpAny_throw (h h' hh sm))))
section
variable {X : Cx} {pins : List (Addr × Obj)} {σ : St} {H H3 : Hp} {s s3 : Shared} {scope : Scope} {N : List Str} {own : Nat} {cap : List (Option Nat)} {cl : List (Str × Addr)} {fp : List Addr} {E : XK}
def XC (X : Cx) (scope : Scope) (cl : List (Str × Addr)) (N : List Str) (fp : List Addr) (s3 : Shared) (H3 : Hp) (E : XK) : Value → Shared → Prop := fun ev s' => ∃ (pins' : List (Addr × Obj)) (σ' : St) (H' : Hp) (s0 : Shared), Inv (cxComp X scope cl N fp s3 H3) pins' σ' H' s0 ∧ CXr X.prog X.w X.base X.stack H' s0 E ev s'
abbrev cxCompX (X : Cx) (scope : Scope) (cl : List (Str × Addr)) (N : List Str) (fp : List Addr) (s3 : Shared) (H3 : Hp) (E : XK) : Cx := (cxComp X scope cl N fp s3 H3).wish (XC X scope cl N fp s3 H3 E)
theorem passes_comp : Passes (CXr X.prog X.w X.base) (cxCompX X scope cl N fp s3 H3 E) E := fun pins σ H s e s' I hx => ⟨pins, σ, H, s, I.unwish, hx⟩
theorem comp_error {ev : Value} {s' : Shared} {acc : Value} {Q : Value → Shared → Prop} (I3 : Inv X pins σ H3 s3) (f3 : ∀ b ∈ fp, FpOk X pins H3 b) (pH : PassH X E) (hx : XC X scope cl N fp s3 H3 E ev s') :
    notedBy (model X.prog X.w) X.A (compEnvC scope cl s3.heap.objs.size X.env) (fun x s'' => compPostX (model X.prog X.w) X.A X.xe Q acc (compEnvC scope cl s3.heap.objs.size X.env) (.error x) s'') ev s' := by
  obtain ⟨pins', σ', H', s0, I', e, C, H1, B, rfl, ho, hg, z, q⟩ := hx
  have J : Inv X pins σ H' s0 := comp_back I3 f3 I'
  obtain ⟨hst, hfr, pass⟩ := pH
  obtain ⟨a0, fl⟩ := z.fly
  have hF : X.A.frames = some (X.env :: X.outer) := by rw [← hst]; exact J.ok.frames
  unfold notedBy
  rw [noteFrame_env (env := compEnvC scope cl s3.heap.objs.size X.env) (env' := X.env) rfl]
  have fl' := fl
  rw [hst] at fl'
  refine wpAny_looks_onW hF hfr fl' fun h1 held sm => ?_
  rw [← hst] at held
  have hCs : s3.heap.objs.size ∉ frs X.stack := fun hm => by
    obtain ⟨_, o, ho, _⟩ := I3.stack.mem hm
    exact absurd (Heap.lt_size ho) (Nat.lt_irrefl _)
  obtain ⟨m, hns, _⟩ := I'.loc
  have hns : s0.heap.Ns s3.heap.objs.size m := hns
  obtain ⟨oC, es, ep, hoC, hdC, hrC⟩ := id hns
  have hfC : H' s3.heap.objs.size = none := I'.free
  have hC' := z.un.keep _ oC hoC hfC hCs (by simp)
  have hns' : s'.heap.Ns s3.heap.objs.size m := ⟨oC, es, ep, hC', hdC, hrC⟩
  have hns1 := sm.ns hns'
  have hH1 : H1 s3.heap.objs.size = none := z.un.free _ oC hoC hfC (by simp)
  refine ⟨m, hns1, fun h' sb => ?_⟩
  have z1 : Fl0 X.prog X.w X.base X.stack H' H1 s0.heap B h1 := z.toFl0.step held.1 fl.2.2.1 held.2.2.1 sm
  have sbn : ∀ b, b ≠ s3.heap.objs.size → h'.get? b = h1.get? b := sb.2
  have hid : ∀ (g : Heap) b o, (g.hide s3.heap.objs.size).get? b = some o → g.get? b = some o ∧ b ≠ s3.heap.objs.size := fun g b o q => ⟨Heap.of_hide q, fun e => by rw [e, Heap.hide_self] at q; cases q⟩
  have toh : ∀ (g : Heap) b o, b ≠ s3.heap.objs.size → g.get? b = some o → (g.hide s3.heap.objs.size).get? b = some o := fun g b o hb q => (Heap.hide_ne g hb).trans q
  have z2 : Fl0 X.prog X.w X.base X.stack H' H1 (s0.heap.hide s3.heap.objs.size) (B.hide s3.heap.objs.size) h' := by
    refine ⟨fun b o q => toh B b o (Nat.ne_of_lt (Heap.lt_size (I3.bk b o q))) (z1.bas b o q), fun b u q => (z1.hok b u q).stay (fun c v hc zc => toh B c v (fun e => ?_) zc) (fun _ z => z) (fun _ _ z => z), fun b o q n hb => ?_, fun b o q hb => ?_, ?_⟩
    · rcases hc with r | r
      · rw [← r, e, hH1] at q; cases q
      · rw [e, hH1] at r; cases r
    · obtain ⟨q1, q2⟩ := hid _ b o q
      exact toh B b o q2 (z1.kp b o q1 n hb)
    · obtain ⟨q1, q2⟩ := hid _ b o q
      obtain ⟨o', e'⟩ := z1.thr b o q1 hb
      exact ⟨o', toh B b o' q2 e'⟩
    · refine ⟨fun b o q n hb hx => ?_, fun b o q n hb hx => ?_, fun b o q n hx => z1.un.free b o (hid _ b o q).1 n hx, fun b o q hx => ?_, z1.un.tups, z1.un.frzs, z1.un.tbls⟩
      · obtain ⟨q1, q2⟩ := hid _ b o q
        exact (sbn b q2).trans (z1.un.keep b o q1 n hb hx)
      · obtain ⟨q1, q2⟩ := hid _ b o q
        obtain ⟨sl, e'⟩ := z1.un.slot b o q1 n hb hx
        exact ⟨sl, (sbn b q2).trans e'⟩
      · obtain ⟨q1, q2⟩ := hid _ b o q
        obtain ⟨o', e'⟩ := z1.un.there b o q1 hx
        exact ⟨o', (sbn b q2).trans e'⟩
  have notC : ∀ b o vs, h1.get? b = some o → o.data = .fields vs → b ≠ s3.heap.objs.size := fun b o vs q d e => by
    obtain ⟨o2, es2, ep2, h2, d2, _⟩ := hns1
    rw [e, h2] at q
    cases q
    rw [d2] at d
    cases d
  have held' : Heap.HeldW (B.hide s3.heap.objs.size) X.stack e (.ref C) a0 X.env.locals h' := by
    obtain ⟨k1, k2, k3, oe, vs, T, oT, ts, he, hc, hd, h1', hnT, hTe, hT, hdT, h3⟩ := held
    have hide_none : ∀ b, B.get? b = none → (B.hide s3.heap.objs.size).get? b = none := fun b hb => by
      cases q : (B.hide s3.heap.objs.size).get? b with
      | none => rfl
      | some o => have := (hid B b o q).1; rw [hb] at this; cases this
    refine ⟨fun b o q => ?_, hide_none _ k2, funFrames_to hide_none k3 fun b hb => sbn b fun e => hCs (e ▸ hb), oe, vs, T, oT, ts, (sbn e (notC e oe vs he hd)).trans he, hc, hd, h1', hide_none _ hnT, hTe, (sbn T (notC T oT ts hT hdT)).trans hT, hdT, h3⟩
    obtain ⟨q1, q2⟩ := hid B b o q
    exact (sbn b q2).trans (k1 b o q1)
  refine passOn_heldW (s := { s' with heap := h' }) (base := B.hide s3.heap.objs.size) (l := X.stack) held' hfr fun h'' hh sm' => ?_
  have z3 : Fl0 X.prog X.w X.base X.stack H' H1 (s0.heap.hide s3.heap.objs.size) (B.hide s3.heap.objs.size) h'' := z2.step hh.1 held'.2.2.1 hh.2.2.1 sm'
  have IJ : Inv X pins σ H' { s0 with heap := s0.heap.hide s3.heap.objs.size } := comp_gone J (TL.Inv.apart I3) hfC ⟨Heap.hide_size _ _, fun b hb => Heap.hide_ne _ hb⟩
  exact pass pins σ H' _ { s' with heap := h'' } e C H1 (B.hide s3.heap.objs.size) IJ ho hg ⟨z3, a0, hh⟩ q
end
end TL
set_option Elab.async false
set_option linter.all false
set_option maxRecDepth 100000
set_option maxHeartbeats 4000000
namespace TL
open PySem PySem.Spec PyProof.Rows PySem.W L2
section
variable {X : Cx} {pins : List (Addr × Obj)} {σ : St} {H1 : Hp} {s2 : Shared} {scope : Scope} {N : List Str} {own : Nat} {cap : List (Option Nat)} {cl : List (Str × Addr)} {fp : List Addr}
  {tg iter elt : Expr} {ifs : List Expr} {pos : Pos} {g : TG} {tt : TT} {te : TE} {wi : TI} {E : XK}

theorem comp_runX {it : Addr} {tn : Nat → Heap → Prop} {J : It} {Q : VK} {Q2 : Value → Shared → Prop} {E0 : Value → Shared → Prop} (pH : PassH X E) (I : Inv X pins σ H1 s2) (T : Turn X.prog X.w X.K tg J fp it tn) (t0 : tn 0 s2.heap)
    (f : ∀ b ∈ fp, FpOk X pins H1 b) (hc : X.calm = true) (C : CompOk X.env.scope X.N scope N own cap) (ho : GOwn own g)
    (hcl1 : ∀ x c, cl.lookup x = some c → X.env.cells.lookup x = some c) (hcl2 : ∀ y ∈ scope.names, y.2 = .free → ∃ c, cl.lookup y.1 = some c)
    (hg : ∀ s3 H3, PG (cxCompX X scope cl N fp s3 H3 E) tg g) (ht : ∀ s3 H3, PIfs (cxCompX X scope cl N fp s3 H3 E) ifs tt) (he : ∀ s3 H3, PE (cxCompX X scope cl N fp s3 H3 E) elt te)
    (hw : ∀ l, H1 l = none → LcW J g tt te cap σ Q l H1)
    (fin : ∀ l C s' H', Inv X pins σ H' s' → H' C = none → Apart X pins C → Q (.ref l) H' → ∀ h', Heap.SameBut C s'.heap h' → Q2 (.ref l) { s' with heap := h' }) :
    wpAny (model X.prog X.w) X.A (newList []) (fun acc s₃ => wpAny (model X.prog X.w) X.A (newFunctionEnv scope X.env.globals cl [] X.env.qual none .none (some X.env)) (fun cenv s₄ =>
      codeAny (model X.prog X.w) X.A (.compStart (.ListComp elt [⟨tg, iter, ifs, 0⟩] scope pos) 0 (.ref it) acc { cenv with scope := relabel scope X.env }) (compPostX (model X.prog X.w) X.A X.xe Q2 acc { cenv with scope := relabel scope X.env }) s₄) E0 s₃) E0 s2 := by
  refine wpAny_newObj_type (wpAny_newFunctionEnv C.nocell (by intro y hy; simp at hy) (fun h₁ hns₁ hsb₁ => ?_) C.kind)
  dsimp only at hns₁ hsb₁ ⊢
  obtain ⟨W, ⟨m0, w0⟩, turn⟩ := hw s2.heap.objs.size I.fresh
  have I3 : Inv X pins σ (upd H1 s2.heap.objs.size (.lst [])) { s2 with heap := s2.heap.push { cls := .type "list", dict := none, data := .seq ([] : List Value).toArray } } := I.lnew (ys := []) (its := []) (t' := s2.toks) .nil (Nat.zero_le _)
  generalize hs3 : ({ s2 with heap := s2.heap.push { cls := .type "list", dict := none, data := .seq ([] : List Value).toArray } } : Shared) = s3 at I3
  have hh3 : s3.heap = s2.heap.push { cls := .type "list", dict := none, data := .seq ([] : List Value).toArray } := by rw [← hs3]
  rw [← hh3] at hns₁ hsb₁ ⊢
  have e4 : ({ s2 with heap := h₁, toks := s2.toks + ([] : List (Str × Value)).length } : Shared) = { s3 with heap := h₁, toks := s2.toks } := by rw [← hs3]; rfl
  rw [e4]
  have k4 : ∀ b u, s3.heap.get? b = some u → h₁.get? b = some u := fun b u e => hsb₁.extBut b u (Nat.ne_of_lt (Heap.lt_size e)) (Heap.get?_push_of_some _ e)
  have k3 : ∀ b u, s2.heap.get? b = some u → s3.heap.get? b = some u := fun b u e => by rw [hh3]; exact Heap.get?_push_of_some _ e
  have hb2 : ∀ b ∈ fp, b < s2.heap.objs.size := fun b hb => by obtain ⟨o, e, _⟩ := T.obj _ _ t0 b hb; exact Heap.lt_size e
  have f3 : ∀ b ∈ fp, FpOk X pins (upd H1 s2.heap.objs.size (.lst [])) b := fun b hb => by
    obtain ⟨f0, fr⟩ := f b hb
    exact ⟨by rw [upd_ne (Nat.ne_of_lt (hb2 b hb))]; exact f0, fr⟩
  have hb3 : ∀ b ∈ fp, b < s3.heap.objs.size := fun b hb => by obtain ⟨o, e, _⟩ := T.obj _ _ t0 b hb; exact Heap.lt_size (k3 b o e)
  have I4 := (inv_comp (tk := s2.toks) I3 C hcl1 hcl2 (fun b hb => ⟨f3 b hb, hb3 b hb⟩) hns₁ k4).wish (XC X scope cl N fp s3 (upd H1 s2.heap.objs.size (.lst [])) E)
  generalize hH3 : upd H1 s2.heap.objs.size (.lst []) = H3 at *
  have st4 : tn 0 h₁ := T.keep _ _ _ t0 fun b hb o e => k4 b o (k3 b o e)
  have fpX : ∀ {H' : Hp}, (∀ b ∈ fp, H' b = none) → ∀ b ∈ fp, FpOk (cxCompX X scope cl N fp s3 H3 E) [] H' b := fun {H'} hn b hb => by
    obtain ⟨f0, f1, f2, f3', f4, f5⟩ := f3 b hb
    refine ⟨hn b hb, Nat.ne_of_lt (hb3 b hb), fun hz => ?_, .inl hb, fun x c e => f4 x c (hcl1 x c e), fun p hp => absurd (show p ∈ ([] : List (Addr × Obj)) from hp) (by simp)⟩
    rcases List.mem_cons.mp (I3.stkSub b hz) with z | z
    · exact f1 z
    · exact f2 z
  have loop : codeAny (model X.prog X.w) X.A (.compLoop (.ListComp elt [⟨tg, iter, ifs, 0⟩] scope pos) 0 (.ref it) (.ref s2.heap.objs.size) (compEnvC scope cl s3.heap.objs.size X.env)) (compPostX (model X.prog X.w) X.A X.xe Q2 (.ref s2.heap.objs.size) (compEnvC scope cl s3.heap.objs.size X.env)) { s3 with heap := h₁, toks := s2.toks } := by
    refine compLoop_goX (XE := XC X scope cl N fp s3 H3 E) (fun n s' => ∃ i acc H', Inv (cxCompX X scope cl N fp s3 H3 E) [] (capSt cap σ) H' s' ∧ tn i s'.heap ∧ (∀ b ∈ fp, H' b = none) ∧ W i n acc H') (fun x s' hx => comp_error I3 f3 pH hx) ?_ m0 ⟨0, [], H3, I4, st4, fun b hb => (f3 b hb).1, w0⟩
    rintro n s' ⟨i, acc, H', I', st, fr, w⟩
    rcases turn i n acc H' w with ⟨stop, q⟩ | ⟨go, NN, hNN, step⟩
    · refine thn (T.done (cxCompX X scope cl N fp s3 H3 E) rfl rfl rfl hc i [] s' _ H' (XC X scope cl N fp s3 H3 E) I' (fpX fr) st stop) fun r s5 ⟨hr, I5⟩ => ?_
      subst hr
      obtain ⟨m5, hn5, _⟩ := id I5.loc
      exact ⟨m5, hn5, fun h' sb => fin _ _ s5 H' (comp_back I3 f3 I5.unwish) I5.free (TL.Inv.apart I3) q h' sb⟩
    · refine thn (T.item (cxCompX X scope cl N fp s3 H3 E) rfl rfl rfl hc i [] s' _ H' (XC X scope cl N fp s3 H3 E) I' (fpX fr) st go) fun r s5 ⟨u, hr, h5⟩ => ?_
      subst hr
      refine thn h5 fun _ s6 ⟨x, H6, I6, r6, y6, st6, fr6⟩ => ?_
      have I6' := I6.pinned (fpX fr6) (T.obj _ _ st6)
      refine thn (hg s3 H3 _ s6 _ H6 x u _ I6' r6 (ho.own _ _ _ _ (step x H6 y6))) fun _ s7 ⟨σ7, H7, I7, q7, l7, o7⟩ => ?_
      have cov : ∀ (i : Nat) v, (capSt cap σ)[i]? = some (some v) → σ7[i]? = some (some v) := fun i v e => by
        obtain ⟨j, c1, c2⟩ := capSt_get e
        by_cases hi : i < own
        · exact (C.own_none hi c1).elim
        · rw [o7 i (by omega)]; exact e
      have back : ∀ {H8 : Hp} {s8 : Shared}, Inv (cxCompX X scope cl N fp s3 H3 E) ([] ++ pinsAt fp s6.heap) σ7 H8 s8 → Inv (cxCompX X scope cl N fp s3 H3 E) [] (capSt cap σ) H8 s8 ∧ tn (i + 1) s8.heap ∧ ∀ b ∈ fp, H8 b = none := fun {H8 s8} I8 => by
        refine ⟨(Inv.unpinned (pins := []) I8).weak l7.symm cov, T.keep _ _ _ st6 fun b hb o e => (I8.pin (b, o) (List.mem_append_right _ (List.mem_append_right _ (mem_pinsAt hb e)))).1, fun b hb => ?_⟩
        obtain ⟨o, e, d⟩ := T.obj _ _ st6 b hb
        exact (I8.pin (b, o) (List.mem_append_right _ (List.mem_append_right _ (mem_pinsAt hb e)))).2.1
      refine thn (ht s3 H3 _ s7 σ7 H7 _ I7 q7) fun b s8 ⟨H8, I8, q8⟩ => ?_
      cases b with
      | false =>
        rw [if_neg Bool.false_ne_true] at q8 ⊢
        obtain ⟨m', hm, w8⟩ := hNN _ _ q8
        obtain ⟨J1, J2, J3⟩ := back I8
        exact ⟨m', hm, i + 1, acc, H8, J1, J2, J3, w8⟩
      | true =>
        rw [if_pos rfl] at q8 ⊢
        refine thn (he s3 H3 _ s8 σ7 H8 _ I8 q8) fun v s9 ⟨y, H9, I9, r9, ha, hz, n9⟩ => ?_
        obtain ⟨m', hm, w9⟩ := hNN _ _ n9
        refine thn (mt_append _ s9 σ7 H9 (.ref s2.heap.objs.size) [y] (.ref s2.heap.objs.size) [v] (fun _ H10 => W (i + 1) m' (acc ++ [y]) H10) I9 rfl (.cons r9 .nil) ⟨_, acc, y, rfl, rfl, ha, hz, w9⟩) fun _ s10 ⟨_, H10, I10, _, w10⟩ => ?_
        obtain ⟨J1, J2, J3⟩ := back I10
        exact ⟨m', hm, i + 1, acc ++ [y], H10, J1, J2, J3, w10⟩
  exact codeAny_compStart_list loop (T.self X.A 0 _ _ _ st4 loop)

theorem pe_lcX (pH : PassH X E) (hi : PI X tg iter wi) (hc : X.calm = true) (C : CompOk X.env.scope X.N scope N own cap) (ho : GOwn own g)
    (hg : ∀ cl fp s3 H3, PG (cxCompX X scope cl N fp s3 H3 E) tg g) (ht : ∀ cl fp s3 H3, PIfs (cxCompX X scope cl N fp s3 H3 E) ifs tt) (he : ∀ cl fp s3 H3, PE (cxCompX X scope cl N fp s3 H3 E) elt te)
    (hs : ∀ x, foldedSetIterable iter X.env x = pure x := by intro _; rfl) : PE X (.ListComp elt [⟨tg, iter, ifs, 0⟩] scope pos) (tLC wi cap g tt te) := by
  intro pins s σ H Q I h
  obtain ⟨cl, ecl, hcl1, hcl2⟩ := closure_ok (scope := scope) (env := X.env) fun y hy hf => I.ok.has y.1 (C.fre y hy hf)
  rw [eval_ListComp]
  refine comprehension_freeX rfl hs ecl C.kind C.loc (thn (hi pins s σ H _ I h) fun xv s1 h1 => thn h1 fun itv s2 h2 => ?_)
  obtain ⟨it, fp, tn, J, H2, e, I2, T, st2, f2, hw⟩ := h2
  subst e
  exact comp_runX (Q2 := EP X pins σ Q) pH I2 T st2 f2 hc C ho hcl1 hcl2 (hg cl fp) (ht cl fp) (he cl fp) hw fun l Ca s' H' I' hfree hP q h'' hs'' => ⟨.ref l, H', comp_gone I' hP hfree hs'', rfl, q⟩
end
end TL
set_option Elab.async false
set_option linter.all false
set_option maxRecDepth 100000
set_option maxHeartbeats 4000000
namespace TL
open PySem PySem.Spec PyProof.Rows L2

/-! ### how long lists of texts are -/
def tot (ws : List Str) : Nat := (ws.map (·.length)).sum + ws.length
theorem tot_cons (x : Str) (b : List Str) : tot (x :: b) = x.length + 1 + tot b := by unfold tot; simp; omega
theorem len_tot (a : List Str) : a.length ≤ tot a := by unfold tot; omega
theorem tot_join (c : Nat) : ∀ {ws : List Str}, ws ≠ [] → tot ws = (Str.join (chS c) ws).length + 1
  | [], h => absurd rfl h
  | [a], _ => by rw [tot_cons, TL.join_one]; rfl
  | a :: b :: r, _ => by
    rw [tot_cons, tot_join c (ws := b :: r) (by simp), join_cons2, Str.length_append, Str.length_append]
    have e : (chS c).length = 1 := rfl
    omega
theorem tot_split (z : Str) (c : Nat) : tot (Txt.split z (chS c)) = z.length + 1 := by
  rw [tot_join c (split_ne z c), PySem.StrLaws.join_split]
section
variable {X : Cx}
end
/-! ### a method's call where K must be named -/
section
variable {X : Cx} {K : PySem.W.Frag} {T : String} {name : Str} {id : String} {r : V → List V → Hp → VK → Prop} {o e : Expr} {es : List Expr} {to : TE} {t : TA} {apos cpos : Pos}
theorem op_in_seqk (e : X.K = K) : OpR X (compareOp .In) (rIn K false) := by subst e; exact op_in_seq
end
/-! ### a comprehension whose elements may raise -/
section
variable {K : PySem.W.Frag} {l : Addr} {g : TG} {tt : TT} {te : TE} {cap : List (Option Nat)} {σ : St} {Q : VK} {H1 : Hp} {J : It}
theorem lc_opt {α : Type} (n : Nat) (rs : List (Option α)) (d' : α → PyData) (hn : H1 l = none) (hlen : n = rs.length) (hz : n < sizeLine) (go : ∀ i H, Same H1 H → i < n → J.go i H) (st : ∀ H, Same H1 H → J.stop n H)
    (hs : ∀ i x r H H', Same H1 H → (∃ us, H l = some (.lst us)) → J.yld i H x H' → rs[i]? = some r → ∀ (P1 : VK) (P0 : Hp → Prop), (∀ d, r = some d → ∀ v H2, Same H H2 → Da K (hid l H2) (d' d) v → P1 v H2) →
      g x (capSt cap σ) H' fun σ2 H2 => tt σ2 H2 fun b H3 => if b = true then te σ2 H3 P1 else P0 H3)
    (hq : ∀ (ds : List α) vs H', rs = ds.map some → Same H1 H' → H' l = some (.lst vs) → Das K (hid l H') (ds.map d') vs → Q (.ref l) H') : LcW J g tt te cap σ Q l H1 := by
  refine lc_any n (fun i acc H => (∃ ds : List α, rs.take i = ds.map some ∧ Das K (hid l H) (ds.map d') acc) ∧ Same H1 H ∧ H l = some (.lst acc)) ⟨⟨[], rfl, dgs_nil.mpr rfl⟩, same_upd hn, upd_same⟩ (fun i acc H hi ⟨_, s, _⟩ => go i H s hi) (fun acc H ⟨_, s, _⟩ => st H s) ?_ ?_
  · rintro i x acc H H' hi ⟨⟨ds, e0, e1⟩, s, hl⟩ y
    have hd : rs[i]? = some (rs[i]'(by omega)) := by simp
    generalize rs[i]'(by omega) = r at hd
    refine hs i x r H H' s ⟨_, hl⟩ y hd _ _ (fun d er v H2 s2 dv => ?_)
    have la := Dgs.length e1
    have lb := congrArg List.length e0
    rw [List.length_map] at la lb
    rw [List.length_take] at lb
    refine ⟨s2 _ _ hl, by omega, ⟨ds ++ [d], ?_, ?_⟩, Same.upd (s.trans s2) hn, upd_same⟩
    · rw [List.take_add_one, hd, e0, List.map_append, er]; rfl
    · rw [hid_upd, List.map_append]
      exact Dgs.append (Das.same (hid_mono s2) e1) (Dgs.one dv)
  · rintro acc H ⟨⟨ds, e0, e1⟩, s, hl⟩
    rw [List.take_of_length_le (by omega)] at e0
    exact hq ds acc H e0 s hl e1
end
end TL
set_option Elab.async false
set_option linter.all false
set_option maxRecDepth 100000
set_option maxHeartbeats 4000000
namespace TL
open PySem PySem.Spec PyProof.Rows L2
/-! ### a long list of written texts: only how long they are -/
section
variable {X : Cx}
end
end TL
set_option Elab.async false
set_option linter.all false
set_option maxRecDepth 100000
set_option maxHeartbeats 4000000
namespace TL
open PySem PySem.Spec PyProof.Rows PySem.W L2
/-! ### every other item -/
def ev {α : Type} : List α → List α
  | [] => []
  | [x] => [x]
  | x :: _ :: r => x :: ev r
theorem ev_get {α : Type} : ∀ (l : List α) (k : Nat), (ev l)[k]? = l[2 * k]?
  | [], k => by simp [ev]
  | [x], 0 => by simp [ev]
  | [x], k + 1 => by simp [ev]
  | x :: y :: r, 0 => by simp [ev]
  | x :: y :: r, k + 1 => by
    rw [ev, List.getElem?_cons_succ, ev_get r k, show 2 * (k + 1) = 2 * k + 1 + 1 by omega, List.getElem?_cons_succ, List.getElem?_cons_succ]
theorem ev_len {α : Type} : ∀ (l : List α), (ev l).length = (l.length + 1) / 2
  | [] => by simp [ev]
  | [x] => by simp [ev]
  | x :: y :: r => by rw [ev, List.length_cons, ev_len r, List.length_cons, List.length_cons]; omega
theorem pick_of {α : Type} (its : Array α) (f : Nat → Nat) (n : Nat) (zs : List α) (hz : zs.length = n) (h : ∀ k, k < n → its[f k]? = zs[k]?) : ((List.range n).map f).filterMap (its[·]?) = zs := by
  rw [List.filterMap_map]
  have e : ∀ m, m ≤ n → (List.range m).filterMap ((its[·]?) ∘ f) = zs.take m := by
    intro m
    induction m with
    | zero => intro _; rfl
    | succ m ih =>
      intro hm
      rw [List.range_succ, List.filterMap_append, ih (by omega), List.take_add_one]
      have h1 := h m (by omega)
      rw [← h1]
      show _ ++ List.filterMap ((its[·]?) ∘ f) [m] = _
      cases q : its[f m]? with
      | none => simp [q]
      | some x => simp [q]
  rw [e n (Nat.le_refl _), List.take_of_length_le (by omega)]
theorem pick_step0 (its : List Value) : slicePick its.toArray none none (some 2) = (ev its).toArray := by
  unfold slicePick
  show ((sliceRange 0 ((its.toArray.size : Nat) : Int) 2).filterMap (its.toArray[·]?)).toArray = _
  congr 1
  unfold sliceRange
  rw [if_pos (by decide)]
  have en : (if (0 : Int) < ((its.toArray.size : Nat) : Int) then (((its.toArray.size : Nat) : Int) - 0 + 2 - 1) / 2 else 0).toNat = (its.length + 1) / 2 := by
    rw [List.size_toArray]
    split <;> omega
  dsimp only
  rw [en]
  refine pick_of _ _ _ _ (ev_len its) fun k hk => ?_
  rw [ev_get]
  rw [show (0 + 2 * (k : Int)).toNat = 2 * k by omega]
  simp
theorem pick_step1 (its : List Value) : slicePick its.toArray (some 1) none (some 2) = (ev (its.drop 1)).toArray := by
  unfold slicePick
  show ((sliceRange (max 0 (min (1 : Int) ((its.toArray.size : Nat) : Int))) ((its.toArray.size : Nat) : Int) 2).filterMap (its.toArray[·]?)).toArray = _
  congr 1
  unfold sliceRange
  rw [if_pos (by decide)]
  rw [List.size_toArray]
  by_cases h : its.length = 0
  · have e0 : its = [] := List.length_eq_zero_iff.mp h
    subst e0
    rfl
  · rw [show max (0 : Int) (min 1 (its.length : Int)) = 1 by omega]
    have en : (if (1 : Int) < (its.length : Int) then ((its.length : Int) - 1 + 2 - 1) / 2 else 0).toNat = ((its.drop 1).length + 1) / 2 := by
      rw [List.length_drop]
      split <;> omega
    dsimp only
    rw [en]
    refine pick_of _ _ _ _ (ev_len _) fun k hk => ?_
    rw [ev_get, List.getElem?_drop]
    rw [show (1 + 2 * (k : Int)).toNat = 1 + 2 * k by omega]
    simp
theorem rels_drop : ∀ {xs : List V} {vs : List Value} (n : Nat), Vals xs vs → Vals (xs.drop n) (vs.drop n)
  | _, _, 0, h => by simpa using h
  | _, _, n + 1, .nil => by simp; exact .nil
  | _, _, n + 1, .cons a r => by simpa using rels_drop n r
theorem rels_ev : ∀ {xs : List V} {vs : List Value}, Vals xs vs → Vals (ev xs) (ev vs)
  | _, _, .nil => .nil
  | _, _, .cons a .nil => .cons a .nil
  | _, _, .cons a (.cons b r) => .cons a (rels_ev r)

section
variable {X : Cx} {e st lo : Expr} {te ts tl : TE} {pos p2 : Pos}
def tStep0 (K : PySem.W.Frag) (te ts : TE) : TE := fun σ H Q => te σ H fun x H1 => ts σ H1 fun y H2 => ∃ i, y = .int i ∧ ∃ a xs, some i = some (2 : Int) ∧ x = .ref a ∧ SqL K H2 a xs ∧ ∀ p, H2 p = none → Q (.ref p) (upd H2 p (.lst (ev xs)))
def tStep1 (K : PySem.W.Frag) (te tl ts : TE) : TE := fun σ H Q => te σ H fun x H1 => tl σ H1 fun z H2 => ∃ j, z = .int j ∧ ts σ H2 fun y H3 => ∃ i, y = .int i ∧ ∃ a xs, some j = some (1 : Int) ∧ some i = some (2 : Int) ∧ x = .ref a ∧ SqL K H3 a xs ∧ ∀ p, H3 p = none → Q (.ref p) (upd H3 p (.lst (ev (xs.drop 1))))
/-- xs[::2] -/
theorem pe_step0 (he : PE X e te) (hs : PE X st ts) : PE X (.Subscript e (.Slice none none (some st) p2) pos) (tStep0 X.K te ts) := by
  intro pins s σ H Q I h
  refine Subscript_ (thn (he pins s σ H _ I h) fun v s1 ⟨x, H1, I1, r1, q1⟩ => ?_)
  refine wpAny_Slice ?_
  rw [evalPart_none]
  refine wpAny_pure (wpAny_pure (thn (po_some hs pins s1 σ H1 (fun o H2 => ∃ a xs, o = some 2 ∧ x = .ref a ∧ SqL X.K H2 a xs ∧ ∀ p, H2 p = none → Q (.ref p) (upd H2 p (.lst (ev xs)))) I1 q1) fun vk s3 ⟨o, H3, I3, pk, q3⟩ => ?_))
  obtain ⟨a, xs, rfl, rfl, hq, q⟩ := q3
  cases r1
  have I4 : Inv X pins σ H3 { s3 with heap := s3.heap.push { cls := .type "slice", data := .fields #[.none, .none, vk] } } := I3.kept (t' := s3.toks) fun b ob q => Heap.get?_push_of_some _ q
  obtain ⟨its, r, ht, hz⟩ := I4.list hq
  have hlen := r.length
  refine tail_any (ops := [.ref a, .ref s3.heap.objs.size]) ht.isList.typeIs slot_list_getitem.lookup ?_ (by with_unfolding_all rfl)
  refine wpAny_getItem_list_slice ht.isList (Heap.IsSliceOf.new ..) .none .none pk (by simp) ?_ (by rw [List.size_toArray] <;> omega)
  rw [pick_step0]
  refine ⟨.ref _, _, I4.laid (t' := s3.toks) (o := .lst (ev xs)) (fun b ob q => Heap.get?_push_of_some _ q) (Nat.le_refl _) ⟨by rw [ev_len]; omega, ev its, 0, rels_ev r, ?_⟩, rfl, q _ (I4.hok.fresh (Nat.le_refl _))⟩
  exact Heap.get?_push_size _ rfl
/-- xs[1::2] -/
theorem pe_step1 (he : PE X e te) (hl : PE X lo tl) (hs : PE X st ts) : PE X (.Subscript e (.Slice (some lo) none (some st) p2) pos) (tStep1 X.K te tl ts) := by
  intro pins s σ H Q I h
  refine Subscript_ (thn (he pins s σ H _ I h) fun v s1 ⟨x, H1, I1, r1, q1⟩ => ?_)
  refine wpAny_Slice ?_
  refine thn (po_some hl pins s1 σ H1 (fun ol H2 => ts σ H2 fun y H3 => ∃ i, y = .int i ∧ ∃ a xs, ol = some 1 ∧ some i = some (2 : Int) ∧ x = .ref a ∧ SqL X.K H3 a xs ∧ ∀ p, H3 p = none → Q (.ref p) (upd H3 p (.lst (ev (xs.drop 1))))) I1 q1) fun vl s2 ⟨ol, H2, I2, pl, q2⟩ => ?_
  rw [evalPart_none]
  refine wpAny_pure (thn (po_some hs pins s2 σ H2 (fun o H3 => ∃ a xs, ol = some 1 ∧ o = some 2 ∧ x = .ref a ∧ SqL X.K H3 a xs ∧ ∀ p, H3 p = none → Q (.ref p) (upd H3 p (.lst (ev (xs.drop 1))))) I2 q2) fun vk s3 ⟨o, H3, I3, pk, q3⟩ => ?_)
  obtain ⟨a, xs, rfl, rfl, rfl, hq, q⟩ := q3
  cases r1
  have I4 : Inv X pins σ H3 { s3 with heap := s3.heap.push { cls := .type "slice", data := .fields #[vl, .none, vk] } } := I3.kept (t' := s3.toks) fun b ob q => Heap.get?_push_of_some _ q
  obtain ⟨its, r, ht, hz⟩ := I4.list hq
  have hlen := r.length
  refine tail_any (ops := [.ref a, .ref s3.heap.objs.size]) ht.isList.typeIs slot_list_getitem.lookup ?_ (by with_unfolding_all rfl)
  refine wpAny_getItem_list_slice ht.isList (Heap.IsSliceOf.new ..) pl .none pk (by simp) ?_ (by rw [List.size_toArray] <;> omega)
  rw [pick_step1]
  refine ⟨.ref _, _, I4.laid (t' := s3.toks) (o := .lst (ev (xs.drop 1))) (fun b ob q => Heap.get?_push_of_some _ q) (Nat.le_refl _) ⟨by rw [ev_len, List.length_drop]; omega, ev (its.drop 1), 0, rels_ev (rels_drop 1 r), ?_⟩, rfl, q _ (I4.hok.fresh (Nat.le_refl _))⟩
  exact Heap.get?_push_size _ rfl
end
/-! ### range(lo, hi, 2) -/
section
variable {X : Cx} {tg : Expr}
end
/-! ### text * (0 or 1) -/
section
variable {X : Cx}
theorem op_mulB : OpR X (binaryOp .Mult) (fun x y H Q => ∃ (z : Str) (n : Int), x = .str z ∧ y = .int n ∧ z.length ≤ 1000 ∧ (n = 0 ∨ n = 1) ∧ Q (.str (if n = 1 then z else Str.empty)) H) := by
  intro pins s σ H x y v u Q I rx ry h
  obtain ⟨z, n, rfl, rfl, hz, hn, q⟩ := h
  obtain ⟨t, rfl⟩ := rx
  obtain ⟨t', rfl⟩ := ry
  refine P.mul_str (by rw [decide_eq_false (by omega), decide_eq_false (by omega)]; rfl) (fun h1 _ h2 => ?_) (fun h1 _ => ?_) ?_
  · rcases hn with rfl | rfl
    · omega
    · rw [Int.ediv_one] at h2; omega
  · unfold Builtin.Str.tooLong
    rw [sizeLine_eq]
    rcases hn with rfl | rfl <;> simp <;> omega
  · rcases hn with rfl | rfl
    · rw [if_pos (by decide)]
      refine ⟨by decide, ⟨.str Str.empty, H, I.tok _, ⟨_, rfl⟩, ?_⟩⟩
      rw [if_neg (by decide)] at q
      exact q
    · rw [if_neg (by decide), if_pos (by rfl)]
      refine ⟨.str z, H, I, ⟨_, rfl⟩, ?_⟩
      rw [if_pos rfl] at q
      exact q
/-! ### long lists of written texts, sums among them -/
end
/-! ### a list != [] -/
section
variable {X : Cx}
end
end TL
set_option Elab.async false
set_option linter.all false
set_option maxRecDepth 100000
set_option maxHeartbeats 4000000
namespace TL
open PySem PySem.Spec PyProof.Rows L2
/-! ### moves and runs, for many laws -/
theorem small_line {n : Nat} (h : n ≤ 1000) : n < sizeLine := Nat.lt_of_le_of_lt h (by decide)
theorem das_ints_len {K : PySem.W.Frag} {H : Hp} {js : List (Int × Int)} {vs : List V} (h : Das K H (js.map dP) vs) : vs.length = js.length := by rw [Dgs.length h, List.length_map]
theorem below_len {l : Int × List (Int × Int)} (h : LineOk l) (e : Int) : (below l.2 e).length + (above l.2 e).length ≤ 60 := h.inc e
theorem jn_len {l : Int × List (Int × Int)} (h : LineOk l) (e : Int) : (jn l.2 e).length ≤ 60 := by
  unfold jn
  rw [srt_length, List.length_append]
  exact h.inc e
theorem fr_len {l : Int × List (Int × Int)} (h : LineOk l) (ns : List Int) (e : Int) : (fr l ns e).length ≤ 60 := Nat.le_trans (List.length_filter_le _ _) (jn_len h e)
theorem take_map_snoc {α β : Type} (f : α → β) (l : List α) (i : Nat) (x : α) (h : l[i]? = some x) : (l.take (i + 1)).map f = (l.take i).map f ++ [f x] := by
  rw [List.take_add_one, h, List.map_append]; rfl
theorem canLayAll0_mem : ∀ (ds : List PyData), (∀ d ∈ ds, d.canLay0 = true) → PyData.canLayAll0 ds = true
  | [], _ => by simp [PyData.canLayAll0]
  | d :: ds, h => by
    simp only [PyData.canLayAll0, Bool.and_eq_true]
    exact ⟨h d List.mem_cons_self, canLayAll0_mem ds fun x hx => h x (List.mem_cons_of_mem _ hx)⟩
theorem okD_moves {ms : List Mv} (h : ∀ m ∈ ms, PyData.strOk m.1.1 = true) : OkD (dMs ms) := by
  have d1 : ∀ m : Mv, (dMv m).depth ≤ 2 := fun m => by
    simp only [dMv, PyData.depth, PyData.depthAll, dI]
    have := depthAll_map (f := PyData.int) (k := 0) (fun _ => by simp [PyData.depth]) m.2
    omega
  refine ⟨?_, ?_⟩
  · simp only [dMs, PyData.canLay0]
    refine canLayAll0_mem _ fun d hd => ?_
    obtain ⟨m, hm, rfl⟩ := List.mem_map.mp hd
    simp only [dMv, PyData.canLay0, PyData.canLayAll0, h m hm, Bool.and_true, Bool.true_and]
    exact (okD_ints m.2).1
  · simp only [dMs, PyData.depth]
    have := depthAll_map d1 ms
    omega
theorem strOk_mvs (l : Int × List (Int × Int)) (ns : List Int) : ∀ m ∈ mvs l ns, PyData.strOk m.1.1 = true := fun m hm => by
  rcases List.mem_append.mp hm with z | z
  · obtain ⟨e, _, rfl⟩ := List.mem_map.mp z
    show PyData.strOk (Str.ofString "on") = true
    decide +kernel
  · obtain ⟨e, _, rfl⟩ := List.mem_map.mp z
    show PyData.strOk (Str.ofString "back") = true
    decide +kernel
theorem round2 (ns : List Int) : (ns.reverse.map oth).reverse.map oth = ns := by
  rw [← List.map_reverse, List.reverse_reverse, List.map_map]
  have : (oth ∘ oth) = id := funext fun e => oth_oth e
  rw [this, List.map_id]
def dM (k : Str × Int) : PyData := .tuple [.str k.1, .int k.2]
theorem okD_M {k : Str × Int} (h : PyData.strOk k.1 = true) : OkD (dM k) := by
  refine ⟨?_, ?_⟩
  · simp only [dM, PyData.canLay0, PyData.canLayAll0, h, Bool.and_true]
  · simp only [dM, PyData.depth, PyData.depthAll]; decide
theorem eqv_M (a b : Str × Int) : PyData.eqv (dM a) (dM b) = decide (a = b) := by
  obtain ⟨a1, a2⟩ := a
  obtain ⟨b1, b2⟩ := b
  simp only [dM, PyData.eqv, PyData.eqvAll, Bool.and_true]
  by_cases h : a1 = b1 <;> by_cases h' : a2 = b2 <;> simp [h, h']
theorem mv_at {K : PySem.W.Frag} {H H1 : Hp} {p : Addr} {ms : List Mv} {vs : List V} {i : Nat} {y : V} (D : Dgs (Lf H H1 p) (SqT K H1) (ms.map dMv) vs) (hy : vs[i]? = some y) :
    ∃ m ad p1 b, ms[i]? = some m ∧ y = .ref ad ∧ SqT K H1 ad [.ref p1, .ref b] ∧ Da K H1 (dM m.1) (.ref p1) ∧ H1 b = some (.lst (m.2.map V.int)) ∧ H b = none ∧ b ≠ p := by
  obtain ⟨d, e1, hd⟩ := Dgs.get D hy
  rw [List.getElem?_map] at e1
  cases q : ms[i]? with
  | none => rw [q] at e1; cases e1
  | some m =>
    rw [q] at e1
    cases e1
    unfold dMv at hd
    obtain ⟨ad, us, rfl, ht, q⟩ := dg_tuple.mp hd
    obtain ⟨v1, r, rfl, h1, q⟩ := dgs_cons.mp q
    obtain ⟨v2, r, rfl, h2, q⟩ := dgs_cons.mp q
    cases dgs_nil.mp q
    have h1' : Da K H1 (dM m.1) v1 := Dg.mono (fun a us h => SqL.of h.1) (fun _ _ h => h) h1
    obtain ⟨p1, _, rfl, _, _⟩ := dg_tuple.mp h1
    unfold dI at h2
    obtain ⟨b, zs, rfl, ⟨l1, l2, l3⟩, hz⟩ := dg_list.mp h2
    rw [dgs_ints.mp hz] at l1
    exact ⟨m, ad, p1, b, rfl, rfl, ht, h1', l1, l2, l3⟩
def fnd (ms : List Mv) (k : Str × Int) : Option (List Int) := (ms.find? fun m => decide (m.1 = k)).map (·.2)
theorem fnd_hit {ms : List Mv} {k : Str × Int} {i : Nat} {m : Mv} (hi : ms[i]? = some m) (e : m.1 = k) (no : ∀ j, j < i → ∀ n, ms[j]? = some n → n.1 ≠ k) : fnd ms k = some m.2 := by
  unfold fnd
  have : ms.find? (fun m => decide (m.1 = k)) = some m := by
    rw [List.find?_eq_some_iff_getElem]
    obtain ⟨hl, hg⟩ := List.getElem?_eq_some_iff.mp hi
    refine ⟨by simpa using e, i, hl, hg, fun j hj => ?_⟩
    have := no j hj _ (List.getElem?_eq_some_iff.mpr ⟨by omega, rfl⟩)
    simpa using this
  rw [this]; rfl
theorem fnd_miss {ms : List Mv} {k : Str × Int} (no : ∀ j, j < ms.length → ∀ n, ms[j]? = some n → n.1 ≠ k) : fnd ms k = none := by
  unfold fnd
  rw [Option.map_eq_none_iff, List.find?_eq_none]
  intro m hm
  obtain ⟨j, hj, e⟩ := List.mem_iff_getElem.mp hm
  have := no j hj m (List.getElem?_eq_some_iff.mpr ⟨hj, e⟩)
  simpa using this
def dLI (xss : List (List Int)) : PyData := .list (xss.map dI)
theorem okD_LI (xss : List (List Int)) : OkD (dLI xss) := by
  refine ⟨?_, ?_⟩
  · simp only [dLI, PyData.canLay0]
    refine canLayAll0_mem _ fun d hd => ?_
    obtain ⟨m, hm, rfl⟩ := List.mem_map.mp hd
    exact (okD_ints m).1
  · simp only [dLI, PyData.depth]
    have := depthAll_map (f := dI) (k := 1) (fun m => by
      simp only [dI, PyData.depth]
      have := depthAll_map (f := PyData.int) (k := 0) (fun _ => by simp [PyData.depth]) m
      omega) xss
    omega
theorem at0 (y : V) (ys : List V) : atI (y :: ys) 0 = some y := atI_nat (j := 0) rfl
def stp (l : Ln) (o : Option (List (List Int))) (k : Str × Int) : Option (List (List Int)) := o.bind fun ts => (fnd (mvs l (ts.getLastD [])) k).map fun b => ts ++ [b]
def wkl (l : Ln) (ns : List Int) (run : List (Str × Int)) : Option (List (List Int)) := run.foldl (stp l) (some [ns])
theorem stp_none (l : Ln) (run : List (Str × Int)) : run.foldl (stp l) none = none := by
  induction run with
  | nil => rfl
  | cons k r ih => exact ih
theorem wkl_take {l : Ln} {ns : List Int} {run : List (Str × Int)} {i : Nat} {k : Str × Int} (h : run[i]? = some k) : wkl l ns (run.take (i + 1)) = stp l (wkl l ns (run.take i)) k := by
  unfold wkl
  rw [List.take_add_one, h, List.foldl_append]
  rfl
theorem wkl_none {l : Ln} {ns : List Int} {run : List (Str × Int)} {i : Nat} (h : wkl l ns (run.take i) = none) : wkl l ns run = none := by
  unfold wkl at h ⊢
  rw [← List.take_append_drop i run, List.foldl_append, h, stp_none]
theorem fnd_len {l : Ln} {ns b : List Int} {k : Str × Int} (hne : ns ≠ []) (h : fnd (mvs l ns) k = some b) : b ≠ [] ∧ b.length = ns.length := by
  unfold fnd at h
  cases q : (mvs l ns).find? (fun m => decide (m.1 = k)) with
  | none => rw [q] at h; cases h
  | some m =>
    rw [q] at h
    cases h
    have hm := List.mem_of_find?_eq_some q
    have hl : 1 ≤ ns.length := by cases ns with | nil => exact absurd rfl hne | cons x r => simp
    have : m.2.length = ns.length := by
      rcases List.mem_append.mp hm with z | z
      · obtain ⟨e, _, h⟩ := List.mem_map.mp z
        rw [← h]; simp only [onM, List.length_append, List.length_drop, List.length_cons, List.length_nil]; omega
      · obtain ⟨e, _, h⟩ := List.mem_map.mp z
        rw [← h]; simp only [backM, List.length_cons, List.length_dropLast]; omega
    refine ⟨fun e => ?_, this⟩
    have e : m.2 = [] := e
    rw [e] at this
    simp at this
    omega
structure WkOk (ns : List Int) (i : Nat) (ts : List (List Int)) : Prop where
  len : ts.length = i + 1
  each : ∀ t ∈ ts, t ≠ [] ∧ t.length = ns.length
theorem WkOk.snoc {l : Ln} {ns : List Int} {i : Nat} {ts : List (List Int)} {k : Str × Int} {b : List Int} (w : WkOk ns i ts) (h : fnd (mvs l (ts.getLastD [])) k = some b) : WkOk ns (i + 1) (ts ++ [b]) := by
  have hne : ts ≠ [] := fun e => by have := w.len; rw [e] at this; simp at this
  have hl : ts.getLastD [] ∈ ts := by
    rw [List.getLastD_eq_getLast?, List.getLast?_eq_some_getLast hne]
    exact List.getLast_mem hne
  obtain ⟨h1, h2⟩ := w.each _ hl
  obtain ⟨h3, h4⟩ := fnd_len h1 h
  refine ⟨by rw [List.length_append, w.len]; rfl, fun t ht => ?_⟩
  rcases List.mem_append.mp ht with z | z
  · exact w.each t z
  · have z : t = b := by simpa using z
    rw [z]; exact ⟨h3, by omega⟩
def dR (run : List (Str × Int)) : PyData := .list (run.map dM)
theorem das_at {K : PySem.W.Frag} {H : Hp} {run : List (Str × Int)} {vs : List V} {i : Nat} {y : V} (h : Das K H (run.map dM) vs) (e : vs[i]? = some y) : ∃ k, run[i]? = some k ∧ Da K H (dM k) y := by
  obtain ⟨d, e1, hd⟩ := Dgs.get h e
  rw [List.getElem?_map] at e1
  cases q : run[i]? with
  | none => rw [q] at e1; cases e1
  | some k => rw [q] at e1; cases e1; exact ⟨k, rfl, hd⟩
theorem okD_R {run : List (Str × Int)} (h : ∀ k ∈ run, PyData.strOk k.1 = true) : OkD (dR run) := by
  refine ⟨?_, ?_⟩
  · simp only [dR, PyData.canLay0]
    refine canLayAll0_mem _ fun d hd => ?_
    obtain ⟨m, hm, rfl⟩ := List.mem_map.mp hd
    exact (okD_M (h m hm)).1
  · simp only [dR, PyData.depth]
    have := depthAll_map (f := dM) (k := 1) (fun m => by simp [dM, PyData.depth, PyData.depthAll]) run
    omega
structure RunAt (K : PySem.W.Frag) (H : Hp) (q : Addr) (run : List (Str × Int)) : Prop where
  ex : ∃ vs, H q = some (.lst vs) ∧ Das K (hid q H) (run.map dM) vs
  ok : ∀ k ∈ run, PyData.strOk k.1 = true
theorem RunAt.same {K : PySem.W.Frag} {H H' : Hp} {q : Addr} {run : List (Str × Int)} (r : RunAt K H q run) (s : Same H H') : RunAt K H' q run := by
  obtain ⟨⟨vs, h1, h2⟩, h3⟩ := r
  exact ⟨⟨vs, s _ _ h1, Das.same (hid_mono s) h2⟩, h3⟩
theorem RunAt.da {K : PySem.W.Frag} {H : Hp} {q : Addr} {run : List (Str × Int)} (r : RunAt K H q run) : Da K H (dR run) (.ref q) := by
  obtain ⟨⟨vs, h1, h2⟩, h3⟩ := r
  exact dg_list.mpr ⟨q, vs, rfl, SqL.of h1, Das.same hid_same h2⟩
abbrev Ma := Mv × Addr × Addr
def MaOk (K : PySem.W.Frag) (H H1 : Hp) (p : Addr) (x : Ma) : Prop := (∃ p1, SqT K H1 x.2.1 [.ref p1, .ref x.2.2] ∧ Da K H1 (dM x.1.1) (.ref p1)) ∧ H1 x.2.2 = some (.lst (x.1.2.map V.int)) ∧ H x.2.2 = none ∧ x.2.2 ≠ p
theorem ma_all {K : PySem.W.Frag} {H H1 : Hp} {p : Addr} {ms : List Mv} {vs : List V} (D : Dgs (Lf H H1 p) (SqT K H1) (ms.map dMv) vs) :
    ∃ bs : List Ma, bs.map (·.1) = ms ∧ vs = bs.map (fun x => V.ref x.2.1) ∧ ∀ x ∈ bs, MaOk K H H1 p x := by
  have hl : vs.length = ms.length := by have := D.length; rw [List.length_map] at this; exact this
  have ex : ∀ i : Nat, ∃ x : Ma, ∀ y, vs[i]? = some y → ms[i]? = some x.1 ∧ y = .ref x.2.1 ∧ MaOk K H H1 p x := fun i => by
    cases q : vs[i]? with
    | none => exact ⟨(((Str.ofString "", 0), []), 0, 0), fun y e => nomatch e⟩
    | some y =>
      obtain ⟨m, ad, p1, b, h1, h2, h3, h4, h5, h6, h7⟩ := mv_at D q
      exact ⟨(m, ad, b), fun y' e => by cases e; exact ⟨h1, h2, ⟨p1, h3, h4⟩, h5, h6, h7⟩⟩
  let g : Nat → Ma := fun i => Classical.choose (ex i)
  have hg : ∀ i y, vs[i]? = some y → ms[i]? = some (g i).1 ∧ y = .ref (g i).2.1 ∧ MaOk K H H1 p (g i) := fun i => Classical.choose_spec (ex i)
  refine ⟨(List.range vs.length).map g, List.ext_getElem? fun i => ?_, List.ext_getElem? fun i => ?_, fun x hx => ?_⟩
  · by_cases hi : i < vs.length
    · rw [List.getElem?_map, List.getElem?_map, List.getElem?_range hi]
      exact ((hg i _ (List.getElem?_eq_getElem hi)).1).symm
    · rw [List.getElem?_eq_none (by simp; omega), List.getElem?_eq_none (by omega)]
  · by_cases hi : i < vs.length
    · rw [List.getElem?_map, List.getElem?_map, List.getElem?_range hi, List.getElem?_eq_getElem hi]
      exact congrArg some (hg i _ (List.getElem?_eq_getElem hi)).2.1
    · rw [List.getElem?_eq_none (by omega), List.getElem?_eq_none (by simp; omega)]
  · obtain ⟨i, hi, rfl⟩ := List.mem_map.mp hx
    have hi : i < vs.length := by simpa using hi
    exact (hg i _ (List.getElem?_eq_getElem hi)).2.2
theorem mvs_len {l : Ln} (ok : LineOk l) (ns : List Int) : (mvs l ns).length ≤ 120 := by
  unfold mvs
  rw [List.length_append, List.length_map, List.length_map]
  have h1 : (TL.fr l ns (oth (ns.getLastD 0))).length ≤ 60 := fr_len ok ns (oth (ns.getLastD 0))
  have h2 : (TL.fr l ns (ns.headD 0)).length ≤ 60 := fr_len ok ns (ns.headD 0)
  omega
theorem mvs_train {l : Ln} {ns : List Int} (hne : ns ≠ []) {m : Mv} (hm : m ∈ mvs l ns) : m.2 ≠ [] ∧ m.2.length = ns.length := by
  have hl : 1 ≤ ns.length := by cases ns with | nil => exact absurd rfl hne | cons x r => simp
  have : m.2.length = ns.length := by
    rcases List.mem_append.mp hm with z | z
    · obtain ⟨e, _, h⟩ := List.mem_map.mp z
      rw [← h]; simp only [onM, List.length_append, List.length_drop, List.length_cons, List.length_nil]; omega
    · obtain ⟨e, _, h⟩ := List.mem_map.mp z
      rw [← h]; simp only [backM, List.length_cons, List.length_dropLast]; omega
  refine ⟨fun e => ?_, this⟩
  rw [e] at this
  simp at this
  omega
structure AtL (H : Hp) (p : Addr) (as : List Addr) (ts : List (List Int)) : Prop where
  at_ : H p = some (.lst (as.map V.ref))
  len : as.length = ts.length
  each : ∀ (i : Nat) b t, as[i]? = some b → ts[i]? = some t → b ≠ p ∧ H b = some (.lst (t.map V.int))
theorem AtL.same {H H' : Hp} {p : Addr} {as : List Addr} {ts : List (List Int)} (h : AtL H p as ts) (s : Same H H') : AtL H' p as ts :=
  ⟨s _ _ h.at_, h.len, fun i b t h1 h2 => ⟨(h.each i b t h1 h2).1, s _ _ (h.each i b t h1 h2).2⟩⟩
theorem refs_da {K : PySem.W.Frag} {H : Hp} : ∀ {as : List Addr} {ts : List (List Int)}, as.length = ts.length → (∀ (i : Nat) b t, as[i]? = some b → ts[i]? = some t → H b = some (.lst (t.map V.int))) → Das K H (ts.map dI) (as.map V.ref)
  | [], [], _, _ => dgs_nil.mpr rfl
  | a :: as, t :: ts, hl, h => dgs_cons.mpr ⟨_, _, rfl, da_new (h 0 a t rfl rfl), refs_da (by simpa using hl) fun i b t' h1 h2 => h (i + 1) b t' h1 h2⟩
theorem AtL.da {K : PySem.W.Frag} {H : Hp} {p : Addr} {as : List Addr} {ts : List (List Int)} (h : AtL H p as ts) : Da K H (dLI ts) (.ref p) :=
  dg_list.mpr ⟨p, _, rfl, SqL.of h.at_, refs_da h.len fun i b t h1 h2 => (h.each i b t h1 h2).2⟩
theorem AtL.get {H : Hp} {p : Addr} {as : List Addr} {ts : List (List Int)} (h : AtL H p as ts) {i : Nat} {t : List Int} (ht : ts[i]? = some t) : ∃ b, as[i]? = some b ∧ b ≠ p ∧ H b = some (.lst (t.map V.int)) := by
  have hi : i < as.length := by rw [h.len]; exact (List.getElem?_eq_some_iff.mp ht).1
  exact ⟨as[i], List.getElem?_eq_getElem hi, h.each i _ t (List.getElem?_eq_getElem hi) ht⟩
theorem AtL.push {H : Hp} {p b : Addr} {as : List Addr} {ts : List (List Int)} {t : List Int} (h : AtL H p as ts) (hb : b ≠ p) (hh : H b = some (.lst (t.map V.int))) : AtL (upd H p (.lst (as.map V.ref ++ [V.ref b]))) p (as ++ [b]) (ts ++ [t]) := by
  refine ⟨by rw [upd_same, List.map_append]; rfl, by rw [List.length_append, List.length_append, h.len]; rfl, fun j c u hc hu => ?_⟩
  by_cases hj : j < as.length
  · rw [List.getElem?_append_left hj] at hc
    rw [List.getElem?_append_left (by rw [← h.len]; exact hj)] at hu
    obtain ⟨z1, z2⟩ := h.each j c u hc hu
    exact ⟨z1, by rw [upd_ne z1]; exact z2⟩
  · have hj2 : j = as.length := by
      have := (List.getElem?_eq_some_iff.mp hc).1
      rw [List.length_append, List.length_singleton] at this
      omega
    rw [hj2, List.getElem?_append_right (Nat.le_refl _), Nat.sub_self] at hc
    rw [hj2, h.len, List.getElem?_append_right (Nat.le_refl _), Nat.sub_self] at hu
    cases hc
    cases hu
    exact ⟨hb, by rw [upd_ne hb]; exact hh⟩
theorem TrOk.snoc {l : Int × List (Int × Int)} {ns : List Int} {x : Int} (ok : LineOk l) (T : TrOk l ns) (hne : ns ≠ []) (hx : x ∈ fr l ns (oth (ns.getLastD 0))) : TrOk l (ns ++ [x]) := by
  obtain ⟨h1, h2⟩ := List.mem_filter.mp hx
  have h2 : ¬ x / 2 ∈ ns.map (· / 2) := by simpa using h2
  refine ⟨fun e he => ?_, ?_, fun i a b ha hb => ?_⟩
  · rcases List.mem_append.mp he with z | z
    · exact T.ends e z
    · have z : e = x := by simpa using z
      rw [z]; exact jn_end ok h1
  · rw [List.map_append, List.nodup_append]
    refine ⟨T.nd, by simp, fun a ha b hb => ?_⟩
    have hb : b = x / 2 := by simpa using hb
    intro z
    exact h2 (by rw [← hb, ← z]; exact ha)
  · by_cases hi : i + 1 < ns.length
    · rw [List.getElem?_append_left hi] at hb
      rw [List.getElem?_append_left (by omega)] at ha
      exact T.ch i a b ha hb
    · have hlt : i + 1 < (ns ++ [x]).length := (List.getElem?_eq_some_iff.mp hb).1
      rw [List.length_append, List.length_singleton] at hlt
      have e1 : i + 1 = ns.length := by omega
      rw [e1, List.getElem?_append_right (Nat.le_refl _), Nat.sub_self] at hb
      cases hb
      rw [List.getElem?_append_left (by omega)] at ha
      have e2 : ns.getLastD 0 = a := by
        rw [List.getLastD_eq_getLast?, List.getLast?_eq_getElem?]
        have : ns.length - 1 = i := by omega
        rw [this, ha]; rfl
      rw [e2] at h1
      exact h1
theorem da_M {K : PySem.W.Frag} {H : Hp} {k : Str × Int} {v : V} (h : Da K H (dM k) v) : ∃ a, v = .ref a ∧ SqT K H a [.str k.1, .int k.2] := by
  unfold dM at h
  obtain ⟨a, vs, rfl, ht, q⟩ := dg_tuple.mp h
  obtain ⟨v1, r, rfl, h1, q⟩ := dgs_cons.mp q
  obtain ⟨v2, r, rfl, h2, q⟩ := dgs_cons.mp q
  cases dgs_nil.mp q
  cases dg_str.mp h1
  cases dg_int.mp h2
  exact ⟨a, rfl, ht⟩
theorem da_M' {K : PySem.W.Frag} {H : Hp} {k : Str × Int} {a : Addr} (h : SqT K H a [.str k.1, .int k.2]) : Da K H (dM k) (.ref a) := dg_tuple.mpr ⟨a, _, rfl, h, Dgs.two (dg_str.mpr rfl) (dg_int.mpr rfl)⟩
theorem hid_M {K : PySem.W.Frag} {H : Hp} {p : Addr} {vs : List V} {k : Str × Int} {v : V} (hp : H p = some (.lst vs)) (h : Da K H (dM k) v) : Da K (hid p H) (dM k) v := by
  obtain ⟨a, rfl, ht⟩ := da_M h
  exact da_M' (hid_tup hp ht)
abbrev msOf (cs : List Ma) : List Mv := cs.map (·.1)
theorem eqv_ms (ms : List Mv) : PyData.eqv (dMs ms) (.list []) = ms.isEmpty := by
  rw [dMs, eqv_list_nil]; cases ms <;> rfl
theorem eqv_R (run : List (Str × Int)) : PyData.eqv (dR run) (.list []) = run.isEmpty := by
  rw [dR, eqv_list_nil]; cases run <;> rfl
/-- the sum's way to tell who is joined -/
theorem jn_sum {js : List (Int × Int)} (h : ∀ p ∈ js, p.1 ≠ p.2) (e : Int) : srt ((js.filter fun p => decide (p.1 = e ∨ p.2 = e)).map fun p => p.1 + p.2 - e) = jn js e := by
  refine srt_congr ?_
  induction js with
  | nil => exact .refl _
  | cons p r ih =>
    have ih := ih fun q hq => h q (List.mem_cons_of_mem _ hq)
    have hp := h p List.mem_cons_self
    unfold below above at ih ⊢
    by_cases h1 : p.1 = e
    · have h2 : ¬ p.2 = e := fun z => hp (h1.trans z.symm)
      rw [List.filter_cons_of_pos (by simp [h1]), List.filter_cons_of_neg (by simp [h2]), List.filter_cons_of_pos (by simp [h1]), List.map_cons, List.map_cons]
      rw [show p.1 + p.2 - e = p.2 by omega]
      exact (List.Perm.cons _ ih).trans List.perm_middle.symm
    · by_cases h2 : p.2 = e
      · rw [List.filter_cons_of_pos (by simp [h2]), List.filter_cons_of_pos (by simp [h2]), List.filter_cons_of_neg (by simp [h1]), List.map_cons, List.map_cons, List.cons_append]
        rw [show p.1 + p.2 - e = p.1 by omega]
        exact List.Perm.cons _ ih
      · rw [List.filter_cons_of_neg (by simp [h1, h2]), List.filter_cons_of_neg (by simp [h2]), List.filter_cons_of_neg (by simp [h1])]
        exact ih
theorem isLine.lineOk {l : Ln} (h : isLine l) (hl : l.2.length ≤ 30) : LineOk l := by
  obtain ⟨h1, h2, h3, h4, h5⟩ := h
  refine ⟨h1, h2, h3, fun e => by have := inc_le l.2 e; omega, fun p hp => ?_⟩
  obtain ⟨a, b, c, _⟩ := h4 p hp
  exact ⟨a.1, c, b.2⟩
theorem isLine.ne {l : Ln} (h : isLine l) : ∀ p ∈ l.2, p.1 ≠ p.2 := fun p hp z => by
  obtain ⟨_, _, _, d⟩ := h.2.2.2.1 p hp
  rw [z] at d
  exact d rfl
/-- a move's words and its end -/
theorem mvs_words {l : Ln} (ok : LineOk l) {ns : List Int} {m : Mv} (hm : m ∈ mvs l ns) : (m.1.1 = Str.ofString "on" ∨ m.1.1 = Str.ofString "back") ∧ 0 ≤ m.1.2 ∧ m.1.2 < 2 * l.1 := by
  rcases List.mem_append.mp hm with z | z
  · obtain ⟨e, he, h⟩ := List.mem_map.mp z
    rw [← h]
    exact ⟨.inl rfl, jn_end ok (fr_mem he).1⟩
  · obtain ⟨e, he, h⟩ := List.mem_map.mp z
    rw [← h]
    exact ⟨.inr rfl, jn_end ok (fr_mem he).1⟩
/-- moves one behind the other, from a train to a train -/
inductive Steps (l : Ln) (ns : List Int) : List (Str × Int) → List Int → Prop
  | nil : Steps l ns [] ns
  | snoc {run : List (Str × Int)} {b : List Int} {m : Mv} : Steps l ns run b → m ∈ mvs l b → Steps l ns (run ++ [m.1]) m.2
theorem Steps.words {l : Ln} (ok : LineOk l) {ns : List Int} {run : List (Str × Int)} {b : List Int} (h : Steps l ns run b) : ∀ k ∈ run, (k.1 = Str.ofString "on" ∨ k.1 = Str.ofString "back") ∧ 0 ≤ k.2 ∧ k.2 < 2 * l.1 := by
  induction h with
  | nil => exact fun k hk => (nomatch hk)
  | snoc h hm ih =>
    intro k hk
    rcases List.mem_append.mp hk with z | z
    · exact ih k z
    · have z : k = _ := List.mem_singleton.mp z
      rw [z]; exact mvs_words ok hm
theorem strOk_word {x : Str} (h : x = Str.ofString "on" ∨ x = Str.ofString "back") : PyData.strOk x = true := by
  rcases h with rfl | rfl <;> decide +kernel
end TL
set_option Elab.async false
set_option linter.all false
set_option maxRecDepth 100000
set_option maxHeartbeats 4000000
namespace TL
open PySem PySem.Spec PyProof.Rows L2
/-! ### moves undone, and turned round -/
theorem fr_iff {l : Ln} {ns : List Int} {e x : Int} : x ∈ fr l ns e ↔ x ∈ jn l.2 e ∧ x / 2 ∉ ns.map (· / 2) := by
  unfold fr
  rw [List.mem_filter]
  constructor
  · rintro ⟨h1, h2⟩; exact ⟨h1, by simpa using h2⟩
  · rintro ⟨h1, h2⟩; exact ⟨h1, by simpa using h2⟩
theorem undo_on {l : Ln} {ns : List Int} {e : Int} (ok : LineOk l) (T : TrOk l ns) (hne : ns ≠ []) (he : e ∈ fr l ns (oth (ns.getLastD 0))) : (((("back" : Str), oth (ns.headD 0)), ns) : Mv) ∈ mvs l (ns.drop 1 ++ [e]) := by
  obtain ⟨h1, h2⟩ := fr_mem he
  obtain ⟨h, r, rfl⟩ : ∃ h r, ns = h :: r := by cases ns with | nil => exact absurd rfl hne | cons x r => exact ⟨x, r, rfl⟩
  refine List.mem_append.mpr (.inr (List.mem_map.mpr ⟨oth h, fr_iff.mpr ⟨?_, ?_⟩, ?_⟩))
  · cases r with
    | nil => exact jn_symm ok h1
    | cons y r => exact jn_symm ok (T.ch 0 h y rfl rfl)
  · rw [oth_half]
    have nd := T.nd
    rw [List.map_cons, List.nodup_cons] at nd
    intro z
    rw [List.map_append] at z
    rcases List.mem_append.mp z with z | z
    · exact nd.1 z
    · have z : h / 2 = e / 2 := by simpa using z
      exact h2 (by rw [← z]; simp)
  · unfold backM
    rw [oth_oth]
    simp
theorem undo_back {l : Ln} {ns : List Int} {e : Int} (ok : LineOk l) (T : TrOk l ns) (hne : ns ≠ []) (he : e ∈ fr l ns (ns.headD 0)) : (((("on" : Str), ns.getLastD 0), ns) : Mv) ∈ mvs l (oth e :: ns.dropLast) := by
  obtain ⟨h1, h2⟩ := fr_mem he
  obtain ⟨r, z, rfl⟩ : ∃ r z, ns = r ++ [z] := ⟨ns.dropLast, ns.getLast hne, (List.dropLast_concat_getLast hne).symm⟩
  have hz : (r ++ [z]).getLastD 0 = z := by simp
  have hd : (r ++ [z]).dropLast = r := by simp
  rw [hz, hd]
  refine List.mem_append.mpr (.inl (List.mem_map.mpr ⟨z, fr_iff.mpr ⟨?_, ?_⟩, ?_⟩))
  · rcases List.eq_nil_or_concat r with e1 | ⟨r', y, e1⟩
    · subst e1
      show z ∈ jn l.2 (oth (oth e))
      rw [oth_oth]
      exact jn_symm ok h1
    · rw [List.concat_eq_append] at e1
      subst e1
      have : (oth e :: (r' ++ [y])).getLastD 0 = y := by rw [← List.cons_append, List.getLastD_eq_getLast?, List.getLast?_concat]; rfl
      rw [this]
      exact T.ch r'.length y z (by simp) (by simp)
  · intro q
    rw [List.map_cons, oth_half] at q
    rcases List.mem_cons.mp q with q | q
    · exact h2 (by rw [← q]; simp)
    · have nd := T.nd
      rw [List.map_append, List.nodup_append] at nd
      exact nd.2.2 _ q (z / 2) (by simp) rfl
  · unfold onM; simp
end TL
set_option Elab.async false
set_option linter.all false
set_option maxRecDepth 100000
set_option maxHeartbeats 4000000
namespace TL
open PySem PySem.Spec PyProof.Rows L2
/-! ### runs gone and undone -/
theorem mvs_det {l : Ln} {ns : List Int} {m m' : Mv} (h : m ∈ mvs l ns) (h' : m' ∈ mvs l ns) (e : m.1 = m'.1) : m.2 = m'.2 := by
  have hw : (Str.ofString "on") ≠ Str.ofString "back" := by decide +kernel
  rcases List.mem_append.mp h with z | z <;> rcases List.mem_append.mp h' with z' | z' <;>
    obtain ⟨x, _, rfl⟩ := List.mem_map.mp z <;> obtain ⟨x', _, rfl⟩ := List.mem_map.mp z'
  · have : x = x' := congrArg Prod.snd e
    rw [this]
  · exact absurd (congrArg Prod.fst e) hw
  · exact absurd (congrArg Prod.fst e).symm hw
  · have : x = x' := congrArg Prod.snd e
    rw [this]
theorem fnd_mem {l : Ln} {ns : List Int} {m : Mv} (h : m ∈ mvs l ns) : fnd (mvs l ns) m.1 = some m.2 := by
  unfold fnd
  cases q : (mvs l ns).find? (fun n => decide (n.1 = m.1)) with
  | none => exact absurd (List.find?_eq_none.mp q m h) (by simp)
  | some n =>
    have h1 := List.mem_of_find?_eq_some q
    have h2 : n.1 = m.1 := by simpa using List.find?_some q
    show some n.2 = some m.2
    rw [mvs_det h1 h h2]
theorem stp_pre (l : Ln) (pre : List (List Int)) : ∀ (run : List (Str × Int)) (ts : List (List Int)), ts ≠ [] → run.foldl (stp l) (some (pre ++ ts)) = (run.foldl (stp l) (some ts)).map (pre ++ ·)
  | [], ts, _ => rfl
  | k :: r, ts, hne => by
    rw [List.foldl_cons, List.foldl_cons]
    have e : (pre ++ ts).getLastD [] = ts.getLastD [] := by
      rw [List.getLastD_eq_getLast?, List.getLastD_eq_getLast?, List.getLast?_append]
      cases q : ts.getLast? with
      | none => exact absurd (List.getLast?_eq_none_iff.mp q) hne
      | some x => rfl
    show r.foldl (stp l) ((fnd (mvs l ((pre ++ ts).getLastD [])) k).map fun b => pre ++ ts ++ [b]) = (r.foldl (stp l) ((fnd (mvs l (ts.getLastD [])) k).map fun b => ts ++ [b])).map (pre ++ ·)
    rw [e]
    cases fnd (mvs l (ts.getLastD [])) k with
    | none => show r.foldl (stp l) none = (r.foldl (stp l) none).map _; rw [stp_none]; rfl
    | some b =>
      show r.foldl (stp l) (some (pre ++ ts ++ [b])) = (r.foldl (stp l) (some (ts ++ [b]))).map _
      rw [List.append_assoc]
      exact stp_pre l pre r (ts ++ [b]) (by simp)
def und (k : Str × Int) (t : List Int) : Str × Int := if k.1 = Str.ofString "on" then (Str.ofString "back", oth (t.headD 0)) else (Str.ofString "on", t.getLastD 0)
def undo (ts : List (List Int)) (run : List (Str × Int)) : List (Str × Int) := (List.range run.length).reverse.map fun i => und (run.getD i (Str.ofString "", 0)) (ts.getD i [])
theorem undo_len (ts : List (List Int)) (run : List (Str × Int)) : (undo ts run).length = run.length := by simp [undo]
theorem undo_snoc {ts : List (List Int)} {run : List (Str × Int)} {c b : List Int} {k : Str × Int} (hl : ts.length = run.length + 1) (hb : ts.getLastD [] = b) : undo (ts ++ [c]) (run ++ [k]) = und k b :: undo ts run := by
  unfold undo
  rw [List.length_append, List.length_singleton, List.range_succ, List.reverse_append, List.reverse_singleton, List.singleton_append, List.map_cons]
  congr 1
  · have e1 : (run ++ [k]).getD run.length (Str.ofString "", 0) = k := by
      rw [List.getD_eq_getElem?_getD, List.getElem?_append_right (Nat.le_refl _), Nat.sub_self]; rfl
    have e2 : (ts ++ [c]).getD run.length [] = b := by
      rw [List.getD_eq_getElem?_getD, List.getElem?_append_left (by omega), ← hb, List.getLastD_eq_getLast?, List.getLast?_eq_getElem?, hl]
      rfl
    rw [e1, e2]
  · refine List.map_congr_left fun i hi => ?_
    have hi : i < run.length := by simpa using hi
    rw [List.getD_eq_getElem?_getD, List.getElem?_append_left hi, List.getD_eq_getElem?_getD, List.getElem?_append_left (by omega), ← List.getD_eq_getElem?_getD, ← List.getD_eq_getElem?_getD]
theorem undo_mv {l : Ln} {b : List Int} {m : Mv} (ok : LineOk l) (T : TrOk l b) (hne : b ≠ []) (hm : m ∈ mvs l b) : ((und m.1 b, b) : Mv) ∈ mvs l m.2 := by
  have hw : ¬ (Str.ofString "back") = Str.ofString "on" := by decide +kernel
  rcases List.mem_append.mp hm with z | z
  · obtain ⟨e, he, rfl⟩ := List.mem_map.mp z
    have h := undo_on ok T hne he
    unfold und
    rw [if_pos (show (onM b e).1.1 = Str.ofString "on" from rfl)]
    exact h
  · obtain ⟨e, he, rfl⟩ := List.mem_map.mp z
    have h := undo_back ok T hne he
    unfold und
    rw [if_neg (show ¬ (backM b e).1.1 = Str.ofString "on" from hw)]
    exact h
/-- what a run leads through -/
structure Trail (l : Ln) (ns : List Int) (run : List (Str × Int)) (ts : List (List Int)) (b : List Int) : Prop where
  go : wkl l ns run = some ts
  len : ts.length = run.length + 1
  last : ts.getLastD [] = b
  ok : ∀ t ∈ ts, TrOk l t ∧ t.length = ns.length ∧ t ≠ []
  step : ∀ (i : Nat) k t u, run[i]? = some k → ts[i]? = some t → ts[i + 1]? = some u → fnd (mvs l t) k = some u
  back : wkl l b (undo ts run) = some ts.reverse
  words : ∀ k ∈ undo ts run, (k.1 = Str.ofString "on" ∨ k.1 = Str.ofString "back") ∧ 0 ≤ k.2 ∧ k.2 < 2 * l.1
theorem Trail.b_ok {l : Ln} {ns : List Int} {run : List (Str × Int)} {ts : List (List Int)} {b : List Int} (h : Trail l ns run ts b) : b ∈ ts := by
  have h1 : ts ≠ [] := fun e => by have := h.len; rw [e] at this; simp at this
  rw [← h.last, List.getLastD_eq_getLast?]
  rw [List.getLast?_eq_some_getLast h1]
  exact List.getLast_mem h1
theorem Steps.trail {l : Ln} {ns : List Int} (ok : LineOk l) (T : TrOk l ns) (hne : ns ≠ []) {run : List (Str × Int)} {b : List Int} (h : Steps l ns run b) : ∃ ts, Trail l ns run ts b := by
  induction h with
  | nil => exact ⟨[ns], rfl, rfl, rfl, fun t ht => by rw [List.mem_singleton.mp ht]; exact ⟨T, rfl, hne⟩, fun i k t u hk => by simp at hk, rfl, fun k hk => by simp [undo] at hk⟩
  | @snoc run b m h hm ih =>
    obtain ⟨ts, R⟩ := ih
    obtain ⟨Tb, bl, bne⟩ := R.ok b R.b_ok
    obtain ⟨Tm, ml, mne⟩ := mvs_ok ok Tb bne hm
    have hu := undo_mv ok Tb bne hm
    refine ⟨ts ++ [m.2], ?_, by rw [List.length_append, R.len, List.length_append]; rfl, ?_, fun t ht => ?_, fun i k t u hk ht hu => ?_, ?_, ?_⟩
    · have e := R.go
      unfold wkl at e ⊢
      rw [List.foldl_append, e]
      show (fnd (mvs l (ts.getLastD [])) m.1).map (fun b => ts ++ [b]) = _
      rw [R.last, fnd_mem hm]; rfl
    · rw [List.getLastD_eq_getLast?, List.getLast?_append]; rfl
    · rcases List.mem_append.mp ht with z | z
      · exact R.ok t z
      · rw [List.mem_singleton.mp z]; exact ⟨Tm, ml.trans bl, mne⟩
    · have hl := R.len
      by_cases hi : i < run.length
      · rw [List.getElem?_append_left hi] at hk
        rw [List.getElem?_append_left (by omega)] at ht hu
        exact R.step i k t u hk ht hu
      · have h1 : i < (run ++ [m.1]).length := (List.getElem?_eq_some_iff.mp hk).1
        rw [List.length_append, List.length_singleton] at h1
        have e : i = run.length := by omega
        subst e
        rw [List.getElem?_append_right (Nat.le_refl _), Nat.sub_self] at hk
        cases hk
        rw [List.getElem?_append_right (by omega), hl, Nat.sub_self] at hu
        cases hu
        rw [List.getElem?_append_left (by omega)] at ht
        have e2 : t = b := by
          have h2 := R.last
          rw [List.getLastD_eq_getLast?, List.getLast?_eq_getElem?, hl, Nat.add_sub_cancel, ht] at h2
          exact h2
        rw [e2]; exact fnd_mem hm
    · rw [undo_snoc R.len R.last, List.reverse_append]
      unfold wkl
      rw [List.foldl_cons]
      show (undo ts run).foldl (stp l) ((fnd (mvs l m.2) (und m.1 b)).map fun c => [m.2] ++ [c]) = _
      have hf := fnd_mem hu
      have hf : fnd (mvs l m.2) (und m.1 b) = some b := hf
      rw [hf]
      show (undo ts run).foldl (stp l) (some ([m.2] ++ [b])) = _
      rw [stp_pre l [m.2] _ [b] (by simp)]
      have e := R.back
      unfold wkl at e
      rw [e]; rfl
    · rw [undo_snoc R.len R.last]
      intro k hk
      rcases List.mem_cons.mp hk with rfl | hk
      · exact mvs_words ok hu
      · exact R.words k hk
end TL
set_option Elab.async false
set_option linter.all false
set_option maxRecDepth 100000
set_option maxHeartbeats 4000000
namespace TL
open PySem PySem.Spec PyProof.Rows PySem.W L2
/-! ### range(hi, lo, -1) -/
def ItD (hi : Int) (n : Nat) : It := ⟨fun i _ => i < n, fun i H x H' => H' = H ∧ x = .int (hi + (i : Int) * -1), fun i _ => n ≤ i⟩
theorem turn_rangeD {P : Program} {w : World} {K : PySem.W.Frag} {tg : Expr} (it : Addr) (hi : Int) (n : Nat) : Turn P w K tg (ItD hi n) [it] it (fun i h => IsRangeIter h it (hi + (i : Nat) * -1) ((n : Int) - (i : Nat)) (-1)) where
  mem := by simp
  obj := fun i h st b hb => by
    have e : b = it := by simpa using hb
    subst e
    exact ⟨_, st, fun v z => by
      have z' : Data.fields _ = Data.cell v := z
      cases z'⟩
  keep := fun i h h' st k => k it (by simp) _ st
  item := by
    intro X hP hw hK hc i pins s σ H E I hf st hg
    subst hP hw hK
    obtain ⟨f0, f1, f2, f3, f4, f5⟩ := hf it (by simp)
    have W := Walks.range (prog := X.prog) (w := X.w) (I.ok.hd hc) it hi (-1) n
    refine W.item i s _ _ hg st fun v h' tk hv st' kk => ?_
    obtain ⟨t, rfl⟩ := hv
    have I1 : Inv X pins σ H { s with heap := h', toks := tk } := I.turned (fun b o hb e => kk b o (by simpa using hb) e) f0 f1 f3 f4 f5
    exact ⟨_, rfl, go_of (s := { s with heap := h', toks := tk }) (n := "range_iterator") st' rfl rfl (by decide) ⟨.int (hi + (i : Int) * -1), H, I1, ⟨t, rfl⟩, ⟨rfl, rfl⟩, st', fun b hb => (hf b hb).1⟩⟩
  done := by
    intro X hP hw hK hc i pins s σ H E I hf st hg
    subst hP hw hK
    obtain ⟨f0, f1, f2, f3, f4, f5⟩ := hf it (by simp)
    exact wpAny_pyNext_range_end (I.ok.hd hc) st (by have : n ≤ i := hg; omega) fun h' eb => ⟨rfl, I.turned (t' := s.toks) (fun b o hb e => eb b o hb e) f0 f1 f3 f4 f5⟩
  self := fun _ _ _ _ _ st h => wpAny_pyIter_rangeiter st h
theorem size_neg (a b : Int) : Builtin.Range.rangeSize a b (-1) = if a > b then a - b else 0 := by
  unfold Builtin.Range.rangeSize
  rw [if_neg (by decide)]
  simp only [Int.neg_neg, Int.ediv_one]
  split <;> omega
theorem small_neg {a b : Int} (ha : -(2 ^ 61) ≤ a) (ha' : a < 2 ^ 61) (hb : -(2 ^ 61) ≤ b) (hb' : b < 2 ^ 61) : Builtin.Range.small a b (-1) = true := by
  unfold Builtin.Range.small
  rw [size_neg]
  simp only [Builtin.Range.rangeFitsLong, Bool.and_eq_true, Bool.or_eq_true, decide_eq_true_eq, beq_iff_eq]
  split <;> simp <;> omega
section
variable {X : Cx} {tg : Expr}
def iRngD (ta : TA) : TI := fun σ H R => ta σ H fun vs H1 => ∃ i j : Int, vs = [.int i, .int j, .int (-1)] ∧ (-1000000 ≤ i ∧ i < 1000000 ∧ -1000000 ≤ j ∧ j < 1000000) ∧ R (ItD i (i - j).toNat) H1
theorem pi_rangeD {a b c : Expr} {ta : TA} {p pos : Pos} (hg : Gl X "range") (hm : X.mg "range" = none) (ha : PA X [a, b, c] ta) (hs : starEach [a, b, c] X.env = (false, eval a X.env) :: starEach [b, c] X.env := by rfl) (hs2 : (backTo pos (starEach [b, c] X.env)).any (·.1) = false := by rfl) :
    PI X tg (.Call (.Name "range" p) [a, b, c] [] pos) (iRngD ta) := by
  intro pins s σ H R I h
  refine Call_ (ld_blt I hg hm boot_range (PyProof.Rows.callWith_type1 (thn (ha pos pins s σ H _ I h) fun us s1 ⟨vs, H1, I1, r1, q1⟩ => ?_) hs hs2))
  obtain ⟨i, j, e, ⟨q1, q2, q3, q4⟩, q⟩ := q1
  subst e
  cases r1 with
  | cons r rr =>
    cases rr with
    | cons r' rr =>
      cases rr with
      | cons r'' rr =>
        cases rr
        obtain ⟨t, rfl⟩ := r
        obtain ⟨t', rfl⟩ := r'
        obtain ⟨t'', rfl⟩ := r''
        refine call_range_3 (by decide) ?_ (Or.inl (PyProof.noPylong_small (by omega)))
        refine wpAny_pyIter_range (IsRange.new ..) (small_neg (by omega) (by omega) (by omega) (by omega)) ?_
        have I2 : Inv X pins σ H1 { s1 with heap := s1.heap.push { cls := .type "range", data := .fields #[.int i t, .int j t', .int (-1) t''] } } := I1.kept (t' := s1.toks) fun b o e => Heap.get?_push_of_some _ e
        refine ⟨(s1.heap.push { cls := .type "range", data := .fields #[.int i t, .int j t', .int (-1) t''] }).objs.size, [(s1.heap.push { cls := .type "range", data := .fields #[.int i t, .int j t', .int (-1) t''] }).objs.size], _, _, H1, rfl,
          I2.kept (t' := s1.toks) fun b o e => Heap.get?_push_of_some _ e, turn_rangeD _ i (i - j).toNat, ?_, fun b hb => ?_, q⟩
        · have e1 : i + ((0 : Nat) : Int) * -1 = i := by simp
          have e2 : (((i - j).toNat : Nat) : Int) - ((0 : Nat) : Int) = Builtin.Range.rangeSize i j (-1) := by rw [size_neg]; split <;> omega
          show IsRangeIter _ _ (i + ((0 : Nat) : Int) * -1) ((((i - j).toNat : Nat) : Int) - ((0 : Nat) : Int)) (-1)
          rw [e1, e2]
          exact Heap.get?_push_size _ rfl
        · have e : b = (s1.heap.push { cls := .type "range", data := .fields #[.int i t, .int j t', .int (-1) t''] }).objs.size := by simpa using hb
          subst e
          exact I2.fpOk (Nat.le_refl _) (I2.hok.fresh (Nat.le_refl _))
end
theorem for_rangeD {hi : Int} {n : Nat} {g : TG} {tb : TS} {D : Ends} {σ : St} {H : Hp} (Pv : Nat → St → Hp → Prop) (h0 : Pv 0 σ H)
    (hs : ∀ i σ H, i < n → Pv i σ H → g (.int (hi + (i : Int) * -1)) σ H fun σ2 H2 => tb { D with nx := Pv (i + 1), ct := Pv (i + 1), bk := D.nx } σ2 H2) (hd : ∀ σ H, Pv n σ H → D.nx σ H) :
    ∃ W : Nat → Nat → St → Hp → Prop, (∃ m, W 0 m σ H) ∧ ∀ i m σ H, W i m σ H →
      ((ItD hi n).stop i H ∧ D.nx σ H) ∨ ((ItD hi n).go i H ∧ ∃ N : St → Hp → Prop, (∀ σ' H', N σ' H' → ∃ m', m' < m ∧ W (i + 1) m' σ' H') ∧ ∀ x H', (ItD hi n).yld i H x H' → g x σ H' fun σ2 H2 => tb { D with nx := N, ct := N, bk := D.nx } σ2 H2) := by
  refine ⟨fun i m σ H => m = n - i ∧ i ≤ n ∧ Pv i σ H, ⟨n, by simp, Nat.zero_le _, h0⟩, ?_⟩
  rintro i m σ H ⟨rfl, hi, p⟩
  by_cases hlt : i < n
  · refine .inr ⟨hlt, Pv (i + 1), fun σ' H' p' => ⟨n - (i + 1), by omega, rfl, hlt, p'⟩, fun x H' y => ?_⟩
    obtain ⟨e, y⟩ := y
    subst e y
    exact hs i σ _ hlt p
  · have e : i = n := by omega
    subst e
    exact .inl ⟨Nat.le_refl _, hd σ H p⟩
end TL
set_option Elab.async false
set_option linter.all false
set_option maxRecDepth 100000
set_option maxHeartbeats 4000000
namespace K75
open PySem L2 TL PyProof.Rows
abbrev St := L2.St
def top (i : Nat) : Stmt := PySem.Challenge.pw_turnline_k75_whole_runs_by_texts.main.body.getD i (.Pass ⟨0, 0, 0, 0⟩)

def sp_other : Sp := fun vs H Q _ => ∃ e : Int, vs = [.int e] ∧ Q (.int (oth e)) H
def sp_half : Sp := fun vs H Q _ => ∃ e : Int, vs = [.int e] ∧ Q (.int (e / 2)) H
def sp_cell (K : PySem.W.Frag) : Sp := fun vs H Q _ => ∃ (a : Addr) (ns : List Int) (k : Int), vs = [.ref a, .int k] ∧ SqL K H a (ns.map V.int) ∧ 0 ≤ k ∧ ∀ c, Q (.int c) H
def sp_mix : Sp := fun vs H Q _ => ∃ c k : Int, vs = [.int c, .int k] ∧ 0 ≤ k ∧ k ≤ 1000 ∧ ∀ n, 0 ≤ n → n < 2147483648 → Q (.int n) H

abbrev s_other_end : Stmt := top 9
theorem sc_other_end : FnScope ["end"] ["end"] (defScope s_other_end) := ⟨rfl, rfl, rfl, by decide +kernel, rfl, by decide +kernel, by decide +kernel⟩

abbrev s_piece_of : Stmt := top 10
theorem sc_piece_of : FnScope ["end"] ["end"] (defScope s_piece_of) := ⟨rfl, rfl, rfl, by decide +kernel, rfl, by decide +kernel, by decide +kernel⟩

abbrev s_law_other : Stmt := top 41
theorem sc_law_other : FnScope ["_law_end"] ["_law_end"] (defScope s_law_other) := ⟨rfl, rfl, rfl, by decide +kernel, rfl, by decide +kernel, by decide +kernel⟩

abbrev s_law_cell_at : Stmt := top 39
theorem sc_law_cell_at : FnScope ["_law_script", "_law_k"] ["_law_script", "_law_k"] (defScope s_law_cell_at) := ⟨rfl, rfl, rfl, by decide +kernel, rfl, by decide +kernel, by decide +kernel⟩

abbrev s_law_mix : Stmt := top 40
theorem sc_law_mix : FnScope ["_law_cell", "_law_k", "_law_time", "_law_number"] ["_law_cell", "_law_k"] (defScope s_law_mix) := ⟨rfl, rfl, rfl, by decide +kernel, rfl, by decide +kernel, by decide +kernel⟩

section
variable {P : Program} {w : World} {K : PySem.W.Frag} {mg : Str → Option Value} {base : Heap} {f : Addr} {fd : FuncData}
theorem ok_other_end (F : Fn K mg "other_end" s_other_end ["end"] f fd) : FnOk P w K mg base CX0 1 f fd ["end"] sp_other := by
  refine F.F.ok sc_other_end (fun vs H Q E h => ?_) (fun cdv A outer s H vs Q E hr h => ?_)
  · obtain ⟨e, rfl, _⟩ := h; rfl
  · obtain ⟨e, rfl, k⟩ := h
    refine ⟨_, (pss_one (ps_ret (pe_op op_xor (pv 0) pe_int))), ?_⟩
    refine ⟨_, rfl, _, _, rfl, rfl, ?_⟩
    show Q (.int (Builtin.bitXor e 1)) H
    rw [xor_one]; exact k
theorem ok_piece_of (F : Fn K mg "piece_of" s_piece_of ["end"] f fd) : FnOk P w K mg base CX0 1 f fd ["end"] sp_half := by
  refine F.F.ok sc_piece_of (fun vs H Q E h => ?_) (fun cdv A outer s H vs Q E hr h => ?_)
  · obtain ⟨e, rfl, _⟩ := h; rfl
  · obtain ⟨e, rfl, k⟩ := h
    refine ⟨_, (pss_one (ps_ret (pe_op op_fdiv (pv 0) pe_int))), ?_⟩
    exact ⟨_, rfl, _, _, rfl, rfl, ⟨by decide, by decide⟩, k⟩
theorem ok_law_other (F : Fn K mg "_law_other" s_law_other ["_law_end"] f fd) : FnOk P w K mg base CX0 1 f fd ["_law_end"] sp_other := by
  refine F.F.ok sc_law_other (fun vs H Q E h => ?_) (fun cdv A outer s H vs Q E hr h => ?_)
  · obtain ⟨e, rfl, _⟩ := h; rfl
  · obtain ⟨e, rfl, k⟩ := h
    refine ⟨_, (pss_one (ps_ret (pe_op op_sub (pe_op op_add (pv 0) pe_int) (pe_op op_mul (pe_op op_mod (pv 0) pe_int) pe_int)))), ?_⟩
    refine ⟨_, rfl, _, _, rfl, rfl, _, rfl, _, _, rfl, rfl, by show (0 : Int) < 2; decide, _, _, rfl, rfl, .inr ⟨by decide, by decide⟩, _, _, rfl, rfl, ?_⟩
    show Q (.int (e + 1 - e % 2 * 2)) H
    have : e + 1 - e % 2 * 2 = oth e := by unfold oth; omega
    rw [this]; exact k
theorem ok_law_cell_at (F : Fn K mg "_law_cell_at" s_law_cell_at ["_law_script", "_law_k"] f fd) (B : Bl mg) : FnOk P w K mg base CX0 1 f fd ["_law_script", "_law_k"] (sp_cell K) := by
  refine F.F.ok sc_law_cell_at (fun vs H Q E h => ?_) (fun cdv A outer s H vs Q E hr h => ?_)
  · obtain ⟨a, ns, k, rfl, _⟩ := h; rfl
  · obtain ⟨a, ns, k, rfl, hS, h0, q⟩ := h
    refine ⟨_, (pss_cons (ps_if (pt_cmp (pc_lt (pv 1) (pe_callB call_len_seq rfl B.len boot_len (pa_cons (pv 0) pa_nil))))
  (pss_one (ps_ret (pe_ix ix_list (pv 0) (pv 1) (fun _ _ => rfl)))) pss_nil)
 (pss_one (ps_ret pe_int))), ?_⟩
    refine ⟨_, rfl, _, rfl, a, _, rfl, .inl hS, _, _, rfl, rfl, _, rfl, ite2 (fun hlt => ?_) (fun _ => ?_)⟩
    · have hlt : k < ((ns.map V.int).length : Int) := by simpa using hlt
      rw [List.length_map] at hlt
      have hg : (ns.map V.int)[k.toNat]? = some (V.int (ns.getD k.toNat 0)) := by
        rw [List.getElem?_map, List.getD_eq_getElem?_getD]
        have : k.toNat < ns.length := by omega
        simp [this]
      have e1 : ((k.toNat : Nat) : Int) = k := by omega
      exact ⟨_, rfl, _, rfl, a, _, k, _, rfl, rfl, hS, by have h := atI_nat hg; rw [e1] at h; exact h, q _⟩
    · exact q _
theorem ok_law_mix (F : Fn K mg "_law_mix" s_law_mix ["_law_cell", "_law_k"] f fd) (B : Bl mg) : FnOk P w K mg base CX0 1 f fd ["_law_cell", "_law_k"] sp_mix := by
  refine F.F.ok sc_law_mix (fun vs H Q E h => ?_) (fun cdv A outer s H vs Q E hr h => ?_)
  · obtain ⟨c, k, rfl, _⟩ := h; rfl
  · obtain ⟨c, k, rfl, h0, h1, q⟩ := h
    refine ⟨_, (pss_cons (ps_if (pt_cmp (pc_ge (pv 0) (pe_op op_pow pe_int pe_int)))
  (pss_cons (ps_for PassesOwn.never rfl (pi_range1 rfl B.range (pa_cons (pv 1) pa_nil)) (pg_name (i := 2) sc_law_mix.nd rfl (Or.inl rfl))
  (pss_one (ps_set (i := 0) sc_law_mix.nd rfl (Or.inl rfl) (pe_op op_fdiv (pv 0) (pe_op op_pow pe_int pe_int)))))
 (pss_one (ps_ret (pe_op op_mod (pv 0) (pe_op op_pow pe_int pe_int))))) pss_nil)
 (pss_cons (ps_set (i := 3) sc_law_mix.nd rfl (Or.inl rfl) (pe_op op_mod (pe_op op_mul (pe_op op_add (pe_op op_add (pe_op op_mod (pv 0) pe_int) (pe_op op_mul (pe_op op_mul (pv 1) (pv 1)) pe_int)) (pv 1)) pe_int) pe_int))
 (pss_cons (ps_set (i := 3) sc_law_mix.nd rfl (Or.inl rfl) (pe_op op_mod (pe_op op_mul (pv 3) (pv 3)) pe_int))
 (pss_one (ps_ret (pe_op op_fdiv (pe_op op_mod (pe_op op_mul (pv 3) (pe_op op_add (pv 3) pe_int)) pe_int) pe_int)))))), ?_⟩
    refine ⟨_, rfl, _, _, rfl, rfl, ⟨by decide, by decide, by decide⟩, _, _, rfl, rfl, _, rfl, ite2 (fun hlt => ?_) (fun _ => ?_)⟩
    · refine ⟨_, rfl, _, rfl, by omega, by omega, for_range (fun i σ H2 => H2 = H ∧ ∃ (c : Int) (x : Option V), σ = [some (.int c), some (.int k), x, none]) ⟨rfl, c, none, rfl⟩ ?_ ?_⟩
      · rintro i σ H2 hi ⟨rfl, c, x, rfl⟩
        exact ⟨_, rfl, _, _, rfl, rfl, ⟨by decide, by decide, by decide⟩, _, _, rfl, rfl, ⟨by decide, by decide⟩, rfl, _, _, rfl⟩
      · rintro σ H2 ⟨rfl, c, x, rfl⟩
        refine ⟨_, rfl, _, _, rfl, rfl, ⟨by decide, by decide, by decide⟩, _, _, rfl, rfl, (by show (0 : Int) < _; decide), q _ ?_ ?_⟩
        · show 0 ≤ c % (10 ^ 6); omega
        · show c % (10 ^ 6) < _; omega
    · refine ⟨_, rfl, _, _, rfl, rfl, (by show (0 : Int) < _; decide), _, rfl, _, rfl, _, _, rfl, rfl, .inl ⟨by omega, by omega⟩, _, _, rfl, rfl, .inr ⟨by decide, by decide⟩, _, _, rfl, rfl, _, rfl, _, _, rfl, rfl, _, _, rfl, rfl, .inr ⟨by decide, by decide⟩, _, _, rfl, rfl, (by show (0 : Int) < _; decide), ?_⟩
      dsimp only
      generalize hn : (c % 1000003 + k * k * 7919 + k) * 48271 % 2147483629 = n
      have n0 : 0 ≤ n := by omega
      have n1 : n < 2147483629 := by omega
      refine ⟨_, rfl, _, rfl, _, _, rfl, rfl, .inl ⟨by omega, by omega⟩, _, _, rfl, rfl, (by show (0 : Int) < _; decide), ?_⟩
      dsimp only
      generalize hm : n * n % 2147483587 = m
      have m0 : 0 ≤ m := by omega
      have m1 : m < 2147483587 := by omega
      refine ⟨_, rfl, _, rfl, _, _, rfl, rfl, _, _, rfl, rfl, .inl ⟨by omega, by omega⟩, _, _, rfl, rfl, (by show (0 : Int) < _; decide), _, _, rfl, rfl, ⟨by decide, by decide⟩, q _ ?_ ?_⟩
      · show 0 ≤ m * (m + 2) % 2147483579 / 7; omega
      · show m * (m + 2) % 2147483579 / 7 < _; omega
end
end K75
set_option Elab.async false
set_option linter.all false
set_option maxRecDepth 100000
set_option maxHeartbeats 4000000
namespace K75
open PySem L2 TL PyProof.Rows
structure Cl (mg : Str → Option Value) (t1 t2 : Tok) : Prop where
  MOST_PIECES : mg "MOST_PIECES" = some (.int 40 t1)
  MOST_JOINTS : mg "MOST_JOINTS" = some (.int 80 t2)
structure Xl (K : PySem.W.Frag) (mg : Str → Option Value) (c : Addr) : Prop where
  NoLine : Xc K mg "NoLine" c
def sp_isend (K : PySem.W.Frag) : Sp := fun vs H Q _ => ∃ (a : Addr) (m e : Int) (x : V), vs = [.ref a, .int e] ∧ SqT K H a [.int m, x] ∧ Q (.bl (decide (0 ≤ e ∧ e < 2 * m))) H
def sp_cj (K : PySem.W.Frag) (C : Addr) : Sp := fun vs H Q E => ∃ (a b : Addr) (m : Int) (x : V) (p : Int × Int), vs = [.ref a, .ref b] ∧ SqT K H a [.int m, x] ∧ SqT K H b [.int p.1, .int p.2] ∧
  (okJ m p → Q .non H) ∧ (¬ okJ m p → ∀ e, H e = none → E (.ref C) (some e) H)
def sp_cl (K : PySem.W.Frag) (C : Addr) : Sp := fun vs H Q E => ∃ (v : V) (l : Ln), vs = [v] ∧ Da K H (dL l) v ∧ l.2.length ≤ 100000 ∧ (isLine l → ∀ H', Same H H' → Q .non H') ∧ (¬ isLine l → ∀ H', Same H H' → ∀ e, H' e = none → E (.ref C) (some e) H')
abbrev s_is_end : Stmt := top 11
theorem sc_is_end : FnScope ["line", "end"] ["line", "end"] (defScope s_is_end) := ⟨rfl, rfl, rfl, by decide +kernel, rfl, by decide +kernel, by decide +kernel⟩

abbrev s_check_joint : Stmt := top 13
theorem sc_check_joint : FnScope ["line", "joint", "low", "high"] ["line", "joint"] (defScope s_check_joint) := ⟨rfl, rfl, rfl, by decide +kernel, rfl, by decide +kernel, by decide +kernel⟩

abbrev s_check_line : Stmt := top 12
theorem sc_check_line : FnScope ["line", "many", "joints", "seen", "joint"] ["line"] (defScope s_check_line) := ⟨rfl, rfl, rfl, by decide +kernel, rfl, by decide +kernel, by decide +kernel⟩

section
variable {P : Program} {w : World} {K : PySem.W.Frag} {mg : Str → Option Value} {base : Heap} {f : Addr} {fd : FuncData} {c1 : Addr} {t1 t2 : Tok}
theorem ok_is_end (F : Fn K mg "is_end" s_is_end ["line", "end"] f fd) : FnOk P w K mg base CX0 1 f fd ["line", "end"] (sp_isend K) := by
  refine F.F.ok sc_is_end (fun vs H Q E h => ?_) (fun cdv A outer s H vs Q E hr h => ?_)
  · obtain ⟨a, m, e, x, rfl, _⟩ := h; rfl
  · obtain ⟨a, m, e, x, rfl, ht, k⟩ := h
    refine ⟨_, (pss_one (ps_ret (pe_chain op_le op_lt pe_int (pv 1) (pe_op op_mul pe_int (pe_ix ix_tup (pv 0) pe_int (fun _ _ => rfl)))))), ?_⟩
    refine ⟨_, rfl, _, _, rfl, rfl, _, rfl, ite2 (fun h => ?_) (fun h => ?_)⟩
    · have h : 0 ≤ e := by simpa using h
      refine ⟨_, rfl, a, _, _, _, rfl, rfl, ht, rfl, _, _, rfl, rfl, .inl ⟨by decide, by decide⟩, _, _, rfl, rfl, ?_⟩
      have e1 : decide (0 ≤ e ∧ e < 2 * m) = decide (e < 2 * m) := by simp [h]
      rw [e1] at k
      exact k
    · have h : ¬ 0 ≤ e := by simpa using h
      have e1 : decide (0 ≤ e ∧ e < 2 * m) = false := by simp [h]
      rw [e1] at k
      exact k
theorem ok_check_joint {f1 f2 : Addr} {fd1 fd2 : FuncData} (F : Fn K mg "check_joint" s_check_joint ["line", "joint"] f fd) (XS : Xl K mg c1) (F_is_end : Fn K mg "is_end" s_is_end ["line", "end"] f1 fd1)
    (F_piece_of : Fn K mg "piece_of" s_piece_of ["end"] f2 fd2) : FnOk P w K mg base (CXr P w base) 2 f fd ["line", "joint"] (sp_cj K c1) := by
  have G_is_end : FnOk P w K mg base CX0 1 f1 fd1 ["line", "end"] (sp_isend K) := ok_is_end F_is_end
  have G_piece_of : FnOk P w K mg base CX0 1 f2 fd2 ["end"] sp_half := ok_piece_of F_piece_of
  refine F.F.okX sc_check_joint (fun vs H Q E h => ?_) (fun cdv A outer s H vs Q E hr h => ?_)
  · obtain ⟨a, b, m, x, p, rfl, _⟩ := h; rfl
  · obtain ⟨a, b, m, x, ⟨lo, hi⟩, rfl, hl, hj, k1, k2⟩ := h
    dsimp only at hj
    refine ⟨_, (pss_cons (ps_asg (pv 1) (pg_tup (n := 2) rfl (pgs_cons (pg_name (i := 2) sc_check_joint.nd rfl (Or.inl rfl)) (pgs_cons (pg_name (i := 3) sc_check_joint.nd rfl (Or.inl rfl)) pgs_nil))))
 (pss_cons (ps_if (PW.pt (pw_or (pt_not (pt_val (pe_call G_is_end (hr.mono (by decide)) rfl F_is_end.m F_is_end.F.kp F_is_end.b .nil pass0 (pa_cons (pv 0) (pa_cons (pv 2) pa_nil))))) (pw_or1 (pt_not (pt_val (pe_call G_is_end (hr.mono (by decide)) rfl F_is_end.m F_is_end.F.kp F_is_end.b .nil pass0 (pa_cons (pv 0) (pa_cons (pv 3) pa_nil))))))))
  (pss_one (ps_raise raises_cx rfl rfl XS.NoLine.m XS.NoLine.q PySem.F.excBase_ValueError (pa_cons pe_str pa_nil))) pss_nil)
 (pss_cons (ps_if (pt_cmp (pc_gt (pv 2) (pv 3)))
  (pss_one (ps_raise raises_cx rfl rfl XS.NoLine.m XS.NoLine.q PySem.F.excBase_ValueError (pa_cons pe_str pa_nil))) pss_nil)
 (pss_one (ps_if (pt_cmp (pc_eqI (pe_call G_piece_of (hr.mono (by decide)) rfl F_piece_of.m F_piece_of.F.kp F_piece_of.b .nil pass0 (pa_cons (pv 2) pa_nil)) (pe_call G_piece_of (hr.mono (by decide)) rfl F_piece_of.m F_piece_of.F.kp F_piece_of.b .nil pass0 (pa_cons (pv 3) pa_nil))))
  (pss_one (ps_raise raises_cx rfl rfl XS.NoLine.m XS.NoLine.q PySem.F.excBase_ValueError (pa_cons pe_str pa_nil))) pss_nil))))), ?_⟩
    refine ⟨_, rfl, b, _, rfl, hj, rfl, _, _, rfl, _, _, rfl, rfl, ?_⟩
    refine ⟨_, rfl, _, rfl, a, m, lo, x, rfl, hl, _, rfl, ite2 (fun h => ?_) (fun h => ?_)⟩
    · have h : ¬ (0 ≤ lo ∧ lo < 2 * m) := fun z => by simp [z] at h
      exact iteT ⟨by decide, fun e he => k2 (fun z => h z.1) e he⟩
    have h1 : 0 ≤ lo ∧ lo < 2 * m := by simpa using h
    refine ⟨_, rfl, _, rfl, a, m, hi, x, rfl, hl, _, rfl, ite2 (fun h => ?_) (fun h => ?_)⟩
    · have h : ¬ (0 ≤ hi ∧ hi < 2 * m) := fun z => by simp [z] at h
      exact ⟨by decide, fun e he => k2 (fun z => h z.2.1) e he⟩
    have h2 : 0 ≤ hi ∧ hi < 2 * m := by simpa using h
    refine ⟨_, rfl, _, rfl, _, _, rfl, rfl, _, rfl, ite2 (fun h => ?_) (fun h => ?_)⟩
    · have h : lo > hi := by simpa using h
      exact ⟨by decide, fun e he => k2 (fun z => by have := z.2.2.1; dsimp only at this; omega) e he⟩
    have h3 : lo ≤ hi := by have h : ¬ lo > hi := by simpa using h
                            omega
    refine ⟨_, rfl, lo, rfl, _, rfl, hi, rfl, _, _, rfl, rfl, _, rfl, ite2 (fun h => ?_) (fun h => ?_)⟩
    · have h : lo / 2 = hi / 2 := by simpa using h
      exact ⟨by decide, fun e he => k2 (fun z => z.2.2.2 h) e he⟩
    have h4 : lo / 2 ≠ hi / 2 := by simpa using h
    exact k1 ⟨h1, h2, h3, h4⟩
theorem ok_check_line {f3 : Addr} {fd3 : FuncData} (F : Fn K mg "check_line" s_check_line ["line"] f fd) (XS : Xl K mg c1) (B : Bm mg) (C : Cl mg t1 t2) (F_check_joint : Fn K mg "check_joint" s_check_joint ["line", "joint"] f3 fd3)
    (G_check_joint : FnOk P w K mg base (CXr P w base) 2 f3 fd3 ["line", "joint"] (sp_cj K c1)) : FnOk P w K mg base (CXr P w base) 3 f fd ["line"] (sp_cl K c1) := by
  refine F.F.okX sc_check_line (fun vs H Q E h => ?_) (fun cdv A outer s H vs Q E hr h => ?_)
  · obtain ⟨v, l, rfl, _⟩ := h; rfl
  · obtain ⟨v, ⟨m, js⟩, rfl, hv, hz, k1, k2⟩ := h
    obtain ⟨a, b, rfl, ht, us, hl, hq⟩ := da_line hv
    dsimp only at ht hq hz
    have hul : us.length = js.length := by rw [Dgs.length hq, List.length_map]
    obtain ⟨ps, rfl, hkeys, hT⟩ := pairs_of hq
    have hpl : ps.length = js.length := by rw [List.length_map] at hul; exact hul
    refine ⟨_, (pss_cons (ps_asg (pv 0) (pg_tup (n := 2) rfl (pgs_cons (pg_name (i := 1) sc_check_line.nd rfl (Or.inl rfl)) (pgs_cons (pg_name (i := 2) sc_check_line.nd rfl (Or.inl rfl)) pgs_nil))))
 (pss_cons (ps_if (PW.pt (pw_or (pt_cmp (pc_lt (pv 1) pe_int)) (pw_or1 (pt_cmp (pc_gt (pv 1) (pe_glob (v := .int 40) rfl C.MOST_PIECES ⟨_, rfl⟩))))))
  (pss_one (ps_raise raises_cx rfl rfl XS.NoLine.m XS.NoLine.q PySem.F.excBase_ValueError (pa_cons (pe_fstr3 (i := 40) rfl C.MOST_PIECES ⟨_, rfl⟩ (by decide) (by decide)) pa_nil))) pss_nil)
 (pss_cons (ps_if (pt_cmp (pc_gt (pe_callB call_len_seq rfl B.len boot_len (pa_cons (pv 2) pa_nil)) (pe_glob (v := .int 80) rfl C.MOST_JOINTS ⟨_, rfl⟩)))
  (pss_one (ps_raise raises_cx rfl rfl XS.NoLine.m XS.NoLine.q PySem.F.excBase_ValueError (pa_cons (pe_fstr3 (i := 80) rfl C.MOST_JOINTS ⟨_, rfl⟩ (by decide) (by decide)) pa_nil))) pss_nil)
 (pss_cons (ps_set (i := 3) sc_check_line.nd rfl (Or.inl rfl) (pe_callTy0 call_set0T rfl B.set boot_set))
 (pss_one (ps_for PassesOwn.leaving rfl (pi_list (pv 2)) (pg_name (i := 4) sc_check_line.nd rfl (Or.inl rfl))
  (pss_cons (ps_expr (pe_call G_check_joint (hr.mono (by decide)) rfl F_check_joint.m F_check_joint.F.kp F_check_joint.b .nil passes_cx (pa_cons (pv 0) (pa_cons (pv 4) pa_nil))))
 (pss_cons (ps_if (pt_cmpR (op_inT (hu_of hr)) (pv 4) (pv 3) (by with_unfolding_all rfl))
  (pss_one (ps_raise raises_cx rfl rfl XS.NoLine.m XS.NoLine.q PySem.F.excBase_ValueError (pa_cons pe_str pa_nil))) pss_nil)
 (pss_one (ps_expr (pe_bmS PySem.F.slot_set_add PySem.F.type_set_add (mt_saddT (hu_of hr)) (pv 3) (pa_cons (pv 4) pa_nil)))))))))))), ?_⟩
    refine ⟨_, rfl, a, _, rfl, ht, rfl, _, _, rfl, _, _, rfl, rfl, ?_⟩
    refine ⟨_, rfl, _, _, rfl, rfl, _, rfl, ite2 (fun h => ?_) (fun h => ?_)⟩
    · have h : m < 1 := by simpa using h
      exact iteT fun z => ⟨by show 1 ≤ sizeLine; decide, fun e he => k2 (fun z => by have := z.1; dsimp only at this; omega) H (Same.refl _) e he⟩
    have h1 : ¬ m < 1 := by simpa using h
    refine ⟨_, rfl, _, _, rfl, rfl, _, rfl, ite2 (fun h => ?_) (fun h => ?_)⟩
    · have h : m > 40 := by simpa using h
      exact fun z => ⟨by show 1 ≤ sizeLine; decide, fun e he => k2 (fun z => by have := z.2.1; dsimp only at this; omega) H (Same.refl _) e he⟩
    have h2 : ¬ m > 40 := by simpa using h
    refine ⟨_, rfl, b, _, rfl, .inl hl, _, _, rfl, rfl, _, rfl, ite2 (fun h => ?_) (fun h => ?_)⟩
    · have h : ((ps.map fun p => V.ref p.2).length : Int) > 80 := by simpa using h
      rw [List.length_map, hpl] at h
      exact fun z => ⟨by show 1 ≤ sizeLine; decide, fun e he => k2 (fun z => by have := z.2.2.1; dsimp only at this; omega) H (Same.refl _) e he⟩
    have h3 : ¬ ((ps.map fun p => V.ref p.2).length : Int) > 80 := by simpa using h
    rw [List.length_map, hpl] at h3
    refine ⟨rfl, fun q nq => ?_⟩
    have sq : ∀ xs, Same H (upd H q (SetO P w q xs)) := fun xs => same_upd nq
    refine ⟨_, rfl, b, rfl, ⟨_, (sq []).seq hl⟩, for_list (K := K) (a := b) (xs := ps.map fun p => V.ref p.2) (fun i σ H3 => ∃ (xs : List (List Key × Addr)) (x4 : Option V), σ = [some (.ref a), some (.int m), some (.ref b), some (.ref q), x4] ∧ H3 = upd H q (SetO P w q xs) ∧ Met ps i xs ∧ (∀ p ∈ js.take i, okJ m p) ∧ (js.take i).Nodup)
      ⟨[], none, rfl, rfl, Met.zero ps, fun p hp => by simp at hp, by simp⟩ (fun i σ H3 _ ⟨xs, _, _, e, _⟩ => e ▸ (sq xs).seq hl) ?_ ?_⟩
    · rintro i y σ H3 hi ⟨xs, x4, rfl, rfl, M, al, nd⟩
      rw [List.getElem?_map] at hi
      obtain ⟨⟨ky, ad⟩, hpi, rfl⟩ : ∃ p, ps[i]? = some p ∧ y = .ref p.2 := by
        cases q : ps[i]? with
        | none => rw [q] at hi; cases hi
        | some e => rw [q] at hi; cases hi; exact ⟨e, rfl, rfl⟩
      have hil : i < js.length := by have := (List.getElem?_eq_some_iff.mp hpi).1; omega
      have hji : js[i]? = some js[i] := List.getElem?_eq_getElem hil
      have hky : ky = kP js[i] := by
        have e1 : (keysOf ps)[i]? = some ky := by unfold keysOf; rw [List.getElem?_map, hpi]; rfl
        rw [hkeys, List.getElem?_map, hji] at e1
        exact (Option.some.inj e1).symm
      subst hky
      generalize js[i] = p at hji hpi
      have hta : SqT K H ad ((kP p).map kV) := hT (kP p, ad) (List.mem_of_getElem? hpi)
      have htk : js.take (i + 1) = js.take i ++ [p] := by rw [List.take_add_one, hji]; rfl
      refine ⟨_, rfl, _, rfl, a, ad, m, _, p, rfl, same_tseq (sq xs) ht, same_tseq (sq xs) hta, fun hok => ?_, fun hno e he => k2 (fun z => hno (z.2.2.2.1 p (List.mem_of_getElem? hji))) _ (sq xs) e he⟩
      have hTx : TupsIn K (upd H q (SetO P w q xs)) xs := fun x hx => same_tseq (sq xs) (hT x (M.sub x hx))
      have hmem : kP p ∈ keysOf xs ↔ p ∈ js.take i := by
        rw [M.key]
        have : keysOf (ps.take i) = (js.take i).map kP := by unfold keysOf at hkeys ⊢; rw [List.map_take, hkeys, List.map_take]
        rw [this, mem_kP]
      refine ⟨_, rfl, _, rfl, q, xs, kP p, ad, rfl, rfl, upd_same, hTx, same_tseq (sq xs) hta, _, rfl, ite2 (fun h => ?_) (fun h => ?_)⟩
      · have h : p ∈ js.take i := hmem.mp (inK_iff.mp h)
        refine ⟨by decide, fun e he => k2 (fun z => ?_) _ (sq xs) e he⟩
        have n2 := z.2.2.2.2
        dsimp only at n2
        have n3 : (js.take (i + 1)).Nodup := n2.sublist (List.take_sublist _ _)
        rw [htk] at n3
        exact (List.nodup_append.mp n3).2.2 p h p (by simp) rfl
      · have h : p ∉ js.take i := fun z => h (inK_iff.mpr (hmem.mpr z))
        refine ⟨_, rfl, ⟨q, xs, rfl, upd_same⟩, _, rfl, q, xs, kP p, ad, rfl, rfl, upd_same, hTx, same_tseq (sq xs) hta, ?_, fun z => absurd (hmem.mp z) h, fun z xs' hp => ?_⟩
        · have := sub_lenK M.nd (m := keysOf (ps.take i)) fun k hk => (M.key k).mp hk
          unfold keysOf at this
          rw [List.length_map, List.length_map, List.length_take] at this
          omega
        refine ⟨xs', _, rfl, upd_upd, M.new hpi z hp, fun x hx => ?_, ?_⟩
        · rw [htk] at hx
          rcases List.mem_append.mp hx with z | z
          · exact al x z
          · have z : x = p := by simpa using z
            rw [z]; exact hok
        · rw [htk]
          refine List.nodup_append.mpr ⟨nd, by simp, fun x hx y hy => ?_⟩
          have hy : y = p := by simpa using hy
          rw [hy]
          exact fun z => h (z ▸ hx)
    · rintro σ H3 ⟨xs, x4, rfl, rfl, M, al, nd⟩
      rw [List.length_map, hpl, List.take_length] at al nd
      exact k1 ⟨by show 1 ≤ m; omega, by show m ≤ 40; omega, by show js.length ≤ 80; omega, al, nd⟩ _ (sq xs)
end
end K75
set_option Elab.async false
set_option linter.all false
set_option maxRecDepth 100000
set_option maxHeartbeats 4000000
namespace K75
open PySem L2 TL PyProof.Rows
structure Ct (mg : Str → Option Value) (t3 t4 : Tok) : Prop where
  FIGURES : mg "FIGURES" = some (.str "0123456789" t3)
  MOST_FIGURES : mg "MOST_FIGURES" = some (.int 40 t4)
structure Xx (K : PySem.W.Frag) (mg : Str → Option Value) (c : Addr) : Prop where
  NoText : Xc K mg "NoText" c
theorem figs : ∀ c, (c ∈ (Str.ofString "0123456789").cps.toList) ↔ 48 ≤ c ∧ c ≤ 57 := by
  have e : (Str.ofString "0123456789").cps.toList = [48, 49, 50, 51, 52, 53, 54, 55, 56, 57] := by decide +kernel
  intro c
  rw [e]
  simp only [List.mem_cons, List.not_mem_nil, or_false]
  omega
theorem fig_in (c : Nat) : (!(Builtin.Str.occurrences (Str.ofString "0123456789") ⟨#[c]⟩ 0 (Str.ofString "0123456789").length 1).isEmpty) = isDig c := by
  rw [PySem.StrLaws.found_one]
  unfold isDig
  exact decide_eq_decide.mpr (figs c)
theorem str_len (z : Str) : z.length = z.cps.toList.length := by simp [Str.length]
theorem str_nil {z : Str} : z.length = 0 ↔ z.cps.toList = [] := by rw [str_len, List.length_eq_zero_iff]
theorem zero_is : Str.ofString "0" = mkS [48] := by decide +kernel
theorem lt_is : Str.ofString "<" = mkS [60] := by decide +kernel
theorem gt_is : Str.ofString ">" = mkS [62] := by decide +kernel
theorem blank_is : Str.ofString " " = chS 32 := by decide +kernel
theorem feed_is : Str.ofString "\n" = chS 10 := by decide +kernel
theorem log2_small {n : Int} (h0 : 0 ≤ n) (h1 : n < 100000) : n.natAbs.log2 < 1920 := by
  have : n.natAbs.log2 ≤ n.natAbs := Nat.log2_le_self _
  have h2 : n.natAbs < 2 ^ 17 := by omega
  by_cases h : n.natAbs = 0
  · rw [h]; decide
  · have := (Nat.log2_lt h).mpr h2
    omega
def sp_num (C : Addr) : Sp := fun vs H Q E => ∃ z : Str, vs = [.str z] ∧ z.length ≤ 100000 ∧ (∀ n, rdNum z.cps.toList = some n → ∀ H', Same H H' → Q (.int n) H') ∧ (rdNum z.cps.toList = none → ∀ H', Same H H' → ∀ e, H' e = none → E (.ref C) (some e) H')
def sp_rend (C : Addr) : Sp := fun vs H Q E => ∃ z : Str, vs = [.str z] ∧ z.length ≤ 100000 ∧ (∀ n, rdEnd z.cps.toList = some n → ∀ H', Same H H' → Q (.int n) H') ∧ (rdEnd z.cps.toList = none → ∀ H', Same H H' → ∀ e, H' e = none → E (.ref C) (some e) H')
/-- the words of a row -/
def wds (z : Str) : List Str := Txt.split z (chS 32)
def sp_wb (C : Addr) : Sp := fun vs H Q E => ∃ (z y : Str) (m : Int), vs = [.str z, .str y, .int m] ∧ z.length ≤ 100000 ∧ y.length ≤ 100 ∧ 0 ≤ m ∧ m < 100 ∧
  ((wds z).head? = some y → ((wds z).length : Int) = m + 1 → ∀ (p : Addr) (H' : Hp), Same H H' → H p = none → H' p = some (.lst ((wds z).tail.map V.str)) → Q (.ref p) H') ∧
  (¬ ((wds z).head? = some y ∧ ((wds z).length : Int) = m + 1) → ∀ H', Same H H' → ∀ e, H' e = none → E (.ref C) (some e) H')
def sp_showend : Sp := fun vs H Q _ => ∃ e : Int, vs = [.int e] ∧ 0 ≤ e ∧ e < 82 ∧ Q (.str (txE e)) H
abbrev s_show_end : Stmt := top 18
theorem sc_show_end : FnScope ["end", "piece"] ["end"] (defScope s_show_end) := ⟨rfl, rfl, rfl, by decide +kernel, rfl, by decide +kernel, by decide +kernel⟩

abbrev s_read_number : Stmt := top 21
theorem sc_read_number : FnScope ["text"] ["text"] (defScope s_read_number) := ⟨rfl, rfl, rfl, by decide +kernel, rfl, by decide +kernel, by decide +kernel⟩
theorem cc_read_number_0 : CompOk (defScope s_read_number) ["text"] { kind := .function, names := [(Str.ofString ".0", .local), (Str.ofString "sign", .local), (Str.ofString "FIGURES", .globalImplicit)], isGenerator := false, isCoroutine := false, more := [] } ["sign"] 1 [none] := ⟨rfl, by decide +kernel, by decide +kernel, by decide +kernel, rfl, by decide +kernel, rfl, by decide +kernel⟩

abbrev s_read_end : Stmt := top 22
theorem sc_read_end : FnScope ["text", "piece"] ["text"] (defScope s_read_end) := ⟨rfl, rfl, rfl, by decide +kernel, rfl, by decide +kernel, by decide +kernel⟩

abbrev s_words_behind : Stmt := top 23
theorem sc_words_behind : FnScope ["row", "word", "many", "words"] ["row", "word", "many"] (defScope s_words_behind) := ⟨rfl, rfl, rfl, by decide +kernel, rfl, by decide +kernel, by decide +kernel⟩

section
variable {P : Program} {w : World} {K : PySem.W.Frag} {mg : Str → Option Value} {base : Heap} {f : Addr} {fd : FuncData} {D c1 c2 c3 c4 c5 c6 c7 : Addr} {t1 t2 t3 t4 : Tok}
theorem ok_show_end {f1 : Addr} {fd1 : FuncData} (F : Fn K mg "show_end" s_show_end ["end"] f fd) (F_piece_of : Fn K mg "piece_of" s_piece_of ["end"] f1 fd1) : FnOk P w K mg base CX0 2 f fd ["end"] sp_showend := by
  have G_piece_of : FnOk P w K mg base CX0 1 f1 fd1 ["end"] sp_half := ok_piece_of F_piece_of
  refine F.F.ok sc_show_end (fun vs H Q E h => ?_) (fun cdv A outer s H vs Q E hr h => ?_)
  · obtain ⟨e, rfl, _⟩ := h; rfl
  · obtain ⟨e, rfl, h0, h1, k⟩ := h
    refine ⟨_, (pss_cons (ps_set (i := 1) sc_show_end.nd rfl (Or.inl rfl) (pe_call G_piece_of (hr.mono (by decide)) rfl F_piece_of.m F_piece_of.F.kp F_piece_of.b .nil pass0 (pa_cons (pv 0) pa_nil)))
 (pss_one (ps_ret (pe_ifExp (pt_cmp (pc_eqI (pv 0) (pe_op op_mul pe_int (pv 1)))) (pe_fstr (pf_val (pv 1) (pf_const pf_nil))) (pe_fstr (pf_val (pv 1) (pf_const pf_nil))))))), ?_⟩
    refine ⟨_, rfl, e, rfl, ?_⟩
    have hl := log2_small (n := e / 2) (by omega) (by omega)
    obtain ⟨_, _, hz⟩ := txN_rd (n := e / 2) (by omega) (by omega)
    have he : ∀ x : Str, (Str.empty ++ x) = x := Str.empty_append
    have hz2 : ∀ x : Str, x.length ≤ 10 → x.length ≤ sizeLine := fun x h => Nat.le_trans h (by rw [sizeLine_eq]; decide)
    have hle := (txE_rd (e := e) h0 (by omega)).2.2
    refine ⟨_, rfl, _, rfl, _, _, rfl, rfl, .inl ⟨by decide, by decide⟩, _, _, rfl, rfl, _, rfl, ite2 (fun h => ?_) (fun h => ?_)⟩
    · have h : e = 2 * (e / 2) := by simpa using h
      refine ⟨_, rfl, txN (e / 2), .inl ⟨_, rfl, hl, rfl⟩, hz2 _ (by rw [he]; omega), ?_⟩
      rw [he]
      have e1 : txN (e / 2) ++ Str.ofString "<" = txE e := by unfold txE; rw [if_pos (by omega), lt_is]; rfl
      refine ⟨hz2 _ (by rw [e1]; omega), ?_⟩
      rw [e1]
      exact ⟨hz2 _ (by omega), k⟩
    · have h : ¬ e = 2 * (e / 2) := by simpa using h
      refine ⟨_, rfl, txN (e / 2), .inl ⟨_, rfl, hl, rfl⟩, hz2 _ (by rw [he]; omega), ?_⟩
      rw [he]
      have e1 : txN (e / 2) ++ Str.ofString ">" = txE e := by unfold txE; rw [if_neg (by omega), gt_is]; rfl
      refine ⟨hz2 _ (by rw [e1]; omega), ?_⟩
      rw [e1]
      exact ⟨hz2 _ (by omega), k⟩
end
end K75
set_option Elab.async false
set_option linter.all false
set_option maxRecDepth 100000
set_option maxHeartbeats 4000000
namespace K75
open PySem L2 TL PyProof.Rows
theorem size_l {n : Nat} (h : n ≤ 100000) : n ≤ sizeLine := Nat.le_trans h (by rw [sizeLine_eq]; decide)
theorem ch_at (z : Str) (i : Nat) (c : Nat) (h : z.cps[i]? = some c) : z.cps.toList[i]? = some c := by simpa using h
theorem at_head {l : List Nat} {c : Nat} {r : List Nat} (h : l = c :: r) : atI l 0 = some c := by
  have := atI_nat (xs := l) (j := 0) (v := c) (by rw [h]; rfl)
  exact this
theorem at_last {l : List Nat} {c : Nat} (h : l.getLast? = some c) : atI l (-1) = some c := by
  obtain ⟨r, e⟩ : ∃ r, l = r ++ [c] := by
    obtain ⟨ys, rfl⟩ := List.getLast?_eq_some_iff.mp h
    exact ⟨ys, rfl⟩
  rw [e]
  exact atI_last r c
theorem chr_eq {a b : Nat} : ((⟨#[a]⟩ : Str) = ⟨#[b]⟩) ↔ a = b := by
  constructor
  · intro h; injection h with h; simpa using h
  · intro h; rw [h]
section
variable {P : Program} {w : World} {K : PySem.W.Frag} {mg : Str → Option Value} {base : Heap} {f : Addr} {fd : FuncData} {c6 : Addr} {t3 t4 : Tok}
theorem ok_read_number (F : Fn K mg "read_number" s_read_number ["text"] f fd) (B : Bm mg) (C : Ct mg t3 t4) (XS : Xx K mg c6) : FnOk P w K mg base (CXr P w base) 1 f fd ["text"] (sp_num c6) := by
  refine F.F.okX sc_read_number (fun vs H Q E h => ?_) (fun cdv A outer s H vs Q E hr h => ?_)
  · obtain ⟨z, rfl, _⟩ := h; rfl
  · obtain ⟨z, rfl, hz, k1, k2⟩ := h
    have hzs := size_l hz
    have hsl : z.length = z.cps.toList.length := str_len z
    refine ⟨_, (pss_cons (ps_if (PW.pt (pw_or (pt_not (pt_truth (pv 0) (fun _ => rfl))) (pw_or1 (pt_cmp (pc_gt (pe_callB call_len_str rfl B.len boot_len (pa_cons (pv 0) pa_nil)) (pe_glob (v := .int 40) rfl C.MOST_FIGURES ⟨_, rfl⟩))))))
  (pss_one (ps_raise raises_cx rfl rfl XS.NoText.m XS.NoText.q PySem.F.excBase_ValueError (pa_cons (pe_fstr3 (i := 40) rfl C.MOST_FIGURES ⟨_, rfl⟩ (by decide) (by decide)) pa_nil))) pss_nil)
 (pss_cons (ps_if (pt_not (pt_val (pe_callB (call_all rfl) rfl B.all boot_all (pa_cons (pe_lc (pi_str (pv 0)) rfl cc_read_number_0 (.name (by decide)) (fun _ _ _ _ => (pg_name (i := 0) cc_read_number_0.nd rfl (Or.inl rfl))) (fun _ _ _ _ => pifs_nil) (fun _ _ _ _ => (pe_cmpR op_in_str (pv 0) (pe_glob (v := .str "0123456789") rfl C.FIGURES ⟨_, rfl⟩) (by with_unfolding_all rfl)))) pa_nil))))
  (pss_one (ps_raise raises_cx rfl rfl XS.NoText.m XS.NoText.q PySem.F.excBase_ValueError (pa_cons pe_str pa_nil))) pss_nil)
 (pss_cons (ps_if (PW.pt (pw_and (pt_cmpR op_eq (pe_ix ix_str (pv 0) pe_int (fun _ _ => rfl)) pe_str (nomark _)) (pw_and1 (pt_cmpR op_ne (pv 0) pe_str (nomark _)))))
  (pss_one (ps_raise raises_cx rfl rfl XS.NoText.m XS.NoText.q PySem.F.excBase_ValueError (pa_cons pe_str pa_nil))) pss_nil)
 (pss_one (ps_ret (pe_callTy call_intT rfl B.int boot_int (pa_cons (pv 0) pa_nil))))))), ?_⟩
    refine ⟨_, rfl, _, ⟨hzs, rfl⟩, ite2 (fun h => ?_) (fun h => ?_)⟩
    · have h : z.length = 0 := by simpa using h
      refine iteT fun _ => ⟨by show 1 ≤ sizeLine; decide, fun e he => k2 ?_ H (Same.refl _) e he⟩
      unfold rdNum
      rw [if_pos (.inl (str_nil.mp h))]
    have h1 : z.length ≠ 0 := by simpa using h
    have hne : z.cps.toList ≠ [] := fun q => h1 (str_nil.mpr q)
    refine ⟨_, rfl, z, rfl, hzs, _, _, rfl, rfl, _, rfl, ite2 (fun h => ?_) (fun h => ?_)⟩
    · have h : (z.length : Int) > 40 := by simpa using h
      refine fun _ => ⟨by show 1 ≤ sizeLine; decide, fun e he => k2 ?_ H (Same.refl _) e he⟩
      unfold rdNum
      rw [if_pos (.inr (by omega))]
    have h2 : ¬ (z.length : Int) > 40 := by simpa using h
    have hc0 : ¬ (z.cps.toList = [] ∨ 40 < z.cps.toList.length) := fun q => by
      rcases q with q | q
      · exact hne q
      · omega
    have hsz : z.cps.size = z.cps.toList.length := by simp
    refine ⟨_, rfl, z, rfl, fun p np => lc_pureJ js_str z.cps.toList (fun _ => true) (fun c => V.bl (isDig c)) np hsz (by rw [hsz, sizeLine_eq]; omega) ?_ ?_⟩
    · intro i x d H' hx hd sm P1 P0 p1 p0
      obtain ⟨c, hc, rfl⟩ := hx
      have e0 : c = d := Option.some.inj ((ch_at z i c hc).symm.trans hd)
      subst e0
      refine name_yes ?_
      refine ⟨_, rfl, _, _, rfl, rfl, ?_⟩
      have := p1 rfl
      rw [← fig_in] at this
      exact this
    rw [filt_true]
    have e2 : (z.cps.toList.map fun c => V.bl (isDig c)) = (z.cps.toList.map isDig).map V.bl := by rw [List.map_map]; rfl
    rw [e2]
    have s1 : Same H (upd H p (.lst ((z.cps.toList.map isDig).map V.bl))) := same_upd np
    have hp := upd_same (H := H) (a := p) (o := .lst ((z.cps.toList.map isDig).map V.bl))
    generalize upd H p _ = H1 at s1 hp ⊢
    have hall : (z.cps.toList.map isDig).all id = z.cps.toList.all isDig := by rw [List.all_map]; rfl
    refine ⟨p, _, rfl, SqL.of hp, _, rfl, ite2 (fun h => ?_) (fun h => ?_)⟩
    · rw [hall] at h
      have h : z.cps.toList.all isDig = false := by simpa using h
      refine ⟨by decide, fun e he => k2 ?_ H1 s1 e he⟩
      unfold rdNum
      rw [if_neg hc0, if_pos h]
    rw [hall] at h
    have h3 : z.cps.toList.all isDig = true := by simpa using h
    have hc1 : ¬ z.cps.toList.all isDig = false := by rw [h3]; decide
    obtain ⟨c0, r0, hcr⟩ : ∃ c r, z.cps.toList = c :: r := by
      cases q : z.cps.toList with
      | nil => exact absurd q hne
      | cons c r => exact ⟨c, r, rfl⟩
    have hh : z.cps.toList.head? = some c0 := by rw [hcr]; rfl
    have hz0 : z = Str.ofString "0" ↔ z.cps.toList = [48] := by
      rw [zero_is]
      constructor
      · intro q; rw [q, mkS_list]
      · intro q; rw [← mkS_of z, q]
    have fin : ¬ (z.cps.toList.head? = some 48 ∧ z.cps.toList ≠ [48]) → ∃ n : Int, rdNum z.cps.toList = some n ∧ PySem.intText? z = some n := fun q => by
      refine ⟨_, ?_, PySem.intText_digits (x := z) ?_ hne (by omega)⟩
      · unfold rdNum
        rw [if_neg hc0, if_neg hc1, if_neg q]
      · intro c hc
        have := List.all_eq_true.mp h3 c hc
        unfold isDig at this
        exact of_decide_eq_true this
    have ret : ¬ (z.cps.toList.head? = some 48 ∧ z.cps.toList ≠ [48]) → ∃ z' n, [V.str z] = [V.str z'] ∧ PySem.intText? z' = some n ∧ z'.length ≤ 640 ∧ Q (.int n) H1 := fun q => by
      obtain ⟨n, e1, e2⟩ := fin q
      exact ⟨z, n, rfl, e2, by omega, k1 n e1 H1 s1⟩
    refine ⟨_, rfl, z, 0, c0, rfl, rfl, hzs, at_head hcr, rfl, _, rfl, ite2 (fun h => ?_) (fun h => ?_)⟩
    · have h : (⟨#[c0]⟩ : Str) = Str.ofString "0" := by simpa using h
      have h : c0 = 48 := by
        rw [zero_is] at h
        exact chr_eq.mp h
      refine ⟨_, rfl, rfl, _, rfl, ite2 (fun h' => ?_) (fun h' => ?_)⟩
      · have h' : ¬ z = Str.ofString "0" := by simpa using h'
        refine ⟨by decide, fun e he => k2 ?_ H1 s1 e he⟩
        unfold rdNum
        rw [if_neg hc0, if_neg hc1, if_pos ⟨by rw [hh, h], fun q => h' (hz0.mpr q)⟩]
      · have h' : z = Str.ofString "0" := by simpa using h'
        exact ⟨_, rfl, ret fun q => q.2 (hz0.mp h')⟩
    · have h : ¬ (⟨#[c0]⟩ : Str) = Str.ofString "0" := by simpa using h
      have h : ¬ c0 = 48 := fun q => h (by rw [zero_is, q]; rfl)
      exact ⟨_, rfl, ret fun q => h (by have := q.1; rw [hh] at this; exact Option.some.inj this)⟩
theorem ok_read_end {f1 : Addr} {fd1 : FuncData} (F : Fn K mg "read_end" s_read_end ["text"] f fd) (XS : Xx K mg c6) (F_read_number : Fn K mg "read_number" s_read_number ["text"] f1 fd1)
    (G_read_number : FnOk P w K mg base (CXr P w base) 1 f1 fd1 ["text"] (sp_num c6)) : FnOk P w K mg base (CXr P w base) 2 f fd ["text"] (sp_rend c6) := by
  refine F.F.okX sc_read_end (fun vs H Q E h => ?_) (fun cdv A outer s H vs Q E hr h => ?_)
  · obtain ⟨z, rfl, _⟩ := h; rfl
  · obtain ⟨z, rfl, hz, k1, k2⟩ := h
    have hzs := size_l hz
    have hsl : z.length = z.cps.toList.length := str_len z
    refine ⟨_, (pss_cons (ps_set (i := 1) sc_read_end.nd rfl (Or.inl rfl) (pe_call G_read_number (hr.mono (by decide)) rfl F_read_number.m F_read_number.F.kp F_read_number.b .nil passes_cx (pa_cons (pe_slice sl_strInit (pv 0) po_none (po_some (pe_un un_neg pe_int))) pa_nil)))
 (pss_cons (ps_if (pt_cmpR op_eq (pe_ix ix_str (pv 0) (pe_un un_neg pe_int) (fun _ _ => rfl)) pe_str (nomark _))
  (pss_one (ps_ret (pe_op op_mul pe_int (pv 1)))) pss_nil)
 (pss_cons (ps_if (pt_cmpR op_eq (pe_ix ix_str (pv 0) (pe_un un_neg pe_int) (fun _ _ => rfl)) pe_str (nomark _))
  (pss_one (ps_ret (pe_op op_add (pe_op op_mul pe_int (pv 1)) pe_int))) pss_nil)
 (pss_one (ps_raise raises_cx rfl rfl XS.NoText.m XS.NoText.q PySem.F.excBase_ValueError (pa_cons pe_str pa_nil)))))), ?_⟩
    refine ⟨_, rfl, _, rfl, _, rfl, z, rfl, rfl, rfl, hzs, mkS z.cps.toList.dropLast, rfl, ?_, ?_, ?_⟩
    · rw [mkS_len, List.length_dropLast]; omega
    · intro n hn H1 s1
      rw [mkS_list] at hn
      have hne : z.cps.toList ≠ [] := fun q => by rw [q] at hn; simp [rdNum] at hn
      obtain ⟨c, hc⟩ : ∃ c, z.cps.toList.getLast? = some c := by
        cases q : z.cps.toList.getLast? with
        | none => exact absurd (List.getLast?_eq_none_iff.mp q) hne
        | some c => exact ⟨c, rfl⟩
      have hb : rdEnd z.cps.toList = if c = 60 then some (2 * n) else if c = 62 then some (2 * n + 1) else none := by
        unfold rdEnd
        rw [hn, hc]
        show (if some c = some 60 then _ else if some c = some 62 then _ else _) = _
        simp only [Option.some.injEq]
      refine ⟨_, rfl, _, rfl, z, -1, c, rfl, rfl, hzs, at_last hc, rfl, _, rfl, ite2 (fun h => ?_) (fun h => ?_)⟩
      · have h : (⟨#[c]⟩ : Str) = Str.ofString "<" := by simpa using h
        have h : c = 60 := by rw [lt_is] at h; exact chr_eq.mp h
        refine ⟨_, rfl, _, _, rfl, rfl, .inl ⟨by decide, by decide⟩, k1 _ (by rw [hb, if_pos h]) H1 s1⟩
      have h1 : ¬ (⟨#[c]⟩ : Str) = Str.ofString "<" := by simpa using h
      have h1 : ¬ c = 60 := fun q => h1 (by rw [lt_is, q]; rfl)
      refine ⟨_, rfl, _, rfl, z, -1, c, rfl, rfl, hzs, at_last hc, rfl, _, rfl, ite2 (fun h => ?_) (fun h => ?_)⟩
      · have h : (⟨#[c]⟩ : Str) = Str.ofString ">" := by simpa using h
        have h : c = 62 := by rw [gt_is] at h; exact chr_eq.mp h
        refine ⟨_, rfl, _, _, rfl, rfl, .inl ⟨by decide, by decide⟩, _, _, rfl, rfl, k1 _ (by rw [hb, if_neg h1, if_pos h]) H1 s1⟩
      have h2 : ¬ (⟨#[c]⟩ : Str) = Str.ofString ">" := by simpa using h
      have h2 : ¬ c = 62 := fun q => h2 (by rw [gt_is, q]; rfl)
      exact ⟨by decide, fun e he => k2 (by rw [hb, if_neg h1, if_neg h2]) H1 s1 e he⟩
    · intro hn H1 s1 e he
      rw [mkS_list] at hn
      exact k2 (by unfold rdEnd; rw [hn]; rfl) H1 s1 e he
theorem ok_words_behind (F : Fn K mg "words_behind" s_words_behind ["row", "word", "many"] f fd) (B : Bm mg) (XS : Xx K mg c6) : FnOk P w K mg base (CXr P w base) 1 f fd ["row", "word", "many"] (sp_wb c6) := by
  refine F.F.okX sc_words_behind (fun vs H Q E h => ?_) (fun cdv A outer s H vs Q E hr h => ?_)
  · obtain ⟨z, y, m, rfl, _⟩ := h; rfl
  · obtain ⟨z, y, m, rfl, hz, hy, m0, m1, k1, k2⟩ := h
    refine ⟨_, (pss_cons (ps_set (i := 3) sc_words_behind.nd rfl (Or.inl rfl) (pe_bm PySem.F.plainAttrs_str PySem.F.slot_str_split PySem.F.type_str_split mt_split (pv 0) (pa_cons pe_str pa_nil)))
 (pss_cons (ps_if (PW.pt (pw_or (pt_cmpR op_ne (pe_ix ix_list (pv 3) pe_int (fun _ _ => rfl)) (pv 1) (nomark _)) (pw_or1 (pt_cmp (pc_neI (pe_callB call_len_seq rfl B.len boot_len (pa_cons (pv 3) pa_nil)) (pe_op op_add (pv 2) pe_int))))))
  (pss_one (ps_raise raises_cx rfl rfl XS.NoText.m XS.NoText.q PySem.F.excBase_ValueError (pa_cons (pe_fstr (pf_const (pf_val (pv 1) (pf_const (pf_val (pv 2) (pf_const pf_nil)))))) pa_nil))) pss_nil)
 (pss_one (ps_ret (pe_slice sl_list (pv 3) (po_some pe_int) po_none))))), ?_⟩
    refine ⟨_, rfl, rfl, z, _, rfl, rfl, by decide, hz, fun p np => ?_⟩
    have ew : Txt.split z (Str.ofString " ") = wds z := by rw [blank_is]; rfl
    rw [ew]
    have s1 : Same H (upd H p (.lst ((wds z).map V.str))) := same_upd np
    have hp := upd_same (H := H) (a := p) (o := .lst ((wds z).map V.str))
    generalize upd H p _ = H1 at s1 hp ⊢
    obtain ⟨c, r, hcr⟩ : ∃ c r, wds z = c :: r := by
      cases q : wds z with
      | nil => exact absurd q (split_ne z 32)
      | cons c r => exact ⟨c, r, rfl⟩
    have hh : (wds z).head? = some c := by rw [hcr]; rfl
    have ht : ((wds z).map V.str)[0]? = some (.str c) := by rw [hcr]; rfl
    have boom : ¬ ((wds z).head? = some y ∧ ((wds z).length : Int) = m + 1) → (tFC (Str.ofString "a row is to be ") (tFV (tVar 1) (tFC (Str.ofString " and ") (tFV (tVar 2) (tFC (Str.ofString " more, with one blank between") tFN))))) [some (.str z), some (.str y), some (.int m), some (.ref p)] H1 Str.empty fun z' H2 => z'.length ≤ sizeLine ∧ 1 ≤ sizeLine ∧ ∀ e, H2 e = none → E (.ref c6) (some e) H2 := fun q => by
      have hm : (Str.ofString (toString m)).length ≤ 2 := by
        have : ∀ n : Nat, n < 100 → (Str.ofString (toString ((n : Nat) : Int))).length ≤ 2 := by decide +kernel
        have := this m.toNat (by omega)
        rw [show ((m.toNat : Nat) : Int) = m by omega] at this
        exact this
      have e1 : (Str.ofString "a row is to be ").length = 15 := by decide +kernel
      have e2 : (Str.ofString " and ").length = 5 := by decide +kernel
      have e3 : (Str.ofString " more, with one blank between").length = 29 := by decide +kernel
      have lim : ∀ n, n ≤ 1000 → n ≤ sizeLine := fun n h => Nat.le_trans h (by rw [sizeLine_eq]; decide)
      refine ⟨lim _ (by rw [Str.length_append, e1]; show 0 + 15 ≤ _; omega), _, rfl, y, .inr ⟨rfl, lim _ (by omega)⟩, lim _ ?_, lim _ ?_, _, rfl, _, .inl ⟨m, rfl, log2_small (by omega) (by omega), rfl⟩, lim _ ?_, lim _ ?_, lim _ ?_, by decide, fun e he => k2 q H1 s1 e he⟩
      all_goals
        simp only [Str.length_append, e1, e2, e3]
        rw [show Str.empty.length = 0 from rfl]
        omega
    refine ⟨_, rfl, p, _, 0, _, rfl, rfl, SqL.of hp, atI_nat (j := 0) ht, _, rfl, rfl, _, rfl, ite2 (fun h => ?_) (fun h => ?_)⟩
    · have h : ¬ c = y := by simpa using h
      exact iteT (boom fun q => h (by have := q.1; rw [hh] at this; exact Option.some.inj this))
    have h1 : c = y := by simpa using h
    refine ⟨_, rfl, p, _, rfl, .inl (SqL.of hp), _, rfl, _, _, rfl, rfl, _, _, rfl, rfl, _, rfl, ite2 (fun h => ?_) (fun h => ?_)⟩
    · have h : ¬ (((wds z).map V.str).length : Int) = m + 1 := by simpa using h
      rw [List.length_map] at h
      exact boom fun q => h q.2
    have h2 : (((wds z).map V.str).length : Int) = m + 1 := by simpa using h
    rw [List.length_map] at h2
    refine ⟨_, rfl, _, rfl, p, _, rfl, SqL.of hp, fun q nq => ?_⟩
    rw [cut_drop _ (by decide)]
    refine k1 (by rw [hh, h1]) h2 q _ (s1.trans (same_upd nq)) (by cases q0 : H q with
      | none => rfl
      | some o => rw [s1 _ _ q0] at nq; cases nq) ?_
    rw [upd_same, ← List.map_drop, show ((1 : Int)).toNat = 1 from rfl, List.drop_one]
end
end K75
set_option Elab.async false
set_option linter.all false
set_option maxRecDepth 100000
set_option maxHeartbeats 4000000
namespace K75
open PySem L2 TL PyProof.Rows
theorem ps_of_das {K : PySem.W.Frag} {H : Hp} : ∀ {js : List (Int × Int)} {vs : List V}, Das K H (js.map dP) vs → Ps K H js vs
  | [], vs, h => by rw [List.map_nil] at h; exact dgs_nil.mpr (dgs_nil.mp h)
  | j :: js, vs, h => by
    rw [List.map_cons] at h
    obtain ⟨v, r, rfl, h1, h2⟩ := dgs_cons.mp h
    refine dgs_cons.mpr ⟨v, r, rfl, ?_, ps_of_das h2⟩
    unfold dP at h1 ⊢
    obtain ⟨a, us, rfl, ht, q⟩ := dg_tuple.mp h1
    obtain ⟨v1, r', rfl, q1, q⟩ := dgs_cons.mp q
    obtain ⟨v2, r', rfl, q2, q⟩ := dgs_cons.mp q
    exact dg_tuple.mpr ⟨a, _, rfl, ht, dgs_cons.mpr ⟨_, _, rfl, dg_int.mpr (dg_int.mp q1), dgs_cons.mpr ⟨_, _, rfl, dg_int.mpr (dg_int.mp q2), dgs_nil.mpr (dgs_nil.mp q)⟩⟩⟩
def txP (m : Int) : Str := Str.ofString "pieces " ++ txN m
def txJ (p : Int × Int) : Str := Str.ofString "joint " ++ txE p.1 ++ Str.ofString " " ++ txE p.2
def txR (l : Ln) : List Str := txP l.1 :: l.2.map txJ
def txL (l : Ln) : Str := Str.join (chS 10) (txR l)
theorem pieces_is : Str.ofString "pieces " = Str.ofString "pieces" ++ chS 32 := by decide +kernel
theorem joint_is : Str.ofString "joint " = Str.ofString "joint" ++ chS 32 := by decide +kernel
theorem pieces_free : ∀ c ∈ (Str.ofString "pieces").cps.toList, 97 ≤ c := by decide +kernel
theorem joint_free : ∀ c ∈ (Str.ofString "joint").cps.toList, 97 ≤ c := by decide +kernel
theorem txN_free {n : Int} (h0 : 0 ≤ n) (h1 : n < 41) : ∀ c ∈ (txN n).cps.toList, 48 ≤ c := fun c hc => by
  have := List.all_eq_true.mp (txN_rd h0 h1).2.1 c hc
  unfold isDig at this
  exact (of_decide_eq_true this).1
theorem wds_P {m : Int} (h0 : 0 ≤ m) (h1 : m < 41) : wds (txP m) = [Str.ofString "pieces", txN m] := by
  unfold wds txP
  rw [pieces_is]
  exact split_join (ws := [Str.ofString "pieces", txN m]) (by simp) fun w hw => by
    rcases List.mem_cons.mp hw with rfl | hw
    · exact fun z => by have := pieces_free _ z; omega
    · have hw : w = txN m := by simpa using hw
      rw [hw]
      exact fun z => by have := txN_free h0 h1 _ z; omega
theorem wds_J {p : Int × Int} (h : (0 ≤ p.1 ∧ p.1 < 82) ∧ (0 ≤ p.2 ∧ p.2 < 82)) : wds (txJ p) = [Str.ofString "joint", txE p.1, txE p.2] := by
  have e : txJ p = Str.join (chS 32) [Str.ofString "joint", txE p.1, txE p.2] := by
    unfold txJ
    rw [joint_is, blank_is, join_cons2, join_cons2, TL.join_one]
    simp only [Str.append_assoc]
  unfold wds
  rw [e]
  refine split_join (by simp) fun w hw => ?_
  simp only [List.mem_cons, List.not_mem_nil, or_false] at hw
  rcases hw with rfl | rfl | rfl
  · exact fun z => by have := joint_free _ z; omega
  · exact fun z => by have := (txE_rd h.1.1 h.1.2).2.1 _ z; omega
  · exact fun z => by have := (txE_rd h.2.1 h.2.2).2.1 _ z; omega
theorem free_P {m : Int} (h0 : 0 ≤ m) (h1 : m < 41) : (10 : Nat) ∉ (txP m).cps.toList ∧ (txP m).length ≤ 9 := by
  unfold txP
  rw [cps_app, Str.length_append]
  have e : ∀ c ∈ (Str.ofString "pieces ").cps.toList, 32 ≤ c := by decide +kernel
  have e2 : (Str.ofString "pieces ").length = 7 := by decide +kernel
  have := (txN_rd h0 h1).2.2
  refine ⟨fun z => ?_, by omega⟩
  rcases List.mem_append.mp z with z | z
  · have := e _ z; omega
  · have := txN_free h0 h1 _ z; omega
theorem free_J {p : Int × Int} (h : (0 ≤ p.1 ∧ p.1 < 82) ∧ (0 ≤ p.2 ∧ p.2 < 82)) : (10 : Nat) ∉ (txJ p).cps.toList ∧ (txJ p).length ≤ 13 := by
  unfold txJ
  simp only [cps_app, Str.length_append]
  have e : ∀ c ∈ (Str.ofString "joint ").cps.toList, 32 ≤ c := by decide +kernel
  have e2 : (Str.ofString "joint ").length = 6 := by decide +kernel
  have e3 : ∀ c ∈ (Str.ofString " ").cps.toList, 32 ≤ c := by decide +kernel
  have e4 : (Str.ofString " ").length = 1 := by decide +kernel
  obtain ⟨_, f1, l1⟩ := txE_rd h.1.1 h.1.2
  obtain ⟨_, f2, l2⟩ := txE_rd h.2.1 h.2.2
  refine ⟨fun z => ?_, by omega⟩
  rcases List.mem_append.mp z with z | z
  · rcases List.mem_append.mp z with z | z
    · rcases List.mem_append.mp z with z | z
      · have := e _ z; omega
      · have := f1 _ z; omega
    · have := e3 _ z; omega
  · have := f2 _ z; omega
def small (l : Ln) : Prop := 0 ≤ l.1 ∧ l.1 < 41 ∧ l.2.length ≤ 81 ∧ ∀ p ∈ l.2, (0 ≤ p.1 ∧ p.1 < 82) ∧ (0 ≤ p.2 ∧ p.2 < 82)
theorem isLine.small {l : Ln} (h : isLine l) : small l := by
  obtain ⟨h1, h2, h3, h4, h5⟩ := h
  refine ⟨by omega, by omega, by omega, fun p hp => ?_⟩
  obtain ⟨a, b, _⟩ := h4 p hp
  exact ⟨⟨a.1, by omega⟩, b.1, by omega⟩
theorem txR_free {l : Ln} (h : small l) : ∀ w ∈ txR l, (10 : Nat) ∉ w.cps.toList ∧ w.length ≤ 13 := fun w hw => by
  obtain ⟨h1, h2, h3, h4⟩ := h
  rcases List.mem_cons.mp hw with rfl | hw
  · have := free_P h1 h2; exact ⟨this.1, by omega⟩
  · obtain ⟨p, hp, rfl⟩ := List.mem_map.mp hw
    exact free_J (h4 p hp)
theorem join_len : ∀ {ws : List Str}, (∀ w ∈ ws, w.length ≤ 13) → (Str.join (chS 10) ws).length ≤ 14 * ws.length
  | [], _ => Nat.zero_le _
  | [a], h => by
    have := h a List.mem_cons_self
    show a.length ≤ _
    have : [a].length = 1 := rfl
    omega
  | a :: b :: r, h => by
    have h1 := h a List.mem_cons_self
    have h2 := join_len (ws := b :: r) fun w hw => h w (List.mem_cons_of_mem _ hw)
    rw [join_cons2, Str.length_append, Str.length_append, List.length_cons]
    show a.length + 1 + _ ≤ _
    omega
theorem txL_split {l : Ln} (h : small l) : Txt.split (txL l) (chS 10) = txR l ∧ (txL l).length ≤ 2000 := by
  have f := txR_free h
  refine ⟨split_join (by simp [txR]) fun w hw => (f w hw).1, ?_⟩
  have := join_len fun w hw => (f w hw).2
  have e : (txR l).length = l.2.length + 1 := by simp [txR]
  have := h.2.2.1
  unfold txL
  omega
def rdJ (z : Str) : Option (Int × Int) := match wds z with
  | [a, b, c] => if a = Str.ofString "joint" then (rdEnd b.cps.toList).bind fun x => (rdEnd c.cps.toList).map fun y => (x, y) else none
  | _ => none
def sp_rj (C : Addr) : Sp := fun vs H Q E => ∃ z : Str, vs = [.str z] ∧ z.length ≤ 100000 ∧ (∀ p, rdJ z = some p → ∀ (q : Addr) H', Same H H' → H q = none → H' q = some (.tup [.int p.1, .int p.2]) → Q (.ref q) H') ∧ (rdJ z = none → ∀ H', Same H H' → ∀ e, H' e = none → E (.ref C) (some e) H')
theorem rdJ_J {p : Int × Int} (h : (0 ≤ p.1 ∧ p.1 < 82) ∧ (0 ≤ p.2 ∧ p.2 < 82)) : rdJ (txJ p) = some p := by
  unfold rdJ
  rw [wds_J h]
  show (if Str.ofString "joint" = Str.ofString "joint" then _ else _) = _
  rw [if_pos rfl, (txE_rd h.1.1 h.1.2).1, (txE_rd h.2.1 h.2.2).1]
  rfl
abbrev s_read_joint : Stmt := top 24
theorem sc_read_joint : FnScope ["row", "low", "high"] ["row"] (defScope s_read_joint) := ⟨rfl, rfl, rfl, by decide +kernel, rfl, by decide +kernel, by decide +kernel⟩

section
variable {P : Program} {w : World} {K : PySem.W.Frag} {mg : Str → Option Value} {base : Heap} {f : Addr} {fd : FuncData} {c6 c1 : Addr} {t3 t4 : Tok}
theorem ok_read_joint {f1 f2 : Addr} {fd1 fd2 : FuncData} (F : Fn K mg "read_joint" s_read_joint ["row"] f fd) (F_read_end : Fn K mg "read_end" s_read_end ["text"] f1 fd1) (F_words_behind : Fn K mg "words_behind" s_words_behind ["row", "word", "many"] f2 fd2)
    (G_read_end : FnOk P w K mg base (CXr P w base) 2 f1 fd1 ["text"] (sp_rend c6)) (G_words_behind : FnOk P w K mg base (CXr P w base) 1 f2 fd2 ["row", "word", "many"] (sp_wb c6)) : FnOk P w K mg base (CXr P w base) 3 f fd ["row"] (sp_rj c6) := by
  refine F.F.okX sc_read_joint (fun vs H Q E h => ?_) (fun cdv A outer s H vs Q E hr h => ?_)
  · obtain ⟨z, rfl, _⟩ := h; rfl
  · obtain ⟨z, rfl, hz, k1, k2⟩ := h
    have hwl : ∀ x ∈ wds z, x.length ≤ 100000 := fun x hx => by
      have h := part_len (sep := chS 32) hx
      unfold wds at h
      rw [PySem.StrLaws.join_split] at h
      omega
    refine ⟨_, (pss_cons (ps_asg (pe_call G_words_behind (hr.mono (by decide)) rfl F_words_behind.m F_words_behind.F.kp F_words_behind.b .nil passes_cx (pa_cons (pv 0) (pa_cons pe_str (pa_cons pe_int pa_nil)))) (pg_lst (n := 2) rfl (pgs_cons (pg_name (i := 1) sc_read_joint.nd rfl (Or.inl rfl)) (pgs_cons (pg_name (i := 2) sc_read_joint.nd rfl (Or.inl rfl)) pgs_nil))))
 (pss_one (ps_ret (pe_tup (pa_cons (pe_call G_read_end (hr.mono (by decide)) rfl F_read_end.m F_read_end.F.kp F_read_end.b .nil passes_cx (pa_cons (pv 1) pa_nil)) (pa_cons (pe_call G_read_end (hr.mono (by decide)) rfl F_read_end.m F_read_end.F.kp F_read_end.b .nil passes_cx (pa_cons (pv 2) pa_nil)) pa_nil)))))), ?_⟩
    refine ⟨_, rfl, z, _, 2, rfl, hz, by decide, by decide, by decide, fun hh hl p H1 s1 np hp => ?_, fun hn H1 s1 e he => k2 ?_ H1 s1 e he⟩
    · obtain ⟨x, y, hw⟩ : ∃ x y, wds z = [Str.ofString "joint", x, y] := by
        match q : wds z with
        | [] => rw [q] at hh; cases hh
        | [a] => rw [q] at hl; simp at hl
        | [a, b] => rw [q] at hl; simp at hl
        | [a, b, c] => rw [q] at hh; cases hh; exact ⟨b, c, rfl⟩
        | a :: b :: c :: d :: r => rw [q] at hl; simp at hl; omega
      rw [hw] at hp hwl
      have hJ : rdJ z = (rdEnd x.cps.toList).bind fun a => (rdEnd y.cps.toList).map fun b => (a, b) := by
        unfold rdJ
        rw [hw]
        show (if Str.ofString "joint" = Str.ofString "joint" then _ else _) = _
        rw [if_pos rfl]
      refine ⟨p, _, rfl, SqL.of hp, rfl, _, _, rfl, _, _, rfl, rfl, ?_⟩
      refine ⟨_, rfl, x, rfl, hwl x (by simp), fun a ha H2 s2 => ?_, fun ha H2 s2 e he => k2 (by rw [hJ, ha]; rfl) H2 (s1.trans s2) e he⟩
      refine ⟨_, rfl, y, rfl, hwl y (by simp), fun b hb H3 s3 => ?_, fun hb H3 s3 e he => k2 (by rw [hJ, ha, hb]; rfl) H3 (s1.trans (s2.trans s3)) e he⟩
      refine ⟨by show 2 ≤ sizeLine; decide, fun q nq => ?_⟩
      exact k1 (a, b) (by rw [hJ, ha, hb]; rfl) q _ (s1.trans (s2.trans (s3.trans (same_upd nq)))) (none_back (s1.trans (s2.trans s3)) nq) upd_same
    · unfold rdJ
      match q : wds z with
      | [] => rfl
      | [a] => rfl
      | [a, b] => rfl
      | [a, b, c] =>
        show (if a = Str.ofString "joint" then _ else _) = _
        rw [if_neg]
        intro ha
        exact hn (by rw [q, ha]; exact ⟨rfl, rfl⟩)
      | a :: b :: c :: d :: r => rfl
end
end K75
set_option Elab.async false
set_option linter.all false
set_option maxRecDepth 100000
set_option maxHeartbeats 4000000
namespace K75
open PySem L2 TL PyProof.Rows
theorem small_l {n : Nat} (h : n ≤ 1000) : n < sizeLine := Nat.lt_of_le_of_lt h (by decide)
theorem far_ne {p d m : Int} (h0 : 0 ≤ p) (h1 : p < m) (d0 : 1 ≤ d) (d1 : d < m) : (p + d) % m ≠ p ∧ 0 ≤ (p + d) % m ∧ (p + d) % m < m := by
  refine ⟨?_, Int.emod_nonneg _ (by omega), Int.emod_lt_of_pos _ (by omega)⟩
  by_cases c : p + d < m
  · rw [Int.emod_eq_of_lt (by omega) c]; omega
  · have e : p + d = (p + d - m) + m := by omega
    rw [e, Int.add_emod_right, Int.emod_eq_of_lt (by omega) (by omega)]; omega
theorem line_ins {m : Int} {js js' : List (Int × Int)} {a b : Int} (L : isLine (m, js)) (hne : a / 2 ≠ b / 2) (a0 : 0 ≤ a) (a1 : a < 2 * m) (b0 : 0 ≤ b) (b1 : b < 2 * m) (hn : (min a b, max a b) ∉ js) (hl : js.length < 80)
    (pm : js'.Perm ((min a b, max a b) :: js)) : isLine (m, js') := by
  obtain ⟨h1, h2, h3, h4, h5⟩ := L
  refine ⟨h1, h2, by rw [pm.length_eq, List.length_cons]; exact hl, fun p hp => ?_, pm.nodup_iff.mpr (List.nodup_cons.mpr ⟨hn, h5⟩)⟩
  rcases List.mem_cons.mp (pm.mem_iff.mp hp) with rfl | z
  · unfold okJ
    dsimp only
    rcases Int.le_total a b with c | c
    · rw [Int.min_eq_left c, Int.max_eq_right c]; exact ⟨⟨a0, a1⟩, ⟨b0, b1⟩, c, hne⟩
    · rw [Int.min_eq_right c, Int.max_eq_left c]; exact ⟨⟨b0, b1⟩, ⟨a0, a1⟩, c, Ne.symm hne⟩
  · exact h4 p z
def sp_line (K : PySem.W.Frag) : Sp := fun vs H Q _ => ∃ (a : Addr) (ns : List Int) (st mo up : Int), vs = [.ref a, .int st, .int mo, .int up] ∧ SqL K H a (ns.map V.int) ∧ 0 ≤ st ∧ 1 ≤ mo ∧ mo ≤ 40 ∧ 0 ≤ up ∧ up ≤ 80 ∧ ∀ (p t : Addr) (us : List V) (l : Ln) (H' : Hp), Same H H' → H p = none → H t = none → H' p = some (.tup [.int l.1, .ref t]) → H' t = some (.lst us) → Ps K H' l.2 us → isLine l → l.1 ≤ mo → (l.2.length : Int) ≤ up → Q (.ref p) H'
abbrev s_law_line : Stmt := top 42
theorem sc_law_line : FnScope ["_law_script", "_law_start", "_law_most", "_law_upto", "_law_head", "_law_many", "_law_joints", "_law_k", "_law_number", "_law_one", "_law_far", "_law_other_here", "_law_joint"] ["_law_script", "_law_start", "_law_most", "_law_upto"] (defScope s_law_line) := ⟨rfl, rfl, rfl, by decide +kernel, rfl, by decide +kernel, by decide +kernel⟩

section
variable {P : Program} {w : World} {K : PySem.W.Frag} {mg : Str → Option Value} {base : Heap} {f : Addr} {fd : FuncData}
theorem ok_law_line {f1 f2 : Addr} {fd1 fd2 : FuncData} (F : Fn K mg "_law_line" s_law_line ["_law_script", "_law_start", "_law_most", "_law_upto"] f fd) (F_law_mix : Fn K mg "_law_mix" s_law_mix ["_law_cell", "_law_k"] f1 fd1) (F_law_cell_at : Fn K mg "_law_cell_at" s_law_cell_at ["_law_script", "_law_k"] f2 fd2)
    (B : Bl mg) : FnOk P w K mg base CX0 2 f fd ["_law_script", "_law_start", "_law_most", "_law_upto"] (sp_line K) := by
  have G_law_mix : FnOk P w K mg base CX0 1 f1 fd1 ["_law_cell", "_law_k"] sp_mix := ok_law_mix F_law_mix B
  have G_law_cell_at : FnOk P w K mg base CX0 1 f2 fd2 ["_law_script", "_law_k"] (sp_cell K) := ok_law_cell_at F_law_cell_at B
  refine F.F.ok sc_law_line (fun vs H Q E h => ?_) (fun cdv A outer s H vs Q E hr h => ?_)
  · obtain ⟨a, ns, st, mo, up, rfl, _⟩ := h; rfl
  · obtain ⟨a, ns, st, mo, up, rfl, hS, st0, mo0, mo1, up0, up1, k⟩ := h
    refine ⟨_, (pss_cons (ps_set (i := 4) sc_law_line.nd rfl (Or.inl rfl) (pe_call G_law_mix (hr.mono (by decide)) rfl F_law_mix.m F_law_mix.F.kp F_law_mix.b .nil pass0 (pa_cons (pe_call G_law_cell_at (hr.mono (by decide)) rfl F_law_cell_at.m F_law_cell_at.F.kp F_law_cell_at.b .nil pass0 (pa_cons (pv 0) (pa_cons (pv 1) pa_nil))) (pa_cons pe_int pa_nil))))
 (pss_cons (ps_set (i := 5) sc_law_line.nd rfl (Or.inl rfl) (pe_op op_add pe_int (pe_op op_mod (pv 4) (pv 2))))
 (pss_cons (ps_set (i := 6) sc_law_line.nd rfl (Or.inl rfl) (pe_lst pa_nil))
 (pss_cons (ps_for PassesOwn.never rfl (pi_range1 rfl B.range (pa_cons (pe_op op_mod (pe_op op_fdiv (pv 4) pe_int) (pe_op op_add (pv 3) pe_int)) pa_nil)) (pg_name (i := 7) sc_law_line.nd rfl (Or.inl rfl))
  (pss_cons (ps_set (i := 8) sc_law_line.nd rfl (Or.inl rfl) (pe_call G_law_mix (hr.mono (by decide)) rfl F_law_mix.m F_law_mix.F.kp F_law_mix.b .nil pass0 (pa_cons (pe_call G_law_cell_at (hr.mono (by decide)) rfl F_law_cell_at.m F_law_cell_at.F.kp F_law_cell_at.b .nil pass0 (pa_cons (pv 0) (pa_cons (pe_op op_add (pe_op op_add (pv 1) pe_int) (pe_op op_fdiv (pv 7) pe_int)) pa_nil))) (pa_cons (pe_op op_mod (pv 7) pe_int) pa_nil))))
 (pss_cons (ps_set (i := 9) sc_law_line.nd rfl (Or.inl rfl) (pe_op op_mod (pv 8) (pe_op op_mul pe_int (pv 5))))
 (pss_cons (ps_set (i := 8) sc_law_line.nd rfl (Or.inl rfl) (pe_op op_fdiv (pv 8) (pe_op op_mul pe_int (pv 5))))
 (pss_one (ps_if (pt_cmp (pc_gt (pv 5) pe_int))
  (pss_cons (ps_set (i := 10) sc_law_line.nd rfl (Or.inl rfl) (pe_ix ix_list (pe_lst (pa_cons pe_int (pa_cons (pe_op op_mod (pe_op op_fdiv (pv 8) pe_int) (pe_op op_sub (pv 5) pe_int)) pa_nil))) (pe_op op_mod (pe_op op_fdiv (pv 8) pe_int) pe_int) (fun _ _ => rfl)))
 (pss_cons (ps_set (i := 11) sc_law_line.nd rfl (Or.inl rfl) (pe_op op_add (pe_op op_mul pe_int (pe_op op_mod (pe_op op_add (pe_op op_add (pe_op op_fdiv (pv 9) pe_int) pe_int) (pv 10)) (pv 5))) (pe_op op_mod (pv 8) pe_int)))
 (pss_cons (ps_set (i := 12) sc_law_line.nd rfl (Or.inl rfl) (pe_tup (pa_cons (pe_callB (call_min2 rfl) rfl B.min boot_min (pa_cons (pv 9) (pa_cons (pv 11) pa_nil))) (pa_cons (pe_callB (call_max2 rfl) rfl B.max boot_max (pa_cons (pv 9) (pa_cons (pv 11) pa_nil))) pa_nil))))
 (pss_one (ps_if (pt_cmpR (op_notInD hr.units) (pv 12) (pv 6) (by with_unfolding_all rfl))
  (pss_one (ps_expr (pe_bm PySem.F.plainAttrs_list PySem.F.slot_list_insert PySem.F.type_list_insert mt_insert (pv 6) (pa_cons (pe_op op_mod (pe_op op_fdiv (pv 8) pe_int) (pe_op op_add (pe_callB call_len_seq rfl B.len boot_len (pa_cons (pv 6) pa_nil)) pe_int)) (pa_cons (pv 12) pa_nil))))) pss_nil))))) pss_nil))))))
 (pss_one (ps_ret (pe_tup (pa_cons (pv 5) (pa_cons (pv 6) pa_nil))))))))), ?_⟩
    refine ⟨_, rfl, _, rfl, a, ns, st, rfl, hS, st0, fun cell => ?_⟩
    refine ⟨cell, 0, rfl, by decide, by decide, fun hd hd0 _ => ?_⟩
    refine ⟨_, rfl, _, rfl, _, _, rfl, rfl, (by show (0 : Int) < mo; omega), _, _, rfl, rfl, ?_⟩
    have q0 : 0 ≤ hd % mo := Int.emod_nonneg _ (by omega)
    have q1 : hd % mo < mo := Int.emod_lt_of_pos _ (by omega)
    dsimp only
    generalize hm : 1 + hd % mo = m
    have m1 : 1 ≤ m := by omega
    have m2 : m ≤ 40 := by omega
    refine ⟨Nat.zero_le _, fun t nt => ?_⟩
    refine ⟨_, rfl, _, _, rfl, rfl, ⟨by decide, by decide⟩, _, rfl, _, _, rfl, rfl, _, _, rfl, rfl, (by show (0 : Int) < up + 1; omega), ?_⟩
    have u0 : 0 ≤ hd / 64 % (up + 1) := Int.emod_nonneg _ (by omega)
    have u1 : hd / 64 % (up + 1) < up + 1 := Int.emod_lt_of_pos _ (by omega)
    refine ⟨_, rfl, by show -(2 ^ 62) ≤ hd / 64 % (up + 1); omega, by show hd / 64 % (up + 1) < 2 ^ 62; omega, for_range (fun i σ H3 => ∃ (vs : List V) (js : List (Int × Int)) (x7 x8 x9 x10 x11 x12 : Option V), σ = [some (.ref a), some (.int st), some (.int mo), some (.int up), some (.int hd), some (.int m), some (.ref t), x7, x8, x9, x10, x11, x12] ∧ Same H H3 ∧ H3 t = some (.lst vs) ∧ Ps K H3 js vs ∧ js.length ≤ i ∧ isLine (m, js))
      ⟨[], [], none, none, none, none, none, none, rfl, same_upd nt, upd_same, dgs_nil.mpr rfl, Nat.le_refl _, ⟨m1, m2, Nat.zero_le _, fun p hp => (nomatch hp), List.nodup_nil⟩⟩ ?_ ?_⟩
    · rintro i σ H3 hi ⟨vs, js, x7, x8, x9, x10, x11, x12, rfl, S3, ht3, D, jl, L⟩
      have i0 : (0 : Int) + (i : Nat) = (i : Int) := by omega
      rw [i0]
      have hi' : (i : Int) < 80 := by
        have h : i < (hd / 64 % (up + 1)).toNat := hi
        omega
      refine ⟨_, rfl, _, rfl, _, _, rfl, rfl, _, rfl, _, _, rfl, rfl, ⟨by decide, by decide⟩, _, _, rfl, rfl, a, ns, _, rfl, S3.seq hS, (by show (0 : Int) ≤ st + 1 + (i : Int) / 8; omega), fun c5 => ?_⟩
      refine ⟨_, rfl, _, _, rfl, rfl, (by show (0 : Int) < _; decide), c5, _, rfl, (by show (0 : Int) ≤ (i : Int) % 8; omega), (by show (i : Int) % 8 ≤ 1000; omega), fun n5 n50 n51 => ?_⟩
      refine ⟨_, rfl, _, rfl, _, _, rfl, rfl, .inl ⟨by decide, by decide⟩, _, _, rfl, rfl, (by show (0 : Int) < 2 * m; omega), ?_⟩
      refine ⟨_, rfl, _, rfl, _, _, rfl, rfl, .inl ⟨by decide, by decide⟩, _, _, rfl, rfl, ⟨by show (0 : Int) < 2 * m; omega, by show 2 * m < 1073741824; omega⟩, ?_⟩
      have o0 : 0 ≤ n5 % (2 * m) := Int.emod_nonneg _ (by omega)
      have o1 : n5 % (2 * m) < 2 * m := Int.emod_lt_of_pos _ (by omega)
      dsimp only
      generalize n5 % (2 * m) = one at o0 o1
      generalize n5 / (2 * m) = r
      refine ⟨_, rfl, _, _, rfl, rfl, _, rfl, ite2 (fun h => ?_) (fun h => ?_)⟩
      · have hm1 : 1 < m := by simpa using h
        have f0 : 0 ≤ r / 4 % (m - 1) := Int.emod_nonneg _ (by omega)
        have f1 : r / 4 % (m - 1) < m - 1 := Int.emod_lt_of_pos _ (by omega)
        refine ⟨_, rfl, _, _, rfl, rfl, ⟨by decide, by decide⟩, _, rfl, _, _, rfl, rfl, _, _, rfl, rfl, (by show (0 : Int) < m - 1; omega), by show 2 ≤ sizeLine; decide, fun q3 nq3 => ?_⟩
        dsimp only
        generalize r / 4 % (m - 1) = fa at f0 f1
        obtain ⟨far, hfar, hat⟩ : ∃ far : Int, (0 ≤ far ∧ far < m - 1) ∧ atI [V.int 0, V.int fa] (r / 2 % 2) = some (.int far) := by
          have : r / 2 % 2 = 0 ∨ r / 2 % 2 = 1 := by omega
          rcases this with e | e
          · exact ⟨0, by omega, by rw [e]; rfl⟩
          · exact ⟨fa, ⟨f0, f1⟩, by rw [e]; rfl⟩
        refine ⟨_, rfl, _, _, rfl, rfl, ⟨by decide, by decide⟩, _, _, rfl, rfl, (by show (0 : Int) < _; decide), q3, _, _, _, rfl, rfl, SqL.of upd_same, hat, ?_⟩
        refine ⟨_, rfl, _, _, rfl, rfl, ⟨by decide, by decide⟩, _, _, rfl, rfl, _, rfl, _, _, rfl, rfl, _, rfl, _, _, rfl, rfl, (by show (0 : Int) < m; omega), _, _, rfl, rfl, .inl ⟨by decide, by decide⟩, _, rfl, _, _, rfl, rfl, (by show (0 : Int) < _; decide), _, _, rfl, rfl, ?_⟩
        dsimp only
        obtain ⟨g1, g2, g3⟩ := far_ne (p := one / 2) (d := 1 + far) (m := m) (by omega) (by omega) (by omega) (by omega)
        rw [show one / 2 + (1 + far) = one / 2 + 1 + far by omega] at g1 g2 g3
        generalize (one / 2 + 1 + far) % m = pc at g1 g2 g3
        have b0 : 0 ≤ 2 * pc + r % 2 := by omega
        have b1 : 2 * pc + r % 2 < 2 * m := by omega
        have hne : one / 2 ≠ (2 * pc + r % 2) / 2 := by omega
        generalize 2 * pc + r % 2 = ot at b0 b1 hne
        refine ⟨_, rfl, _, rfl, _, _, rfl, _, rfl, _, rfl, _, _, rfl, by show 2 ≤ sizeLine; decide, fun p1 n1 => ?_⟩
        rw [min_if, max_if]
        have S4 := (same_upd nq3).trans (same_upd (o := .tup [.int (min one ot), .int (max one ot)]) n1)
        have ht4 := S4 _ _ ht3
        have D4 := D.same S4
        have hp1 := upd_same (H := upd H3 q3 (.lst [.int 0, .int fa])) (a := p1) (o := .tup [.int (min one ot), .int (max one ot)])
        generalize upd (upd H3 q3 _) p1 _ = H4 at S4 ht4 D4 hp1 ⊢
        refine ⟨_, rfl, _, rfl, _, _, D4.da ht4, dg_tuple.mpr ⟨p1, _, rfl, SqT.of hp1, Dgs.two (dg_int.mpr rfl) (dg_int.mpr rfl)⟩, okDs_P js, okD_P (_, _), _, rfl, ?_⟩
        refine ite2 (fun hni => ?_) (fun _ => ?_)
        · have hni' : (min one ot, max one ot) ∉ js := fun z => by
            have e := any_P js (min one ot, max one ot)
            unfold dP at e
            dsimp only at e
            unfold dP at hni
            rw [e] at hni
            simp [z] at hni
          have vl := D4.len
          have w0 : 0 ≤ r / 64 % ((vs.length : Int) + 1) := Int.emod_nonneg _ (by omega)
          have w1 : r / 64 % ((vs.length : Int) + 1) < (vs.length : Int) + 1 := Int.emod_lt_of_pos _ (by omega)
          refine ⟨_, rfl, .inl ⟨rfl, _, SqL.of ht4⟩, _, rfl, _, _, rfl, rfl, ⟨by decide, by decide⟩, _, rfl, t, _, rfl, .inl (SqL.of ht4), _, _, rfl, rfl, _, _, rfl, rfl, (by show (0 : Int) < (vs.length : Int) + 1; omega), _, rfl, t, vs, _, _, rfl, rfl, ht4, w0, (by show r / 64 % ((vs.length : Int) + 1) ≤ (vs.length : Int); omega), small_l (by omega), ?_⟩
          have pm := perm_ins js (r / 64 % ((vs.length : Int) + 1)).toNat (min one ot, max one ot)
          refine ⟨_, js.take (r / 64 % ((vs.length : Int) + 1)).toNat ++ (min one ot, max one ot) :: js.drop (r / 64 % ((vs.length : Int) + 1)).toNat, _, _, _, _, _, _, rfl, Same.upd (S3.trans S4) nt, upd_same, ?_, ?_, line_ins L hne o0 o1 b0 b1 hni' (by omega) pm⟩
          · exact Ps.ins (x := (min one ot, max one ot)) _ D4 ht4 hp1
          · rw [pm.length_eq, List.length_cons]; omega
        · exact ⟨vs, js, _, _, _, _, _, _, rfl, S3.trans S4, ht4, D4, by omega, L⟩
      · exact ⟨vs, js, _, _, _, _, _, _, rfl, S3, ht3, D, by omega, L⟩
    · rintro σ H3 ⟨vs, js, x7, x8, x9, x10, x11, x12, rfl, S3, ht3, D, jl, L⟩
      refine ⟨_, rfl, _, rfl, by show 2 ≤ sizeLine; decide, fun p np => ?_⟩
      have S4 := same_upd (o := .tup [.int m, .ref t]) np
      exact k p t vs (m, js) _ (S3.trans S4) (none_back S3 np) nt upd_same (S4 _ _ ht3) (D.same S4) L (by show m ≤ mo; omega) (by show (js.length : Int) ≤ up; have : js.length ≤ (hd / 64 % (up + 1)).toNat := jl; omega)
end
end K75
set_option Elab.async false
set_option linter.all false
set_option maxRecDepth 100000
set_option maxHeartbeats 4000000
namespace K75
open PySem L2 TL PyProof.Rows
def sp_ltext (K : PySem.W.Frag) : Sp := fun vs H Q _ => ∃ (v : V) (l : Ln), vs = [v] ∧ Da K H (dL l) v ∧ small l ∧ ∀ H', Same H H' → Q (.str (txL l)) H'
def sp_etext : Sp := fun vs H Q _ => ∃ e : Int, vs = [.int e] ∧ 0 ≤ e ∧ e < 82 ∧ ∀ H', Same H H' → Q (.str (txE e)) H'
abbrev s_law_end_text : Stmt := top 47
theorem sc_law_end_text : FnScope ["_law_end"] ["_law_end"] (defScope s_law_end_text) := ⟨rfl, rfl, rfl, by decide +kernel, rfl, by decide +kernel, by decide +kernel⟩

abbrev s_law_line_text : Stmt := top 50
theorem sc_law_line_text : FnScope ["_law_line_here", "_law_text", "_law_one", "_law_other_here"] ["_law_line_here"] (defScope s_law_line_text) := ⟨rfl, rfl, rfl, by decide +kernel, rfl, by decide +kernel, by decide +kernel⟩

section
variable {P : Program} {w : World} {K : PySem.W.Frag} {mg : Str → Option Value} {base : Heap} {f : Addr} {fd : FuncData}
theorem ok_law_end_text (F : Fn K mg "_law_end_text" s_law_end_text ["_law_end"] f fd) (B : Bm mg) : FnOk P w K mg base CX0 1 f fd ["_law_end"] sp_etext := by
  refine F.F.ok sc_law_end_text (fun vs H Q E h => ?_) (fun cdv A outer s H vs Q E hr h => ?_)
  · obtain ⟨e, rfl, _⟩ := h; rfl
  · obtain ⟨e, rfl, h0, h1, k⟩ := h
    refine ⟨_, (pss_one (ps_ret (pe_op op_add_str (pe_callTy call_str_int rfl B.str boot_str (pa_cons (pe_op op_fdiv (pv 0) pe_int) pa_nil)) (pe_ix ix_list (pe_lst (pa_cons pe_str (pa_cons pe_str pa_nil))) (pe_op op_mod (pv 0) pe_int) (fun _ _ => rfl))))), ?_⟩
    refine ⟨_, rfl, _, _, rfl, rfl, ⟨by decide, by decide⟩, e / 2, rfl, log2_small (by omega) (by omega), by show 2 ≤ sizeLine; decide, fun q nq => ?_⟩
    have lim : ∀ n, n ≤ 1000 → n ≤ sizeLine := fun n h => Nat.le_trans h (by rw [sizeLine_eq]; decide)
    have l1 := (txN_rd (n := e / 2) (by omega) (by omega)).2.2
    have kk := k _ (same_upd (o := .lst [.str "<", .str ">"]) nq)
    refine ⟨_, rfl, _, _, rfl, rfl, (by show (0 : Int) < _; decide), ?_⟩
    have : e % 2 = 0 ∨ e % 2 = 1 := by omega
    rcases this with c | c
    · have ec : txE e = txN (e / 2) ++ Str.ofString "<" := by unfold txE; rw [if_pos c, lt_is]; rfl
      rw [ec] at kk
      refine ⟨q, _, _, .str "<", rfl, rfl, SqL.of upd_same, by show atI _ (e % 2) = _; rw [c]; rfl, txN (e / 2), _, rfl, rfl, lim _ ?_, kk⟩
      show (txN (e / 2)).length + 1 ≤ _
      omega
    · have ec : txE e = txN (e / 2) ++ Str.ofString ">" := by unfold txE; rw [if_neg (by omega), gt_is]; rfl
      rw [ec] at kk
      refine ⟨q, _, _, .str ">", rfl, rfl, SqL.of upd_same, by show atI _ (e % 2) = _; rw [c]; rfl, txN (e / 2), _, rfl, rfl, lim _ ?_, kk⟩
      show (txN (e / 2)).length + 1 ≤ _
      omega
theorem nl_joint : Str.ofString "\njoint " = chS 10 ++ Str.ofString "joint " := by decide +kernel
theorem ok_law_line_text {f1 : Addr} {fd1 : FuncData} (F : Fn K mg "_law_line_text" s_law_line_text ["_law_line_here"] f fd) (B : Bm mg) (F_law_end_text : Fn K mg "_law_end_text" s_law_end_text ["_law_end"] f1 fd1) : FnOk P w K mg base CX0 2 f fd ["_law_line_here"] (sp_ltext K) := by
  have G_law_end_text : FnOk P w K mg base CX0 1 f1 fd1 ["_law_end"] sp_etext := ok_law_end_text F_law_end_text B
  refine F.F.ok sc_law_line_text (fun vs H Q E h => ?_) (fun cdv A outer s H vs Q E hr h => ?_)
  · obtain ⟨v, l, rfl, _⟩ := h; rfl
  · obtain ⟨v, ⟨m, js⟩, rfl, hv, sm, k⟩ := h
    obtain ⟨a, b, rfl, ht, us, hl, hq⟩ := da_line hv
    obtain ⟨h1, h2, h3, h4⟩ := id sm
    dsimp only at ht hq h1 h2 h3 h4
    have hul : us.length = js.length := by rw [Dgs.length hq, List.length_map]
    have lim : ∀ n, n ≤ 2000 → n ≤ sizeLine := fun n h => Nat.le_trans h (by rw [sizeLine_eq]; decide)
    refine ⟨_, (pss_cons (ps_set (i := 1) sc_law_line_text.nd rfl (Or.inl rfl) (pe_op op_add_str pe_str (pe_callTy call_str_int rfl B.str boot_str (pa_cons (pe_ix ix_tup (pv 0) pe_int (fun _ _ => rfl)) pa_nil))))
 (pss_cons (ps_for PassesOwn.never rfl (pi_list (pe_ix ix_tup (pv 0) pe_int (fun _ _ => rfl))) (pg_tup (n := 2) rfl (pgs_cons (pg_name (i := 2) sc_law_line_text.nd rfl (Or.inl rfl)) (pgs_cons (pg_name (i := 3) sc_law_line_text.nd rfl (Or.inl rfl)) pgs_nil)))
  (pss_one (ps_set (i := 1) sc_law_line_text.nd rfl (Or.inl rfl) (pe_op op_add_str (pe_op op_add_str (pe_op op_add_str (pe_op op_add_str (pv 1) pe_str) (pe_call G_law_end_text (hr.mono (by decide)) rfl F_law_end_text.m F_law_end_text.F.kp F_law_end_text.b .nil pass0 (pa_cons (pv 2) pa_nil))) pe_str) (pe_call G_law_end_text (hr.mono (by decide)) rfl F_law_end_text.m F_law_end_text.F.kp F_law_end_text.b .nil pass0 (pa_cons (pv 3) pa_nil))))))
 (pss_one (ps_ret (pv 1))))), ?_⟩
    have l0 := (free_P h1 h2).2
    have l1 : (Str.ofString "pieces ").length + (txN m).length = (txP m).length := by unfold txP; rw [Str.length_append]
    refine ⟨_, rfl, a, _, _, _, rfl, rfl, ht, rfl, m, rfl, log2_small h1 (by omega), _, _, rfl, rfl, lim _ (by show (Str.ofString "pieces ").length + (txN m).length ≤ 2000; omega), ?_⟩
    refine ⟨_, rfl, a, _, _, _, rfl, rfl, ht, rfl, b, rfl, ⟨us, hl⟩, for_list (K := K) (a := b) (xs := us) (fun i σ H3 => ∃ x2 x3 : Option V, σ = [some (.ref a), some (.str (Str.join (chS 10) (txP m :: (js.take i).map txJ))), x2, x3] ∧ Same H H3)
      ⟨none, none, rfl, Same.refl _⟩ (fun i σ H3 _ ⟨_, _, _, S⟩ => S.seq hl) ?_ ?_⟩
    · rintro i y σ H3 hi ⟨x2, x3, rfl, S⟩
      have hi' : i < us.length := (List.getElem?_eq_some_iff.mp hi).1
      obtain ⟨ad, ⟨ea, eb⟩, e1, rfl, hpr⟩ := das_pair (Das.same S hq) hi
      have hb := h4 (ea, eb) (List.mem_of_getElem? e1)
      dsimp only at hpr hb
      have f1 := (txE_rd hb.1.1 hb.1.2).2.2
      have f2 := (txE_rd hb.2.1 hb.2.2).2.2
      have g1 : (Str.ofString "\njoint ").length = 7 := by decide +kernel
      have g2 : (Str.ofString " ").length = 1 := by decide +kernel
      have hlen : (Str.join (chS 10) (txP m :: (js.take i).map txJ)).length ≤ 14 * (i + 1) := by
        have := join_len (ws := txP m :: (js.take i).map txJ) fun w hw => (txR_free sm w (by
          rcases List.mem_cons.mp hw with z | z
          · exact z ▸ List.mem_cons_self
          · obtain ⟨p, hp, rfl⟩ := List.mem_map.mp z
            exact List.mem_cons_of_mem _ (List.mem_map.mpr ⟨p, List.mem_of_mem_take hp, rfl⟩))).2
        rw [List.length_cons, List.length_map, List.length_take] at this
        omega
      generalize hT : Str.join (chS 10) (txP m :: (js.take i).map txJ) = T at hlen
      refine ⟨ad, _, rfl, hpr, rfl, _, _, rfl, _, _, rfl, rfl, ?_⟩
      refine ⟨_, rfl, T, _, rfl, rfl, lim _ (by omega), _, rfl, ea, rfl, hb.1.1, hb.1.2, fun H4 s4 => ⟨_, _, rfl, rfl, lim _ ?_, _, _, rfl, rfl, lim _ ?_, _, rfl, eb, rfl, hb.2.1, hb.2.2, fun H5 s5 => ⟨_, _, rfl, rfl, lim _ ?_, ?_⟩⟩⟩
      · rw [Str.length_append]; omega
      · rw [Str.length_append, Str.length_append]; omega
      · rw [Str.length_append, Str.length_append, Str.length_append]; omega
      refine ⟨some (.int ea), some (.int eb), ?_, S.trans (s4.trans s5)⟩
      have hj := join_snoc (chS 10) (txJ (ea, eb)) (ws := txP m :: (js.take i).map txJ) (by simp)
      have e3 : txP m :: (js.take (i + 1)).map txJ = (txP m :: (js.take i).map txJ) ++ [txJ (ea, eb)] := by rw [List.take_add_one, e1, List.map_append]; rfl
      rw [e3, hj, hT, nl_joint]
      unfold txJ
      simp only [Str.append_assoc]
      rfl
    · rintro σ H3 ⟨x2, x3, rfl, S⟩
      rw [hul, List.take_length]
      exact ⟨_, rfl, k H3 S⟩
end
end K75
set_option Elab.async false
set_option linter.all false
set_option maxRecDepth 100000
set_option maxHeartbeats 4000000
namespace K75
open PySem L2 TL PyProof.Rows
def allS {α : Type} : List (Option α) → Option (List α)
  | [] => some []
  | none :: _ => none
  | some a :: r => (allS r).map (a :: ·)
theorem allS_some {α : Type} : ∀ (ds : List α), allS (ds.map some) = some ds
  | [] => rfl
  | d :: ds => by show (allS (ds.map some)).map (d :: ·) = _; rw [allS_some ds]; rfl
theorem allS_none {α : Type} : ∀ {rs : List (Option α)}, none ∈ rs → allS rs = none
  | none :: _, _ => rfl
  | some a :: r, h => by
    have h : none ∈ r := by simpa using h
    show (allS r).map (a :: ·) = _
    rw [allS_none h]; rfl
def rdH (h : Str) : Option Int := match wds h with
  | [a, b] => if a = Str.ofString "pieces" then rdNum b.cps.toList else none
  | _ => none
def rdLine (z : Str) : Option Ln := match Txt.split z (chS 10) with
  | [] => none
  | h :: rows => (rdH h).bind fun m => (allS (rows.map rdJ)).map fun js => (m, js)
theorem rdH_P {m : Int} (h1 : 0 ≤ m) (h2 : m < 41) : rdH (txP m) = some m := by
  unfold rdH
  rw [wds_P h1 h2]
  show (if _ then _ else _) = _
  rw [if_pos rfl, (txN_rd h1 h2).1]
theorem rdLine_L {l : Ln} (h : small l) : rdLine (txL l) = some l := by
  unfold rdLine
  rw [(txL_split h).1]
  show ((rdH (txP l.1)).bind fun m => (allS ((l.2.map txJ).map rdJ)).map fun js => (m, js)) = _
  rw [rdH_P h.1 h.2.1]
  have e : (l.2.map txJ).map rdJ = l.2.map some := by
    rw [List.map_map]
    exact List.map_congr_left fun p hp => rdJ_J (h.2.2.2 p hp)
  rw [e, allS_some]; rfl
def sp_rl (K : PySem.W.Frag) (c1 c6 : Addr) : Sp := fun vs H Q E => ∃ z : Str, vs = [.str z] ∧ z.length ≤ 20000 ∧
  (∀ l, rdLine z = some l → isLine l → ∀ (p t : Addr) (us : List V) (H' : Hp), Same H H' → H p = none → H t = none → H' p = some (.tup [.int l.1, .ref t]) → H' t = some (.lst us) → Ps K H' l.2 us → Q (.ref p) H') ∧
  (∀ l, rdLine z = some l → ¬ isLine l → ∀ H', Same H H' → ∀ e, H' e = none → E (.ref c1) (some e) H') ∧
  (rdLine z = none → ∀ H', Same H H' → ∀ e, H' e = none → E (.ref c6) (some e) H')
abbrev s_read_line : Stmt := top 25
theorem sc_read_line : FnScope ["text", "head", "tail", "many", "line"] ["text"] (defScope s_read_line) := ⟨rfl, rfl, rfl, by decide +kernel, rfl, by decide +kernel, by decide +kernel⟩
theorem cc_read_line_0 : CompOk (defScope s_read_line) ["text", "head", "tail", "many", "line"] { kind := .function, names := [(Str.ofString ".0", .local), (Str.ofString "row", .local), (Str.ofString "read_joint", .globalImplicit)], isGenerator := false, isCoroutine := false, more := [] } ["row"] 1 [none] := ⟨rfl, by decide +kernel, by decide +kernel, by decide +kernel, rfl, by decide +kernel, rfl, by decide +kernel⟩

theorem part_le {z x : Str} {c : Nat} (h : x ∈ Txt.split z (chS c)) : x.length ≤ z.length := by
  have h := part_len (sep := chS c) h
  rw [PySem.StrLaws.join_split] at h
  exact h
section
variable {P : Program} {w : World} {K : PySem.W.Frag} {mg : Str → Option Value} {base : Heap} {f : Addr} {fd : FuncData} {c6 c1 : Addr} {t3 t4 : Tok}
theorem ok_read_line {f1 f2 f3 f4 : Addr} {fd1 fd2 fd3 fd4 : FuncData} (F : Fn K mg "read_line" s_read_line ["text"] f fd) (F_read_number : Fn K mg "read_number" s_read_number ["text"] f1 fd1) (F_words_behind : Fn K mg "words_behind" s_words_behind ["row", "word", "many"] f2 fd2)
    (F_read_joint : Fn K mg "read_joint" s_read_joint ["row"] f3 fd3) (F_check_line : Fn K mg "check_line" s_check_line ["line"] f4 fd4)
    (G_read_number : FnOk P w K mg base (CXr P w base) 1 f1 fd1 ["text"] (sp_num c6)) (G_words_behind : FnOk P w K mg base (CXr P w base) 1 f2 fd2 ["row", "word", "many"] (sp_wb c6))
    (G_read_joint : FnOk P w K mg base (CXr P w base) 3 f3 fd3 ["row"] (sp_rj c6)) (G_check_line : FnOk P w K mg base (CXr P w base) 3 f4 fd4 ["line"] (sp_cl K c1)) : FnOk P w K mg base (CXr P w base) 4 f fd ["text"] (sp_rl K c1 c6) := by
  refine F.F.okX sc_read_line (fun vs H Q E h => ?_) (fun cdv A outer s H vs Q E hr h => ?_)
  · obtain ⟨z, rfl, _⟩ := h; rfl
  · obtain ⟨z, rfl, hz, k, kl, kt⟩ := h
    refine ⟨_, (pss_cons (ps_asg (pe_bm PySem.F.plainAttrs_str PySem.F.slot_str_split PySem.F.type_str_split mt_split (pv 0) (pa_cons pe_str pa_nil)) (pg_star1 rfl (pgs_cons (pg_name (i := 1) sc_read_line.nd rfl (Or.inl rfl)) (pgs_star (pg_name (i := 2) sc_read_line.nd rfl (Or.inl rfl)) pgs_nil))))
 (pss_cons (ps_set (i := 3) sc_read_line.nd rfl (Or.inl rfl) (pe_call G_read_number (hr.mono (by decide)) rfl F_read_number.m F_read_number.F.kp F_read_number.b .nil passes_cx (pa_cons (pe_ix ix_list (pe_call G_words_behind (hr.mono (by decide)) rfl F_words_behind.m F_words_behind.F.kp F_words_behind.b .nil passes_cx (pa_cons (pv 1) (pa_cons pe_str (pa_cons pe_int pa_nil)))) pe_int (fun _ _ => rfl)) pa_nil)))
 (pss_cons (ps_set (i := 4) sc_read_line.nd rfl (Or.inl rfl) (pe_tup (pa_cons (pv 3) (pa_cons (pe_lcX passH_cx (pi_list (pv 2)) rfl cc_read_line_0 (.name (by decide)) (fun _ _ _ _ => (pg_name (i := 0) cc_read_line_0.nd rfl (Or.inl rfl))) (fun _ _ _ _ => pifs_nil) (fun _ _ _ _ => (pe_call G_read_joint (hr.mono (by decide)) rfl F_read_joint.m F_read_joint.F.kp F_read_joint.b .nil passes_comp (pa_cons (pv 0) pa_nil)))) pa_nil))))
 (pss_cons (ps_expr (pe_call G_check_line (hr.mono (by decide)) rfl F_check_line.m F_check_line.F.kp F_check_line.b .nil passes_cx (pa_cons (pv 4) pa_nil)))
 (pss_one (ps_ret (pv 4))))))), ?_⟩
    refine ⟨_, rfl, rfl, _, _, rfl, rfl, by decide, by omega, fun q0 nq0 => ?_⟩
    rw [feed_is]
    obtain ⟨hd, tl, hsp⟩ : ∃ hd tl, Txt.split z (chS 10) = hd :: tl := by
      cases q : Txt.split z (chS 10) with
      | nil => exact absurd q (split_ne z 10)
      | cons a r => exact ⟨a, r, rfl⟩
    have hpl : ∀ x ∈ hd :: tl, x.length ≤ 20000 := fun x hx => by rw [← hsp] at hx; have := part_le hx; omega
    have hlen : (hd :: tl).length ≤ 20001 := by have h := tot_split z 10; have := len_tot (Txt.split z (chS 10)); rw [hsp] at h this; omega
    rw [List.length_cons] at hlen
    have hrd : rdLine z = (rdH hd).bind fun m => (allS (tl.map rdJ)).map fun js => (m, js) := by unfold rdLine; rw [hsp]
    rw [hsp]
    have s1 : Same H (upd H q0 (.lst ((hd :: tl).map V.str))) := same_upd nq0
    have hq0 := upd_same (H := H) (a := q0) (o := .lst ((hd :: tl).map V.str))
    generalize upd H q0 _ = H1 at s1 hq0 ⊢
    refine ⟨q0, .str hd, tl.map V.str, rfl, SqL.of hq0, by rw [List.length_map]; omega, fun q1 nq1 => ?_⟩
    have s2 := s1.trans (same_upd (o := .lst (tl.map V.str)) nq1)
    have hq1 := upd_same (H := H1) (a := q1) (o := .lst (tl.map V.str))
    generalize upd H1 q1 _ = H2 at s2 hq1 ⊢
    refine ⟨_, _, rfl, _, _, rfl, rfl, ?_⟩
    have hhd := hpl hd List.mem_cons_self
    refine ⟨_, rfl, hd, _, 1, rfl, by omega, by decide, by decide, by decide, fun hh hl q2 H3 s3 nq2 hq2 => ?_, fun hn H3 s3 e he => kt ?_ H3 (s2.trans s3) e he⟩
    rotate_left
    · rw [hrd]
      have : rdH hd = none := by
        unfold rdH
        match q : wds hd with
        | [] => rfl
        | [a] => rfl
        | [a, b] =>
          show (if _ then _ else _) = _
          rw [if_neg]
          intro ha
          exact hn (by rw [q, ha]; exact ⟨rfl, rfl⟩)
        | a :: b :: c :: r => rfl
      rw [this]; rfl
    obtain ⟨x, hw⟩ : ∃ x, wds hd = [Str.ofString "pieces", x] := by
      match q : wds hd with
      | [] => rw [q] at hh; cases hh
      | [a] => rw [q] at hl; simp at hl
      | [a, b] => rw [q] at hh; cases hh; exact ⟨b, rfl⟩
      | a :: b :: c :: r => rw [q] at hl; simp at hl; omega
    have hx : x.length ≤ 20000 := by
      have : x ∈ wds hd := by rw [hw]; simp
      have := part_le this
      omega
    have hH : rdH hd = rdNum x.cps.toList := by
      unfold rdH
      rw [hw]
      show (if _ then _ else _) = _
      rw [if_pos rfl]
    rw [hw] at hq2
    refine ⟨q2, _, 0, _, rfl, rfl, SqL.of hq2, atI_nat (j := 0) rfl, x, rfl, by omega, fun m hm H4 s4 => ?_, fun hn H4 s4 e he => kt (by rw [hrd, hH, hn]; rfl) H4 (s2.trans (s3.trans s4)) e he⟩
    rw [hH, hm] at hrd
    have hrd : rdLine z = (allS (tl.map rdJ)).map fun js => (m, js) := hrd
    have hq4 : SqL K H4 q1 (tl.map V.str) := SqL.of (s4 _ _ (s3 _ _ hq1))
    have T4 := s2.trans (s3.trans s4)
    refine ⟨_, rfl, _, rfl, q1, rfl, ⟨_, hq4⟩, fun t nt => lc_opt (K := K) tl.length (tl.map rdJ) dP nt (by rw [List.length_map]) (Nat.lt_of_le_of_lt (show tl.length ≤ 20000 by omega) (by rw [sizeLine_eq]; decide)) (fun i H s hi => (js_list hq4).go i H s (by rw [List.length_map]; exact hi)) (fun H s => by have := (js_list hq4).stop H s; rw [List.length_map] at this; exact this) ?_ ?_⟩
    · intro i y r G G' sm' ⟨vs', hl'⟩ yy hd' P1 P0 kk
      have hi : i < tl.length := by have := (List.getElem?_eq_some_iff.mp hd').1; rw [List.length_map] at this; exact this
      obtain ⟨rfl, hx'⟩ := (js_list hq4).yld i G y G' sm' (by rw [List.length_map]; exact hi) yy
      rw [List.getElem?_map] at hd' hx'
      obtain ⟨row, hrow⟩ : ∃ row, tl[i]? = some row := ⟨tl[i], by simp⟩
      rw [hrow] at hd' hx'
      cases hx'
      have hr' : rdJ row = r := by simpa using hd'
      have hm' : row ∈ tl := List.mem_of_getElem? hrow
      have hrl := hpl row (List.mem_cons_of_mem _ hm')
      refine name_yes ?_
      refine ⟨_, rfl, row, rfl, by omega, fun p hp q3 G2 sG nq3 hq3 => ?_, fun hn G2 sG e he => kt ?_ G2 (T4.trans (sm'.trans sG)) e he⟩
      · refine kk p (by rw [← hr', hp]) _ _ sG (dg_tuple.mpr ⟨q3, _, rfl, SqT.of ?_, Dgs.two (dg_int.mpr rfl) (dg_int.mpr rfl)⟩)
        rw [hid_ne (Ne.symm (ne_of_none hl' nq3)), hq3]
      · rw [hrd, allS_none (List.mem_map.mpr ⟨row, hm', hn⟩)]; rfl
    intro js us1 H5 hjs s5 h5 D1
    rw [hjs, allS_some] at hrd
    have hrd : rdLine z = some (m, js) := hrd
    have hjl : js.length ≤ 20000 := by have := congrArg List.length hjs; rw [List.length_map, List.length_map] at this; omega
    have D1 : Ps K H5 js us1 := ps_of_das (Das.same hid_same D1)
    refine ⟨by show 2 ≤ sizeLine; decide, fun p np => ?_⟩
    have s6 := same_upd (o := .tup [.int m, .ref t]) np
    have D2 := D1.same s6
    have h6 := s6 _ _ h5
    have hp6 := upd_same (H := H5) (a := p) (o := .tup [.int m, .ref t])
    have s7 := T4.trans s5
    have nt0 : H t = none := none_back T4 nt
    have np0 : H p = none := none_back s7 np
    generalize upd H5 p _ = H6 at s6 D2 h6 hp6 ⊢
    refine ⟨_, rfl, _, (m, js), rfl, da_mkline hp6 (D2.da h6), by show js.length ≤ 100000; omega, fun hL H7 s8 => ?_, fun hn H7 s8 e he => kl _ hrd hn H7 (s7.trans (s6.trans s8)) e he⟩
    exact ⟨_, rfl, k _ hrd hL p t us1 H7 (s7.trans (s6.trans s8)) np0 nt0 (s8 _ _ hp6) (s8 _ _ h6) (D2.same s8)⟩
end
end K75
set_option Elab.async false
set_option linter.all false
set_option maxRecDepth 100000
set_option maxHeartbeats 4000000
namespace K75
open PySem L2 TL PyProof.Rows
theorem ev_map {α β : Type} (f : α → β) : ∀ l : List α, ev (l.map f) = (ev l).map f
  | [] => by simp [ev]
  | [x] => by simp [ev]
  | x :: y :: r => by simp only [List.map_cons, ev]; rw [ev_map f r]
def rdT (z : Str) : Option (List Int) := allS ((wds z).map fun x => rdEnd x.cps.toList)
def isW (x : Str) : Bool := decide (x = Str.ofString "on") || decide (x = Str.ofString "back")
theorem isW_or {x : Str} (h : isW x = true) : x = Str.ofString "on" ∨ x = Str.ofString "back" := by
  unfold isW at h
  simpa using h
def rdM (p : Str × Str) : Option (Str × Int) := if isW p.1 = true then (rdEnd p.2.cps.toList).map fun n => (p.1, n) else none
def prs (ws : List Str) : List (Str × Str) := (ev ws).zip (ev (ws.drop 1))
def rdR (z : Str) : Option (List (Str × Int)) := if z = Str.ofString "-" then some [] else if (wds z).length % 2 = 1 then none else allS ((prs (wds z)).map rdM)
def sp_rt (C : Addr) : Sp := fun vs H Q E => ∃ z : Str, vs = [.str z] ∧ z.length ≤ 20000 ∧ (∀ ns, rdT z = some ns → NewInts H ns Q) ∧ (rdT z = none → ∀ H', Same H H' → ∀ e, H' e = none → E (.ref C) (some e) H')
def sp_rm (C : Addr) : Sp := fun vs H Q E => ∃ x y : Str, vs = [.str x, .str y] ∧ x.length ≤ 20000 ∧ y.length ≤ 20000 ∧ (∀ k, rdM (x, y) = some k → ∀ (q : Addr) H', Same H H' → H q = none → H' q = some (.tup [.str k.1, .int k.2]) → Q (.ref q) H') ∧ (rdM (x, y) = none → ∀ H', Same H H' → ∀ e, H' e = none → E (.ref C) (some e) H')
def sp_rr (K : PySem.W.Frag) (C : Addr) : Sp := fun vs H Q E => ∃ z : Str, vs = [.str z] ∧ z.length ≤ 20000 ∧ (∀ run, rdR z = some run → ∀ q H', Same H H' → H q = none → RunAt K H' q run → Q (.ref q) H') ∧ (rdR z = none → ∀ H', Same H H' → ∀ e, H' e = none → E (.ref C) (some e) H')
abbrev s_read_train : Stmt := top 26
theorem sc_read_train : FnScope ["text"] ["text"] (defScope s_read_train) := ⟨rfl, rfl, rfl, by decide +kernel, rfl, by decide +kernel, by decide +kernel⟩
theorem cc_read_train_0 : CompOk (defScope s_read_train) ["text"] { kind := .function, names := [(Str.ofString ".0", .local), (Str.ofString "word", .local), (Str.ofString "read_end", .globalImplicit)], isGenerator := false, isCoroutine := false, more := [] } ["word"] 1 [none] := ⟨rfl, by decide +kernel, by decide +kernel, by decide +kernel, rfl, by decide +kernel, rfl, by decide +kernel⟩

abbrev s_read_move : Stmt := top 27
theorem sc_read_move : FnScope ["word", "end"] ["word", "end"] (defScope s_read_move) := ⟨rfl, rfl, rfl, by decide +kernel, rfl, by decide +kernel, by decide +kernel⟩

abbrev s_read_run : Stmt := top 28
theorem sc_read_run : FnScope ["text", "words"] ["text"] (defScope s_read_run) := ⟨rfl, rfl, rfl, by decide +kernel, rfl, by decide +kernel, by decide +kernel⟩
theorem cc_read_run_0 : CompOk (defScope s_read_run) ["text", "words"] { kind := .function, names := [(Str.ofString ".0", .local), (Str.ofString "word", .local), (Str.ofString "end", .local), (Str.ofString "read_move", .globalImplicit)], isGenerator := false, isCoroutine := false, more := [] } ["word", "end"] 2 [none, none] := ⟨rfl, by decide +kernel, by decide +kernel, by decide +kernel, rfl, by decide +kernel, rfl, by decide +kernel⟩

section
variable {P : Program} {w : World} {K : PySem.W.Frag} {mg : Str → Option Value} {base : Heap} {f : Addr} {fd : FuncData} {c6 : Addr}
theorem wds_len {z : Str} (hz : z.length ≤ 20000) : (wds z).length ≤ 20001 := by have h := tot_split z 32; have := len_tot (Txt.split z (chS 32)); unfold wds; omega
theorem ok_read_train {f1 : Addr} {fd1 : FuncData} (F : Fn K mg "read_train" s_read_train ["text"] f fd) (F_read_end : Fn K mg "read_end" s_read_end ["text"] f1 fd1)
    (G_read_end : FnOk P w K mg base (CXr P w base) 2 f1 fd1 ["text"] (sp_rend c6)) : FnOk P w K mg base (CXr P w base) 3 f fd ["text"] (sp_rt c6) := by
  refine F.F.okX sc_read_train (fun vs H Q E h => ?_) (fun cdv A outer s H vs Q E hr h => ?_)
  · obtain ⟨z, rfl, _⟩ := h; rfl
  · obtain ⟨z, rfl, hz, k, kt⟩ := h
    have hwl := wds_len hz
    have hpl : ∀ x ∈ wds z, x.length ≤ 20000 := fun x hx => by have := part_le hx; omega
    refine ⟨_, (pss_one (ps_ret (pe_lcX passH_cx (pi_list (pe_bm PySem.F.plainAttrs_str PySem.F.slot_str_split PySem.F.type_str_split mt_split (pv 0) (pa_cons pe_str pa_nil))) rfl cc_read_train_0 (.name (by decide)) (fun _ _ _ _ => (pg_name (i := 0) cc_read_train_0.nd rfl (Or.inl rfl))) (fun _ _ _ _ => pifs_nil) (fun _ _ _ _ => (pe_call G_read_end (hr.mono (by decide)) rfl F_read_end.m F_read_end.F.kp F_read_end.b .nil passes_comp (pa_cons (pv 0) pa_nil)))))), ?_⟩
    refine ⟨_, rfl, rfl, _, _, rfl, rfl, by decide, by omega, fun q0 nq0 => ?_⟩
    rw [blank_is]
    have s1 : Same H (upd H q0 (.lst ((wds z).map V.str))) := same_upd nq0
    have hq0 : (upd H q0 (.lst ((wds z).map V.str))) q0 = some (.lst ((wds z).map V.str)) := upd_same
    show ∃ a, V.ref q0 = .ref a ∧ _
    have hq4 : SqL K (upd H q0 (.lst ((wds z).map V.str))) q0 ((wds z).map V.str) := SqL.of hq0
    refine ⟨q0, rfl, ⟨_, hq4⟩, fun t nt => lc_opt (K := K) (wds z).length ((wds z).map fun x => rdEnd x.cps.toList) PyData.int nt (by rw [List.length_map]) (Nat.lt_of_le_of_lt hwl (by rw [sizeLine_eq]; decide)) (fun i H s hi => (js_list hq4).go i H s (by rw [List.length_map]; exact hi)) (fun H s => by have := (js_list hq4).stop H s; rw [List.length_map] at this; exact this) ?_ ?_⟩
    · intro i y r G G' sm' ⟨vs', hl'⟩ yy hd' P1 P0 kk
      have hi : i < (wds z).length := by have := (List.getElem?_eq_some_iff.mp hd').1; rw [List.length_map] at this; exact this
      obtain ⟨rfl, hx'⟩ := (js_list hq4).yld i G y G' sm' (by rw [List.length_map]; exact hi) yy
      rw [List.getElem?_map] at hd' hx'
      obtain ⟨row, hrow⟩ : ∃ row, (wds z)[i]? = some row := ⟨(wds z)[i], by simp⟩
      rw [hrow] at hd' hx'
      cases hx'
      have hr' : rdEnd row.cps.toList = r := by simpa using hd'
      have hm' : row ∈ wds z := List.mem_of_getElem? hrow
      have hrl := hpl row hm'
      refine name_yes ?_
      refine ⟨_, rfl, row, rfl, by omega, fun n hn G2 sG => kk n (by rw [← hr', hn]) _ _ sG (dg_int.mpr rfl), fun hn G2 sG e he => kt ?_ G2 (s1.trans (sm'.trans sG)) e he⟩
      unfold rdT
      exact allS_none (List.mem_map.mpr ⟨row, hm', hn⟩)
    intro ns us1 H5 hjs s5 h5 D1
    have hrd : rdT z = some ns := by unfold rdT; rw [hjs, allS_some]
    rw [dgs_ints.mp D1] at h5
    exact k ns hrd t H5 (s1.trans s5) (none_back s1 nt) h5
theorem ok_read_move {f1 : Addr} {fd1 : FuncData} (F : Fn K mg "read_move" s_read_move ["word", "end"] f fd) (XS : Xx K mg c6) (F_read_end : Fn K mg "read_end" s_read_end ["text"] f1 fd1)
    (G_read_end : FnOk P w K mg base (CXr P w base) 2 f1 fd1 ["text"] (sp_rend c6)) : FnOk P w K mg base (CXr P w base) 3 f fd ["word", "end"] (sp_rm c6) := by
  refine F.F.okX sc_read_move (fun vs H Q E h => ?_) (fun cdv A outer s H vs Q E hr h => ?_)
  · obtain ⟨x, y, rfl, _⟩ := h; rfl
  · obtain ⟨x, y, rfl, hx, hy, k, kt⟩ := h
    refine ⟨_, (pss_cons (ps_if (pt_cmpR op_notIn_seq (pv 0) (pe_tup (pa_cons pe_str (pa_cons pe_str pa_nil))) (by with_unfolding_all rfl))
  (pss_one (ps_raise raises_cx rfl rfl XS.NoText.m XS.NoText.q PySem.F.excBase_ValueError (pa_cons pe_str pa_nil))) pss_nil)
 (pss_one (ps_ret (pe_tup (pa_cons (pv 0) (pa_cons (pe_call G_read_end (hr.mono (by decide)) rfl F_read_end.m F_read_end.F.kp F_read_end.b .nil passes_cx (pa_cons (pv 1) pa_nil)) pa_nil)))))), ?_⟩
    refine ⟨_, rfl, by show 2 ≤ sizeLine; decide, fun t nt => ?_⟩
    have s1 := same_upd (o := .tup [.str "on", .str "back"]) nt
    refine ⟨t, _, rfl, .inr (SqT.of upd_same), rfl, rfl, _, rfl, ?_⟩
    have ein : inV (.str x) [.str "on", .str "back"] = isW x := by
      unfold isW
      rw [Bool.eq_iff_iff]
      simp only [inV, eqV, List.any_cons, List.any_nil, Bool.or_false, Bool.or_eq_true, decide_eq_true_eq, beq_iff_eq]
      constructor <;> (rintro (h | h) <;> first | exact .inl h.symm | exact .inr h.symm)
    refine ite2 (fun h => ?_) (fun h => ?_)
    · have h : (!inV (.str x) [.str "on", .str "back"]) = true := h
      rw [ein] at h
      have h : isW x = false := by simpa using h
      exact ⟨by show 1 ≤ sizeLine; decide, fun e ne => kt (by unfold rdM; rw [if_neg (by rw [h]; decide)]) _ s1 e ne⟩
    · have h : ¬ (!inV (.str x) [.str "on", .str "back"]) = true := h
      rw [ein] at h
      have h : isW x = true := by simpa using h
      have hM : rdM (x, y) = (rdEnd y.cps.toList).map fun n => (x, n) := by unfold rdM; rw [if_pos h]
      refine ⟨_, rfl, _, rfl, y, rfl, by omega, fun n hn H2 s2 => ⟨by show 2 ≤ sizeLine; decide, fun q nq => ?_⟩, fun hn H2 s2 e he => kt (by rw [hM, hn]; rfl) H2 (s1.trans s2) e he⟩
      exact k (x, n) (by rw [hM, hn]; rfl) q _ (s1.trans (s2.trans (same_upd nq))) (none_back (s1.trans s2) nq) upd_same
theorem ok_read_run {f1 : Addr} {fd1 : FuncData} (F : Fn K mg "read_run" s_read_run ["text"] f fd) (B : Bm mg) (XS : Xx K mg c6) (F_read_move : Fn K mg "read_move" s_read_move ["word", "end"] f1 fd1)
    (G_read_move : FnOk P w K mg base (CXr P w base) 3 f1 fd1 ["word", "end"] (sp_rm c6)) : FnOk P w K mg base (CXr P w base) 4 f fd ["text"] (sp_rr K c6) := by
  refine F.F.okX sc_read_run (fun vs H Q E h => ?_) (fun cdv A outer s H vs Q E hr h => ?_)
  · obtain ⟨z, rfl, _⟩ := h; rfl
  · obtain ⟨z, rfl, hz, k, kt⟩ := h
    have hwl := wds_len hz
    have hpl : ∀ x ∈ wds z, x.length ≤ 20000 := fun x hx => by have := part_le hx; omega
    refine ⟨_, (pss_cons (ps_if (pt_cmpR op_eq (pv 0) pe_str (nomark _))
  (pss_one (ps_ret (pe_lst pa_nil))) pss_nil)
 (pss_cons (ps_set (i := 1) sc_read_run.nd rfl (Or.inl rfl) (pe_bm PySem.F.plainAttrs_str PySem.F.slot_str_split PySem.F.type_str_split mt_split (pv 0) (pa_cons pe_str pa_nil)))
 (pss_cons (ps_if (pt_cmp (pc_eqI (pe_op op_mod (pe_callB call_len_seq rfl B.len boot_len (pa_cons (pv 1) pa_nil)) pe_int) pe_int))
  (pss_one (ps_raise raises_cx rfl rfl XS.NoText.m XS.NoText.q PySem.F.excBase_ValueError (pa_cons pe_str pa_nil))) pss_nil)
 (pss_one (ps_ret (pe_lcX passH_cx (pi_zip rfl B.zip (pa_cons (pe_step0 (pv 1) pe_int) (pa_cons (pe_step1 (pv 1) pe_int pe_int) pa_nil))) rfl cc_read_run_0 (.tup (.cons (.name (by decide)) (.cons (.name (by decide)) .nil))) (fun _ _ _ _ => (pg_tup (n := 2) rfl (pgs_cons (pg_name (i := 0) cc_read_run_0.nd rfl (Or.inl rfl)) (pgs_cons (pg_name (i := 1) cc_read_run_0.nd rfl (Or.inl rfl)) pgs_nil)))) (fun _ _ _ _ => pifs_nil) (fun _ _ _ _ => (pe_call G_read_move (hr.mono (by decide)) rfl F_read_move.m F_read_move.F.kp F_read_move.b .nil passes_comp (pa_cons (pv 0) (pa_cons (pv 1) pa_nil)))))))))), ?_⟩
    refine ⟨_, rfl, rfl, _, rfl, ite2 (fun h => ?_) (fun h => ?_)⟩
    · have h : z = Str.ofString "-" := V.str.inj (of_decide_eq_true h)
      refine ⟨Nat.zero_le _, fun q nq => k [] (by unfold rdR; rw [if_pos h]) q _ (same_upd nq) nq ⟨⟨[], upd_same, dgs_nil.mpr rfl⟩, fun k hk => nomatch hk⟩⟩
    have h : ¬ z = Str.ofString "-" := fun e => h (decide_eq_true (congrArg V.str e))
    have hR : rdR z = if (wds z).length % 2 = 1 then none else allS ((prs (wds z)).map rdM) := by unfold rdR; rw [if_neg h]
    refine ⟨_, rfl, rfl, _, _, rfl, rfl, by decide, by omega, fun q0 nq0 => ?_⟩
    rw [blank_is]
    have s1 : Same H (upd H q0 (.lst ((wds z).map V.str))) := same_upd nq0
    have hq0 : (upd H q0 (.lst ((wds z).map V.str))) q0 = some (.lst ((wds z).map V.str)) := upd_same
    have eH : upd H q0 (.lst ((Txt.split z (chS 32)).map V.str)) = upd H q0 (.lst ((wds z).map V.str)) := rfl
    rw [eH]
    generalize upd H q0 (.lst ((wds z).map V.str)) = H1 at s1 hq0 ⊢
    refine ⟨_, rfl, q0, _, rfl, .inl (SqL.of hq0), _, _, rfl, rfl, (by show (0 : Int) < 2; decide), _, _, rfl, rfl, _, rfl, ite2 (fun h2 => ?_) (fun h2 => ?_)⟩
    · have h2 : (((wds z).map V.str).length : Int) % 2 = 1 := by simpa using h2
      rw [List.length_map] at h2
      exact ⟨by show 1 ≤ sizeLine; decide, fun e ne => kt (by rw [hR, if_pos (by omega)]) _ s1 e ne⟩
    have h2 : ¬ (((wds z).map V.str).length : Int) % 2 = 1 := by simpa using h2
    rw [List.length_map] at h2
    have hR : rdR z = allS ((prs (wds z)).map rdM) := by rw [hR, if_neg (by omega)]
    refine ⟨_, rfl, _, rfl, q0, _, rfl, rfl, SqL.of hq0, fun a na => ?_⟩
    have s2 := same_upd (o := .lst (ev ((wds z).map V.str))) na
    have ha : (upd H1 a (.lst (ev ((wds z).map V.str)))) a = some (.lst ((ev (wds z)).map V.str)) := by rw [upd_same, ev_map]
    generalize upd H1 a _ = H2 at s2 ha ⊢
    refine ⟨_, rfl, _, rfl, _, rfl, q0, _, rfl, rfl, rfl, SqL.of (s2 _ _ hq0), fun b nb => ?_⟩
    have s3 := same_upd (o := .lst (ev (((wds z).map V.str).drop 1))) nb
    have hb : (upd H2 b (.lst (ev (((wds z).map V.str).drop 1)))) b = some (.lst ((ev ((wds z).drop 1)).map V.str)) := by rw [upd_same, ← List.map_drop, ev_map]
    have ha := s3 _ _ ha
    generalize upd H2 b _ = H3 at s3 ha hb ⊢
    have T3 := s1.trans (s2.trans s3)
    have la : (ev (wds z)).length = (wds z).length / 2 := by rw [ev_len]; omega
    have lb : (ev ((wds z).drop 1)).length = (wds z).length / 2 := by rw [ev_len, List.length_drop]; omega
    have lp : (prs (wds z)).length = (wds z).length / 2 := by unfold prs; rw [List.length_zip, la, lb]; omega
    refine ⟨a, b, rfl, ⟨_, SqL.of ha⟩, ⟨_, SqL.of hb⟩, fun t nt => lc_opt (K := K) (prs (wds z)).length ((prs (wds z)).map rdM) dM nt (by rw [List.length_map]) (Nat.lt_of_le_of_lt (show _ ≤ 20001 by omega) (by rw [sizeLine_eq]; decide)) (fun i G sG hi => ?_) (fun G sG => ?_) ?_ ?_⟩
    · refine ⟨_, _, .str ((ev (wds z))[i]'(by omega)), .str ((ev ((wds z).drop 1))[i]'(by omega)), SqL.of (sG _ _ ha), SqL.of (sG _ _ hb), ?_, ?_⟩
      · rw [List.getElem?_map, List.getElem?_eq_getElem (by omega)]; rfl
      · rw [List.getElem?_map, List.getElem?_eq_getElem (by omega)]; rfl
    · exact ⟨_, _, SqL.of (sG _ _ ha), SqL.of (sG _ _ hb), .inl (by rw [List.length_map]; omega)⟩
    · intro i y r G G' sG ⟨vs', hl'⟩ yy hd' P1 P0 kk
      have hi : i < (prs (wds z)).length := by have := (List.getElem?_eq_some_iff.mp hd').1; rw [List.length_map] at this; exact this
      obtain ⟨pp, npp, rfl, hyy⟩ := yy
      obtain ⟨p, hp⟩ : ∃ p, (prs (wds z))[i]? = some p := ⟨(prs (wds z))[i], by simp⟩
      have hpz : (ev (wds z))[i]? = some p.1 ∧ (ev ((wds z).drop 1))[i]? = some p.2 := by
        unfold prs at hp
        have := List.getElem?_zip_eq_some.mp hp
        exact this
      have eG := hyy _ _ (.str p.1) (.str p.2) (SqL.of (sG _ _ ha)) (SqL.of (sG _ _ hb)) (by rw [List.getElem?_map, hpz.1]; rfl) (by rw [List.getElem?_map, hpz.2]; rfl)
      rw [eG]
      have sp := same_upd (o := .tup [.str p.1, .str p.2]) npp
      rw [List.getElem?_map, hp] at hd'
      have hr' : rdM p = r := by simpa using hd'
      have m1 : p.1 ∈ wds z := by
        have := hpz.1
        rw [ev_get] at this
        exact List.mem_of_getElem? this
      have m2 : p.2 ∈ wds z := by
        have := hpz.2
        rw [ev_get, List.getElem?_drop] at this
        exact List.mem_of_getElem? this
      refine ⟨pp, _, rfl, SqT.of upd_same, rfl, _, _, rfl, _, _, rfl, rfl, ?_⟩
      unfold tYes
      dsimp only
      rw [if_pos rfl]
      refine ⟨_, rfl, _, rfl, p.1, p.2, rfl, hpl _ m1, hpl _ m2, fun kq hk q G2 sG2 nq hq => ?_, fun hn G2 sG2 e he => kt ?_ G2 (T3.trans (sG.trans (sp.trans sG2))) e he⟩
      · refine kk kq (by rw [← hr']; exact hk) _ _ (sp.trans sG2) (dg_tuple.mpr ⟨q, _, rfl, SqT.of ?_, Dgs.two (dg_str.mpr rfl) (dg_int.mpr rfl)⟩)
        rw [hid_ne (Ne.symm (ne_of_none (sp _ _ hl') nq)), hq]
      · rw [hR]
        exact allS_none (List.mem_map.mpr ⟨p, List.mem_of_getElem? hp, hn⟩)
    intro run us1 H5 hjs s5 h5 D1
    refine k run (by rw [hR, hjs, allS_some]) t H5 (T3.trans s5) (none_back T3 nt) ⟨⟨us1, h5, D1⟩, fun kq hk => ?_⟩
    have : some kq ∈ (prs (wds z)).map rdM := by rw [hjs]; exact List.mem_map.mpr ⟨kq, hk, rfl⟩
    obtain ⟨p, _, hp⟩ := List.mem_map.mp this
    unfold rdM at hp
    by_cases hw : isW p.1 = true
    · rw [if_pos hw] at hp
      cases q : rdEnd p.2.cps.toList with
      | none => rw [q] at hp; cases hp
      | some n => rw [q] at hp; cases hp; exact strOk_word (isW_or hw)
    · rw [if_neg hw] at hp; cases hp
end
end K75
set_option Elab.async false
set_option linter.all false
set_option maxRecDepth 100000
set_option maxHeartbeats 4000000
namespace K75
open PySem L2 TL PyProof.Rows
def txT (ns : List Int) : Str := Str.join (chS 32) (ns.map txE)
def txM (k : Str × Int) : Str := k.1 ++ Str.ofString " " ++ txE k.2
def txRun (run : List (Str × Int)) : Str := Str.join (chS 32) (run.map txM) ++ (if (if run.isEmpty = true then (1 : Int) else 0) = 1 then Str.ofString "-" else Str.empty)
def OkN (ns : List Int) : Prop := ns.length ≤ 40 ∧ ∀ e ∈ ns, 0 ≤ e ∧ e < 82
def OkK (run : List (Str × Int)) : Prop := run.length ≤ 60 ∧ ∀ k ∈ run, (k.1 = Str.ofString "on" ∨ k.1 = Str.ofString "back") ∧ 0 ≤ k.2 ∧ k.2 < 82
theorem joinL_len (n : Nat) : ∀ {ws : List Str}, (∀ w ∈ ws, w.length ≤ n) → (Str.join (chS 32) ws).length ≤ (n + 1) * ws.length
  | [], _ => Nat.zero_le _
  | [a], h => by
    have := h a List.mem_cons_self
    show a.length ≤ (n + 1) * 1
    omega
  | a :: b :: r, h => by
    have h1 := h a List.mem_cons_self
    have h2 := joinL_len n (ws := b :: r) fun w hw => h w (List.mem_cons_of_mem _ hw)
    rw [join_cons2, Str.length_append, Str.length_append, List.length_cons, Nat.mul_succ]
    show a.length + 1 + _ ≤ _
    omega
theorem rdT_T {ns : List Int} (h : OkN ns) (hne : ns ≠ []) : rdT (txT ns) = some ns ∧ (txT ns).length ≤ 200 := by
  have hs : wds (txT ns) = ns.map txE := by
    unfold wds txT
    refine split_join (by simpa using hne) fun w hw => ?_
    obtain ⟨e, he, rfl⟩ := List.mem_map.mp hw
    exact fun z => by have := (txE_rd (h.2 e he).1 (h.2 e he).2).2.1 _ z; omega
  refine ⟨?_, ?_⟩
  · unfold rdT
    rw [hs, List.map_map]
    have : (ns.map ((fun x : Str => rdEnd x.cps.toList) ∘ txE)) = ns.map some := List.map_congr_left fun e he => (txE_rd (h.2 e he).1 (h.2 e he).2).1
    rw [this, allS_some]
  · have := joinL_len 3 (ws := ns.map txE) fun w hw => by
      obtain ⟨e, he, rfl⟩ := List.mem_map.mp hw
      exact (txE_rd (h.2 e he).1 (h.2 e he).2).2.2
    rw [List.length_map] at this
    have := h.1
    unfold txT
    omega
theorem word_free {x : Str} (h : x = Str.ofString "on" ∨ x = Str.ofString "back") : (∀ c ∈ x.cps.toList, 97 ≤ c) ∧ x.length ≤ 4 := by
  rcases h with rfl | rfl <;> decide +kernel
def flatR : List (Str × Int) → List Str
  | [] => []
  | k :: r => k.1 :: txE k.2 :: flatR r
theorem flatR_len : ∀ run, (flatR run).length = 2 * run.length
  | [] => rfl
  | k :: r => by rw [flatR, List.length_cons, List.length_cons, flatR_len r, List.length_cons]; omega
theorem join_flat : ∀ run : List (Str × Int), Str.join (chS 32) (run.map txM) = Str.join (chS 32) (flatR run)
  | [] => rfl
  | [k] => by
    show txM k = Str.join (chS 32) [k.1, txE k.2]
    rw [join_cons2, TL.join_one]; unfold txM; rw [blank_is]
  | k :: k2 :: r => by
    have ih := join_flat (k2 :: r)
    rw [List.map_cons, List.map_cons, join_cons2, ← List.map_cons, ih]
    show txM k ++ chS 32 ++ _ = Str.join (chS 32) (k.1 :: txE k.2 :: k2.1 :: txE k2.2 :: flatR r)
    rw [join_cons2, join_cons2]
    unfold txM
    rw [blank_is]
    show _ = _ ++ (_ ++ Str.join (chS 32) (flatR (k2 :: r)))
    simp only [Str.append_assoc]
theorem flatR_mem : ∀ {run : List (Str × Int)}, (∀ k ∈ run, (k.1 = Str.ofString "on" ∨ k.1 = Str.ofString "back") ∧ 0 ≤ k.2 ∧ k.2 < 82) → ∀ w ∈ flatR run, (32 : Nat) ∉ w.cps.toList
  | [], _, w, hw => by cases hw
  | k :: r, h, w, hw => by
    obtain ⟨h1, h2, h3⟩ := h k List.mem_cons_self
    rcases List.mem_cons.mp hw with rfl | hw
    · exact fun z => by have := (word_free h1).1 _ z; omega
    · rcases List.mem_cons.mp hw with rfl | hw
      · exact fun z => by have := (txE_rd h2 h3).2.1 _ z; omega
      · exact flatR_mem (fun k hk => h k (List.mem_cons_of_mem _ hk)) w hw
theorem prs_flat : ∀ run : List (Str × Int), prs (flatR run) = run.map fun k => (k.1, txE k.2)
  | [] => rfl
  | [k] => rfl
  | k :: k2 :: r => by
    have ih := prs_flat (k2 :: r)
    unfold prs at ih ⊢
    show (ev (k.1 :: txE k.2 :: flatR (k2 :: r))).zip (ev (txE k.2 :: k2.1 :: (flatR (k2 :: r)).drop 1)) = _
    rw [ev, ev, List.zip_cons_cons, ih]
    rfl
theorem rdR_R {run : List (Str × Int)} (h : OkK run) : rdR (txRun run) = some run ∧ (txRun run).length ≤ 600 := by
  cases run with
  | nil =>
    have e : txRun [] = Str.ofString "-" := by decide +kernel
    rw [e]
    exact ⟨by unfold rdR; rw [if_pos rfl], by decide +kernel⟩
  | cons k r =>
    have e : txRun (k :: r) = Str.join (chS 32) (flatR (k :: r)) := by
      unfold txRun
      rw [join_flat]
      refine str_ext ?_
      rw [cps_app]
      have : (if (if (k :: r).isEmpty = true then (1 : Int) else 0) = 1 then Str.ofString "-" else Str.empty) = Str.empty := rfl
      rw [this]
      show _ ++ [] = _
      rw [List.append_nil]
    have hw : wds (txRun (k :: r)) = flatR (k :: r) := by
      unfold wds
      rw [e]
      exact split_join (by simp [flatR]) (flatR_mem h.2)
    have hd : txRun (k :: r) ≠ Str.ofString "-" := fun z => by
      have h1 := congrArg List.length hw
      rw [z, flatR_len] at h1
      have h2 : (wds (Str.ofString "-")).length = 1 := by decide +kernel
      rw [h2] at h1
      omega
    refine ⟨?_, ?_⟩
    · unfold rdR
      rw [if_neg hd, hw, flatR_len, if_neg (by omega), prs_flat, List.map_map]
      have : ((k :: r).map (rdM ∘ fun k => (k.1, txE k.2))) = (k :: r).map some := List.map_congr_left fun q hq => by
        obtain ⟨h1, h2, h3⟩ := h.2 q hq
        show rdM (q.1, txE q.2) = some q
        unfold rdM
        rw [if_pos (by unfold isW; simpa using h1), (txE_rd h2 h3).1]
        rfl
      rw [this, allS_some]
    · rw [e]
      have := joinL_len 4 (ws := flatR (k :: r)) fun w hw => by
        have key : ∀ {run : List (Str × Int)}, (∀ k ∈ run, (k.1 = Str.ofString "on" ∨ k.1 = Str.ofString "back") ∧ 0 ≤ k.2 ∧ k.2 < 82) → ∀ w ∈ flatR run, w.length ≤ 4 := by
          intro run
          induction run with
          | nil => intro _ w hw; cases hw
          | cons k r ih =>
            intro h w hw
            obtain ⟨h1, h2, h3⟩ := h k List.mem_cons_self
            rcases List.mem_cons.mp hw with rfl | hw
            · exact (word_free h1).2
            · rcases List.mem_cons.mp hw with rfl | hw
              · have := (txE_rd h2 h3).2.2; omega
              · exact ih (fun k hk => h k (List.mem_cons_of_mem _ hk)) w hw
        exact key h.2 w hw
      rw [flatR_len] at this
      have := h.1
      omega
def sp_ttext (K : PySem.W.Frag) : Sp := fun vs H Q _ => ∃ (v : V) (ns : List Int), vs = [v] ∧ Da K H (dI ns) v ∧ OkN ns ∧ ∀ H', Same H H' → Q (.str (txT ns)) H'
def sp_rtext (K : PySem.W.Frag) : Sp := fun vs H Q _ => ∃ (v : V) (run : List (Str × Int)), vs = [v] ∧ Da K H (dR run) v ∧ OkK run ∧ ∀ H', Same H H' → Q (.str (txRun run)) H'
abbrev s_law_train_text : Stmt := top 48
theorem sc_law_train_text : FnScope ["_law_train_here"] ["_law_train_here"] (defScope s_law_train_text) := ⟨rfl, rfl, rfl, by decide +kernel, rfl, by decide +kernel, by decide +kernel⟩
theorem cc_law_train_text_0 : CompOk (defScope s_law_train_text) ["_law_train_here"] { kind := .function, names := [(Str.ofString ".0", .local), (Str.ofString "_law_end", .local), (Str.ofString "_law_end_text", .globalImplicit)], isGenerator := false, isCoroutine := false, more := [] } ["_law_end"] 1 [none] := ⟨rfl, by decide +kernel, by decide +kernel, by decide +kernel, rfl, by decide +kernel, rfl, by decide +kernel⟩

abbrev s_law_run_text : Stmt := top 49
theorem sc_law_run_text : FnScope ["_law_run_here"] ["_law_run_here"] (defScope s_law_run_text) := ⟨rfl, rfl, rfl, by decide +kernel, rfl, by decide +kernel, by decide +kernel⟩
theorem cc_law_run_text_0 : CompOk (defScope s_law_run_text) ["_law_run_here"] { kind := .function, names := [(Str.ofString ".0", .local), (Str.ofString "_law_word", .local), (Str.ofString "_law_end", .local), (Str.ofString "_law_end_text", .globalImplicit)], isGenerator := false, isCoroutine := false, more := [] } ["_law_word", "_law_end"] 2 [none, none] := ⟨rfl, by decide +kernel, by decide +kernel, by decide +kernel, rfl, by decide +kernel, rfl, by decide +kernel⟩

section
variable {P : Program} {w : World} {K : PySem.W.Frag} {mg : Str → Option Value} {base : Heap} {f : Addr} {fd : FuncData}
theorem ok_law_train_text {f1 : Addr} {fd1 : FuncData} (F : Fn K mg "_law_train_text" s_law_train_text ["_law_train_here"] f fd) (B : Bm mg) (F_law_end_text : Fn K mg "_law_end_text" s_law_end_text ["_law_end"] f1 fd1) : FnOk P w K mg base CX0 2 f fd ["_law_train_here"] (sp_ttext K) := by
  have G_law_end_text : FnOk P w K mg base CX0 1 f1 fd1 ["_law_end"] sp_etext := ok_law_end_text F_law_end_text B
  refine F.F.ok sc_law_train_text (fun vs H Q E h => ?_) (fun cdv A outer s H vs Q E hr h => ?_)
  · obtain ⟨v, ns, rfl, _⟩ := h; rfl
  · obtain ⟨v, ns, rfl, hv, hN, k⟩ := h
    obtain ⟨a, rfl, hS⟩ := da_ints.mp hv
    have hl := hN.1
    refine ⟨_, (pss_one (ps_ret (pe_bm PySem.F.plainAttrs_str PySem.F.slot_str_join PySem.F.type_str_join mt_join pe_str (pa_cons (pe_lc (pi_list (pv 0)) rfl cc_law_train_text_0 (.name (by decide)) (fun _ _ _ _ => (pg_name (i := 0) cc_law_train_text_0.nd rfl (Or.inl rfl))) (fun _ _ _ _ => pifs_nil) (fun _ _ _ _ => (pe_call G_law_end_text (hr.mono (by decide)) rfl F_law_end_text.m F_law_end_text.F.kp F_law_end_text.b .nil pass0 (pa_cons (pv 0) pa_nil)))) pa_nil)))), ?_⟩
    refine ⟨rfl, _, rfl, a, rfl, ⟨_, hS⟩, fun t nt => lc_grow ns.length ns (fun _ => true) (fun e => V.str (txE e)) nt rfl (small_l (by omega)) (fun i H s hi => (js_list hS).go i H s (by rw [List.length_map]; exact hi)) (fun H s => by have := (js_list hS).stop H s; rw [List.length_map] at this; exact this) ?_ ?_⟩
    · intro i y d G G' sG yy hd P1 P0 p1 p0
      have hi : i < ns.length := (List.getElem?_eq_some_iff.mp hd).1
      obtain ⟨rfl, hx'⟩ := (js_list hS).yld i G y G' sG (by rw [List.length_map]; exact hi) yy
      rw [List.getElem?_map, hd] at hx'
      cases hx'
      have he := hN.2 d (List.mem_of_getElem? hd)
      refine name_yes ?_
      exact ⟨_, rfl, d, rfl, he.1, he.2, fun G2 sG2 => p1 G2 rfl sG2⟩
    intro H5 s5 h5
    rw [filt_true] at h5
    refine ⟨_, t, ns.map txE, rfl, rfl, SqL.of (by rw [h5, List.map_map]; rfl), fun y hy => ?_, by rw [List.length_map]; omega, by decide, ?_⟩
    · obtain ⟨e, he, rfl⟩ := List.mem_map.mp hy
      have := (txE_rd (hN.2 e he).1 (hN.2 e he).2).2.2
      omega
    · rw [blank_is]
      exact k _ s5
theorem ok_law_run_text {f1 : Addr} {fd1 : FuncData} (F : Fn K mg "_law_run_text" s_law_run_text ["_law_run_here"] f fd) (B : Bm mg) (F_law_end_text : Fn K mg "_law_end_text" s_law_end_text ["_law_end"] f1 fd1) : FnOk P w K mg base CX0 2 f fd ["_law_run_here"] (sp_rtext K) := by
  have G_law_end_text : FnOk P w K mg base CX0 1 f1 fd1 ["_law_end"] sp_etext := ok_law_end_text F_law_end_text B
  refine F.F.ok sc_law_run_text (fun vs H Q E h => ?_) (fun cdv A outer s H vs Q E hr h => ?_)
  · obtain ⟨v, run, rfl, _⟩ := h; rfl
  · obtain ⟨v, run, rfl, hv, hK, k⟩ := h
    obtain ⟨a, us, rfl, hS, D⟩ := dg_list.mp hv
    have hl := hK.1
    have ul : us.length = run.length := by have := Dgs.length D; rw [List.length_map] at this; exact this
    refine ⟨_, (pss_one (ps_ret (pe_op op_add_str (pe_bm PySem.F.plainAttrs_str PySem.F.slot_str_join PySem.F.type_str_join mt_join pe_str (pa_cons (pe_lc (pi_list (pv 0)) rfl cc_law_run_text_0 (.tup (.cons (.name (by decide)) (.cons (.name (by decide)) .nil))) (fun _ _ _ _ => (pg_tup (n := 2) rfl (pgs_cons (pg_name (i := 0) cc_law_run_text_0.nd rfl (Or.inl rfl)) (pgs_cons (pg_name (i := 1) cc_law_run_text_0.nd rfl (Or.inl rfl)) pgs_nil)))) (fun _ _ _ _ => pifs_nil) (fun _ _ _ _ => (pe_op op_add_str (pe_op op_add_str (pv 0) pe_str) (pe_call G_law_end_text (hr.mono (by decide)) rfl F_law_end_text.m F_law_end_text.F.kp F_law_end_text.b .nil pass0 (pa_cons (pv 1) pa_nil))))) pa_nil)) (pe_op op_mulB pe_str (pe_callTy call_int1 rfl B.int boot_int (pa_cons (pe_cmpR (op_eqD hr.units) (pv 0) (pe_lst pa_nil) (nomark _)) pa_nil)))))), ?_⟩
    refine ⟨rfl, _, rfl, a, rfl, ⟨_, hS⟩, fun t nt => lc_grow run.length run (fun _ => true) (fun k => V.str (txM k)) nt rfl (small_l (by omega)) (fun i H s hi => (js_list hS).go i H s (by rw [ul]; exact hi)) (fun H s => by have := (js_list hS).stop H s; rw [ul] at this; exact this) ?_ ?_⟩
    · intro i y d G G' sG yy hd P1 P0 p1 p0
      have hi : i < run.length := (List.getElem?_eq_some_iff.mp hd).1
      obtain ⟨rfl, hx'⟩ := (js_list hS).yld i G y G' sG (by rw [ul]; exact hi) yy
      obtain ⟨kq, hk, dk⟩ := das_at (Das.same sG D) hx'
      rw [hd] at hk
      cases hk
      obtain ⟨ad, rfl, hA⟩ := da_M dk
      obtain ⟨g1, g2, g3⟩ := hK.2 d (List.mem_of_getElem? hd)
      have gl := (word_free g1).2
      have e4 : (Str.ofString " ").length = 1 := by decide +kernel
      have gt := (txE_rd g2 g3).2.2
      refine ⟨ad, _, rfl, hA, rfl, _, _, rfl, _, _, rfl, rfl, ?_⟩
      unfold tYes
      dsimp only
      rw [if_pos rfl]
      refine ⟨_, rfl, _, _, rfl, rfl, by rw [sizeLine_eq]; omega, _, rfl, d.2, rfl, g2, g3, fun G2 sG2 => ⟨_, _, rfl, rfl, ?_, p1 G2 rfl sG2⟩⟩
      rw [Str.length_append, sizeLine_eq]; omega
    intro H5 s5 h5
    rw [filt_true] at h5
    have hml : ∀ y ∈ run.map txM, y.length ≤ 8 := fun y hy => by
      obtain ⟨kq, hk, rfl⟩ := List.mem_map.mp hy
      obtain ⟨g1, g2, g3⟩ := hK.2 kq hk
      have gl := (word_free g1).2
      have e4 : (Str.ofString " ").length = 1 := by decide +kernel
      have gt := (txE_rd g2 g3).2.2
      unfold txM
      rw [Str.length_append, Str.length_append]; omega
    refine ⟨_, t, run.map txM, rfl, rfl, SqL.of (by rw [h5, List.map_map]; rfl), fun y hy => by have := hml y hy; omega, by rw [List.length_map]; omega, by decide, ?_⟩
    rw [blank_is]
    refine ⟨_, rfl, Nat.zero_le _, fun e ne => ?_⟩
    have se := same_upd (o := .lst []) ne
    have he := upd_same (H := H5) (a := e) (o := .lst [])
    generalize upd H5 e _ = H6 at se he ⊢
    refine ⟨dR run, .list [], Da.same (s5.trans se) hv, da_new (ns := []) he, okD_R fun kq hk => strOk_word (hK.2 kq hk).1, okD_nil, .inr ⟨_, rfl, ?_⟩⟩
    rw [eqv_R]
    refine ⟨_, _, rfl, rfl, by decide, by cases run.isEmpty <;> simp, _, _, rfl, rfl, ?_, k _ (s5.trans se)⟩
    have := joinL_len 8 hml
    rw [List.length_map] at this
    have e5 : (if (if run.isEmpty = true then (1 : Int) else 0) = 1 then Str.ofString "-" else Str.empty).length ≤ 1 := by cases run.isEmpty <;> decide +kernel
    rw [sizeLine_eq]
    omega
end
end K75
set_option Elab.async false
set_option linter.all false
set_option maxRecDepth 100000
set_option maxHeartbeats 4000000
namespace K75
open PySem L2 TL PyProof.Rows
def sp_joined (K : PySem.W.Frag) : Sp := fun vs H Q _ => ∃ (v : V) (l : Ln) (e : Int), vs = [v, .int e] ∧ Da K H (dL l) v ∧ LineOk l ∧ (∀ p ∈ l.2, p.1 ≠ p.2) ∧ NewInts H (jn l.2 e) Q
def sp_train (K : PySem.W.Frag) : Sp := fun vs H Q _ => ∃ (v : V) (l : Ln) (c n : Int), vs = [v, .int c, .int n] ∧ Da K H (dL l) v ∧ LineOk l ∧ (∀ p ∈ l.2, p.1 ≠ p.2) ∧ 0 ≤ c ∧ 1 ≤ n ∧ n ≤ 40 ∧
  ∀ (p : Addr) (ns : List Int) (H' : Hp), Same H H' → H p = none → H' p = some (.lst (ns.map V.int)) → ns ≠ [] → (ns.length : Int) ≤ n → TrOk l ns → Q (.ref p) H'
def sp_moves (K : PySem.W.Frag) : Sp := fun vs H Q _ => ∃ (v u : V) (l : Ln) (ns : List Int), vs = [v, u] ∧ Da K H (dL l) v ∧ Da K H (dI ns) u ∧ LineOk l ∧ (∀ p ∈ l.2, p.1 ≠ p.2) ∧ ns ≠ [] ∧ ns.length ≤ 900 ∧ NewMoves K H (mvs l ns) Q
def sp_run (K : PySem.W.Frag) : Sp := fun vs H Q _ => ∃ (v u : V) (l : Ln) (ns : List Int) (c n : Int), vs = [v, u, .int c, .int n] ∧ Da K H (dL l) v ∧ Da K H (dI ns) u ∧ LineOk l ∧ (∀ p ∈ l.2, p.1 ≠ p.2) ∧ ns ≠ [] ∧ ns.length ≤ 900 ∧ 0 ≤ c ∧ 0 ≤ n ∧ n ≤ 100 ∧
  ∀ q run b H', Same H H' → H q = none → RunAt K H' q run → (run.length : Int) ≤ n → Steps l ns run b → Q (.ref q) H'
abbrev s_law_joined : Stmt := top 43
theorem sc_law_joined : FnScope ["_law_line_here", "_law_end"] ["_law_line_here", "_law_end"] (defScope s_law_joined) := ⟨rfl, rfl, rfl, by decide +kernel, rfl, by decide +kernel, by decide +kernel⟩
theorem cc_law_joined_0 : CompOk (defScope s_law_joined) ["_law_line_here", "_law_end"] { kind := .function, names := [(Str.ofString ".0", .local), (Str.ofString "_law_a", .local), (Str.ofString "_law_b", .local), (Str.ofString "_law_end", .free)], isGenerator := false, isCoroutine := false, more := [] } ["_law_a", "_law_b", "_law_end"] 2 [none, none, some 1] := ⟨rfl, by decide +kernel, by decide +kernel, by decide +kernel, rfl, by decide +kernel, rfl, by decide +kernel⟩

abbrev s_law_train : Stmt := top 44
theorem sc_law_train : FnScope ["_law_line_here", "_law_number", "_law_most", "_law_train_here", "_law_k", "_law_pieces", "_law_some"] ["_law_line_here", "_law_number", "_law_most"] (defScope s_law_train) := ⟨rfl, rfl, rfl, by decide +kernel, rfl, by decide +kernel, by decide +kernel⟩
theorem cc_law_train_0 : CompOk (defScope s_law_train) ["_law_line_here", "_law_number", "_law_most", "_law_train_here", "_law_k", "_law_pieces", "_law_some"] { kind := .function, names := [(Str.ofString ".0", .local), (Str.ofString "_law_end", .local)], isGenerator := false, isCoroutine := false, more := [] } ["_law_end"] 1 [none] := ⟨rfl, by decide +kernel, by decide +kernel, by decide +kernel, rfl, by decide +kernel, rfl, by decide +kernel⟩
theorem cc_law_train_1 : CompOk (defScope s_law_train) ["_law_line_here", "_law_number", "_law_most", "_law_train_here", "_law_k", "_law_pieces", "_law_some"] { kind := .function, names := [(Str.ofString ".0", .local), (Str.ofString "_law_end", .local), (Str.ofString "_law_pieces", .free)], isGenerator := false, isCoroutine := false, more := [] } ["_law_end", "_law_pieces"] 1 [none, some 5] := ⟨rfl, by decide +kernel, by decide +kernel, by decide +kernel, rfl, by decide +kernel, rfl, by decide +kernel⟩

abbrev s_law_moves : Stmt := top 45
theorem sc_law_moves : FnScope ["_law_line_here", "_law_train_here", "_law_end", "_law_pieces", "_law_found"] ["_law_line_here", "_law_train_here"] (defScope s_law_moves) := ⟨rfl, rfl, rfl, by decide +kernel, rfl, by decide +kernel, by decide +kernel⟩
theorem cc_law_moves_0 : CompOk (defScope s_law_moves) ["_law_line_here", "_law_train_here", "_law_end", "_law_pieces", "_law_found"] { kind := .function, names := [(Str.ofString ".0", .local), (Str.ofString "_law_end", .local)], isGenerator := false, isCoroutine := false, more := [] } ["_law_end"] 1 [none] := ⟨rfl, by decide +kernel, by decide +kernel, by decide +kernel, rfl, by decide +kernel, rfl, by decide +kernel⟩

abbrev s_law_run : Stmt := top 46
theorem sc_law_run : FnScope ["_law_line_here", "_law_train_here", "_law_number", "_law_most", "_law_run_here", "_law_here", "_law_k", "_law_some", "_law_move"] ["_law_line_here", "_law_train_here", "_law_number", "_law_most"] (defScope s_law_run) := ⟨rfl, rfl, rfl, by decide +kernel, rfl, by decide +kernel, by decide +kernel⟩

section
variable {P : Program} {w : World} {K : PySem.W.Frag} {mg : Str → Option Value} {base : Heap} {f : Addr} {fd : FuncData}
theorem ok_law_joined (F : Fn K mg "_law_joined" s_law_joined ["_law_line_here", "_law_end"] f fd) (B : Bl mg) : FnOk P w K mg base CX0 1 f fd ["_law_line_here", "_law_end"] (sp_joined K) := by
  refine F.F.ok sc_law_joined (fun vs H Q E h => ?_) (fun cdv A outer s H vs Q E hr h => ?_)
  · obtain ⟨v, l, e, rfl, _⟩ := h; rfl
  · obtain ⟨v, l, e, rfl, hv, ok, hnp, k⟩ := h
    obtain ⟨a, b, rfl, ht, us, hl, hq⟩ := da_line hv
    have hlen := das_ints_len hq
    have hz : us.length < sizeLine := small_line (by rw [hlen]; have := ok.len; omega)
    refine ⟨_, (pss_one (ps_ret (pe_callB call_sorted rfl B.sorted boot_sorted (pa_cons (pe_lc (pi_list (pe_ix ix_tup (pv 0) pe_int (fun _ _ => rfl))) rfl cc_law_joined_0 (.tup (.cons (.name (by decide)) (.cons (.name (by decide)) .nil))) (fun _ _ _ _ => (pg_tup (n := 2) rfl (pgs_cons (pg_name (i := 0) cc_law_joined_0.nd rfl (Or.inl rfl)) (pgs_cons (pg_name (i := 1) cc_law_joined_0.nd rfl (Or.inl rfl)) pgs_nil)))) (fun _ _ _ _ => (pifs_one (pt_cmpR (op_in_seqk (K := K) rfl) (pv 2) (pe_tup (pa_cons (pv 0) (pa_cons (pv 1) pa_nil))) (by with_unfolding_all rfl)))) (fun _ _ _ _ => (pe_op op_sub (pe_op op_add (pv 0) (pv 1)) (pv 2)))) pa_nil)))), ?_⟩
    refine ⟨_, rfl, a, _, _, _, rfl, rfl, ht, rfl, b, rfl, ⟨us, hl⟩, fun l1 n1 => lc_grow us.length l.2 (fun p => decide (p.1 = e ∨ p.2 = e)) (fun p => V.int (p.1 + p.2 - e)) n1 hlen hz (fun i H s hi => (js_list hl).go i H s hi) (fun H s => (js_list hl).stop H s) ?_ ?_⟩
    · intro i x d H' H2 sm y hd P1 P0 q1 q0
      obtain ⟨rfl, y⟩ := y
      obtain ⟨ad, p, e1, rfl, hp⟩ := das_pair (Das.same sm hq) (y _ (sm.seq hl))
      rw [hd] at e1; cases e1
      refine ⟨ad, _, rfl, hp, rfl, _, _, rfl, _, _, rfl, rfl, _, rfl, _, rfl, _, rfl, by show 2 ≤ sizeLine; decide, fun t nt => ?_⟩
      have st := same_upd (o := .tup [.int d.1, .int d.2]) nt
      refine ⟨t, _, rfl, .inr (SqT.of upd_same), rfl, rfl, _, rfl, ?_⟩
      have ein : inV (.int e) [.int d.1, .int d.2] = decide (d.1 = e ∨ d.2 = e) := by
        rw [Bool.eq_iff_iff]; simp [inV, eqV]
      refine ite2 (fun h => ?_) (fun h => ?_)
      · have h : inV (.int e) [.int d.1, .int d.2] = true := h
        rw [ein] at h
        exact ⟨_, rfl, _, rfl, _, _, rfl, rfl, _, rfl, _, _, rfl, rfl, q1 _ h st⟩
      · have h : ¬ inV (.int e) [.int d.1, .int d.2] = true := h
        rw [ein] at h
        exact q0 _ (by simpa using h) st
    intro H2 s2 hl2
    have hln : ((l.2.filter fun p => decide (p.1 = e ∨ p.2 = e)).map fun p => p.1 + p.2 - e).length ≤ 60 := by
      have h := srt_length ((l.2.filter fun p => decide (p.1 = e ∨ p.2 = e)).map fun p => p.1 + p.2 - e)
      rw [jn_sum hnp] at h
      rw [← h]; exact jn_len ok e
    refine ⟨l1, (l.2.filter fun p => decide (p.1 = e ∨ p.2 = e)).map (fun p => p.1 + p.2 - e), rfl, SqL.of (by rw [hl2, List.map_map]; rfl), by omega, fun p2 hp2 => ?_⟩
    rw [jn_sum hnp]
    exact k p2 _ (s2.trans (same_upd hp2)) (Same.free s2 hp2) upd_same
theorem ok_law_train {f1 f2 f3 : Addr} {fd1 fd2 fd3 : FuncData} (F : Fn K mg "_law_train" s_law_train ["_law_line_here", "_law_number", "_law_most"] f fd) (F_law_mix : Fn K mg "_law_mix" s_law_mix ["_law_cell", "_law_k"] f1 fd1) (F_law_other : Fn K mg "_law_other" s_law_other ["_law_end"] f2 fd2)
    (F_law_joined : Fn K mg "_law_joined" s_law_joined ["_law_line_here", "_law_end"] f3 fd3) (B : Bl mg) : FnOk P w K mg base CX0 2 f fd ["_law_line_here", "_law_number", "_law_most"] (sp_train K) := by
  have G_law_mix : FnOk P w K mg base CX0 1 f1 fd1 ["_law_cell", "_law_k"] sp_mix := ok_law_mix F_law_mix B
  have G_law_other : FnOk P w K mg base CX0 1 f2 fd2 ["_law_end"] sp_other := ok_law_other F_law_other
  have G_law_joined : FnOk P w K mg base CX0 1 f3 fd3 ["_law_line_here", "_law_end"] (sp_joined K) := ok_law_joined F_law_joined B
  refine F.F.ok sc_law_train (fun vs H Q E h => ?_) (fun cdv A outer s H vs Q E hr h => ?_)
  · obtain ⟨v, l, c, n, rfl, _⟩ := h; rfl
  · obtain ⟨v, l, c, n, rfl, hv, ok, hnp, hc0, h1, h40, k⟩ := h
    obtain ⟨a, b, rfl, ht, us, hl, hq⟩ := da_line hv
    have o1 := ok.one
    refine ⟨_, (pss_cons (ps_set (i := 3) sc_law_train.nd rfl (Or.inl rfl) (pe_lst (pa_cons (pe_op op_mod (pv 1) (pe_op op_mul pe_int (pe_ix ix_tup (pv 0) pe_int (fun _ _ => rfl)))) pa_nil)))
 (pss_cons (ps_for PassesOwn.never rfl (pi_range1 rfl B.range (pa_cons (pe_op op_mod (pe_op op_fdiv (pv 1) pe_int) (pv 2)) pa_nil)) (pg_name (i := 4) sc_law_train.nd rfl (Or.inl rfl))
  (pss_cons (ps_set (i := 5) sc_law_train.nd rfl (Or.inr rfl) (pe_lc (pi_list (pv 3)) rfl cc_law_train_0 (.name (by decide)) (fun _ _ _ _ => (pg_name (i := 0) cc_law_train_0.nd rfl (Or.inl rfl))) (fun _ _ _ _ => pifs_nil) (fun _ _ _ _ => (pe_op op_fdiv (pv 0) pe_int))))
 (pss_cons (ps_lc (i := 6) sc_law_train.nd rfl rfl (pi_list (pe_call G_law_joined (hr.mono (by decide)) rfl F_law_joined.m F_law_joined.F.kp F_law_joined.b .nil pass0 (pa_cons (pv 0) (pa_cons (pe_call G_law_other (hr.mono (by decide)) rfl F_law_other.m F_law_other.F.kp F_law_other.b .nil pass0 (pa_cons (pe_ix ix_list (pv 3) (pe_un un_neg pe_int) (fun _ _ => rfl)) pa_nil)) pa_nil)))) rfl cc_law_train_1 (.name (by decide)) (fun _ _ _ _ => (pg_name (i := 0) cc_law_train_1.nd rfl (Or.inl rfl))) (fun _ _ _ _ => (pifs_one (pt_cmpR (op_notInDk (K := K) rfl hr.units) (pe_op op_fdiv (pv 0) pe_int) (pv 1) (by with_unfolding_all rfl)))) (fun _ _ _ _ => (pv 0)))
 (pss_one (ps_if (pt_cmpR (op_neD hr.units) (pv 6) (pe_lst pa_nil) (nomark _))
  (pss_one (ps_expr (pe_bm PySem.F.plainAttrs_list PySem.F.slot_list_append PySem.F.type_list_append mt_append (pv 3) (pa_cons (pe_ix ix_list (pv 6) (pe_op op_mod (pe_call G_law_mix (hr.mono (by decide)) rfl F_law_mix.m F_law_mix.F.kp F_law_mix.b .nil pass0 (pa_cons (pv 1) (pa_cons (pe_op op_add pe_int (pv 4)) pa_nil))) (pe_callB call_len_seq rfl B.len boot_len (pa_cons (pv 6) pa_nil))) (fun _ _ => rfl)) pa_nil)))) pss_nil)))))
 (pss_one (ps_ret (pv 3))))), ?_⟩
    refine ⟨_, rfl, _, rfl, a, _, _, _, rfl, rfl, ht, rfl, _, _, rfl, rfl, .inl ⟨by decide, by decide⟩, _, _, rfl, rfl, (by show (0 : Int) < 2 * l.1; omega), by show 1 ≤ sizeLine; decide, fun t nt => ?_⟩
    have e0 : 0 ≤ c % (2 * l.1) := Int.emod_nonneg _ (by omega)
    have e1 : c % (2 * l.1) < 2 * l.1 := Int.emod_lt_of_pos _ (by omega)
    have m0 : 0 ≤ c / 100 % n := Int.emod_nonneg _ (by omega)
    have m1 : c / 100 % n < n := Int.emod_lt_of_pos _ (by omega)
    refine ⟨_, rfl, _, _, rfl, rfl, ⟨by decide, by decide⟩, _, rfl, _, _, rfl, rfl, (by show (0 : Int) < n; omega), _, rfl, by show -(2 ^ 62) ≤ c / 100 % n; omega, by show c / 100 % n < 2 ^ 62; omega, for_range (fun i σ H3 => ∃ (ns : List Int) (x4 x5 x6 : Option V), σ = [some (.ref a), some (.int c), some (.int n), some (.ref t), x4, x5, x6] ∧ Same H H3 ∧ H3 t = some (.lst (ns.map V.int)) ∧ ns ≠ [] ∧ ns.length ≤ i + 1 ∧ TrOk l ns)
      ⟨[c % (2 * l.1)], none, none, none, rfl, same_upd nt, upd_same, by simp, Nat.le_refl _, ⟨fun e he => (by rw [List.mem_singleton.mp he]; exact ⟨e0, e1⟩), by simp, fun i x y hx hy => by simp at hy⟩⟩ ?_ ?_⟩
    · rintro i σ H3 hi ⟨ns, x4, x5, x6, rfl, S3, ht3, hne, nl, T⟩
      have hi' : i + 1 ≤ 39 := by
        have h : i < (c / 100 % n).toNat := hi
        omega
      refine ⟨_, rfl, t, rfl, ⟨_, SqL.of ht3⟩, fun pc npc => lc_pure ns (fun _ => true) (fun e => V.int (e / 2)) npc (SqL.of ht3) (by rw [List.length_map]) (by rw [List.length_map]; exact small_l (by omega)) ?_ ?_⟩
      · intro j x d H' hx hd sm P1 P0 k1 k0
        rw [List.getElem?_map, hd] at hx
        cases hx
        refine name_yes ?_
        exact ⟨_, rfl, _, _, rfl, rfl, ⟨by decide, by decide⟩, k1 rfl⟩
      rw [filt_true]
      have e1 : (ns.map fun e => V.int (e / 2)) = (ns.map (· / 2)).map V.int := by rw [List.map_map]; rfl
      rw [e1]
      have s4 : Same H3 (upd H3 pc (.lst ((ns.map (· / 2)).map V.int))) := same_upd npc
      refine ⟨_, rfl, _, rfl, _, rfl, t, _, _, _, rfl, rfl, SqL.of (s4 _ _ ht3), TL.at_last hne, _, rfl, _, l, _, rfl, Da.same (S3.trans s4) hv, ok, hnp, fun p H5 s5 hp hp2 => ⟨p, rfl, ⟨_, SqL.of hp2⟩, fun q nq => lc_pure (jn l.2 (oth (ns.getLastD 0))) (fun t => !decide (t / 2 ∈ ns.map (· / 2))) (fun t => V.int t) nq (SqL.of hp2) (by rw [List.length_map]) ?_ ?_ ?_⟩⟩
      · rw [List.length_map]
        exact small_l (by have := jn_len ok (oth (ns.getLastD 0)); omega)
      · intro j x d H' hx hd sm P1 P0 k1 k0
        rw [List.getElem?_map, hd] at hx
        cases hx
        have hD : Da K H' (.list ((ns.map (· / 2)).map .int)) (.ref pc) := Da.same (s5.trans sm) (da_new upd_same)
        refine ⟨_, rfl, _, _, rfl, rfl, ⟨by decide, by decide⟩, _, rfl, _, .int (d / 2), hD, dg_int.mpr rfl, okDs_I _, okD_int _, _, rfl, ?_⟩
        rw [any_I]
        exact ite2 (fun h => ⟨_, rfl, k1 h⟩) (fun h => k0 (by simpa using h))
      have efr : ((jn l.2 (oth (ns.getLastD 0))).filter fun t => !decide (t / 2 ∈ ns.map (· / 2))) = fr l ns (oth (ns.getLastD 0)) := rfl
      rw [efr]
      have S6 : Same H3 (upd H5 q (.lst ((fr l ns (oth (ns.getLastD 0))).map V.int))) := (s4.trans s5).trans (same_upd nq)
      refine ⟨_, rfl, Nat.zero_le _, fun e ne => ?_⟩
      have s7 := same_upd (o := .lst []) ne
      have hq7 := s7 _ _ (upd_same (H := H5) (a := q) (o := .lst ((fr l ns (oth (ns.getLastD 0))).map V.int)))
      refine ⟨dI (fr l ns (oth (ns.getLastD 0))), .list [], da_new hq7, da_new (ns := []) upd_same, okD_ints _, okD_nil, _, rfl, ?_⟩
      have ee : PyData.eqv (dI (fr l ns (oth (ns.getLastD 0)))) (.list []) = ((fr l ns (oth (ns.getLastD 0))).map PyData.int).isEmpty := eqv_list_nil _
      rw [ee]
      refine ite2 (fun hem => ?_) (fun _ => ?_)
      · have hpos : 0 < (fr l ns (oth (ns.getLastD 0))).length := by
          cases hh : fr l ns (oth (ns.getLastD 0)) with
          | nil => rw [hh] at hem; exact absurd hem (by decide)
          | cons x r => simp
        refine ⟨_, rfl, .inl ⟨rfl, _, SqL.of (s7 _ _ (S6 _ _ ht3))⟩, _, rfl, _, rfl, _, rfl, _, _, rfl, rfl, c, _, rfl, by show (0 : Int) ≤ 3 + (0 + (i : Int)); omega, by show 3 + (0 + (i : Int)) ≤ 1000; omega, fun m m0 m1 => ?_⟩
        have r0 : 0 ≤ m % ((fr l ns (oth (ns.getLastD 0))).length : Int) := Int.emod_nonneg _ (by omega)
        have r1 : m % ((fr l ns (oth (ns.getLastD 0))).length : Int) < ((fr l ns (oth (ns.getLastD 0))).length : Int) := Int.emod_lt_of_pos _ (by omega)
        obtain ⟨x, _, hmem, hat⟩ := at_int r0 r1
        refine ⟨_, rfl, q, _, rfl, .inl (SqL.of hq7), _, _, rfl, rfl, ?_, q, _, _, V.int x, rfl, rfl, SqL.of hq7, ?_, t, _, _, rfl, rfl, s7 _ _ (S6 _ _ ht3), ?_, ?_⟩
        · show (0 : Int) < (((fr l ns (oth (ns.getLastD 0))).map V.int).length : Int)
          rw [List.length_map]; omega
        · show atI _ (m % (((fr l ns (oth (ns.getLastD 0))).map V.int).length : Int)) = _
          rw [List.length_map]; exact hat
        · rw [List.length_map]; exact small_l (by omega)
        refine ⟨ns ++ [x], _, _, _, rfl, Same.upd (S3.trans (S6.trans s7)) nt, ?_, by simp, by rw [List.length_append]; show ns.length + 1 ≤ _; omega, T.snoc ok hne hmem⟩
        rw [upd_same, List.map_append]; rfl
      · exact ⟨ns, _, _, _, rfl, S3.trans (S6.trans s7), s7 _ _ (S6 _ _ ht3), hne, by omega, T⟩
    rintro σ H3 ⟨ns, x4, x5, x6, rfl, S3, ht3, hne, nl, T⟩
    refine ⟨_, rfl, k t ns _ S3 nt ht3 hne ?_ T⟩
    have h : ns.length ≤ (c / 100 % n).toNat + 1 := nl
    omega
theorem ok_law_moves {f1 f2 : Addr} {fd1 fd2 : FuncData} (F : Fn K mg "_law_moves" s_law_moves ["_law_line_here", "_law_train_here"] f fd) (F_law_other : Fn K mg "_law_other" s_law_other ["_law_end"] f1 fd1) (F_law_joined : Fn K mg "_law_joined" s_law_joined ["_law_line_here", "_law_end"] f2 fd2)
    (B : Bl mg) : FnOk P w K mg base CX0 2 f fd ["_law_line_here", "_law_train_here"] (sp_moves K) := by
  have G_law_other : FnOk P w K mg base CX0 1 f1 fd1 ["_law_end"] sp_other := ok_law_other F_law_other
  have G_law_joined : FnOk P w K mg base CX0 1 f2 fd2 ["_law_line_here", "_law_end"] (sp_joined K) := ok_law_joined F_law_joined B
  refine F.F.ok sc_law_moves (fun vs H Q E h => ?_) (fun cdv A outer s H vs Q E hr h => ?_)
  · obtain ⟨v, u, l, ns, rfl, _⟩ := h; rfl
  · obtain ⟨v, u, l, ns, rfl, hv, hu, ok, hnp, hne, hz, k⟩ := h
    obtain ⟨a, rfl, hS⟩ := da_ints.mp hu
    refine ⟨_, (pss_cons (ps_lc (i := 3) sc_law_moves.nd rfl rfl (pi_list (pv 1)) rfl cc_law_moves_0 (.name (by decide)) (fun _ _ _ _ => (pg_name (i := 0) cc_law_moves_0.nd rfl (Or.inl rfl))) (fun _ _ _ _ => pifs_nil) (fun _ _ _ _ => (pe_op op_fdiv (pv 0) pe_int)))
 (pss_cons (ps_set (i := 4) sc_law_moves.nd rfl (Or.inl rfl) (pe_lst pa_nil))
 (pss_cons (ps_for PassesOwn.never rfl (pi_list (pe_call G_law_joined (hr.mono (by decide)) rfl F_law_joined.m F_law_joined.F.kp F_law_joined.b .nil pass0 (pa_cons (pv 0) (pa_cons (pe_call G_law_other (hr.mono (by decide)) rfl F_law_other.m F_law_other.F.kp F_law_other.b .nil pass0 (pa_cons (pe_ix ix_list (pv 1) (pe_un un_neg pe_int) (fun _ _ => rfl)) pa_nil)) pa_nil)))) (pg_name (i := 2) sc_law_moves.nd rfl (Or.inl rfl))
  (pss_one (ps_if (pt_cmpR (op_notInD hr.units) (pe_op op_fdiv (pv 2) pe_int) (pv 3) (by with_unfolding_all rfl))
  (pss_one (ps_expr (pe_bm PySem.F.plainAttrs_list PySem.F.slot_list_append PySem.F.type_list_append mt_append (pv 4) (pa_cons (pe_tup (pa_cons (pe_tup (pa_cons pe_str (pa_cons (pv 2) pa_nil))) (pa_cons (pe_op op_cat (pe_slice sl_list (pv 1) (po_some pe_int) po_none) (pe_lst (pa_cons (pv 2) pa_nil))) pa_nil))) pa_nil)))) pss_nil)))
 (pss_cons (ps_for PassesOwn.never rfl (pi_list (pe_call G_law_joined (hr.mono (by decide)) rfl F_law_joined.m F_law_joined.F.kp F_law_joined.b .nil pass0 (pa_cons (pv 0) (pa_cons (pe_ix ix_list (pv 1) pe_int (fun _ _ => rfl)) pa_nil)))) (pg_name (i := 2) sc_law_moves.nd rfl (Or.inl rfl))
  (pss_one (ps_if (pt_cmpR (op_notInD hr.units) (pe_op op_fdiv (pv 2) pe_int) (pv 3) (by with_unfolding_all rfl))
  (pss_one (ps_expr (pe_bm PySem.F.plainAttrs_list PySem.F.slot_list_append PySem.F.type_list_append mt_append (pv 4) (pa_cons (pe_tup (pa_cons (pe_tup (pa_cons pe_str (pa_cons (pv 2) pa_nil))) (pa_cons (pe_op op_cat (pe_lst (pa_cons (pe_call G_law_other (hr.mono (by decide)) rfl F_law_other.m F_law_other.F.kp F_law_other.b .nil pass0 (pa_cons (pv 2) pa_nil)) pa_nil)) (pe_slice sl_list (pv 1) po_none (po_some (pe_un un_neg pe_int)))) pa_nil))) pa_nil)))) pss_nil)))
 (pss_one (ps_ret (pv 4))))))), ?_⟩
    -- pieces
    refine ⟨_, rfl, a, rfl, ⟨_, hS⟩, fun pc n0 => lc_pure ns (fun _ => true) (fun e => V.int (e / 2)) n0 hS (by rw [List.length_map]) (by rw [List.length_map]; exact small_line (by omega)) ?_ ?_⟩
    · intro i x d H' hx hd sm P1 P0 k1 k0
      rw [List.getElem?_map, hd] at hx
      cases hx
      refine name_yes ?_
      exact ⟨_, rfl, _, _, rfl, rfl, ⟨by decide, by decide⟩, k1 rfl⟩
    rw [filt_true]
    have e1 : (ns.map fun e => V.int (e / 2)) = (ns.map (· / 2)).map V.int := by rw [List.map_map]; rfl
    rw [e1]
    have s0 : Same H (upd H pc (.lst ((ns.map (· / 2)).map V.int))) := same_upd n0
    have hpc : (upd H pc (.lst ((ns.map (· / 2)).map V.int))) pc = some (.lst ((ns.map (· / 2)).map V.int)) := upd_same
    generalize hH0 : upd H pc (.lst ((ns.map (· / 2)).map V.int)) = H0 at s0 hpc
    -- found = []
    refine ⟨Nat.zero_le _, fun t ht => ?_⟩
    have s1 : Same H0 (upd H0 t (.lst [])) := same_upd ht
    have S1 : Same H (upd H0 t (.lst [])) := s0.trans s1
    -- on
    refine ⟨_, rfl, _, rfl, _, rfl, a, _, _, _, rfl, rfl, S1.seq hS, TL.at_last hne, _, rfl, v, l, _, rfl, Da.same S1 hv, ok, hnp, fun p H2 s2 hp hp2 => ?_⟩
    have nt : p ≠ t := (ne_of_none upd_same hp).symm
    have lenO := jn_len ok (oth (ns.getLastD 0))
    have lenB := jn_len ok (ns.headD 0)
    refine ⟨p, rfl, ⟨_, SqL.of hp2⟩, for_list (K := K) (a := p) (xs := (jn l.2 (oth (ns.getLastD 0))).map V.int) (fun i σ H3 => ∃ (vs : List V) (x : Option V), σ = [some v, some (.ref a), x, some (.ref pc), some (.ref t)] ∧ Same H0 H3 ∧ H3 p = some (.lst ((jn l.2 (oth (ns.getLastD 0))).map V.int)) ∧ H3 t = some (.lst vs) ∧
        Dgs (Lf H0 H3 t) (SqT K H3) (((((jn l.2 (oth (ns.getLastD 0))).take i).filter fun t => !decide (t / 2 ∈ ns.map (· / 2))).map (onM ns)).map dMv) vs)
      ⟨[], none, rfl, s1.trans s2, hp2, s2 _ _ upd_same, dgs_nil.mpr rfl⟩ (fun i σ H3 _ ⟨_, _, _, _, h, _⟩ => SqL.of h) ?_ ?_⟩
    · rintro i y σ H3 hi ⟨vs, x, rfl, S3, hp3, ht3, D⟩
      rw [List.getElem?_map] at hi
      cases q : (jn l.2 (oth (ns.getLastD 0)))[i]? with
      | none => rw [q] at hi; cases hi
      | some e =>
        rw [q] at hi
        cases hi
        have hil : i < (jn l.2 (oth (ns.getLastD 0))).length := (List.getElem?_eq_some_iff.mp q).1
        have st := take_succ_filter (fun t => !decide (t / 2 ∈ ns.map (· / 2))) _ i e q
        refine ⟨_, rfl, _, _, rfl, rfl, ⟨by decide, by decide⟩, _, rfl, _, .int (e / 2), da_new (S3 _ _ hpc), dg_int.mpr rfl, okDs_I _, okD_int _, _, rfl, ?_⟩
        rw [any_I]
        refine ite2 (c := (!decide (e / 2 ∈ ns.map (· / 2))) = true) (fun hc => ?_) (fun hc => ?_)
        · refine ⟨_, rfl, .inl ⟨rfl, _, SqL.of ht3⟩, _, rfl, by show 2 ≤ sizeLine; decide, fun p1 n1 => ?_⟩
          refine ⟨_, rfl, _, rfl, a, _, rfl, ((s0.trans S3).trans (same_upd n1)).seq hS, fun p2 n2 => ?_⟩
          refine ⟨_, rfl, by show 1 ≤ sizeLine; decide, fun p3 n3 => ?_⟩
          rw [cut_tail] at n3 ⊢
          refine ⟨p2, p3, _, _, rfl, rfl, by rw [upd_ne (ne_of_none upd_same n3), upd_same], upd_same, ?_, fun p4 n4 => ?_⟩
          · refine Nat.le_of_lt (small_line ?_)
            rw [List.length_map, List.length_drop]
            show ns.length - 1 + 1 ≤ 1000
            omega
          refine ⟨by show 2 ≤ sizeLine; decide, fun p5 n5 => ?_⟩
          have S5 : Same H3 _ := (same_upd n1).trans ((same_upd n2).trans ((same_upd n3).trans ((same_upd n4).trans (same_upd (o := .tup [.ref p1, .ref p4]) n5))))
          have lv : vs.length ≤ 60 := by
            rw [D.length, List.length_map, List.length_map]
            refine Nat.le_trans (List.length_filter_le _ _) ?_
            rw [List.length_take]; omega
          refine ⟨t, vs, _, rfl, rfl, S5 _ _ ht3, small_line (by omega), ?_⟩
          have g1 : Same (upd H3 p1 (.tup [.str "on", .int e])) _ := (same_upd n2).trans ((same_upd n3).trans ((same_upd n4).trans (same_upd (o := .tup [.ref p1, .ref p4]) n5)))
          obtain ⟨r1, r2, r3⟩ := push_move (w := "on") (e := e) (xs := ns.drop 1 ++ [e]) S3 ht ht3 D S5 (g1 _ _ upd_same) (Same.free ((same_upd n1).trans ((same_upd n2).trans (same_upd n3))) n4) (by rw [upd_ne (ne_of_none upd_same n5), upd_same, List.map_append]; rfl) upd_same
          refine ⟨_, _, rfl, r1, ?_, r2, ?_⟩
          · rw [upd_ne nt]; exact S5 _ _ hp3
          · rw [st, if_pos hc, List.map_append]; exact r3
        · refine ⟨vs, _, rfl, S3, hp3, ht3, ?_⟩
          rw [st, if_neg hc, List.append_nil]; exact D
    -- back
    rintro σ H3 ⟨vs, x, rfl, S3, hp3, ht3, D⟩
    rw [List.length_map, List.take_length] at D
    refine ⟨_, rfl, _, rfl, a, _, _, _, rfl, rfl, (s0.trans S3).seq hS, at_first hne, v, l, _, rfl, Da.same (s0.trans S3) hv, ok, hnp, fun p' H4 s4 hp' hp4 => ?_⟩
    have nt' : p' ≠ t := (ne_of_none ht3 hp').symm
    have D4 : Dgs (Lf H0 H4 t) (SqT K H4) (((fr l ns (oth (ns.getLastD 0))).map (onM ns)).map dMv) vs := Dgs.mono (fun a us ⟨h1, h2, h3⟩ => ⟨s4 _ _ h1, h2, h3⟩) (fun a us h => same_tseq s4 h) D
    have lenF := fr_len ok ns (oth (ns.getLastD 0))
    refine ⟨p', rfl, ⟨_, SqL.of hp4⟩, for_list (K := K) (a := p') (xs := (jn l.2 (ns.headD 0)).map V.int) (fun i σ H3 => ∃ (vs : List V) (x : Option V), σ = [some v, some (.ref a), x, some (.ref pc), some (.ref t)] ∧ Same H0 H3 ∧ H3 p' = some (.lst ((jn l.2 (ns.headD 0)).map V.int)) ∧ H3 t = some (.lst vs) ∧
        Dgs (Lf H0 H3 t) (SqT K H3) (((fr l ns (oth (ns.getLastD 0))).map (onM ns) ++ (((jn l.2 (ns.headD 0)).take i).filter fun t => !decide (t / 2 ∈ ns.map (· / 2))).map (backM ns)).map dMv) vs)
      ⟨vs, x, rfl, S3.trans s4, hp4, s4 _ _ ht3, by simpa using D4⟩ (fun i σ H3 _ ⟨_, _, _, _, h, _⟩ => SqL.of h) ?_ ?_⟩
    · rintro i y σ H3 hi ⟨vs, x, rfl, S3, hp3, ht3, D⟩
      rw [List.getElem?_map] at hi
      cases q : (jn l.2 (ns.headD 0))[i]? with
      | none => rw [q] at hi; cases hi
      | some e =>
        rw [q] at hi
        cases hi
        have hil : i < (jn l.2 (ns.headD 0)).length := (List.getElem?_eq_some_iff.mp q).1
        have st := take_succ_filter (fun t => !decide (t / 2 ∈ ns.map (· / 2))) _ i e q
        refine ⟨_, rfl, _, _, rfl, rfl, ⟨by decide, by decide⟩, _, rfl, _, .int (e / 2), da_new (S3 _ _ hpc), dg_int.mpr rfl, okDs_I _, okD_int _, _, rfl, ?_⟩
        rw [any_I]
        refine ite2 (c := (!decide (e / 2 ∈ ns.map (· / 2))) = true) (fun hc => ?_) (fun hc => ?_)
        · refine ⟨_, rfl, .inl ⟨rfl, _, SqL.of ht3⟩, _, rfl, by show 2 ≤ sizeLine; decide, fun p1 n1 => ?_⟩
          refine ⟨_, rfl, e, rfl, by show 1 ≤ sizeLine; decide, fun p2 n2 => ?_⟩
          refine ⟨_, rfl, _, rfl, _, rfl, a, _, rfl, ((s0.trans S3).trans ((same_upd n1).trans (same_upd n2))).seq hS, fun p3 n3 => ?_⟩
          have ec : cutV (ns.map V.int) none (some (-1)) = ns.dropLast.map V.int := cut_init ns
          refine ⟨p2, p3, _, _, rfl, rfl, by rw [upd_ne (ne_of_none upd_same n3), upd_same], upd_same, ?_, fun p4 n4 => ?_⟩
          · refine Nat.le_of_lt (small_line ?_)
            show 1 + (cutV (ns.map V.int) none (some (-1))).length ≤ 1000
            rw [ec, List.length_map, List.length_dropLast]
            omega
          refine ⟨by show 2 ≤ sizeLine; decide, fun p5 n5 => ?_⟩
          have S5 : Same H3 _ := (same_upd n1).trans ((same_upd n2).trans ((same_upd n3).trans ((same_upd n4).trans (same_upd (o := .tup [.ref p1, .ref p4]) n5))))
          have lv : vs.length ≤ 120 := by
            rw [D.length, List.length_map, List.length_append, List.length_map, List.length_map]
            have := List.length_filter_le (fun t => !decide (t / 2 ∈ ns.map (· / 2))) ((jn l.2 (ns.headD 0)).take i)
            rw [List.length_take] at this
            omega
          refine ⟨t, vs, _, rfl, rfl, S5 _ _ ht3, small_line (by omega), ?_⟩
          have g1 : Same (upd H3 p1 (.tup [.str "back", .int e])) _ := (same_upd n2).trans ((same_upd n3).trans ((same_upd n4).trans (same_upd (o := .tup [.ref p1, .ref p4]) n5)))
          obtain ⟨r1, r2, r3⟩ := push_move (w := "back") (e := e) (xs := oth e :: ns.dropLast) S3 ht ht3 D S5 (g1 _ _ upd_same) (Same.free ((same_upd n1).trans ((same_upd n2).trans (same_upd n3))) n4) (by
            rw [upd_ne (ne_of_none upd_same n5), upd_same]
            show some (HO.lst ([V.int (oth e)] ++ cutV (ns.map V.int) none (some (-1)))) = _
            rw [ec]; rfl) upd_same
          refine ⟨_, _, rfl, r1, ?_, r2, ?_⟩
          · rw [upd_ne nt']; exact S5 _ _ hp3
          · rw [st, if_pos hc, List.map_append (f := backM ns), ← List.append_assoc]; exact r3
        · refine ⟨vs, _, rfl, S3, hp3, ht3, ?_⟩
          rw [st, if_neg hc, List.append_nil]; exact D
    rintro σ H3 ⟨vs, x, rfl, S3, hp3, ht3, D⟩
    rw [List.length_map, List.take_length] at D
    exact ⟨_, rfl, k t vs H3 (s0.trans S3) (Same.free s0 ht) ht3 (Dgs.mono (fun a us ⟨h1, h2, h3⟩ => ⟨h1, Same.free s0 h2, h3⟩) (fun _ _ h => h) D)⟩
theorem ok_law_run {f1 f3 : Addr} {fd1 fd3 : FuncData} (F : Fn K mg "_law_run" s_law_run ["_law_line_here", "_law_train_here", "_law_number", "_law_most"] f fd) (B : Bm mg) (F_law_mix : Fn K mg "_law_mix" s_law_mix ["_law_cell", "_law_k"] f3 fd3)
    (F_law_moves : Fn K mg "_law_moves" s_law_moves ["_law_line_here", "_law_train_here"] f1 fd1) (G_law_moves : FnOk P w K mg base CX0 2 f1 fd1 ["_law_line_here", "_law_train_here"] (sp_moves K)) : FnOk P w K mg base CX0 3 f fd ["_law_line_here", "_law_train_here", "_law_number", "_law_most"] (sp_run K) := by
  have G_law_mix : FnOk P w K mg base CX0 1 f3 fd3 ["_law_cell", "_law_k"] sp_mix := ok_law_mix F_law_mix B.toBl
  refine F.F.ok sc_law_run (fun vs H Q E h => ?_) (fun cdv A outer s H vs Q E hr h => ?_)
  · obtain ⟨v, u, l, ns, c, n, rfl, _⟩ := h; rfl
  · obtain ⟨v, u, l, ns, c, n, rfl, hv, hu, ok, hnp, hne, hz, c0, n0, n1, k⟩ := h
    refine ⟨_, (pss_cons (ps_set (i := 4) sc_law_run.nd rfl (Or.inl rfl) (pe_lst pa_nil))
 (pss_cons (ps_set (i := 5) sc_law_run.nd rfl (Or.inl rfl) (pv 1))
 (pss_cons (ps_for PassesOwn.never rfl (pi_range1 rfl B.range (pa_cons (pe_op op_mod (pv 2) (pe_op op_add (pv 3) pe_int)) pa_nil)) (pg_name (i := 6) sc_law_run.nd rfl (Or.inl rfl))
  (pss_cons (ps_set (i := 7) sc_law_run.nd rfl (Or.inl rfl) (pe_call G_law_moves (hr.mono (by decide)) rfl F_law_moves.m F_law_moves.F.kp F_law_moves.b .nil pass0 (pa_cons (pv 0) (pa_cons (pv 5) pa_nil))))
 (pss_one (ps_if (pt_cmpR (op_neD hr.units) (pv 7) (pe_lst pa_nil) (nomark _))
  (pss_cons (ps_asg (pe_ix ix_list (pv 7) (pe_op op_mod (pe_call G_law_mix (hr.mono (by decide)) rfl F_law_mix.m F_law_mix.F.kp F_law_mix.b .nil pass0 (pa_cons (pv 2) (pa_cons (pe_op op_add pe_int (pv 6)) pa_nil))) (pe_callB call_len_seq rfl B.len boot_len (pa_cons (pv 7) pa_nil))) (fun _ _ => rfl)) (pg_tup (n := 2) rfl (pgs_cons (pg_name (i := 8) sc_law_run.nd rfl (Or.inl rfl)) (pgs_cons (pg_name (i := 5) sc_law_run.nd rfl (Or.inl rfl)) pgs_nil))))
 (pss_one (ps_expr (pe_bm PySem.F.plainAttrs_list PySem.F.slot_list_append PySem.F.type_list_append mt_append (pv 4) (pa_cons (pv 8) pa_nil))))) pss_nil))))
 (pss_one (ps_ret (pv 4)))))), ?_⟩
    refine ⟨Nat.zero_le _, fun p np => ?_⟩
    have s1 := same_upd (o := .lst []) np
    have hp := upd_same (H := H) (a := p) (o := .lst [])
    have du : Da K (hid p (upd H p (.lst []))) (dI ns) u := Da.same (same_hid s1 np) hu
    generalize upd H p _ = H1 at s1 hp du ⊢
    refine ⟨_, rfl, ?_⟩
    have m0 : 0 ≤ c % (n + 1) := Int.emod_nonneg _ (by omega)
    have m1 : c % (n + 1) < n + 1 := Int.emod_lt_of_pos _ (by omega)
    refine ⟨_, rfl, _, rfl, _, _, rfl, rfl, _, _, rfl, rfl, (by show (0 : Int) < n + 1; omega), _, rfl, by show -(2 ^ 62) ≤ c % (n + 1); omega, by show c % (n + 1) < 2 ^ 62; omega, for_range (fun i σ H3 => ∃ (run : List (Str × Int)) (hns : List Int) (here : V) (x6 x7 x8 : Option V), σ = [some v, some u, some (.int c), some (.int n), some (.ref p), some here, x6, x7, x8] ∧ Same H H3 ∧ RunAt K H3 p run ∧ run.length ≤ i ∧ Da K (hid p H3) (dI hns) here ∧ hns ≠ [] ∧ hns.length = ns.length ∧ Steps l ns run hns)
      ⟨[], ns, u, none, none, none, rfl, s1, ⟨⟨[], hp, dgs_nil.mpr rfl⟩, fun k hk => nomatch hk⟩, Nat.le_refl _, du, hne, rfl, .nil⟩ ?_ ?_⟩
    · rintro i σ H3 hi ⟨run, hns, here, x6, x7, x8, rfl, S3, R3, rl, dh, hne2, hl2, ST⟩
      have hi41 : (i : Int) < 101 := by
        have h : i < (c % (n + 1)).toNat := hi
        omega
      refine ⟨_, rfl, _, rfl, _, _, l, hns, rfl, Da.same S3 hv, Da.same hid_same dh, ok, hnp, hne2, by omega, fun pm vm H6 s6 hpm hpm2 Dm => ?_⟩
      obtain ⟨bs, hb1, hb2, hb3⟩ := ma_all Dm
      subst hb2
      have bl : bs.length ≤ 120 := by have h1 := congrArg List.length hb1; rw [List.length_map] at h1; rw [h1]; exact mvs_len ok _
      have hbm : ∀ x ∈ bs, x.1 ∈ mvs l hns := fun x hx => by rw [← hb1]; exact List.mem_map.mpr ⟨x, hx, rfl⟩
      have R6 := R3.same s6
      obtain ⟨⟨vr, hp6, dr6⟩, okr⟩ := id R6
      have vl : vr.length = run.length := by have := Dgs.length dr6; rw [List.length_map] at this; exact this
      refine ⟨_, rfl, Nat.zero_le _, fun e2 ne2 => ⟨dMs (mvs l hns), .list [], Da.same (same_upd ne2) (da_moves hpm2 Dm), da_new (ns := []) upd_same, okD_moves (strOk_mvs l hns), okD_nil, _, rfl, ?_⟩⟩
      have s9 := same_upd (o := .lst []) ne2
      generalize upd H6 e2 _ = H9 at s9 ⊢
      rw [eqv_ms]
      refine ite2 (fun hem => ?_) (fun _ => ?_)
      · have hpos : 0 < bs.length := by
          have h1 := congrArg List.length hb1
          rw [List.length_map] at h1
          cases hh : mvs l hns with
          | nil => rw [hh] at hem; exact absurd hem (by decide)
          | cons x r => rw [h1, hh]; simp
        refine ⟨_, rfl, _, rfl, _, rfl, _, _, rfl, rfl, c, _, rfl, by show (0 : Int) ≤ 20 + (0 + (i : Int)); omega, by show 20 + (0 + (i : Int)) ≤ 1000; omega, fun m m0 m1 => ?_⟩
        have r0 : 0 ≤ m % (bs.length : Int) := Int.emod_nonneg _ (by omega)
        have r1 : m % (bs.length : Int) < (bs.length : Int) := Int.emod_lt_of_pos _ (by omega)
        have hjl : (m % (bs.length : Int)).toNat < bs.length := by omega
        have hx : bs[(m % (bs.length : Int)).toNat]? = some bs[(m % (bs.length : Int)).toNat] := by simp [hjl]
        generalize bs[(m % (bs.length : Int)).toNat] = x at hx
        have hxm : x ∈ bs := List.mem_of_getElem? hx
        obtain ⟨⟨p1, ht, hdm⟩, hb, hbn, hbp⟩ := hb3 x hxm
        have hm9 := s9 _ _ hpm2
        refine ⟨_, rfl, pm, _, rfl, .inl (SqL.of hm9), _, _, rfl, rfl, ?_, pm, _, _, V.ref x.2.1, rfl, rfl, SqL.of hm9, ?_, ?_⟩
        · show (0 : Int) < ((bs.map fun x => V.ref x.2.1).length : Int)
          rw [List.length_map]; omega
        · show atI _ (m % ((bs.map fun x => V.ref x.2.1).length : Int)) = _
          rw [List.length_map]
          exact at_nat r0 (by rw [List.getElem?_map, hx]; rfl)
        refine ⟨x.2.1, _, rfl, same_tseq s9 ht, rfl, _, _, rfl, _, _, rfl, rfl, ?_⟩
        have hbr : x.2.2 ≠ p := (ne_of_none (R3.ex.choose_spec.1) hbn).symm
        refine ⟨_, rfl, .inl ⟨rfl, _, SqL.of (s9 _ _ hp6)⟩, _, rfl, p, _, _, rfl, rfl, s9 _ _ hp6, small_l (by omega), ?_⟩
        have hdm9 := hid_M (s9 _ _ hp6) (Da.same s9 hdm)
        refine ⟨run ++ [x.1.1], x.1.2, _, _, _, _, rfl, Same.upd (S3.trans (s6.trans s9)) np, ⟨⟨_, upd_same, ?_⟩, fun k hk => ?_⟩, by rw [List.length_append]; show run.length + 1 ≤ _; omega, ?_, (mvs_train hne2 (hbm x hxm)).1, ((mvs_train hne2 (hbm x hxm)).2).trans hl2, .snoc ST (hbm x hxm)⟩
        · rw [hid_upd, List.map_append]
          exact Dgs.append (Das.same (hid_mono s9) dr6) (Dgs.one hdm9)
        · rcases List.mem_append.mp hk with z | z
          · exact okr k z
          · rw [List.mem_singleton.mp z]; exact strOk_mvs l hns x.1 (hbm x hxm)
        · rw [hid_upd]
          exact da_new (by rw [hid_ne hbr]; exact s9 _ _ hb)
      · exact ⟨run, hns, here, _, _, _, rfl, S3.trans (s6.trans s9), (R3.same (s6.trans s9)), by omega, Da.same (hid_mono (s6.trans s9)) dh, hne2, hl2, ST⟩
    · rintro σ H3 ⟨run, hns, here, x6, x7, x8, rfl, S3, R3, rl, dh, hne2, hl2, ST⟩
      refine ⟨_, rfl, k p run hns _ S3 np R3 ?_ ST⟩
      have h : run.length ≤ (c % (n + 1)).toNat := rl
      omega
end
end K75
set_option Elab.async false
set_option linter.all false
set_option maxRecDepth 100000
set_option maxHeartbeats 4000000
namespace K75
open PySem L2 TL PyProof.Rows
def sp_joinedP (K : PySem.W.Frag) : Sp := fun vs H Q _ => ∃ (v : V) (l : Ln) (e : Int), vs = [v, .int e] ∧ Da K H (dL l) v ∧ LineOk l ∧ NewInts H (jn l.2 e) Q
def sp_round (K : PySem.W.Frag) : Sp := fun vs H Q _ => ∃ (v : V) (ns : List Int), vs = [v] ∧ Da K H (dI ns) v ∧ ns.length ≤ 1000 ∧ NewInts H (ns.reverse.map oth) Q
def sp_free (K : PySem.W.Frag) : Sp := fun vs H Q _ => ∃ (v u : V) (l : Int × List (Int × Int)) (ns : List Int) (e : Int), vs = [v, u, .int e] ∧ Da K H (dL l) v ∧ Da K H (dI ns) u ∧ LineOk l ∧ ns.length ≤ 1000 ∧ NewInts H (fr l ns e) Q
def sp_movesP (K : PySem.W.Frag) : Sp := fun vs H Q _ => ∃ (v u : V) (l : Ln) (ns : List Int), vs = [v, u] ∧ Da K H (dL l) v ∧ Da K H (dI ns) u ∧ LineOk l ∧ ns ≠ [] ∧ ns.length ≤ 900 ∧ NewMoves K H (mvs l ns) Q
abbrev s_joined : Stmt := top 14
theorem sc_joined : FnScope ["line", "end", "joints", "above", "below"] ["line", "end"] (defScope s_joined) := ⟨rfl, rfl, rfl, by decide +kernel, rfl, by decide +kernel, by decide +kernel⟩
theorem cc_joined_0 : CompOk (defScope s_joined) ["line", "end", "joints", "above", "below"] { kind := .function, names := [(Str.ofString ".0", .local), (Str.ofString "low", .local), (Str.ofString "high", .local), (Str.ofString "end", .free)], isGenerator := false, isCoroutine := false, more := [] } ["low", "high", "end"] 2 [none, none, some 1] := ⟨rfl, by decide +kernel, by decide +kernel, by decide +kernel, rfl, by decide +kernel, rfl, by decide +kernel⟩
theorem cc_joined_1 : CompOk (defScope s_joined) ["line", "end", "joints", "above", "below"] { kind := .function, names := [(Str.ofString ".0", .local), (Str.ofString "low", .local), (Str.ofString "high", .local), (Str.ofString "end", .free)], isGenerator := false, isCoroutine := false, more := [] } ["low", "high", "end"] 2 [none, none, some 1] := ⟨rfl, by decide +kernel, by decide +kernel, by decide +kernel, rfl, by decide +kernel, rfl, by decide +kernel⟩

abbrev s_turned : Stmt := top 31
theorem sc_turned : FnScope ["train"] ["train"] (defScope s_turned) := ⟨rfl, rfl, rfl, by decide +kernel, rfl, by decide +kernel, by decide +kernel⟩
theorem cc_turned_0 : CompOk (defScope s_turned) ["train"] { kind := .function, names := [(Str.ofString ".0", .local), (Str.ofString "end", .local), (Str.ofString "other_end", .globalImplicit)], isGenerator := false, isCoroutine := false, more := [] } ["end"] 1 [none] := ⟨rfl, by decide +kernel, by decide +kernel, by decide +kernel, rfl, by decide +kernel, rfl, by decide +kernel⟩

abbrev s_free_ends : Stmt := top 32
theorem sc_free_ends : FnScope ["line", "train", "end", "pieces"] ["line", "train", "end"] (defScope s_free_ends) := ⟨rfl, rfl, rfl, by decide +kernel, rfl, by decide +kernel, by decide +kernel⟩
theorem cc_free_ends_0 : CompOk (defScope s_free_ends) ["line", "train", "end", "pieces"] { kind := .function, names := [(Str.ofString ".0", .local), (Str.ofString "own", .local), (Str.ofString "piece_of", .globalImplicit)], isGenerator := false, isCoroutine := false, more := [] } ["own"] 1 [none] := ⟨rfl, by decide +kernel, by decide +kernel, by decide +kernel, rfl, by decide +kernel, rfl, by decide +kernel⟩
theorem cc_free_ends_1 : CompOk (defScope s_free_ends) ["line", "train", "end", "pieces"] { kind := .function, names := [(Str.ofString ".0", .local), (Str.ofString "there", .local), (Str.ofString "piece_of", .globalImplicit), (Str.ofString "pieces", .free)], isGenerator := false, isCoroutine := false, more := [] } ["there", "pieces"] 1 [none, some 3] := ⟨rfl, by decide +kernel, by decide +kernel, by decide +kernel, rfl, by decide +kernel, rfl, by decide +kernel⟩

abbrev s_moves_of : Stmt := top 33
theorem sc_moves_of : FnScope ["line", "train", "told", "end"] ["line", "train"] (defScope s_moves_of) := ⟨rfl, rfl, rfl, by decide +kernel, rfl, by decide +kernel, by decide +kernel⟩

section
variable {P : Program} {w : World} {K : PySem.W.Frag} {mg : Str → Option Value} {base : Heap} {f : Addr} {fd : FuncData} {D c1 c2 c3 c4 c5 c6 c7 : Addr} {t1 t2 t3 t4 : Tok}
theorem ok_joined (F : Fn K mg "joined" s_joined ["line", "end"] f fd) (B : Bl mg) : FnOk P w K mg base CX0 1 f fd ["line", "end"] (sp_joinedP K) := by
  refine F.F.ok sc_joined (fun vs H Q E h => ?_) (fun cdv A outer s H vs Q E hr h => ?_)
  · obtain ⟨v, l, e, rfl, _⟩ := h; rfl
  · obtain ⟨v, l, e, rfl, hv, ok, k⟩ := h
    obtain ⟨a, b, rfl, ht, us, hl, hq⟩ := da_line hv
    have hlen := das_ints_len hq
    have hz : us.length < sizeLine := small_line (by rw [hlen]; have := ok.len; omega)
    refine ⟨_, (pss_cons (ps_set (i := 2) sc_joined.nd rfl (Or.inl rfl) (pe_ix ix_tup (pv 0) pe_int (fun _ _ => rfl)))
 (pss_cons (ps_lc (i := 3) sc_joined.nd rfl rfl (pi_list (pv 2)) rfl cc_joined_0 (.tup (.cons (.name (by decide)) (.cons (.name (by decide)) .nil))) (fun _ _ _ _ => (pg_tup (n := 2) rfl (pgs_cons (pg_name (i := 0) cc_joined_0.nd rfl (Or.inl rfl)) (pgs_cons (pg_name (i := 1) cc_joined_0.nd rfl (Or.inl rfl)) pgs_nil)))) (fun _ _ _ _ => (pifs_one (pt_cmp (pc_eqI (pv 0) (pv 2))))) (fun _ _ _ _ => (pv 1)))
 (pss_cons (ps_lc (i := 4) sc_joined.nd rfl rfl (pi_list (pv 2)) rfl cc_joined_1 (.tup (.cons (.name (by decide)) (.cons (.name (by decide)) .nil))) (fun _ _ _ _ => (pg_tup (n := 2) rfl (pgs_cons (pg_name (i := 0) cc_joined_1.nd rfl (Or.inl rfl)) (pgs_cons (pg_name (i := 1) cc_joined_1.nd rfl (Or.inl rfl)) pgs_nil)))) (fun _ _ _ _ => (pifs_one (pt_cmp (pc_eqI (pv 1) (pv 2))))) (fun _ _ _ _ => (pv 0)))
 (pss_one (ps_ret (pe_callB call_sorted rfl B.sorted boot_sorted (pa_cons (pe_op op_cat (pv 4) (pv 3)) pa_nil))))))), ?_⟩
    -- joints = line[1]
    refine ⟨_, rfl, a, _, _, _, rfl, rfl, ht, rfl, ?_⟩
    -- above
    refine ⟨_, rfl, b, rfl, ⟨us, hl⟩, fun l1 n1 => lc_pure l.2 (fun p => decide (p.1 = e)) (fun p => V.int p.2) n1 hl hlen hz ?_ ?_⟩
    · intro i x d H' hx hd sm P1 P0 k1 k0
      obtain ⟨ad, p, e1, rfl, hp⟩ := das_pair (Das.same sm hq) hx
      rw [hd] at e1; cases e1
      refine ⟨ad, _, rfl, hp, rfl, _, _, rfl, _, _, rfl, rfl, _, rfl, _, rfl, _, _, rfl, rfl, _, rfl, ite2 (fun h => ⟨_, rfl, k1 h⟩) (fun h => k0 (by simpa using h))⟩
    have s1 : Same H (upd H l1 (.lst (above l.2 e |>.map V.int))) := same_upd n1
    have e1 : ((l.2.filter fun p => decide (p.1 = e)).map fun p => V.int p.2) = (above l.2 e).map V.int := by unfold above; rw [List.map_map]; rfl
    rw [e1]
    -- below
    refine ⟨_, rfl, b, rfl, ⟨us, s1.seq hl⟩, fun l2 n2 => lc_pure l.2 (fun p => decide (p.2 = e)) (fun p => V.int p.1) n2 (s1.seq hl) hlen hz ?_ ?_⟩
    · intro i x d H' hx hd sm P1 P0 k1 k0
      obtain ⟨ad, p, e1, rfl, hp⟩ := das_pair (Das.same (s1.trans sm) hq) hx
      rw [hd] at e1; cases e1
      refine ⟨ad, _, rfl, hp, rfl, _, _, rfl, _, _, rfl, rfl, _, rfl, _, rfl, _, _, rfl, rfl, _, rfl, ite2 (fun h => ⟨_, rfl, k1 h⟩) (fun h => k0 (by simpa using h))⟩
    have e2 : ((l.2.filter fun p => decide (p.2 = e)).map fun p => V.int p.1) = (below l.2 e).map V.int := by unfold below; rw [List.map_map]; rfl
    rw [e2]
    have g1 : (upd (upd H l1 (.lst (above l.2 e |>.map V.int))) l2 (.lst (below l.2 e |>.map V.int))) l1 = some (.lst (above l.2 e |>.map V.int)) := by
      rw [upd_ne (ne_of_none upd_same n2), upd_same]
    have hb := below_len ok e
    have s2 : Same H (upd (upd H l1 (.lst (above l.2 e |>.map V.int))) l2 (.lst (below l.2 e |>.map V.int))) := s1.trans (same_upd n2)
    -- sorted(below + above)
    refine ⟨_, rfl, _, rfl, l2, l1, _, _, rfl, rfl, upd_same, g1, Nat.le_of_lt (small_line (by rw [List.length_map, List.length_map]; omega)), fun p hp => ?_⟩
    refine ⟨p, below l.2 e ++ above l.2 e, rfl, SqL.of (by rw [upd_same, List.map_append]), (by rw [List.length_append]; omega), fun p2 hp2 => ?_⟩
    refine k p2 _ (s2.trans ((same_upd hp).trans (same_upd hp2))) (Same.free (s2.trans (same_upd hp)) hp2) upd_same
theorem ok_turned {f1 : Addr} {fd1 : FuncData} (F : Fn K mg "turned" s_turned ["train"] f fd) (B : Bl mg) (F_other_end : Fn K mg "other_end" s_other_end ["end"] f1 fd1) : FnOk P w K mg base CX0 2 f fd ["train"] (sp_round K) := by
  have G_other_end : FnOk P w K mg base CX0 1 f1 fd1 ["end"] sp_other := ok_other_end F_other_end
  refine F.F.ok sc_turned (fun vs H Q E h => ?_) (fun cdv A outer s H vs Q E hr h => ?_)
  · obtain ⟨v, l, rfl, _⟩ := h; rfl
  · obtain ⟨v, ns, rfl, hv, hz, k⟩ := h
    obtain ⟨a, rfl, hS⟩ := da_ints.mp hv
    refine ⟨_, (pss_one (ps_ret (pe_lc (pi_rev rfl B.reversed (pa_cons (pv 0) pa_nil)) rfl cc_turned_0 (.name (by decide)) (fun _ _ _ _ => (pg_name (i := 0) cc_turned_0.nd rfl (Or.inl rfl))) (fun _ _ _ _ => pifs_nil) (fun _ _ _ _ => (pe_call G_other_end (hr.mono (by decide)) rfl F_other_end.m F_other_end.F.kp F_other_end.b .nil pass0 (pa_cons (pv 0) pa_nil)))))), ?_⟩
    refine ⟨_, rfl, a, _, rfl, hS, fun l1 n1 => lc_pureJ (js_rev hS) ns.reverse (fun _ => true) (fun e => V.int (oth e)) n1 (by rw [List.length_map, List.length_reverse]) (by rw [List.length_map]; exact small_line hz) ?_ ?_⟩
    · intro i x d H' hx hd sm P1 P0 k1 k0
      rw [← List.map_reverse, List.getElem?_map, hd] at hx
      cases hx
      refine name_yes ?_
      exact ⟨_, rfl, d, rfl, k1 rfl⟩
    rw [filt_true]
    refine k l1 _ (same_upd n1) n1 ?_
    rw [upd_same, List.map_map]; rfl
theorem ok_free_ends {f1 f2 : Addr} {fd1 fd2 : FuncData} (F : Fn K mg "free_ends" s_free_ends ["line", "train", "end"] f fd) (B : Bl mg) (F_piece_of : Fn K mg "piece_of" s_piece_of ["end"] f1 fd1) (F_joined : Fn K mg "joined" s_joined ["line", "end"] f2 fd2) :
    FnOk P w K mg base CX0 2 f fd ["line", "train", "end"] (sp_free K) := by
  have G_piece_of : FnOk P w K mg base CX0 1 f1 fd1 ["end"] sp_half := ok_piece_of F_piece_of
  have G_joined : FnOk P w K mg base CX0 1 f2 fd2 ["line", "end"] (sp_joinedP K) := ok_joined F_joined B
  refine F.F.ok sc_free_ends (fun vs H Q E h => ?_) (fun cdv A outer s H vs Q E hr h => ?_)
  · obtain ⟨v, u, l, ns, e, rfl, _⟩ := h; rfl
  · obtain ⟨v, u, l, ns, e, rfl, hv, hu, ok, hz, k⟩ := h
    obtain ⟨a, rfl, hS⟩ := da_ints.mp hu
    refine ⟨_, (pss_cons (ps_set (i := 3) sc_free_ends.nd rfl (Or.inr rfl) (pe_lc (pi_list (pv 1)) rfl cc_free_ends_0 (.name (by decide)) (fun _ _ _ _ => (pg_name (i := 0) cc_free_ends_0.nd rfl (Or.inl rfl))) (fun _ _ _ _ => pifs_nil) (fun _ _ _ _ => (pe_call G_piece_of (hr.mono (by decide)) rfl F_piece_of.m F_piece_of.F.kp F_piece_of.b .nil pass0 (pa_cons (pv 0) pa_nil)))))
 (pss_one (ps_ret (pe_lc (pi_list (pe_call G_joined (hr.mono (by decide)) rfl F_joined.m F_joined.F.kp F_joined.b .nil pass0 (pa_cons (pv 0) (pa_cons (pv 2) pa_nil)))) rfl cc_free_ends_1 (.name (by decide)) (fun _ _ _ _ => (pg_name (i := 0) cc_free_ends_1.nd rfl (Or.inl rfl))) (fun _ _ _ _ => (pifs_one (pt_cmpR (op_notInDk (K := K) rfl hr.units) (pe_call G_piece_of (hr.mono (by decide)) rfl F_piece_of.m F_piece_of.F.kp F_piece_of.b .nil pass0 (pa_cons (pv 0) pa_nil)) (pv 1) (by with_unfolding_all rfl)))) (fun _ _ _ _ => (pv 0)))))), ?_⟩
    -- pieces
    refine ⟨_, rfl, a, rfl, ⟨_, hS⟩, fun l1 n1 => lc_pure ns (fun _ => true) (fun e => V.int (e / 2)) n1 hS (by rw [List.length_map]) (by rw [List.length_map]; exact small_line hz) ?_ ?_⟩
    · intro i x d H' hx hd sm P1 P0 k1 k0
      rw [List.getElem?_map, hd] at hx
      cases hx
      refine name_yes ?_
      exact ⟨_, rfl, d, rfl, k1 rfl⟩
    rw [filt_true]
    have e1 : (ns.map fun e => V.int (e / 2)) = (ns.map (· / 2)).map V.int := by rw [List.map_map]; rfl
    rw [e1]
    have s1 : Same H (upd H l1 (.lst ((ns.map (· / 2)).map V.int))) := same_upd n1
    -- the ends
    refine ⟨_, rfl, _, rfl, v, l, e, rfl, Da.same s1 hv, ok, fun p H2 s2 hp hp2 => ⟨p, rfl, ⟨_, SqL.of hp2⟩, fun l2 n2 => lc_pure (jn l.2 e) (fun t => !decide (t / 2 ∈ ns.map (· / 2))) (fun t => V.int t) n2 (SqL.of hp2) (by rw [List.length_map]) ?_ ?_ ?_⟩⟩
    · rw [List.length_map]
      refine small_line ?_
      unfold jn
      rw [srt_length, List.length_append]
      have := below_len ok e
      omega
    · intro i x d H' hx hd sm P1 P0 k1 k0
      rw [List.getElem?_map, hd] at hx
      cases hx
      have hD : Da K H' (.list ((ns.map (· / 2)).map .int)) (.ref l1) := Da.same (s2.trans sm) (da_new upd_same)
      refine ⟨_, rfl, d, rfl, _, rfl, _, .int (d / 2), hD, dg_int.mpr rfl, okDs_I _, okD_int _, _, rfl, ?_⟩
      rw [any_I]
      exact ite2 (fun h => ⟨_, rfl, k1 h⟩) (fun h => k0 (by simpa using h))
    exact k l2 _ ((s1.trans s2).trans (same_upd n2)) (Same.free (s1.trans s2) n2) upd_same
theorem ok_moves_of {f1 f2 : Addr} {fd1 fd2 : FuncData} (F : Fn K mg "moves_of" s_moves_of ["line", "train"] f fd) (F_other_end : Fn K mg "other_end" s_other_end ["end"] f1 fd1) (F_free_ends : Fn K mg "free_ends" s_free_ends ["line", "train", "end"] f2 fd2)
    (G_free_ends : FnOk P w K mg base CX0 2 f2 fd2 ["line", "train", "end"] (sp_free K)) : FnOk P w K mg base CX0 3 f fd ["line", "train"] (sp_movesP K) := by
  have G_other_end : FnOk P w K mg base CX0 1 f1 fd1 ["end"] sp_other := ok_other_end F_other_end
  refine F.F.ok sc_moves_of (fun vs H Q E h => ?_) (fun cdv A outer s H vs Q E hr h => ?_)
  · obtain ⟨v, u, l, ns, rfl, _⟩ := h; rfl
  · obtain ⟨v, u, l, ns, rfl, hv, hu, ok, hne, hz, k⟩ := h
    obtain ⟨a, rfl, hS⟩ := da_ints.mp hu
    refine ⟨_, (pss_cons (ps_set (i := 2) sc_moves_of.nd rfl (Or.inl rfl) (pe_lst pa_nil))
 (pss_cons (ps_for PassesOwn.never rfl (pi_list (pe_call G_free_ends (hr.mono (by decide)) rfl F_free_ends.m F_free_ends.F.kp F_free_ends.b .nil pass0 (pa_cons (pv 0) (pa_cons (pv 1) (pa_cons (pe_call G_other_end (hr.mono (by decide)) rfl F_other_end.m F_other_end.F.kp F_other_end.b .nil pass0 (pa_cons (pe_ix ix_list (pv 1) (pe_un un_neg pe_int) (fun _ _ => rfl)) pa_nil)) pa_nil))))) (pg_name (i := 3) sc_moves_of.nd rfl (Or.inl rfl))
  (pss_one (ps_expr (pe_bm PySem.F.plainAttrs_list PySem.F.slot_list_append PySem.F.type_list_append mt_append (pv 2) (pa_cons (pe_tup (pa_cons (pe_tup (pa_cons pe_str (pa_cons (pv 3) pa_nil))) (pa_cons (pe_op op_cat (pe_slice sl_list (pv 1) (po_some pe_int) po_none) (pe_lst (pa_cons (pv 3) pa_nil))) pa_nil))) pa_nil)))))
 (pss_cons (ps_for PassesOwn.never rfl (pi_list (pe_call G_free_ends (hr.mono (by decide)) rfl F_free_ends.m F_free_ends.F.kp F_free_ends.b .nil pass0 (pa_cons (pv 0) (pa_cons (pv 1) (pa_cons (pe_ix ix_list (pv 1) pe_int (fun _ _ => rfl)) pa_nil))))) (pg_name (i := 3) sc_moves_of.nd rfl (Or.inl rfl))
  (pss_one (ps_expr (pe_bm PySem.F.plainAttrs_list PySem.F.slot_list_append PySem.F.type_list_append mt_append (pv 2) (pa_cons (pe_tup (pa_cons (pe_tup (pa_cons pe_str (pa_cons (pv 3) pa_nil))) (pa_cons (pe_op op_cat (pe_lst (pa_cons (pe_call G_other_end (hr.mono (by decide)) rfl F_other_end.m F_other_end.F.kp F_other_end.b .nil pass0 (pa_cons (pv 3) pa_nil)) pa_nil)) (pe_slice sl_list (pv 1) po_none (po_some (pe_un un_neg pe_int)))) pa_nil))) pa_nil)))))
 (pss_one (ps_ret (pv 2)))))), ?_⟩
    -- told = []
    refine ⟨Nat.zero_le _, fun t ht => ?_⟩
    have s1 : Same H (upd H t (.lst [])) := same_upd ht
    -- on
    refine ⟨_, rfl, _, rfl, _, rfl, _, rfl, a, _, _, _, rfl, rfl, s1.seq hS, TL.at_last hne, _, rfl, v, _, l, ns, _, rfl, Da.same s1 hv, Da.same s1 hu, ok, by omega, fun p H2 s2 hp hp2 => ?_⟩
    have nt : p ≠ t := (ne_of_none upd_same hp).symm
    have lenO := fr_len ok ns (oth (ns.getLastD 0))
    have lenB := fr_len ok ns (ns.headD 0)
    refine ⟨p, rfl, ⟨_, SqL.of hp2⟩, for_list (K := K) (a := p) (xs := (fr l ns (oth (ns.getLastD 0))).map V.int) (fun i σ H3 => ∃ (vs : List V) (x : Option V), σ = [some v, some (.ref a), some (.ref t), x] ∧ Same H H3 ∧ H3 p = some (.lst ((fr l ns (oth (ns.getLastD 0))).map V.int)) ∧ H3 t = some (.lst vs) ∧
        Dgs (Lf H H3 t) (SqT K H3) ((((fr l ns (oth (ns.getLastD 0))).take i).map (onM ns)).map dMv) vs)
      ⟨[], none, rfl, s1.trans s2, hp2, s2 _ _ upd_same, dgs_nil.mpr rfl⟩ (fun i σ H3 _ ⟨_, _, _, _, h, _⟩ => SqL.of h) ?_ ?_⟩
    · rintro i y σ H3 hi ⟨vs, x, rfl, S3, hp3, ht3, D⟩
      rw [List.getElem?_map] at hi
      cases q : (fr l ns (oth (ns.getLastD 0)))[i]? with
      | none => rw [q] at hi; cases hi
      | some e =>
        rw [q] at hi
        cases hi
        have hil : i < (fr l ns (oth (ns.getLastD 0))).length := (List.getElem?_eq_some_iff.mp q).1
        refine ⟨_, rfl, .inl ⟨rfl, _, SqL.of ht3⟩, _, rfl, by show 2 ≤ sizeLine; decide, fun p1 n1 => ?_⟩
        refine ⟨_, rfl, _, rfl, a, _, rfl, (S3.trans (same_upd n1)).seq hS, fun p2 n2 => ?_⟩
        refine ⟨_, rfl, by show 1 ≤ sizeLine; decide, fun p3 n3 => ?_⟩
        rw [cut_tail] at n3 ⊢
        refine ⟨p2, p3, _, _, rfl, rfl, by rw [upd_ne (ne_of_none upd_same n3), upd_same], upd_same, ?_, fun p4 n4 => ?_⟩
        · refine Nat.le_of_lt (small_line ?_)
          rw [List.length_map, List.length_drop]
          show ns.length - 1 + 1 ≤ 1000
          omega
        refine ⟨by show 2 ≤ sizeLine; decide, fun p5 n5 => ?_⟩
        have S5 : Same H3 _ := (same_upd n1).trans ((same_upd n2).trans ((same_upd n3).trans ((same_upd n4).trans (same_upd (o := .tup [.ref p1, .ref p4]) n5))))
        have lv : vs.length ≤ 60 := by rw [D.length, List.length_map, List.length_map, List.length_take]; omega
        refine ⟨t, vs, _, rfl, rfl, S5 _ _ ht3, small_line (by omega), ?_⟩
        have g1 : Same (upd H3 p1 (.tup [.str "on", .int e])) _ := (same_upd n2).trans ((same_upd n3).trans ((same_upd n4).trans (same_upd (o := .tup [.ref p1, .ref p4]) n5)))
        have := push_move (w := "on") (e := e) (xs := ns.drop 1 ++ [e]) S3 ht ht3 D S5 (g1 _ _ upd_same) (Same.free ((same_upd n1).trans ((same_upd n2).trans (same_upd n3))) n4) (by rw [upd_ne (ne_of_none upd_same n5), upd_same, List.map_append]; rfl) upd_same
        obtain ⟨r1, r2, r3⟩ := this
        refine ⟨_, _, rfl, r1, ?_, r2, ?_⟩
        · rw [upd_ne nt]; exact S5 _ _ hp3
        · rw [take_map_snoc (onM ns) _ i e q]; exact r3
    -- back
    rintro σ H3 ⟨vs, x, rfl, S3, hp3, ht3, D⟩
    rw [List.length_map, List.take_length] at D
    refine ⟨_, rfl, _, rfl, _, rfl, a, _, _, _, rfl, rfl, S3.seq hS, at_first hne, v, _, l, ns, _, rfl, Da.same S3 hv, Da.same S3 hu, ok, by omega, fun p' H4 s4 hp' hp4 => ?_⟩
    have nt' : p' ≠ t := (ne_of_none ht3 hp').symm
    have D4 : Dgs (Lf H H4 t) (SqT K H4) (((fr l ns (oth (ns.getLastD 0))).map (onM ns)).map dMv) vs := Dgs.mono (fun a us ⟨h1, h2, h3⟩ => ⟨s4 _ _ h1, h2, h3⟩) (fun a us h => same_tseq s4 h) D
    refine ⟨p', rfl, ⟨_, SqL.of hp4⟩, for_list (K := K) (a := p') (xs := (fr l ns (ns.headD 0)).map V.int) (fun i σ H3 => ∃ (vs : List V) (x : Option V), σ = [some v, some (.ref a), some (.ref t), x] ∧ Same H H3 ∧ H3 p' = some (.lst ((fr l ns (ns.headD 0)).map V.int)) ∧ H3 t = some (.lst vs) ∧
        Dgs (Lf H H3 t) (SqT K H3) (((fr l ns (oth (ns.getLastD 0))).map (onM ns) ++ ((fr l ns (ns.headD 0)).take i).map (backM ns)).map dMv) vs)
      ⟨vs, x, rfl, S3.trans s4, hp4, s4 _ _ ht3, by simpa using D4⟩ (fun i σ H3 _ ⟨_, _, _, _, h, _⟩ => SqL.of h) ?_ ?_⟩
    · rintro i y σ H3 hi ⟨vs, x, rfl, S3, hp3, ht3, D⟩
      rw [List.getElem?_map] at hi
      cases q : (fr l ns (ns.headD 0))[i]? with
      | none => rw [q] at hi; cases hi
      | some e =>
        rw [q] at hi
        cases hi
        have hil : i < (fr l ns (ns.headD 0)).length := (List.getElem?_eq_some_iff.mp q).1
        refine ⟨_, rfl, .inl ⟨rfl, _, SqL.of ht3⟩, _, rfl, by show 2 ≤ sizeLine; decide, fun p1 n1 => ?_⟩
        refine ⟨_, rfl, e, rfl, by show 1 ≤ sizeLine; decide, fun p2 n2 => ?_⟩
        refine ⟨_, rfl, _, rfl, _, rfl, a, _, rfl, (S3.trans ((same_upd n1).trans (same_upd n2))).seq hS, fun p3 n3 => ?_⟩
        have ec : cutV (ns.map V.int) none (some (-1)) = ns.dropLast.map V.int := cut_init ns
        refine ⟨p2, p3, _, _, rfl, rfl, by rw [upd_ne (ne_of_none upd_same n3), upd_same], upd_same, ?_, fun p4 n4 => ?_⟩
        · refine Nat.le_of_lt (small_line ?_)
          show 1 + (cutV (ns.map V.int) none (some (-1))).length ≤ 1000
          rw [ec, List.length_map, List.length_dropLast]
          omega
        refine ⟨by show 2 ≤ sizeLine; decide, fun p5 n5 => ?_⟩
        have S5 : Same H3 _ := (same_upd n1).trans ((same_upd n2).trans ((same_upd n3).trans ((same_upd n4).trans (same_upd (o := .tup [.ref p1, .ref p4]) n5))))
        have lv : vs.length ≤ 120 := by rw [D.length, List.length_map, List.length_append, List.length_map, List.length_map, List.length_take]; omega
        refine ⟨t, vs, _, rfl, rfl, S5 _ _ ht3, small_line (by omega), ?_⟩
        have g1 : Same (upd H3 p1 (.tup [.str "back", .int e])) _ := (same_upd n2).trans ((same_upd n3).trans ((same_upd n4).trans (same_upd (o := .tup [.ref p1, .ref p4]) n5)))
        have := push_move (w := "back") (e := e) (xs := oth e :: ns.dropLast) S3 ht ht3 D S5 (g1 _ _ upd_same) (Same.free ((same_upd n1).trans ((same_upd n2).trans (same_upd n3))) n4) (by
          rw [upd_ne (ne_of_none upd_same n5), upd_same]
          show some (HO.lst ([V.int (oth e)] ++ cutV (ns.map V.int) none (some (-1)))) = _
          rw [ec]; rfl) upd_same
        obtain ⟨r1, r2, r3⟩ := this
        refine ⟨_, _, rfl, r1, ?_, r2, ?_⟩
        · rw [upd_ne nt']; exact S5 _ _ hp3
        · rw [take_map_snoc (backM ns) _ i e q, ← List.append_assoc]; exact r3
    rintro σ H3 ⟨vs, x, rfl, S3, hp3, ht3, D⟩
    rw [List.length_map, List.take_length] at D
    exact ⟨_, rfl, k t vs H3 S3 ht ht3 D⟩
end
end K75
set_option Elab.async false
set_option linter.all false
set_option maxRecDepth 100000
set_option maxHeartbeats 4000000
namespace K75
open PySem L2 TL PyProof.Rows
structure Xr (K : PySem.W.Frag) (mg : Str → Option Value) (c2 c3 : Addr) : Prop where
  NoTrain : Xc K mg "NoTrain" c2
  NoMove : Xc K mg "NoMove" c3
def sp_done (K : PySem.W.Frag) (C : Addr) : Sp := fun vs H Q E => ∃ (v u m : V) (l : Int × List (Int × Int)) (ns : List Int) (k : Str × Int), vs = [v, u, m] ∧ Da K H (dL l) v ∧ Da K H (dI ns) u ∧ Da K H (dM k) m ∧ PyData.strOk k.1 = true ∧ LineOk l ∧ ns ≠ [] ∧ ns.length ≤ 900 ∧
  (∀ b, fnd (mvs l ns) k = some b → NewInts H b Q) ∧ (fnd (mvs l ns) k = none → ∀ H', Same H H' → ∀ e, H' e = none → E (.ref C) (some e) H')
def isT (l : Ln) (ns : List Int) : Prop := ns ≠ [] ∧ TrOk l ns
def sp_isend2 (K : PySem.W.Frag) : Sp := fun vs H Q _ => ∃ (v : V) (l : Int × List (Int × Int)) (e : Int), vs = [v, .int e] ∧ Da K H (dL l) v ∧ Q (.bl (decide (0 ≤ e ∧ e < 2 * l.1))) H
def sp_check (K : PySem.W.Frag) (C : Addr) : Sp := fun vs H Q E => ∃ (v u : V) (l : Int × List (Int × Int)) (ns : List Int), vs = [v, u] ∧ Da K H (dL l) v ∧ Da K H (dI ns) u ∧ LineOk l ∧ ns.length ≤ 900 ∧
  (isT l ns → ∀ H', Same H H' → Q .non H') ∧ (¬ isT l ns → ∀ H', Same H H' → ∀ e, H' e = none → E (.ref C) (some e) H')
abbrev s_done : Stmt := top 34
theorem sc_done : FnScope ["line", "train", "move", "own", "behind"] ["line", "train", "move"] (defScope s_done) := ⟨rfl, rfl, rfl, by decide +kernel, rfl, by decide +kernel, by decide +kernel⟩

abbrev s_check_train : Stmt := top 30
theorem sc_check_train : FnScope ["line", "train", "end", "following"] ["line", "train"] (defScope s_check_train) := ⟨rfl, rfl, rfl, by decide +kernel, rfl, by decide +kernel, by decide +kernel⟩
theorem cc_check_train_0 : CompOk (defScope s_check_train) ["line", "train", "end", "following"] { kind := .function, names := [(Str.ofString ".0", .local), (Str.ofString "end", .local), (Str.ofString "piece_of", .globalImplicit)], isGenerator := false, isCoroutine := false, more := [] } ["end"] 1 [none] := ⟨rfl, by decide +kernel, by decide +kernel, by decide +kernel, rfl, by decide +kernel, rfl, by decide +kernel⟩

section
variable {P : Program} {w : World} {K : PySem.W.Frag} {mg : Str → Option Value} {base : Heap} {f : Addr} {fd : FuncData} {D c1 c2 c3 c4 c5 c6 c7 : Addr} {t1 t2 t3 t4 : Tok}
theorem ok_done {f1 : Addr} {fd1 : FuncData} (F : Fn K mg "done" s_done ["line", "train", "move"] f fd) (XS : Xr K mg c2 c3) (F_moves_of : Fn K mg "moves_of" s_moves_of ["line", "train"] f1 fd1)
    (G_moves_of : FnOk P w K mg base CX0 3 f1 fd1 ["line", "train"] (sp_movesP K)) : FnOk P w K mg base (CXr P w base) 4 f fd ["line", "train", "move"] (sp_done K c3) := by
  refine F.F.okX sc_done (fun vs H Q E h => ?_) (fun cdv A outer s H vs Q E hr h => ?_)
  · obtain ⟨v, u, m, l, ns, k, rfl, _⟩ := h; rfl
  · obtain ⟨v, u, m, l, ns, k, rfl, hv, hu, hm, hk, ok, hne, hz, k1, k2⟩ := h
    refine ⟨_, (pss_cons (ps_for PassesOwn.leaving rfl (pi_list (pe_call G_moves_of (hr.mono (by decide)) rfl F_moves_of.m F_moves_of.F.kp F_moves_of.b .nil pass0 (pa_cons (pv 0) (pa_cons (pv 1) pa_nil)))) (pg_tup (n := 2) rfl (pgs_cons (pg_name (i := 3) sc_done.nd rfl (Or.inl rfl)) (pgs_cons (pg_name (i := 4) sc_done.nd rfl (Or.inl rfl)) pgs_nil)))
  (pss_one (ps_if (pt_cmpR (op_eqD hr.units) (pv 3) (pv 2) (nomark _))
  (pss_one (ps_ret (pv 4))) pss_nil)))
 (pss_one (ps_raise raises_cx rfl rfl XS.NoMove.m XS.NoMove.q PySem.F.excBase_ValueError (pa_cons pe_str pa_nil)))), ?_⟩
    refine ⟨_, rfl, _, rfl, v, u, l, ns, rfl, hv, hu, ok, hne, hz, fun p vs H1 s1 hp hp1 D1 => ?_⟩
    refine ⟨p, rfl, ⟨_, SqL.of hp1⟩, for_list (K := K) (a := p) (xs := vs) (fun i σ H3 => ∃ (x3 x4 : Option V), σ = [some v, some u, some m, x3, x4] ∧ H3 = H1 ∧ ∀ j, j < i → ∀ n, (mvs l ns)[j]? = some n → n.1 ≠ k)
      ⟨none, none, rfl, rfl, fun j hj => absurd hj (Nat.not_lt_zero j)⟩ (fun i σ H3 _ ⟨_, _, _, e, _⟩ => e ▸ SqL.of hp1) ?_ ?_⟩
    · rintro i y σ H3 hi ⟨x3, x4, rfl, rfl, no⟩
      obtain ⟨n, ad, p1, b, hn, rfl, ht, dm, hb, nb, _⟩ := mv_at D1 hi
      refine ⟨ad, _, rfl, ht, rfl, _, _, rfl, _, _, rfl, rfl, ?_⟩
      refine ⟨_, rfl, _, rfl, dM n.1, dM k, dm, Da.same s1 hm, okD_M (strOk_mvs l ns n (List.mem_of_getElem? hn)), okD_M hk, _, rfl, ?_⟩
      rw [eqv_M]
      refine ite2 (fun e => ?_) (fun e => ?_)
      · have e : n.1 = k := by simpa using e
        exact ⟨_, rfl, k1 _ (fnd_hit hn e no) b H3 s1 nb hb⟩
      · have e : n.1 ≠ k := by simpa using e
        refine ⟨_, _, rfl, rfl, fun j hj n' hn' => ?_⟩
        rcases Nat.lt_succ_iff_lt_or_eq.mp hj with z | z
        · exact no j z n' hn'
        · subst z; rw [hn] at hn'; cases hn'; exact e
    · rintro σ H3 ⟨x3, x4, rfl, rfl, no⟩
      have hlen : (mvs l ns).length = vs.length := by have := D1.length; rw [List.length_map] at this; exact this.symm
      refine ⟨by decide, fun e he => k2 (fnd_miss fun j hj => no j (by omega)) H3 s1 e he⟩
theorem ok_is_end2 (F : Fn K mg "is_end" s_is_end ["line", "end"] f fd) : FnOk P w K mg base CX0 1 f fd ["line", "end"] (sp_isend2 K) := by
  refine F.F.ok sc_is_end (fun vs H Q E h => ?_) (fun cdv A outer s H vs Q E hr h => ?_)
  · obtain ⟨v, l, e, rfl, _⟩ := h; rfl
  · obtain ⟨v, l, e, rfl, hv, k⟩ := h
    obtain ⟨a, b, rfl, ht, us, hl, hq⟩ := da_line hv
    refine ⟨_, (pss_one (ps_ret (pe_chain op_le op_lt pe_int (pv 1) (pe_op op_mul pe_int (pe_ix ix_tup (pv 0) pe_int (fun _ _ => rfl)))))), ?_⟩
    refine ⟨_, rfl, _, _, rfl, rfl, _, rfl, ite2 (fun h => ?_) (fun h => ?_)⟩
    · have h : 0 ≤ e := by simpa using h
      refine ⟨_, rfl, a, _, _, _, rfl, rfl, ht, rfl, _, _, rfl, rfl, .inl ⟨by decide, by decide⟩, _, _, rfl, rfl, ?_⟩
      have e1 : decide (0 ≤ e ∧ e < 2 * l.1) = decide (e < 2 * l.1) := by simp [h]
      rw [e1] at k
      exact k
    · have h : ¬ 0 ≤ e := by simpa using h
      have e1 : decide (0 ≤ e ∧ e < 2 * l.1) = false := by simp [h]
      rw [e1] at k
      exact k
theorem ok_check_train {f1 f2 f3 f4 : Addr} {fd1 fd2 fd3 fd4 : FuncData} (F : Fn K mg "check_train" s_check_train ["line", "train"] f fd) (XS : Xr K mg c2 c3) (B : Bm mg) (F_is_end : Fn K mg "is_end" s_is_end ["line", "end"] f1 fd1)
    (F_piece_of : Fn K mg "piece_of" s_piece_of ["end"] f2 fd2) (F_joined : Fn K mg "joined" s_joined ["line", "end"] f3 fd3) (F_other_end : Fn K mg "other_end" s_other_end ["end"] f4 fd4) : FnOk P w K mg base (CXr P w base) 2 f fd ["line", "train"] (sp_check K c2) := by
  have G_is_end : FnOk P w K mg base CX0 1 f1 fd1 ["line", "end"] (sp_isend2 K) := ok_is_end2 F_is_end
  have G_piece_of : FnOk P w K mg base CX0 1 f2 fd2 ["end"] sp_half := ok_piece_of F_piece_of
  have G_joined : FnOk P w K mg base CX0 1 f3 fd3 ["line", "end"] (sp_joinedP K) := ok_joined F_joined B.toBl
  have G_other_end : FnOk P w K mg base CX0 1 f4 fd4 ["end"] sp_other := ok_other_end F_other_end
  refine F.F.okX sc_check_train (fun vs H Q E h => ?_) (fun cdv A outer s H vs Q E hr h => ?_)
  · obtain ⟨v, u, l, ns, rfl, _⟩ := h; rfl
  · obtain ⟨v, u, l, ns, rfl, hv, hu, ok, hz, k1, k2⟩ := h
    obtain ⟨a, rfl, ha⟩ := da_ints.mp hu
    refine ⟨_, (pss_cons (ps_if (pt_not (pt_truth (pv 1) (fun _ => rfl)))
  (pss_one (ps_raise raises_cx rfl rfl XS.NoTrain.m XS.NoTrain.q PySem.F.excBase_ValueError (pa_cons pe_str pa_nil))) pss_nil)
 (pss_cons (ps_for PassesOwn.leaving rfl (pi_list (pv 1)) (pg_name (i := 2) sc_check_train.nd rfl (Or.inl rfl))
  (pss_one (ps_if (pt_not (pt_val (pe_call G_is_end (hr.mono (by decide)) rfl F_is_end.m F_is_end.F.kp F_is_end.b .nil pass0 (pa_cons (pv 0) (pa_cons (pv 2) pa_nil)))))
  (pss_one (ps_raise raises_cx rfl rfl XS.NoTrain.m XS.NoTrain.q PySem.F.excBase_ValueError (pa_cons pe_str pa_nil))) pss_nil)))
 (pss_cons (ps_if (pt_cmp (pc_lt (pe_callB call_lenS rfl B.len boot_len (pa_cons (pe_sc (pi_list (pv 1)) rfl cc_check_train_0 (.name (by decide)) (fun _ _ _ _ => (pg_name (i := 0) cc_check_train_0.nd rfl (Or.inl rfl))) (fun _ _ _ _ => pifs_nil) (fun _ _ _ _ => (pe_call G_piece_of (hr.mono (by decide)) rfl F_piece_of.m F_piece_of.F.kp F_piece_of.b .nil pass0 (pa_cons (pv 0) pa_nil)))) pa_nil)) (pe_callB call_len_seq rfl B.len boot_len (pa_cons (pv 1) pa_nil))))
  (pss_one (ps_raise raises_cx rfl rfl XS.NoTrain.m XS.NoTrain.q PySem.F.excBase_ValueError (pa_cons pe_str pa_nil))) pss_nil)
 (pss_one (ps_for PassesOwn.leaving rfl (pi_zip rfl B.zip (pa_cons (pv 1) (pa_cons (pe_slice sl_list (pv 1) (po_some pe_int) po_none) pa_nil))) (pg_tup (n := 2) rfl (pgs_cons (pg_name (i := 2) sc_check_train.nd rfl (Or.inl rfl)) (pgs_cons (pg_name (i := 3) sc_check_train.nd rfl (Or.inl rfl)) pgs_nil)))
  (pss_one (ps_if (pt_cmpR (op_notInD hr.units) (pv 3) (pe_call G_joined (hr.mono (by decide)) rfl F_joined.m F_joined.F.kp F_joined.b .nil pass0 (pa_cons (pv 0) (pa_cons (pe_call G_other_end (hr.mono (by decide)) rfl F_other_end.m F_other_end.F.kp F_other_end.b .nil pass0 (pa_cons (pv 2) pa_nil)) pa_nil))) (by with_unfolding_all rfl))
  (pss_one (ps_raise raises_cx rfl rfl XS.NoTrain.m XS.NoTrain.q PySem.F.excBase_ValueError (pa_cons pe_str pa_nil))) pss_nil))))))), ?_⟩
    refine ⟨_, rfl, _, .inl ⟨_, ha, rfl⟩, ite2 (fun h => ?_) (fun h => ?_)⟩
    · have h : ns = [] := by simpa using h
      exact ⟨by decide, fun e he => k2 (fun z => z.1 h) H (Same.refl _) e he⟩
    have hne : ns ≠ [] := by simpa using h
    refine ⟨_, rfl, a, rfl, ⟨_, ha⟩, for_list (K := K) (a := a) (xs := ns.map V.int) (fun i σ H3 => ∃ (x2 x3 : Option V), σ = [some v, some (.ref a), x2, x3] ∧ H3 = H ∧ ∀ e ∈ ns.take i, 0 ≤ e ∧ e < 2 * l.1)
      ⟨none, none, rfl, rfl, fun e he => by simp at he⟩ (fun i σ H3 _ ⟨_, _, _, e, _⟩ => e ▸ ha) ?_ ?_⟩
    · rintro i y σ H3 hi ⟨x2, x3, rfl, rfl, al⟩
      rw [List.getElem?_map] at hi
      obtain ⟨e, he, rfl⟩ : ∃ e, ns[i]? = some e ∧ y = .int e := by
        cases q : ns[i]? with
        | none => rw [q] at hi; cases hi
        | some e => rw [q] at hi; cases hi; exact ⟨e, rfl, rfl⟩
      refine ⟨_, rfl, _, rfl, v, l, e, rfl, hv, _, rfl, ite2 (fun h => ?_) (fun h => ?_)⟩
      · have h : ¬ (0 ≤ e ∧ e < 2 * l.1) := fun z => by simp [z] at h
        exact ⟨by decide, fun x hx => k2 (fun z => h (z.2.ends e (List.mem_of_getElem? he))) H3 (Same.refl _) x hx⟩
      · have h : 0 ≤ e ∧ e < 2 * l.1 := by simpa using h
        refine ⟨_, _, rfl, rfl, fun x hx => ?_⟩
        rw [List.take_add_one, he] at hx
        rcases List.mem_append.mp hx with z | z
        · exact al x z
        · have z : x = e := by simpa using z
          rw [z]; exact h
    rintro σ H3 ⟨x2, x3, rfl, rfl, al⟩
    rw [List.length_map, List.take_length] at al
    -- the set of pieces
    refine ⟨_, rfl, a, rfl, ⟨_, ha⟩, fun q nq => sc_pureJ (js_list ha) ns (fun e => e / 2) nq (by rw [List.length_map]) (by rw [List.length_map]; show ns.length + 1 < 4096; omega) ?_ ?_⟩
    · intro i x d H' hx hd sm P1 P0 p1
      rw [List.getElem?_map, hd] at hx
      cases hx
      refine name_yes ?_
      exact ⟨_, rfl, d, rfl, p1⟩
    have hq3 := upd_same (H := H3) (a := q) (o := .set (fun k => decide (k ∈ ns.map fun e => e / 2)) (dn (ns.map fun e => e / 2) (ns.map V.int).length))
    have s4 := same_upd (o := .set (fun k => decide (k ∈ ns.map fun e => e / 2)) (dn (ns.map fun e => e / 2) (ns.map V.int).length)) nq
    generalize upd H3 q _ = H4 at hq3 s4 ⊢
    refine ⟨q, _, _, rfl, hq3, _, rfl, a, _, rfl, .inl (s4.seq ha), _, _, rfl, rfl, _, rfl, ite2 (fun h => ?_) (fun h => ?_)⟩
    · have h : dn (ns.map fun e => e / 2) (ns.map V.int).length < (ns.map V.int).length := by simpa using h
      rw [List.length_map] at h
      have h2 := (dn_lt (ns.map fun e => e / 2)).mp (by rw [List.length_map]; exact h)
      exact ⟨by decide, fun x hx => k2 (fun z => h2 z.2.nd) H4 s4 x hx⟩
    have h : ¬ dn (ns.map fun e => e / 2) (ns.map V.int).length < (ns.map V.int).length := by simpa using h
    rw [List.length_map] at h
    have nd : (ns.map fun e => e / 2).Nodup := by
      have h3 := (dn_lt (ns.map fun e => e / 2))
      rw [List.length_map] at h3
      exact Decidable.byContradiction fun z => h (h3.mpr z)
    -- train[1:]
    refine ⟨_, rfl, _, rfl, _, rfl, a, _, rfl, s4.seq ha, fun t nt => ?_⟩
    rw [cut_tail]
    have ht := upd_same (H := H4) (a := t) (o := .lst ((ns.drop 1).map V.int))
    have s5 := same_upd (o := .lst ((ns.drop 1).map V.int)) nt
    generalize upd H4 t _ = H5 at ht s5 ⊢
    have S5 := s4.trans s5
    refine ⟨a, t, rfl, ⟨_, S5.seq ha⟩, ⟨_, SqL.of ht⟩, for_zip (K := K) (a := a) (b := t) (xs := ns.map V.int) (ys := (ns.drop 1).map V.int) (ns.length - 1) (by simp)
      (fun i σ H6 => ∃ (x2 x3 : Option V), σ = [some v, some (.ref a), x2, x3] ∧ Same H5 H6 ∧ ∀ j, j < i → ∀ x y, ns[j]? = some x → ns[j + 1]? = some y → y ∈ jn l.2 (oth x))
      ⟨_, _, rfl, Same.refl _, fun j hj => absurd hj (Nat.not_lt_zero j)⟩ (fun i σ H6 _ ⟨_, _, _, s, _⟩ => ⟨(S5.trans s).seq ha, SqL.of (s _ _ ht)⟩) ?_ ?_⟩
    · rintro i x y σ H6 p hx hy ⟨x2, x3, rfl, s6, al2⟩ np
      rw [List.getElem?_map] at hx hy
      rw [List.getElem?_drop, Nat.add_comm] at hy
      obtain ⟨d, hd, rfl⟩ : ∃ e, ns[i]? = some e ∧ x = .int e := by
        cases q : ns[i]? with
        | none => rw [q] at hx; cases hx
        | some e => rw [q] at hx; cases hx; exact ⟨e, rfl, rfl⟩
      obtain ⟨e, he, rfl⟩ : ∃ e, ns[i + 1]? = some e ∧ y = .int e := by
        cases q : ns[i + 1]? with
        | none => rw [q] at hy; cases hy
        | some e => rw [q] at hy; cases hy; exact ⟨e, rfl, rfl⟩
      have S7 := (S5.trans s6).trans (same_upd (o := .tup [.int d, .int e]) np)
      have s7 := s6.trans (same_upd (o := .tup [.int d, .int e]) np)
      refine ⟨p, _, rfl, SqT.of upd_same, rfl, _, _, rfl, _, _, rfl, rfl, ?_⟩
      refine ⟨_, rfl, _, rfl, _, rfl, d, rfl, v, l, _, rfl, Da.same S7 hv, ok, fun r H8 s8 nr hr8 => ?_⟩
      refine ⟨(jn l.2 (oth d)).map PyData.int, .int e, da_new hr8, dg_int.mpr rfl, okDs_I _, okD_int _, _, rfl, ?_⟩
      rw [any_I]
      refine ite2 (fun h => ?_) (fun h => ?_)
      · have h : e ∉ jn l.2 (oth d) := by simpa using h
        exact ⟨by decide, fun x hx => k2 (fun z => h (z.2.ch i d e hd he)) H8 (S7.trans s8) x hx⟩
      · have h : e ∈ jn l.2 (oth d) := by simpa using h
        refine ⟨_, _, rfl, s7.trans s8, fun j hj x2 y2 hx2 hy2 => ?_⟩
        rcases Nat.lt_succ_iff_lt_or_eq.mp hj with z | z
        · exact al2 j z x2 y2 hx2 hy2
        · subst z
          rw [hd] at hx2; rw [he] at hy2
          cases hx2; cases hy2
          exact h
    rintro σ H6 ⟨x2, x3, rfl, s6, al2⟩
    refine k1 ⟨hne, al, nd, fun i x y hx hy => al2 i ?_ x y hx hy⟩ H6 (S5.trans s6)
    have := (List.getElem?_eq_some_iff.mp hy).1
    omega
end
end K75
set_option Elab.async false
set_option linter.all false
set_option maxRecDepth 100000
set_option maxHeartbeats 4000000
namespace K75
open PySem L2 TL PyProof.Rows
structure Fresh (H H' : Hp) (p : Addr) (bs : List Addr) (ts : List (List Int)) : Prop where
  same : Same H H'
  new : H p = none
  at_ : H' p = some (.lst (bs.map V.ref))
  len : bs.length = ts.length
  each : ∀ (i : Nat) b t, bs[i]? = some b → ts[i]? = some t → H b = none ∧ b ≠ p ∧ H' b = some (.lst (t.map V.int))
  nd : bs.Nodup
def sp_walked (K : PySem.W.Frag) (C : Addr) : Sp := fun vs H Q E => ∃ (v u r : V) (l : Ln) (ns : List Int) (run : List (Str × Int)), vs = [v, u, r] ∧ Da K H (dL l) v ∧ Da K H (dI ns) u ∧ Da K H (dR run) r ∧ (∀ k ∈ run, PyData.strOk k.1 = true) ∧ LineOk l ∧ ns ≠ [] ∧ ns.length ≤ 900 ∧ run.length ≤ 100000 ∧
  (∀ ts, wkl l ns run = some ts → WkOk ns run.length ts → ∀ p bs H', Fresh H H' p bs ts → Q (.ref p) H') ∧ (wkl l ns run = none → ∀ H', Same H H' → ∀ e, H' e = none → E (.ref C) (some e) H')
theorem last_ref {bs : List Addr} {ts : List (List Int)} (hl : bs.length = ts.length) (hne : ts ≠ []) : ∃ b, bs[bs.length - 1]? = some b ∧ ts[bs.length - 1]? = some (ts.getLastD []) ∧ atI (bs.map V.ref) (-1) = some (V.ref b) := by
  have h1 : 1 ≤ ts.length := by cases ts with | nil => exact absurd rfl hne | cons x r => simp
  have h2 : bs.length - 1 < bs.length := by omega
  refine ⟨bs[bs.length - 1], List.getElem?_eq_getElem h2, ?_, ?_⟩
  · rw [List.getLastD_eq_getLast?, List.getLast?_eq_getElem?, hl, List.getElem?_eq_getElem (by omega)]; rfl
  · exact at_neg1 (by rw [List.length_map, List.getElem?_map, List.getElem?_eq_getElem h2]; rfl)
theorem big_l {n : Nat} (h : n ≤ 1000000) : n < sizeLine := Nat.lt_of_le_of_lt h (by decide)
def chp (ws : List Str) : Nat → Bool := fun i => !decide (ws[i]? = ws[i + 1]?)
def chg (ws : List Str) : Nat := ((List.range (ws.length - 1)).filter (chp ws)).length
def sp_changes (K : PySem.W.Frag) : Sp := fun vs H Q _ => ∃ (r : V) (run : List (Str × Int)), vs = [r] ∧ Da K H (dR run) r ∧ run.length ≤ 100000 ∧ ∀ H', Same H H' → Q (.int (chg (run.map (·.1)))) H'
theorem ones (xs : List Nat) : (xs.map fun _ => V.int 1) = (List.replicate xs.length (1 : Int)).map V.int := by
  induction xs with
  | nil => rfl
  | cons x r ih => simp only [List.map_cons, List.length_cons, List.replicate_succ]; rw [ih]
theorem sum_ones : ∀ n, (List.replicate n (1 : Int)).sum = n
  | 0 => rfl
  | n + 1 => by rw [List.replicate_succ, List.sum_cons, sum_ones n]; omega
abbrev s_walked : Stmt := top 36
theorem sc_walked : FnScope ["line", "train", "run", "trains", "move"] ["line", "train", "run"] (defScope s_walked) := ⟨rfl, rfl, rfl, by decide +kernel, rfl, by decide +kernel, by decide +kernel⟩

abbrev s_changes : Stmt := top 37
theorem sc_changes : FnScope ["run", "words"] ["run"] (defScope s_changes) := ⟨rfl, rfl, rfl, by decide +kernel, rfl, by decide +kernel, by decide +kernel⟩
theorem cc_changes_0 : CompOk (defScope s_changes) ["run", "words"] { kind := .function, names := [(Str.ofString ".0", .local), (Str.ofString "word", .local), (Str.ofString "end", .local)], isGenerator := false, isCoroutine := false, more := [] } ["word", "end"] 2 [none, none] := ⟨rfl, by decide +kernel, by decide +kernel, by decide +kernel, rfl, by decide +kernel, rfl, by decide +kernel⟩
theorem cc_changes_1 : CompOk (defScope s_changes) ["run", "words"] { kind := .function, names := [(Str.ofString ".0", .local), (Str.ofString "ahead", .local), (Str.ofString "behind", .local)], isGenerator := false, isCoroutine := false, more := [] } ["ahead", "behind"] 2 [none, none] := ⟨rfl, by decide +kernel, by decide +kernel, by decide +kernel, rfl, by decide +kernel, rfl, by decide +kernel⟩

section
variable {P : Program} {w : World} {K : PySem.W.Frag} {mg : Str → Option Value} {base : Heap} {f : Addr} {fd : FuncData} {D c1 c2 c3 c4 c5 c6 c7 : Addr} {t1 t2 t3 t4 : Tok}
theorem ok_walked {f1 : Addr} {fd1 : FuncData} (F : Fn K mg "walked" s_walked ["line", "train", "run"] f fd) (B : Bm mg) (F_done : Fn K mg "done" s_done ["line", "train", "move"] f1 fd1)
    (G_done : FnOk P w K mg base (CXr P w base) 4 f1 fd1 ["line", "train", "move"] (sp_done K c3)) : FnOk P w K mg base (CXr P w base) 5 f fd ["line", "train", "run"] (sp_walked K c3) := by
  refine F.F.okX sc_walked (fun vs H Q E h => ?_) (fun cdv A outer s H vs Q E hr h => ?_)
  · obtain ⟨v, u, r, l, ns, run, rfl, _⟩ := h; rfl
  · obtain ⟨v, u, r, l, ns, run, rfl, hv, hu, hr0, hk, ok, hne, hz, hzr, k1, k2⟩ := h
    obtain ⟨a, rfl, ha⟩ := da_ints.mp hu
    obtain ⟨ar, vr, rfl, har, hvr⟩ := dg_list.mp hr0
    have hlr : vr.length = run.length := by have := Dgs.length hvr; rw [List.length_map] at this; exact this
    refine ⟨_, (pss_cons (ps_set (i := 3) sc_walked.nd rfl (Or.inl rfl) (pe_lst (pa_cons (pe_callTy call_list_of rfl B.list boot_list (pa_cons (pv 1) pa_nil)) pa_nil)))
 (pss_cons (ps_for PassesOwn.leaving rfl (pi_list (pv 2)) (pg_name (i := 4) sc_walked.nd rfl (Or.inl rfl))
  (pss_one (ps_expr (pe_bm PySem.F.plainAttrs_list PySem.F.slot_list_append PySem.F.type_list_append mt_append (pv 3) (pa_cons (pe_call G_done (hr.mono (by decide)) rfl F_done.m F_done.F.kp F_done.b .nil passes_cx (pa_cons (pv 0) (pa_cons (pe_ix ix_list (pv 3) (pe_un un_neg pe_int) (fun _ _ => rfl)) (pa_cons (pv 4) pa_nil)))) pa_nil)))))
 (pss_one (ps_ret (pv 3))))), ?_⟩
    refine ⟨_, rfl, a, _, rfl, .inl ha, fun b0 nb0 => ⟨by show 1 ≤ sizeLine; decide, fun p np => ?_⟩⟩
    have s1 := same_upd (o := .lst (ns.map V.int)) nb0
    have s2 := same_upd (o := .lst [V.ref b0]) np
    have hb0 := s2 _ _ (upd_same (H := H) (a := b0) (o := .lst (ns.map V.int)))
    have hp := upd_same (H := upd H b0 (.lst (ns.map V.int))) (a := p) (o := .lst [V.ref b0])
    have np0 : H p = none := Same.free s1 np
    have hbp : b0 ≠ p := ne_of_none (upd_same (H := H) (a := b0) (o := .lst (ns.map V.int))) np
    have s12 := s1.trans s2
    clear s1 s2
    generalize upd (upd H b0 _) p _ = H1 at s12 hb0 hp ⊢
    refine ⟨_, rfl, ar, rfl, ⟨_, s12.seq har⟩, for_list (K := K) (a := ar) (xs := vr) (fun i σ H3 => ∃ (x4 : Option V) (ts : List (List Int)) (bs : List Addr), σ = [some v, some (.ref a), some (.ref ar), some (.ref p), x4] ∧ wkl l ns (run.take i) = some ts ∧ WkOk ns i ts ∧ Fresh H H3 p bs ts)
      ⟨none, [ns], [b0], rfl, rfl, ⟨rfl, fun t ht => by have e : t = ns := (by simpa using ht); rw [e]; exact ⟨hne, rfl⟩⟩, ⟨s12, np0, hp, rfl, fun i b t hb ht => ?_, by simp⟩⟩ (fun i σ H3 _ ⟨_, _, _, _, _, _, F⟩ => F.same.seq har) ?_ ?_⟩
    · match i, hb, ht with
      | 0, hb, ht => cases hb; cases ht; exact ⟨nb0, hbp, hb0⟩
    · rintro i y σ H3 hi ⟨x4, ts, bs, rfl, hw, wo, FR⟩
      obtain ⟨k, hki, dk⟩ := das_at hvr hi
      have tne : ts ≠ [] := fun e => by have := wo.len; rw [e] at this; simp at this
      obtain ⟨bl, g1, g2, g3⟩ := last_ref FR.len tne
      obtain ⟨e1, e2, e3⟩ := FR.each _ _ _ g1 g2
      obtain ⟨t1, t2⟩ := wo.each _ (List.mem_of_getElem? g2)
      have hil : i < run.length := by have := (List.getElem?_eq_some_iff.mp hi).1; omega
      refine ⟨_, rfl, .inl ⟨rfl, _, SqL.of FR.at_⟩, _, rfl, _, rfl, _, rfl, p, _, _, _, rfl, rfl, SqL.of FR.at_, g3, _, rfl, _, _, _, l, _, k, rfl, Da.same FR.same hv, da_new e3, Da.same FR.same dk, hk k (List.mem_of_getElem? hki), ok, t1, by omega, fun b hb => ?_, fun hno H4 s4 e he => ?_⟩
      · intro q H4 s4 nq hq
        have hp4 := s4 _ _ FR.at_
        refine ⟨p, _, _, rfl, rfl, hp4, ?_, ?_⟩
        · rw [List.length_map, FR.len, wo.len]
          show i + 1 < 16777216
          omega
        · have qp : q ≠ p := Ne.symm (ne_of_none FR.at_ nq)
          refine ⟨_, ts ++ [b], bs ++ [q], rfl, by rw [wkl_take hki, hw]; show (fnd _ _).map _ = _; rw [hb]; rfl, wo.snoc hb, ⟨Same.upd (FR.same.trans s4) np0, np0, ?_, by rw [List.length_append, List.length_append, FR.len]; rfl, fun j c t hc ht => ?_, ?_⟩⟩
          · rw [upd_same, List.map_append]; rfl
          · by_cases hj : j < bs.length
            · rw [List.getElem?_append_left hj] at hc
              rw [List.getElem?_append_left (by rw [← FR.len]; exact hj)] at ht
              obtain ⟨z1, z2, z3⟩ := FR.each j c t hc ht
              exact ⟨z1, z2, by rw [upd_ne z2]; exact s4 _ _ z3⟩
            · have hj2 : j = bs.length := by
                have := (List.getElem?_eq_some_iff.mp hc).1
                rw [List.length_append, List.length_singleton] at this
                omega
              rw [hj2, List.getElem?_append_right (Nat.le_refl _), Nat.sub_self] at hc
              rw [hj2, FR.len, List.getElem?_append_right (Nat.le_refl _), Nat.sub_self] at ht
              cases hc
              cases ht
              exact ⟨Same.free FR.same nq, qp, by rw [upd_ne qp]; exact hq⟩
          · rw [List.nodup_append]
            refine ⟨FR.nd, by simp, fun x hx y hy => ?_⟩
            have hy : y = q := by simpa using hy
            subst hy
            obtain ⟨j, hj, e⟩ := List.mem_iff_getElem.mp hx
            obtain ⟨_, _, z3⟩ := FR.each j x (ts[j]'(by rw [← FR.len]; exact hj)) (by rw [List.getElem?_eq_getElem hj, e]) (List.getElem?_eq_getElem _)
            exact ne_of_none z3 nq
      · refine k2 (wkl_none (i := i + 1) ?_) H4 (FR.same.trans s4) e he
        rw [wkl_take hki, hw]
        show (fnd _ _).map _ = _
        rw [hno]; rfl
    rintro σ H3 ⟨x4, ts, bs, rfl, hw, wo, FR⟩
    rw [hlr, List.take_length] at hw
    rw [hlr] at wo
    exact ⟨_, rfl, k1 ts hw wo p bs H3 FR⟩
theorem ok_changes (F : Fn K mg "changes" s_changes ["run"] f fd) (B : Bm mg) : FnOk P w K mg base CX0 1 f fd ["run"] (sp_changes K) := by
  refine F.F.ok sc_changes (fun vs H Q E h => ?_) (fun cdv A outer s H vs Q E hr h => ?_)
  · obtain ⟨r, run, rfl, _⟩ := h; rfl
  · obtain ⟨r, run, rfl, hr0, hz, k⟩ := h
    obtain ⟨ar, vr, rfl, har, hvr⟩ := dg_list.mp hr0
    have hlr : vr.length = run.length := by have := Dgs.length hvr; rw [List.length_map] at this; exact this
    refine ⟨_, (pss_cons (ps_lc (i := 1) sc_changes.nd rfl rfl (pi_list (pv 0)) rfl cc_changes_0 (.tup (.cons (.name (by decide)) (.cons (.name (by decide)) .nil))) (fun _ _ _ _ => (pg_tup (n := 2) rfl (pgs_cons (pg_name (i := 0) cc_changes_0.nd rfl (Or.inl rfl)) (pgs_cons (pg_name (i := 1) cc_changes_0.nd rfl (Or.inl rfl)) pgs_nil)))) (fun _ _ _ _ => pifs_nil) (fun _ _ _ _ => (pv 0)))
 (pss_one (ps_ret (pe_callB (call_sum rfl) rfl B.sum boot_sum (pa_cons (pe_lc (pi_zip rfl B.zip (pa_cons (pv 1) (pa_cons (pe_slice sl_list (pv 1) (po_some pe_int) po_none) pa_nil))) rfl cc_changes_1 (.tup (.cons (.name (by decide)) (.cons (.name (by decide)) .nil))) (fun _ _ _ _ => (pg_tup (n := 2) rfl (pgs_cons (pg_name (i := 0) cc_changes_1.nd rfl (Or.inl rfl)) (pgs_cons (pg_name (i := 1) cc_changes_1.nd rfl (Or.inl rfl)) pgs_nil)))) (fun _ _ _ _ => (pifs_one (pt_cmpR op_ne (pv 0) (pv 1) (nomark _)))) (fun _ _ _ _ => pe_int)) pa_nil))))), ?_⟩
    refine ⟨_, rfl, ar, rfl, ⟨_, har⟩, fun p np => lc_pureJ (js_list har) run (fun _ => true) (fun k => V.str k.1) np hlr (big_l (by omega)) ?_ ?_⟩
    · intro i x d H' hx hd sm P1 P0 p1 p0
      obtain ⟨k', hk', dk⟩ := das_at hvr hx
      rw [hd] at hk'; cases hk'
      obtain ⟨ad, rfl, ht⟩ := da_M dk
      refine ⟨ad, _, rfl, same_tseq sm ht, rfl, _, _, rfl, _, _, rfl, rfl, ?_⟩
      refine yes_if ?_
      exact ⟨_, rfl, p1 rfl⟩
    rw [filt_true]
    have e1 : (run.map fun k => V.str k.1) = (run.map (·.1)).map V.str := by rw [List.map_map]; rfl
    rw [e1]
    generalize hws : run.map (·.1) = ws at k ⊢
    have hwl : ws.length = run.length := by rw [← hws, List.length_map]
    have s1 := same_upd (o := .lst (ws.map V.str)) np
    have hp := upd_same (H := H) (a := p) (o := .lst (ws.map V.str))
    generalize upd H p _ = H1 at s1 hp ⊢
    refine ⟨_, rfl, _, rfl, _, rfl, p, _, rfl, SqL.of hp, fun t nt => ?_⟩
    rw [cut_drop _ (by decide)]
    have s2 := same_upd (o := .lst ((ws.map V.str).drop (1 : Int).toNat)) nt
    have ht := upd_same (H := H1) (a := t) (o := .lst ((ws.map V.str).drop (1 : Int).toNat))
    have hp2 := s2 _ _ hp
    generalize upd H1 t _ = H2 at s2 ht hp2 ⊢
    have gx : ∀ i, i < ws.length - 1 → ∃ x y, ws[i]? = some x ∧ ws[i + 1]? = some y ∧ (ws.map V.str)[i]? = some (V.str x) ∧ ((ws.map V.str).drop (1 : Int).toNat)[i]? = some (V.str y) := fun i hi => by
      have h1 : i < ws.length := by omega
      have h2 : i + 1 < ws.length := by omega
      refine ⟨ws[i], ws[i + 1], by simp, by simp, by rw [List.getElem?_map, List.getElem?_eq_getElem h1]; rfl, ?_⟩
      rw [List.getElem?_drop, show (1 : Int).toNat + i = i + 1 by have : (1 : Int).toNat = 1 := rfl; omega, List.getElem?_map, List.getElem?_eq_getElem h2]; rfl
    refine ⟨p, t, rfl, ⟨_, SqL.of hp2⟩, ⟨_, SqL.of ht⟩, fun q nq => lc_grow (ws.length - 1) (List.range (ws.length - 1)) (chp ws) (fun _ => V.int 1) nq (by simp) (big_l (by omega)) (fun i H sm hi => ?_) (fun H sm => ?_) ?_ ?_⟩
    · obtain ⟨x, y, _, _, g1, g2⟩ := gx i hi
      exact ⟨_, _, _, _, SqL.of (sm _ _ hp2), SqL.of (sm _ _ ht), g1, g2⟩
    · refine ⟨_, _, SqL.of (sm _ _ hp2), SqL.of (sm _ _ ht), .inr ?_⟩
      rw [List.length_drop, List.length_map]
      exact Nat.le_refl _
    · intro i x d H H' sm y hd P1 P0 p1 p0
      have hdi : d = i ∧ i < ws.length - 1 := by
        have h1 := List.getElem?_eq_some_iff.mp hd
        obtain ⟨h2, h3⟩ := h1
        rw [List.getElem_range] at h3
        rw [List.length_range] at h2
        exact ⟨h3.symm, h2⟩
      obtain ⟨rfl, hi⟩ := hdi
      obtain ⟨wx, wy, w1, w2, g1, g2⟩ := gx d hi
      obtain ⟨pt, npt, rfl, e⟩ := y
      have e := e _ _ _ _ (SqL.of (sm _ _ hp2)) (SqL.of (sm _ _ ht)) g1 g2
      subst e
      have st := same_upd (o := .tup [V.str wx, V.str wy]) npt
      refine ⟨pt, _, rfl, SqT.of upd_same, rfl, _, _, rfl, _, _, rfl, rfl, ?_⟩
      have hc : chp ws d = !decide (V.str wx = V.str wy) := by
        unfold chp
        rw [w1, w2]
        congr 1
        by_cases h : wx = wy
        · subst h; simp
        · have h2 : ¬ V.str wx = V.str wy := fun z => h (V.str.inj z)
          have h3 : ¬ some wx = some wy := fun z => h (Option.some.inj z)
          rw [decide_eq_false h2, decide_eq_false h3]
      refine ⟨_, rfl, _, rfl, rfl, _, rfl, ite2 (fun h => ?_) (fun h => ?_)⟩
      · exact p1 _ (hc.trans h) st
      · exact p0 _ (hc.trans (by simpa using h)) st
    · intro H3 s3 hq
      rw [ones] at hq
      refine ⟨q, _, rfl, SqL.of hq, ?_⟩
      rw [sum_ones]
      exact k H3 (s1.trans (s2.trans s3))
end
end K75
set_option Elab.async false
set_option linter.all false
set_option maxRecDepth 100000
set_option maxHeartbeats 4000000
namespace K75
open PySem L2 TL PyProof.Rows
theorem txRun_nil : txRun [] = Str.ofString "-" := by decide +kernel
theorem txRun_ne {run : List (Str × Int)} (h : run ≠ []) : txRun run = Str.join (chS 32) (run.map txM) := by
  cases run with
  | nil => exact absurd rfl h
  | cons k r =>
    unfold txRun
    refine str_ext ?_
    rw [cps_app]
    show _ ++ [] = _
    rw [List.append_nil]
theorem empty_app (x : Str) : Str.empty ++ x = x := by
  refine str_ext ?_
  rw [cps_app]; rfl
abbrev s_show_train : Stmt := top 19
theorem sc_show_train : FnScope ["train"] ["train"] (defScope s_show_train) := ⟨rfl, rfl, rfl, by decide +kernel, rfl, by decide +kernel, by decide +kernel⟩
theorem cc_show_train_0 : CompOk (defScope s_show_train) ["train"] { kind := .function, names := [(Str.ofString ".0", .local), (Str.ofString "end", .local), (Str.ofString "show_end", .globalImplicit)], isGenerator := false, isCoroutine := false, more := [] } ["end"] 1 [none] := ⟨rfl, by decide +kernel, by decide +kernel, by decide +kernel, rfl, by decide +kernel, rfl, by decide +kernel⟩

abbrev s_show_run : Stmt := top 20
theorem sc_show_run : FnScope ["run"] ["run"] (defScope s_show_run) := ⟨rfl, rfl, rfl, by decide +kernel, rfl, by decide +kernel, by decide +kernel⟩
theorem cc_show_run_0 : CompOk (defScope s_show_run) ["run"] { kind := .function, names := [(Str.ofString ".0", .local), (Str.ofString "word", .local), (Str.ofString "end", .local), (Str.ofString "show_end", .globalImplicit)], isGenerator := false, isCoroutine := false, more := [] } ["word", "end"] 2 [none, none] := ⟨rfl, by decide +kernel, by decide +kernel, by decide +kernel, rfl, by decide +kernel, rfl, by decide +kernel⟩

section
variable {P : Program} {w : World} {K : PySem.W.Frag} {mg : Str → Option Value} {base : Heap} {f : Addr} {fd : FuncData}
theorem ok_show_train {f1 : Addr} {fd1 : FuncData} (F : Fn K mg "show_train" s_show_train ["train"] f fd) (F_show_end : Fn K mg "show_end" s_show_end ["end"] f1 fd1) (G_show_end : FnOk P w K mg base CX0 2 f1 fd1 ["end"] sp_showend) : FnOk P w K mg base CX0 3 f fd ["train"] (sp_ttext K) := by
  refine F.F.ok sc_show_train (fun vs H Q E h => ?_) (fun cdv A outer s H vs Q E hr h => ?_)
  · obtain ⟨v, ns, rfl, _⟩ := h; rfl
  · obtain ⟨v, ns, rfl, hv, hN, k⟩ := h
    obtain ⟨a, rfl, hS⟩ := da_ints.mp hv
    have hl := hN.1
    refine ⟨_, (pss_one (ps_ret (pe_bm PySem.F.plainAttrs_str PySem.F.slot_str_join PySem.F.type_str_join mt_join pe_str (pa_cons (pe_lc (pi_list (pv 0)) rfl cc_show_train_0 (.name (by decide)) (fun _ _ _ _ => (pg_name (i := 0) cc_show_train_0.nd rfl (Or.inl rfl))) (fun _ _ _ _ => pifs_nil) (fun _ _ _ _ => (pe_call G_show_end (hr.mono (by decide)) rfl F_show_end.m F_show_end.F.kp F_show_end.b .nil pass0 (pa_cons (pv 0) pa_nil)))) pa_nil)))), ?_⟩
    refine ⟨rfl, _, rfl, a, rfl, ⟨_, hS⟩, fun t nt => lc_grow ns.length ns (fun _ => true) (fun e => V.str (txE e)) nt rfl (small_l (by omega)) (fun i H s hi => (js_list hS).go i H s (by rw [List.length_map]; exact hi)) (fun H s => by have := (js_list hS).stop H s; rw [List.length_map] at this; exact this) ?_ ?_⟩
    · intro i y d G G' sG yy hd P1 P0 p1 p0
      have hi : i < ns.length := (List.getElem?_eq_some_iff.mp hd).1
      obtain ⟨rfl, hx'⟩ := (js_list hS).yld i G y G' sG (by rw [List.length_map]; exact hi) yy
      rw [List.getElem?_map, hd] at hx'
      cases hx'
      have he := hN.2 d (List.mem_of_getElem? hd)
      refine name_yes ?_
      exact ⟨_, rfl, d, rfl, he.1, he.2, p1 _ rfl (Same.refl _)⟩
    intro H5 s5 h5
    rw [filt_true] at h5
    refine ⟨_, t, ns.map txE, rfl, rfl, SqL.of (by rw [h5, List.map_map]; rfl), fun y hy => ?_, by rw [List.length_map]; omega, by decide, ?_⟩
    · obtain ⟨e, he, rfl⟩ := List.mem_map.mp hy
      have := (txE_rd (hN.2 e he).1 (hN.2 e he).2).2.2
      omega
    · rw [blank_is]
      exact k _ s5
theorem ok_show_run {f1 : Addr} {fd1 : FuncData} (F : Fn K mg "show_run" s_show_run ["run"] f fd) (F_show_end : Fn K mg "show_end" s_show_end ["end"] f1 fd1) (G_show_end : FnOk P w K mg base CX0 2 f1 fd1 ["end"] sp_showend) : FnOk P w K mg base CX0 3 f fd ["run"] (sp_rtext K) := by
  refine F.F.ok sc_show_run (fun vs H Q E h => ?_) (fun cdv A outer s H vs Q E hr h => ?_)
  · obtain ⟨v, run, rfl, _⟩ := h; rfl
  · obtain ⟨v, run, rfl, hv, hK, k⟩ := h
    obtain ⟨a, us, rfl, hS, D⟩ := dg_list.mp hv
    have hl := hK.1
    have ul : us.length = run.length := by have := Dgs.length D; rw [List.length_map] at this; exact this
    refine ⟨_, (pss_cons (ps_if (pt_not (pt_truth (pv 0) (fun _ => rfl)))
  (pss_one (ps_ret pe_str)) pss_nil)
 (pss_one (ps_ret (pe_bm PySem.F.plainAttrs_str PySem.F.slot_str_join PySem.F.type_str_join mt_join pe_str (pa_cons (pe_lc (pi_list (pv 0)) rfl cc_show_run_0 (.tup (.cons (.name (by decide)) (.cons (.name (by decide)) .nil))) (fun _ _ _ _ => (pg_tup (n := 2) rfl (pgs_cons (pg_name (i := 0) cc_show_run_0.nd rfl (Or.inl rfl)) (pgs_cons (pg_name (i := 1) cc_show_run_0.nd rfl (Or.inl rfl)) pgs_nil)))) (fun _ _ _ _ => pifs_nil) (fun _ _ _ _ => (pe_fstr (pf_val (pv 0) (pf_const (pf_val (pe_call G_show_end (hr.mono (by decide)) rfl F_show_end.m F_show_end.F.kp F_show_end.b .nil pass0 (pa_cons (pv 1) pa_nil)) pf_nil)))))) pa_nil))))), ?_⟩
    refine ⟨_, rfl, _, .inl ⟨_, hS, rfl⟩, ite2 (fun h => ?_) (fun h => ?_)⟩
    · have h : us = [] := by simpa using h
      have hr : run = [] := List.length_eq_zero_iff.mp (by rw [← ul, h]; rfl)
      have := k H (Same.refl _)
      rw [hr, txRun_nil] at this
      exact this
    have hne : run ≠ [] := fun e => h (by
      have : us = [] := List.length_eq_zero_iff.mp (by rw [ul, e]; rfl)
      simp [this])
    refine ⟨rfl, _, rfl, a, rfl, ⟨_, hS⟩, fun t nt => lc_grow run.length run (fun _ => true) (fun k => V.str (txM k)) nt rfl (small_l (by omega)) (fun i H s hi => (js_list hS).go i H s (by rw [ul]; exact hi)) (fun H s => by have := (js_list hS).stop H s; rw [ul] at this; exact this) ?_ ?_⟩
    · intro i y d G G' sG yy hd P1 P0 p1 p0
      have hi : i < run.length := (List.getElem?_eq_some_iff.mp hd).1
      obtain ⟨rfl, hx'⟩ := (js_list hS).yld i G y G' sG (by rw [ul]; exact hi) yy
      obtain ⟨kq, hk, dk⟩ := das_at (Das.same sG D) hx'
      rw [hd] at hk
      cases hk
      obtain ⟨ad, rfl, hA⟩ := da_M dk
      obtain ⟨g1, g2, g3⟩ := hK.2 d (List.mem_of_getElem? hd)
      have gl := (word_free g1).2
      have e4 : (Str.ofString " ").length = 1 := by decide +kernel
      have gt := (txE_rd g2 g3).2.2
      refine ⟨ad, _, rfl, hA, rfl, _, _, rfl, _, _, rfl, rfl, ?_⟩
      unfold tYes
      dsimp only
      rw [if_pos rfl]
      have e5 : Str.empty ++ d.1 = d.1 := empty_app _
      refine ⟨_, rfl, d.1, .inr ⟨rfl, by rw [sizeLine_eq]; omega⟩, by rw [e5, sizeLine_eq]; omega, by rw [e5, Str.length_append, sizeLine_eq]; omega, _, rfl, d.2, rfl, g2, g3, txE d.2, .inr ⟨rfl, by rw [sizeLine_eq]; omega⟩, by rw [e5, Str.length_append, Str.length_append, sizeLine_eq]; omega, ?_⟩
      rw [e5]
      refine ⟨by rw [Str.length_append, Str.length_append, sizeLine_eq]; omega, ?_⟩
      exact p1 _ rfl (Same.refl _)
    intro H5 s5 h5
    rw [filt_true] at h5
    refine ⟨_, t, run.map txM, rfl, rfl, SqL.of (by rw [h5, List.map_map]; rfl), fun y hy => ?_, by rw [List.length_map]; omega, by decide, ?_⟩
    · obtain ⟨kq, hk, rfl⟩ := List.mem_map.mp hy
      obtain ⟨g1, g2, g3⟩ := hK.2 kq hk
      have gl := (word_free g1).2
      have e4 : (Str.ofString " ").length = 1 := by decide +kernel
      have gt := (txE_rd g2 g3).2.2
      unfold txM
      rw [Str.length_append, Str.length_append]; omega
    rw [blank_is, ← txRun_ne hne]
    exact k _ s5
end
end K75
set_option Elab.async false
set_option linter.all false
set_option maxRecDepth 100000
set_option maxHeartbeats 4000000
namespace K75
open PySem L2 TL PyProof.Rows
def sp_gone (K : PySem.W.Frag) : Sp := fun vs H Q _ => ∃ (v r : V) (u : Addr) (l : Ln) (ns : List Int) (run : List (Str × Int)), vs = [v, .ref u, r] ∧ Da K H (dL l) v ∧ H u = some (.lst (ns.map V.int)) ∧ Da K H (dR run) r ∧ (∀ k ∈ run, PyData.strOk k.1 = true) ∧ LineOk l ∧ (∀ p ∈ l.2, p.1 ≠ p.2) ∧ ns ≠ [] ∧ ns.length ≤ 900 ∧ run.length ≤ 100000 ∧ (wkl l ns run).isSome = true ∧
  (∀ ts, wkl l ns run = some ts → WkOk ns run.length ts → ∀ p as H', Same H H' → AtL H' p as ts → Q (.ref p) H')
def sp_undone (K : PySem.W.Frag) : Sp := fun vs H Q _ => ∃ (p : Addr) (r : V) (as : List Addr) (ts : List (List Int)) (run : List (Str × Int)), vs = [.ref p, r] ∧ AtL H p as ts ∧ Da K H (dR run) r ∧ ts.length = run.length + 1 ∧ (∀ t ∈ ts, t ≠ []) ∧ run.length ≤ 1000 ∧
  ∀ q H', Same H H' → H q = none → RunAt K H' q (undo ts run) → Q (.ref q) H'
abbrev s_law_gone : Stmt := top 51
theorem sc_law_gone : FnScope ["_law_line_here", "_law_train_here", "_law_run_here", "_law_found", "_law_move", "_law_there"] ["_law_line_here", "_law_train_here", "_law_run_here"] (defScope s_law_gone) := ⟨rfl, rfl, rfl, by decide +kernel, rfl, by decide +kernel, by decide +kernel⟩
theorem cc_law_gone_0 : CompOk (defScope s_law_gone) ["_law_line_here", "_law_train_here", "_law_run_here", "_law_found", "_law_move", "_law_there"] { kind := .function, names := [(Str.ofString ".0", .local), (Str.ofString "_law_one", .local), (Str.ofString "_law_behind", .local), (Str.ofString "_law_move", .free)], isGenerator := false, isCoroutine := false, more := [] } ["_law_one", "_law_behind", "_law_move"] 2 [none, none, some 4] := ⟨rfl, by decide +kernel, by decide +kernel, by decide +kernel, rfl, by decide +kernel, rfl, by decide +kernel⟩

abbrev s_law_undone : Stmt := top 52
theorem sc_law_undone : FnScope ["_law_trains", "_law_run_here", "_law_found", "_law_k"] ["_law_trains", "_law_run_here"] (defScope s_law_undone) := ⟨rfl, rfl, rfl, by decide +kernel, rfl, by decide +kernel, by decide +kernel⟩

section
variable {P : Program} {w : World} {K : PySem.W.Frag} {mg : Str → Option Value} {base : Heap} {f : Addr} {fd : FuncData}
theorem ok_law_gone {f1 : Addr} {fd1 : FuncData} (F : Fn K mg "_law_gone" s_law_gone ["_law_line_here", "_law_train_here", "_law_run_here"] f fd) (F_law_moves : Fn K mg "_law_moves" s_law_moves ["_law_line_here", "_law_train_here"] f1 fd1)
    (G_law_moves : FnOk P w K mg base CX0 2 f1 fd1 ["_law_line_here", "_law_train_here"] (sp_moves K)) : FnOk P w K mg base CX0 3 f fd ["_law_line_here", "_law_train_here", "_law_run_here"] (sp_gone K) := by
  refine F.F.ok sc_law_gone (fun vs H Q E h => ?_) (fun cdv A outer s H vs Q E hr h => ?_)
  · obtain ⟨v, r, u, l, ns, run, rfl, _⟩ := h; rfl
  · obtain ⟨v, r, u, l, ns, run, rfl, hv, hu, hr0, hk, ok, hnp, hne, hz, hzr, hgo, k1⟩ := h
    obtain ⟨ar, vr, rfl, har, hvr⟩ := dg_list.mp hr0
    have hlr : vr.length = run.length := by have := Dgs.length hvr; rw [List.length_map] at this; exact this
    refine ⟨_, (pss_cons (ps_set (i := 3) sc_law_gone.nd rfl (Or.inl rfl) (pe_lst (pa_cons (pv 1) pa_nil)))
 (pss_cons (ps_for PassesOwn.never rfl (pi_list (pv 2)) (pg_name (i := 4) sc_law_gone.nd rfl (Or.inr rfl))
  (pss_cons (ps_lc (i := 5) sc_law_gone.nd rfl rfl (pi_list (pe_call G_law_moves (hr.mono (by decide)) rfl F_law_moves.m F_law_moves.F.kp F_law_moves.b .nil pass0 (pa_cons (pv 0) (pa_cons (pe_ix ix_list (pv 3) (pe_un un_neg pe_int) (fun _ _ => rfl)) pa_nil)))) rfl cc_law_gone_0 (.tup (.cons (.name (by decide)) (.cons (.name (by decide)) .nil))) (fun _ _ _ _ => (pg_tup (n := 2) rfl (pgs_cons (pg_name (i := 0) cc_law_gone_0.nd rfl (Or.inl rfl)) (pgs_cons (pg_name (i := 1) cc_law_gone_0.nd rfl (Or.inl rfl)) pgs_nil)))) (fun _ _ _ _ => (pifs_one (pt_cmpR (op_eqDk (K := K) rfl hr.units) (pv 0) (pv 2) (nomark _)))) (fun _ _ _ _ => (pv 1)))
 (pss_one (ps_expr (pe_bm PySem.F.plainAttrs_list PySem.F.slot_list_append PySem.F.type_list_append mt_append (pv 3) (pa_cons (pe_ix ix_list (pv 5) pe_int (fun _ _ => rfl)) pa_nil))))))
 (pss_one (ps_ret (pv 3))))), ?_⟩
    refine ⟨_, rfl, by show 1 ≤ sizeLine; decide, fun p np => ?_⟩
    have s1 := same_upd (o := .lst [V.ref u]) np
    refine ⟨_, rfl, ar, rfl, ⟨_, s1.seq har⟩, for_list (K := K) (a := ar) (xs := vr) (fun i σ H3 => ∃ (x4 x5 : Option V) (ts : List (List Int)) (as : List Addr), σ = [some v, some (.ref u), some (.ref ar), some (.ref p), x4, x5] ∧ wkl l ns (run.take i) = some ts ∧ WkOk ns i ts ∧ Same H H3 ∧ AtL H3 p as ts)
      ⟨none, none, [ns], [u], rfl, rfl, ⟨rfl, fun t ht => by have e : t = ns := (by simpa using ht); rw [e]; exact ⟨hne, rfl⟩⟩, s1, ⟨upd_same, rfl, fun i b t hb ht => ?_⟩⟩ (fun i σ H3 _ ⟨_, _, _, _, _, _, _, s, _⟩ => s.seq har) ?_ ?_⟩
    · match i, hb, ht with
      | 0, hb, ht => cases hb; cases ht; exact ⟨ne_of_none hu np, s1 _ _ hu⟩
    · rintro i y σ H3 hi ⟨x4, x5, ts, as, rfl, hw, wo, S3, A3⟩
      obtain ⟨k, hki, dk⟩ := das_at hvr hi
      have hil : i < run.length := by have := (List.getElem?_eq_some_iff.mp hi).1; omega
      have tne : ts ≠ [] := fun e => by have := wo.len; rw [e] at this; simp at this
      have vl := A3.len
      have hp3 := A3.at_
      have tlen := wo.len
      have gl : ts[ts.length - 1]? = some (ts.getLastD []) := by
        rw [List.getLastD_eq_getLast?, List.getLast?_eq_getElem?, List.getElem?_eq_getElem (by omega)]; rfl
      obtain ⟨t1, t2⟩ := wo.each _ (List.mem_of_getElem? gl)
      obtain ⟨lb, g1, _, g2⟩ := A3.get gl
      refine ⟨_, rfl, _, rfl, _, rfl, p, _, _, _, rfl, rfl, SqL.of hp3, at_neg1 (by rw [List.length_map, vl, List.getElem?_map, g1]; rfl), _, _, l, _, rfl, Da.same S3 hv, da_new g2, ok, hnp, t1, by omega, fun pm vm H6 s6 hpm hpm2 Dm => ?_⟩
      obtain ⟨bs, hb1, hb2, hb3⟩ := ma_all Dm
      subst hb2
      have bl : bs.length ≤ 120 := by have h1 := congrArg List.length hb1; rw [List.length_map] at h1; rw [h1]; exact mvs_len ok _
      refine ⟨pm, rfl, ⟨_, SqL.of hpm2⟩, fun pd npd => lc_pureJ (js_list (SqL.of hpm2)) bs (fun x => decide (x.1.1 = k)) (fun x => V.ref x.2.2) npd (by rw [List.length_map]) (small_l (by rw [List.length_map]; omega)) ?_ ?_⟩
      · intro j x d H' hx hd sm P1 P0 q1 q0
        rw [List.getElem?_map, hd] at hx
        cases hx
        obtain ⟨⟨p1, ht, hdm⟩, _⟩ := hb3 d (List.mem_of_getElem? hd)
        refine ⟨d.2.1, _, rfl, same_tseq sm ht, rfl, _, _, rfl, _, _, rfl, rfl, ?_⟩
        refine ⟨_, rfl, _, rfl, dM d.1.1, dM k, Da.same sm hdm, Da.same (S3.trans (s6.trans sm)) dk, okD_M (strOk_mvs l _ d.1 (by rw [← hb1]; exact List.mem_map.mpr ⟨d, List.mem_of_getElem? hd, rfl⟩)), okD_M (hk k (List.mem_of_getElem? hki)), _, rfl, ?_⟩
        rw [eqv_M]
        exact ite2 (fun h => ⟨_, rfl, q1 h⟩) (fun h => q0 (by simpa using h))
      generalize hcs : bs.filter (fun x => decide (x.1.1 = k)) = cs
      have hf : fnd (mvs l (ts.getLastD [])) k = cs.head?.map (·.1.2) := by
        rw [← hb1, ← hcs]
        unfold fnd
        rw [List.find?_map, ← List.head?_filter, Option.map_map]
        rfl
      have cm : ∀ x ∈ cs, MaOk K H3 H6 pm x := fun x hx => by rw [← hcs] at hx; exact hb3 x (List.mem_filter.mp hx).1
      have s7 := same_upd (o := .lst (cs.map fun x => V.ref x.2.2)) npd
      have hd7 := upd_same (H := H6) (a := pd) (o := .lst (cs.map fun x => V.ref x.2.2))
      generalize upd H6 pd _ = H7 at s7 hd7 ⊢
      have S7 := S3.trans (s6.trans s7)
      cases cs with
      | nil =>
        have : wkl l ns run = none := wkl_none (i := i + 1) (by
          rw [wkl_take hki, hw]
          show (fnd _ _).map _ = _
          rw [hf]; rfl)
        rw [this] at hgo
        exact absurd hgo (by simp)
      | cons x r =>
        have hp8 := (s6.trans s7) _ _ hp3
        obtain ⟨_, x1, x2, x3⟩ := cm x List.mem_cons_self
        have xp : x.2.2 ≠ p := Ne.symm (ne_of_none hp3 x2)
        have hfx : fnd (mvs l (ts.getLastD [])) k = some x.1.2 := hf
        refine ⟨_, rfl, .inl ⟨rfl, _, SqL.of hp8⟩, _, rfl, pd, _, _, _, rfl, rfl, SqL.of (hd7), at0 _ _, p, _, _, rfl, rfl, hp8, big_l (by rw [List.length_map]; omega), ?_⟩
        exact ⟨_, _, ts ++ [x.1.2], as ++ [x.2.2], rfl, by rw [wkl_take hki, hw]; show (fnd _ _).map _ = _; rw [hfx]; rfl, wo.snoc hfx, Same.upd S7 np, AtL.push (A3.same (s6.trans s7)) xp (s7 _ _ x1)⟩
    rintro σ H3 ⟨x4, x5, ts, as, rfl, hw, wo, S3, A3⟩
    rw [hlr, List.take_length] at hw
    rw [hlr] at wo
    exact ⟨_, rfl, k1 ts hw wo p as H3 S3 A3⟩
theorem undo_at {ts : List (List Int)} {run : List (Str × Int)} {i : Nat} (hi : i < run.length) : (undo ts run)[i]? = some (und (run.getD (run.length - 1 - i) (Str.ofString "", 0)) (ts.getD (run.length - 1 - i) [])) := by
  unfold undo
  rw [List.getElem?_map, List.getElem?_reverse (by simpa using hi), List.length_range, List.getElem?_range (by omega)]
  rfl
theorem ok_law_undone {f1 : Addr} {fd1 : FuncData} (F : Fn K mg "_law_undone" s_law_undone ["_law_trains", "_law_run_here"] f fd) (B : Bm mg) (F_law_other : Fn K mg "_law_other" s_law_other ["_law_end"] f1 fd1) : FnOk P w K mg base CX0 2 f fd ["_law_trains", "_law_run_here"] (sp_undone K) := by
  have G_law_other : FnOk P w K mg base CX0 1 f1 fd1 ["_law_end"] sp_other := ok_law_other F_law_other
  refine F.F.ok sc_law_undone (fun vs H Q E h => ?_) (fun cdv A outer s H vs Q E hr h => ?_)
  · obtain ⟨p, r, as, ts, run, rfl, _⟩ := h; rfl
  · obtain ⟨p, r, as, ts, run, rfl, A0, hr0, tl, tne, hzr, k⟩ := h
    obtain ⟨ar, vr, rfl, har, hvr⟩ := dg_list.mp hr0
    have hlr : vr.length = run.length := by have := Dgs.length hvr; rw [List.length_map] at this; exact this
    refine ⟨_, (pss_cons (ps_set (i := 2) sc_law_undone.nd rfl (Or.inl rfl) (pe_lst pa_nil))
 (pss_cons (ps_for PassesOwn.never rfl (pi_rangeD rfl B.range (pa_cons (pe_op op_sub (pe_callB call_len_seq rfl B.len boot_len (pa_cons (pv 1) pa_nil)) pe_int) (pa_cons (pe_un un_neg pe_int) (pa_cons (pe_un un_neg pe_int) pa_nil)))) (pg_name (i := 3) sc_law_undone.nd rfl (Or.inl rfl))
  (pss_one (ps_if (pt_cmpR op_eq (pe_ix ix_tup (pe_ix ix_list (pv 1) (pv 3) (fun _ _ => rfl)) pe_int (fun _ _ => rfl)) pe_str (nomark _))
  (pss_one (ps_expr (pe_bm PySem.F.plainAttrs_list PySem.F.slot_list_append PySem.F.type_list_append mt_append (pv 2) (pa_cons (pe_tup (pa_cons pe_str (pa_cons (pe_call G_law_other (hr.mono (by decide)) rfl F_law_other.m F_law_other.F.kp F_law_other.b .nil pass0 (pa_cons (pe_ix ix_list (pe_ix ix_list (pv 0) (pv 3) (fun _ _ => rfl)) pe_int (fun _ _ => rfl)) pa_nil)) pa_nil))) pa_nil)))) (pss_one (ps_expr (pe_bm PySem.F.plainAttrs_list PySem.F.slot_list_append PySem.F.type_list_append mt_append (pv 2) (pa_cons (pe_tup (pa_cons pe_str (pa_cons (pe_ix ix_list (pe_ix ix_list (pv 0) (pv 3) (fun _ _ => rfl)) (pe_un un_neg pe_int) (fun _ _ => rfl)) pa_nil))) pa_nil)))))))
 (pss_one (ps_ret (pv 2))))), ?_⟩
    refine ⟨Nat.zero_le _, fun q nq => ?_⟩
    have s1 := same_upd (o := .lst []) nq
    have hq := upd_same (H := H) (a := q) (o := .lst [])
    generalize upd H q _ = H1 at s1 hq ⊢
    refine ⟨_, rfl, ar, _, rfl, .inl (s1.seq har), _, _, rfl, rfl, _, rfl, _, rfl, _, _, rfl, ⟨by show (-1000000 : Int) ≤ (vr.length : Int) - 1; omega, by show (vr.length : Int) - 1 < 1000000; omega, by decide, by decide⟩,
      for_rangeD (fun i σ H3 => ∃ x3 : Option V, σ = [some (.ref p), some (.ref ar), some (.ref q), x3] ∧ Same H H3 ∧ RunAt K H3 q ((undo ts run).take i)) ⟨none, rfl, s1, ⟨⟨[], hq, dgs_nil.mpr rfl⟩, fun k hk => by simp at hk⟩⟩ ?_ ?_⟩
    · rintro i σ H3 hi ⟨x3, rfl, S3, R3⟩
      have hi : i < run.length := by
        have h : i < ((vr.length : Int) - 1 - -1).toNat := hi
        omega
      have ek : (vr.length : Int) - 1 + (i : Int) * -1 = ((run.length - 1 - i : Nat) : Int) := by omega
      obtain ⟨kq, hkq⟩ : ∃ kq, run[run.length - 1 - i]? = some kq := ⟨run[run.length - 1 - i]'(by omega), by simp⟩
      obtain ⟨t, ht⟩ : ∃ t, ts[run.length - 1 - i]? = some t := ⟨ts[run.length - 1 - i]'(by omega), by simp⟩
      have hu := undo_at (ts := ts) hi
      rw [List.getD_eq_getElem?_getD, List.getD_eq_getElem?_getD, hkq, ht] at hu
      have hu : (undo ts run)[i]? = some (und kq t) := hu
      have hne := tne t (List.mem_of_getElem? ht)
      obtain ⟨yv, hy1, hy2⟩ := Dgs.get' (Das.same S3 hvr) (i := run.length - 1 - i) (d := dM kq) (by rw [List.getElem?_map, hkq]; rfl)
      obtain ⟨ad, rfl, hA⟩ := da_M hy2
      obtain ⟨tb, hb1, hb2, hb3⟩ := (A0.same S3).get ht
      have ha3 := (A0.same S3).at_
      obtain ⟨⟨vq, hq3, dq⟩, okq⟩ := id R3
      have lq : vq.length ≤ 1000 := by
        have h1 := Dgs.length dq
        rw [List.length_map, List.length_take] at h1
        omega
      have atr : atI vr ((vr.length : Int) - 1 + (i : Int) * -1) = some (.ref ad) := by rw [ek]; exact atI_nat hy1
      have ata : atI (as.map V.ref) ((vr.length : Int) - 1 + (i : Int) * -1) = some (.ref tb) := by rw [ek]; exact atI_nat (by rw [List.getElem?_map, hb1]; rfl)
      have fin : ∀ (kk : Str × Int) (tp : Addr) (G : Hp), PyData.strOk kk.1 = true → und kq t = kk → Same H3 G → G tp = some (.tup [.str kk.1, .int kk.2]) → ∃ x3 : Option V, ([some (V.ref p), some (.ref ar), some (.ref q), some (.int ((vr.length : Int) - 1 + (i : Int) * -1))] : St) = [some (.ref p), some (.ref ar), some (.ref q), x3] ∧ Same H (upd G q (.lst (vq ++ [.ref tp]))) ∧ RunAt K (upd G q (.lst (vq ++ [.ref tp]))) q ((undo ts run).take (i + 1)) := by
        intro kk tp G h1 h2 sG hG
        refine ⟨_, rfl, Same.upd (S3.trans sG) nq, ⟨⟨_, upd_same, ?_⟩, fun k hk => ?_⟩⟩
        · rw [hid_upd, List.take_add_one, hu, List.map_append]
          refine Dgs.append (Das.same (hid_mono sG) dq) (Dgs.one ?_)
          rw [h2]
          exact hid_M (sG _ _ hq3) (da_M' (SqT.of hG))
        · rw [List.take_add_one, hu] at hk
          rcases List.mem_append.mp hk with z | z
          · exact okq k z
          · have z : k = und kq t := by simpa using z
            rw [z, h2]; exact h1
      refine ⟨_, rfl, _, rfl, ar, _, _, _, rfl, rfl, S3.seq har, atr, ad, _, _, _, rfl, rfl, hA, rfl, rfl, _, rfl, ite2 (fun h => ?_) (fun h => ?_)⟩
      · have h : kq.1 = Str.ofString "on" := V.str.inj (of_decide_eq_true h)
        refine ⟨_, rfl, .inl ⟨rfl, _, SqL.of hq3⟩, _, rfl, _, rfl, p, _, _, _, rfl, rfl, SqL.of ha3, ata, tb, _, _, _, rfl, rfl, SqL.of hb3, at_first hne, _, rfl, by show 2 ≤ sizeLine; decide, fun tp ntp => ?_⟩
        have s4 := same_upd (o := .tup [.str "back", .int (oth (t.headD 0))]) ntp
        refine ⟨q, _, _, rfl, rfl, s4 _ _ hq3, small_l (by omega), ?_⟩
        exact fin (Str.ofString "back", oth (t.headD 0)) tp _ (strOk_word (.inr rfl)) (by unfold und; rw [if_pos h]) s4 upd_same
      · have h : ¬ kq.1 = Str.ofString "on" := fun e => h (decide_eq_true (congrArg V.str e))
        refine ⟨_, rfl, .inl ⟨rfl, _, SqL.of hq3⟩, _, rfl, _, rfl, p, _, _, _, rfl, rfl, SqL.of ha3, ata, _, rfl, tb, _, _, _, rfl, rfl, SqL.of hb3, TL.at_last hne, by show 2 ≤ sizeLine; decide, fun tp ntp => ?_⟩
        have s4 := same_upd (o := .tup [.str "on", .int (t.getLastD 0)]) ntp
        refine ⟨q, _, _, rfl, rfl, s4 _ _ hq3, small_l (by omega), ?_⟩
        exact fin (Str.ofString "on", t.getLastD 0) tp _ (strOk_word (.inl rfl)) (by unfold und; rw [if_neg h]) s4 upd_same
    · rintro σ H3 ⟨x3, rfl, S3, R3⟩
      refine ⟨_, rfl, k q H3 S3 nq ?_⟩
      rw [List.take_of_length_le (by rw [undo_len]; omega)] at R3
      exact R3
end
end K75
set_option Elab.async false
set_option linter.all false
set_option maxRecDepth 100000
set_option maxHeartbeats 4000000
namespace K75
open PySem L2 TL PyProof.Rows
def sp_good (K : PySem.W.Frag) : Sp := fun vs H Q _ => ∃ (v r : V) (u : Addr) (l : Ln) (ns : List Int) (run : List (Str × Int)) (b : List Int), vs = [v, .ref u, r] ∧ Da K H (dL l) v ∧ H u = some (.lst (ns.map V.int)) ∧ Da K H (dR run) r ∧ isLine l ∧ l.2.length ≤ 30 ∧ TrOk l ns ∧ ns ≠ [] ∧ ns.length ≤ 30 ∧ run.length ≤ 60 ∧ Steps l ns run b ∧ ∀ H', Same H H' → Q (.bl true) H'
theorem chg_eq (ws : List Str) : ((List.range (ws.length - 1)).filter fun i => !decide (ws.getD (i + 1) Str.empty = ws.getD i Str.empty)).length = chg ws := by
  unfold chg
  congr 1
  refine List.filter_congr fun i hi => ?_
  have hi : i < ws.length - 1 := by simpa using hi
  unfold chp
  rw [List.getD_eq_getElem?_getD, List.getD_eq_getElem?_getD, List.getElem?_eq_getElem (show i < ws.length by omega), List.getElem?_eq_getElem (show i + 1 < ws.length by omega)]
  simp [eq_comm]
abbrev s_law_good : Stmt := top 53
theorem sc_law_good : FnScope ["_law_line_here", "_law_train_here", "_law_run_here", "_law_here", "_law_first", "_law_moves_here", "_law_due", "_law_k", "_law_back", "_law_last"] ["_law_line_here", "_law_train_here", "_law_run_here"] (defScope s_law_good) := ⟨rfl, rfl, rfl, by decide +kernel, rfl, by decide +kernel, by decide +kernel⟩
theorem cc_law_good_0 : CompOk (defScope s_law_good) ["_law_line_here", "_law_train_here", "_law_run_here", "_law_here", "_law_first", "_law_moves_here", "_law_due", "_law_k", "_law_back", "_law_last"] { kind := .function, names := [(Str.ofString ".0", .local), (Str.ofString "_law_k", .local), (Str.ofString "_law_run_here", .free)], isGenerator := false, isCoroutine := false, more := [] } ["_law_k", "_law_run_here"] 1 [none, some 2] := ⟨rfl, by decide +kernel, by decide +kernel, by decide +kernel, rfl, by decide +kernel, rfl, by decide +kernel⟩

section
variable {P : Program} {w : World} {K : PySem.W.Frag} {mg : Str → Option Value} {base : Heap} {f : Addr} {fd : FuncData} {c1 c2 c3 c6 : Addr}
theorem ok_law_good {f1 f2 f3 f4 f5 f6 f7 f8 f9 f10 f11 f12 f13 f14 f15 f16 : Addr} {fd1 fd2 fd3 fd4 fd5 fd6 fd7 fd8 fd9 fd10 fd11 fd12 fd13 fd14 fd15 fd16 : FuncData} (F : Fn K mg "_law_good" s_law_good ["_law_line_here", "_law_train_here", "_law_run_here"] f fd) (B : Bm mg)
    (F_law_line_text : Fn K mg "_law_line_text" s_law_line_text ["_law_line_here"] f1 fd1) (G_law_line_text : FnOk P w K mg base CX0 2 f1 fd1 ["_law_line_here"] (sp_ltext K))
    (F_law_train_text : Fn K mg "_law_train_text" s_law_train_text ["_law_train_here"] f2 fd2) (G_law_train_text : FnOk P w K mg base CX0 2 f2 fd2 ["_law_train_here"] (sp_ttext K))
    (F_law_run_text : Fn K mg "_law_run_text" s_law_run_text ["_law_run_here"] f3 fd3) (G_law_run_text : FnOk P w K mg base CX0 2 f3 fd3 ["_law_run_here"] (sp_rtext K))
    (F_read_line : Fn K mg "read_line" s_read_line ["text"] f4 fd4) (G_read_line : FnOk P w K mg base (CXr P w base) 4 f4 fd4 ["text"] (sp_rl K c1 c6))
    (F_read_train : Fn K mg "read_train" s_read_train ["text"] f5 fd5) (G_read_train : FnOk P w K mg base (CXr P w base) 3 f5 fd5 ["text"] (sp_rt c6))
    (F_read_run : Fn K mg "read_run" s_read_run ["text"] f6 fd6) (G_read_run : FnOk P w K mg base (CXr P w base) 4 f6 fd6 ["text"] (sp_rr K c6))
    (F_check_line : Fn K mg "check_line" s_check_line ["line"] f7 fd7) (G_check_line : FnOk P w K mg base (CXr P w base) 3 f7 fd7 ["line"] (sp_cl K c1))
    (F_check_train : Fn K mg "check_train" s_check_train ["line", "train"] f8 fd8) (G_check_train : FnOk P w K mg base (CXr P w base) 2 f8 fd8 ["line", "train"] (sp_check K c2))
    (F_law_gone : Fn K mg "_law_gone" s_law_gone ["_law_line_here", "_law_train_here", "_law_run_here"] f9 fd9) (G_law_gone : FnOk P w K mg base CX0 3 f9 fd9 ["_law_line_here", "_law_train_here", "_law_run_here"] (sp_gone K))
    (F_walked : Fn K mg "walked" s_walked ["line", "train", "run"] f10 fd10) (G_walked : FnOk P w K mg base (CXr P w base) 5 f10 fd10 ["line", "train", "run"] (sp_walked K c3))
    (F_changes : Fn K mg "changes" s_changes ["run"] f11 fd11)
    (F_done : Fn K mg "done" s_done ["line", "train", "move"] f12 fd12) (G_done : FnOk P w K mg base (CXr P w base) 4 f12 fd12 ["line", "train", "move"] (sp_done K c3))
    (F_show_run : Fn K mg "show_run" s_show_run ["run"] f13 fd13) (G_show_run : FnOk P w K mg base CX0 3 f13 fd13 ["run"] (sp_rtext K))
    (F_show_train : Fn K mg "show_train" s_show_train ["train"] f14 fd14) (G_show_train : FnOk P w K mg base CX0 3 f14 fd14 ["train"] (sp_ttext K))
    (F_law_undone : Fn K mg "_law_undone" s_law_undone ["_law_trains", "_law_run_here"] f15 fd15) (G_law_undone : FnOk P w K mg base CX0 2 f15 fd15 ["_law_trains", "_law_run_here"] (sp_undone K))
    (F_turned : Fn K mg "turned" s_turned ["train"] f16 fd16) (G_turned : FnOk P w K mg base CX0 2 f16 fd16 ["train"] (sp_round K)) :
    FnOk P w K mg base CX0 6 f fd ["_law_line_here", "_law_train_here", "_law_run_here"] (sp_good K) := by
  have G_changes : FnOk P w K mg base CX0 1 f11 fd11 ["run"] (sp_changes K) := ok_changes F_changes B
  refine F.F.ok sc_law_good (fun vs H Q E h => ?_) (fun cdv A outer s H vs Q E hr h => ?_)
  · obtain ⟨v, r, u, l, ns, run, b, rfl, _⟩ := h; rfl
  · obtain ⟨v, r, u, l, ns, run, b, rfl, hv, hu, hr0, L, ll, T, hne, nl, rl, ST, k⟩ := h
    have ok : LineOk l := L.lineOk ll
    have hnp := L.ne
    have o40 := ok.most
    have sm := isLine.small L
    have hlen := (txL_split sm).2
    obtain ⟨ts, R⟩ := ST.trail ok T hne
    have tlen := R.len
    have hN : OkN ns := ⟨by omega, fun e he => by have := T.ends e he; omega⟩
    have hK : OkK run := ⟨by omega, fun kq hk => by have := ST.words ok kq hk; exact ⟨this.1, this.2.1, by omega⟩⟩
    have hKs : ∀ kq ∈ run, PyData.strOk kq.1 = true := fun kq hk => strOk_word (hK.2 kq hk).1
    have hU : OkK (undo ts run) := ⟨by rw [undo_len]; omega, fun kq hk => by have := R.words kq hk; exact ⟨this.1, this.2.1, by omega⟩⟩
    obtain ⟨Tb, bl, bne⟩ := R.ok b R.b_ok
    have hNb : OkN b := ⟨by omega, fun e he => by have := Tb.ends e he; omega⟩
    obtain ⟨r1, l1⟩ := rdT_T hN hne
    obtain ⟨r2, l2⟩ := rdR_R hK
    obtain ⟨r3, l3⟩ := rdR_R hU
    obtain ⟨r4, l4⟩ := rdT_T hNb bne
    refine ⟨_, (pss_cons (ps_set (i := 3) sc_law_good.nd rfl (Or.inl rfl) (pe_call G_read_line (hr.mono (by decide)) rfl F_read_line.m F_read_line.F.kp F_read_line.b .nil passes_no (pa_cons (pe_call G_law_line_text (hr.mono (by decide)) rfl F_law_line_text.m F_law_line_text.F.kp F_law_line_text.b .nil pass0 (pa_cons (pv 0) pa_nil)) pa_nil)))
 (pss_cons (ps_set (i := 4) sc_law_good.nd rfl (Or.inl rfl) (pe_call G_read_train (hr.mono (by decide)) rfl F_read_train.m F_read_train.F.kp F_read_train.b .nil passes_no (pa_cons (pe_call G_law_train_text (hr.mono (by decide)) rfl F_law_train_text.m F_law_train_text.F.kp F_law_train_text.b .nil pass0 (pa_cons (pv 1) pa_nil)) pa_nil)))
 (pss_cons (ps_set (i := 5) sc_law_good.nd rfl (Or.inl rfl) (pe_call G_read_run (hr.mono (by decide)) rfl F_read_run.m F_read_run.F.kp F_read_run.b .nil passes_no (pa_cons (pe_call G_law_run_text (hr.mono (by decide)) rfl F_law_run_text.m F_law_run_text.F.kp F_law_run_text.b .nil pass0 (pa_cons (pv 2) pa_nil)) pa_nil)))
 (pss_cons (ps_if (PW.pt (pw_or (pt_cmp (pc_notN (pe_call G_check_line (hr.mono (by decide)) rfl F_check_line.m F_check_line.F.kp F_check_line.b .nil passes_no (pa_cons (pv 3) pa_nil)))) (pw_or1 (pt_cmp (pc_notN (pe_call G_check_train (hr.mono (by decide)) rfl F_check_train.m F_check_train.F.kp F_check_train.b .nil passes_no (pa_cons (pv 3) (pa_cons (pv 4) pa_nil))))))))
  (pss_one (ps_ret pe_bl)) pss_nil)
 (pss_cons (ps_set (i := 6) sc_law_good.nd rfl (Or.inl rfl) (pe_call G_law_gone (hr.mono (by decide)) rfl F_law_gone.m F_law_gone.F.kp F_law_gone.b .nil pass0 (pa_cons (pv 0) (pa_cons (pv 1) (pa_cons (pv 2) pa_nil)))))
 (pss_cons (ps_if (pt_cmpR (op_neD hr.units) (pe_call G_walked (hr.mono (by decide)) rfl F_walked.m F_walked.F.kp F_walked.b .nil passes_no (pa_cons (pv 3) (pa_cons (pv 4) (pa_cons (pv 5) pa_nil)))) (pv 6) (nomark _))
  (pss_one (ps_ret pe_bl)) pss_nil)
 (pss_cons (ps_if (pt_cmp (pc_neI (pe_call G_changes (hr.mono (by decide)) rfl F_changes.m F_changes.F.kp F_changes.b .nil pass0 (pa_cons (pv 5) pa_nil)) (pe_callB call_len_seq rfl B.len boot_len (pa_cons (pe_lc (pi_range2 rfl B.range (pa_cons pe_int (pa_cons (pe_callB call_len_seq rfl B.len boot_len (pa_cons (pv 2) pa_nil)) pa_nil))) rfl cc_law_good_0 (.name (by decide)) (fun _ _ _ _ => (pg_name (i := 0) cc_law_good_0.nd rfl (Or.inl rfl))) (fun _ _ _ _ => (pifs_one (pt_cmpR op_ne (pe_ix (ix_tupk (K := K) rfl) (pe_ix (ix_listk (K := K) rfl) (pv 1) (pv 0) (fun _ _ => rfl)) pe_int (fun _ _ => rfl)) (pe_ix (ix_tupk (K := K) rfl) (pe_ix (ix_listk (K := K) rfl) (pv 1) (pe_op op_sub (pv 0) pe_int) (fun _ _ => rfl)) pe_int (fun _ _ => rfl)) (nomark _)))) (fun _ _ _ _ => (pv 0))) pa_nil))))
  (pss_one (ps_ret pe_bl)) pss_nil)
 (pss_cons (ps_for PassesOwn.never rfl (pi_range1 rfl B.range (pa_cons (pe_callB call_len_seq rfl B.len boot_len (pa_cons (pv 2) pa_nil)) pa_nil)) (pg_name (i := 7) sc_law_good.nd rfl (Or.inl rfl))
  (pss_one (ps_if (pt_cmpR (op_neD hr.units) (pe_call G_done (hr.mono (by decide)) rfl F_done.m F_done.F.kp F_done.b .nil passes_no (pa_cons (pv 3) (pa_cons (pe_ix ix_list (pv 6) (pv 7) (fun _ _ => rfl)) (pa_cons (pe_ix ix_list (pv 5) (pv 7) (fun _ _ => rfl)) pa_nil)))) (pe_ix ix_list (pv 6) (pe_op op_add (pv 7) pe_int) (fun _ _ => rfl)) (nomark _))
  (pss_one (ps_ret pe_bl)) pss_nil)))
 (pss_cons (ps_set (i := 8) sc_law_good.nd rfl (Or.inl rfl) (pe_call G_read_run (hr.mono (by decide)) rfl F_read_run.m F_read_run.F.kp F_read_run.b .nil passes_no (pa_cons (pe_call G_show_run (hr.mono (by decide)) rfl F_show_run.m F_show_run.F.kp F_show_run.b .nil pass0 (pa_cons (pe_call G_law_undone (hr.mono (by decide)) rfl F_law_undone.m F_law_undone.F.kp F_law_undone.b .nil pass0 (pa_cons (pv 6) (pa_cons (pv 2) pa_nil))) pa_nil)) pa_nil)))
 (pss_cons (ps_set (i := 9) sc_law_good.nd rfl (Or.inl rfl) (pe_call G_read_train (hr.mono (by decide)) rfl F_read_train.m F_read_train.F.kp F_read_train.b .nil passes_no (pa_cons (pe_call G_show_train (hr.mono (by decide)) rfl F_show_train.m F_show_train.F.kp F_show_train.b .nil pass0 (pa_cons (pe_ix ix_list (pv 6) (pe_un un_neg pe_int) (fun _ _ => rfl)) pa_nil)) pa_nil)))
 (pss_cons (ps_if (pt_cmpR (op_neD hr.units) (pe_call G_walked (hr.mono (by decide)) rfl F_walked.m F_walked.F.kp F_walked.b .nil passes_no (pa_cons (pv 3) (pa_cons (pv 9) (pa_cons (pv 8) pa_nil)))) (pe_revsl (pv 6) (pe_un un_neg pe_int)) (nomark _))
  (pss_one (ps_ret pe_bl)) pss_nil)
 (pss_one (ps_ret (pe_cmpR (op_eqD hr.units) (pe_call G_turned (hr.mono (by decide)) rfl F_turned.m F_turned.F.kp F_turned.b .nil pass0 (pa_cons (pe_call G_read_train (hr.mono (by decide)) rfl F_read_train.m F_read_train.F.kp F_read_train.b .nil passes_no (pa_cons (pe_call G_show_train (hr.mono (by decide)) rfl F_show_train.m F_show_train.F.kp F_show_train.b .nil pass0 (pa_cons (pe_call G_turned (hr.mono (by decide)) rfl F_turned.m F_turned.F.kp F_turned.b .nil pass0 (pa_cons (pv 9) pa_nil)) pa_nil)) pa_nil)) pa_nil)) (pe_ix ix_list (pv 6) (pe_un un_neg pe_int) (fun _ _ => rfl)) (nomark _))))))))))))))), ?_⟩
    refine ⟨_, rfl, v, l, rfl, hv, sm, fun H1 s1 => ?_⟩
    refine ⟨txL l, rfl, by omega, fun l' hl' hL p t us H2 s2 np nt hp ht D => ?_, fun l' hl' hn => ?_, fun hn => ?_⟩
    rotate_left
    · rw [rdLine_L sm] at hl'
      cases hl'
      exact absurd L hn
    · rw [rdLine_L sm] at hn
      cases hn
    rw [rdLine_L sm] at hl'
    cases hl'
    have S2 := s1.trans s2
    have dh2 : Da K H2 (dL l) (.ref p) := da_mkline hp (D.da ht)
    clear np nt hp ht D
    refine ⟨_, rfl, .ref u, ns, rfl, da_new (S2 _ _ hu), hN, fun H3 s3 => ⟨txT ns, rfl, by omega, fun ns' hns' => ?_, fun hn => by rw [r1] at hn; cases hn⟩⟩
    rw [r1] at hns'
    cases hns'
    intro pf H4 s4 npf hpf
    have S4 := S2.trans (s3.trans s4)
    refine ⟨_, rfl, r, run, rfl, Da.same S4 hr0, hK, fun H5 s5 => ⟨txRun run, rfl, by omega, fun run' hr' => ?_, fun hn => by rw [r2] at hn; cases hn⟩⟩
    rw [r2] at hr'
    cases hr'
    intro pr H6 s6 npr Rr
    have S6 := S4.trans (s5.trans s6)
    have dh6 : Da K H6 (dL l) (.ref p) := Da.same (s3.trans (s4.trans (s5.trans s6))) dh2
    have hf6 := s6 _ _ (s5 _ _ hpf)
    refine ⟨_, rfl, _, l, rfl, dh6, by omega, fun _ H7 s7 => ⟨_, rfl, iteF ?_⟩, fun z => absurd L z⟩
    refine ⟨_, rfl, _, rfl, _, _, l, ns, rfl, Da.same s7 dh6, da_new (s7 _ _ hf6), ok, by omega, fun _ H8 s8 => ⟨_, rfl, iteF ?_⟩, fun z => absurd ⟨hne, T⟩ z⟩
    have S8 := S6.trans (s7.trans s8)
    have dh8 := Da.same (s7.trans s8) dh6
    have hf8 := s8 _ _ (s7 _ _ hf6)
    have Rr8 := Rr.same (s7.trans s8)
    clear dh2 dh6 hf6 hpf Rr npf npr
    refine ⟨_, rfl, _, rfl, _, rfl, v, r, u, l, ns, run, rfl, Da.same S8 hv, S8 _ _ hu, Da.same S8 hr0, hKs, ok, hnp, hne, by omega, by omega, by rw [R.go]; rfl, fun ts' hts' _ pd as H9 s9 A9 => ?_⟩
    rw [R.go] at hts'
    cases hts'
    have S9 := S8.trans s9
    have dh9 := Da.same s9 dh8
    have hf9 := s9 _ _ hf8
    have Rr9 := Rr8.same s9
    have dts : ∀ {G : Hp}, Same H9 G → Da K G (dLI ts) (.ref pd) := fun sG => (A9.same sG).da
    clear dh8 hf8 Rr8
    refine ⟨_, rfl, _, rfl, _, rfl, _, _, _, l, ns, run, rfl, dh9, da_new hf9, Rr9.da, hKs, ok, hne, by omega, by omega, fun ts' hts' _ pw bs H10 F10 => ?_, fun hn => by rw [R.go] at hn; cases hn⟩
    rw [R.go] at hts'
    cases hts'
    have s10 := F10.same
    have dw : Da K H10 (dLI ts) (.ref pw) := dg_list.mpr ⟨pw, _, rfl, SqL.of F10.at_, refs_da F10.len fun i b t hb ht => (F10.each i b t hb ht).2.2⟩
    refine ⟨_, rfl, dLI ts, dLI ts, dw, dts s10, okD_LI _, okD_LI _, _, rfl, ?_⟩
    rw [eqv_same (okD_LI _)]
    refine iteF ?_
    have S10 := S9.trans s10
    have Rr10 := Rr9.same s10
    clear F10 dw
    obtain ⟨ar, vr, rfl, har, hvr⟩ := dg_list.mp hr0
    have hlr : vr.length = run.length := by have := Dgs.length hvr; rw [List.length_map] at this; exact this
    refine ⟨_, rfl, _, run, rfl, Rr10.da, by omega, fun H11 s11 => ?_⟩
    have S11 := S10.trans s11
    generalize hws : run.map (·.1) = ws
    have hwl : ws.length = run.length := by rw [← hws, List.length_map]
    have hm : ((vr.length : Int) - 1).toNat = ws.length - 1 := by omega
    refine ⟨_, rfl, ar, _, rfl, .inl (S11.seq har), 1, _, rfl, ⟨by decide, by decide, by show -(2 ^ 62) ≤ (vr.length : Int); omega, by show (vr.length : Int) < 2 ^ 62; omega⟩, fun g ng => ?_⟩
    rw [hm]
    refine lc_grow (ws.length - 1) (List.range (ws.length - 1)) (fun i => !decide (ws.getD (i + 1) Str.empty = ws.getD i Str.empty)) (fun i => V.int (1 + (i : Int))) ng (by simp) (small_l (by omega)) (fun i H s hi => hi) (fun H s => Nat.le_refl _) ?_ ?_
    · intro i y d G G' sG yy hd P1 P0 p1 p0
      obtain ⟨rfl, rfl⟩ := yy
      have hdi : d = i ∧ i < ws.length - 1 := by
        obtain ⟨h2, h3⟩ := List.getElem?_eq_some_iff.mp hd
        rw [List.getElem_range] at h3
        rw [List.length_range] at h2
        exact ⟨h3.symm, h2⟩
      obtain ⟨rfl, hi⟩ := hdi
      obtain ⟨k1, hk1⟩ : ∃ k1, run[d + 1]? = some k1 := ⟨run[d + 1]'(by omega), by simp⟩
      obtain ⟨k0, hk0⟩ : ∃ k0, run[d]? = some k0 := ⟨run[d]'(by omega), by simp⟩
      have hvr' := Das.same (S11.trans sG) hvr
      obtain ⟨y1, g1, g2⟩ := Dgs.get' hvr' (i := d + 1) (d := dM k1) (by rw [List.getElem?_map, hk1]; rfl)
      obtain ⟨y0, g3, g4⟩ := Dgs.get' hvr' (i := d) (d := dM k0) (by rw [List.getElem?_map, hk0]; rfl)
      obtain ⟨a1, rfl, h1⟩ := da_M g2
      obtain ⟨a0, rfl, h0⟩ := da_M g4
      have w1 : ws.getD (d + 1) Str.empty = k1.1 := by rw [← hws, List.getD_eq_getElem?_getD, List.getElem?_map, hk1]; rfl
      have w0 : ws.getD d Str.empty = k0.1 := by rw [← hws, List.getD_eq_getElem?_getD, List.getElem?_map, hk0]; rfl
      have at1 : atI vr (1 + (d : Int)) = some (.ref a1) := by rw [show 1 + (d : Int) = ((d + 1 : Nat) : Int) by omega]; exact atI_nat g1
      have at0 : atI vr (1 + (d : Int) - 1) = some (.ref a0) := by rw [show 1 + (d : Int) - 1 = (d : Int) by omega]; exact atI_nat g3
      refine ⟨_, rfl, _, rfl, ar, _, _, _, rfl, rfl, (S11.trans sG).seq har, at1, a1, _, _, _, rfl, rfl, h1, rfl, _, rfl, _, rfl, _, _, rfl, rfl, ar, _, _, _, rfl, rfl, (S11.trans sG).seq har, at0, a0, _, _, _, rfl, rfl, h0, rfl, rfl, _, rfl, ?_⟩
      have ec : decide (V.str k1.1 = V.str k0.1) = decide (ws.getD (d + 1) Str.empty = ws.getD d Str.empty) := by
        rw [w1, w0]
        by_cases h : k1.1 = k0.1
        · simp [h]
        · simp [h]
      rw [ec]
      exact ite2 (fun h => ⟨_, rfl, p1 _ h (Same.refl _)⟩) (fun h => p0 _ (by simpa using h) (Same.refl _))
    intro H12 s12 h12
    have S12 := S11.trans s12
    refine ⟨g, _, rfl, .inl (SqL.of h12), _, _, rfl, rfl, _, rfl, ?_⟩
    have el : ((((List.range (ws.length - 1)).filter fun i => !decide (ws.getD (i + 1) Str.empty = ws.getD i Str.empty)).map fun i : Nat => V.int (1 + (i : Int))).length : Int) = ((chg ws : Nat) : Int) := by rw [List.length_map, chg_eq]
    dsimp only
    rw [el]
    refine ite2 (fun h => absurd h (by simp)) (fun _ => ?_)
    have A12 := A9.same (s10.trans (s11.trans s12))
    have dh12 := Da.same (s10.trans (s11.trans s12)) dh9
    have Rr12 := Rr10.same (s11.trans s12)
    clear dh9 Rr9 Rr10 dts A9 h12 hm el hws hwl
    refine ⟨_, rfl, ar, _, rfl, .inl (S12.seq har), _, rfl, by show -(2 ^ 62) ≤ (vr.length : Int); omega, by show (vr.length : Int) < 2 ^ 62; omega, for_range (fun i σ G => ∃ x7 : Option V, σ = [some v, some (.ref u), some (.ref ar), some (.ref p), some (.ref pf), some (.ref pr), some (.ref pd), x7, none, none] ∧ Same H12 G) ⟨none, rfl, Same.refl _⟩ ?_ ?_⟩
    · rintro i σ G hi ⟨x7, rfl, sG⟩
      have hi : i < run.length := by
        have h : i < (vr.length : Int).toNat := hi
        omega
      obtain ⟨kq, hkq⟩ : ∃ kq, run[i]? = some kq := ⟨run[i], by simp⟩
      obtain ⟨t1, ht1⟩ : ∃ t, ts[i]? = some t := ⟨ts[i]'(by omega), by simp⟩
      obtain ⟨t2, ht2⟩ : ∃ t, ts[i + 1]? = some t := ⟨ts[i + 1]'(by omega), by simp⟩
      have AG := A12.same sG
      obtain ⟨b1, c1', c2', c3'⟩ := AG.get ht1
      obtain ⟨b2, c4', c5', c6'⟩ := AG.get ht2
      have RG := Rr12.same sG
      obtain ⟨⟨vq, hq3, dq⟩, okq⟩ := id RG
      obtain ⟨y1, g1, g2⟩ := Dgs.get' dq (i := i) (d := dM kq) (by rw [List.getElem?_map, hkq]; rfl)
      have e0 : (0 : Int) + (i : Int) = (i : Int) := by omega
      rw [e0]
      obtain ⟨o1, o2, o3⟩ := R.ok t1 (List.mem_of_getElem? ht1)
      refine ⟨_, rfl, _, rfl, _, rfl, pd, _, _, _, rfl, rfl, SqL.of AG.at_, atI_nat (j := i) (by rw [List.getElem?_map, c1']; rfl), _, rfl, _, rfl, pr, _, _, _, rfl, rfl, SqL.of hq3, atI_nat (j := i) g1, _, _, _, l, t1, kq, rfl, Da.same sG dh12, da_new c3', Da.same hid_same g2, hKs kq (List.mem_of_getElem? hkq), ok, o3, by omega, fun b' hb' => ?_, fun hn => by rw [R.step i kq t1 t2 hkq ht1 ht2] at hn; cases hn⟩
      rw [R.step i kq t1 t2 hkq ht1 ht2] at hb'
      cases hb'
      intro pn G2 sG2 npn hpn
      refine ⟨_, rfl, _, rfl, _, _, rfl, rfl, pd, _, _, _, rfl, rfl, SqL.of (sG2 _ _ AG.at_), (by show atI _ ((i : Int) + 1) = _; rw [show (i : Int) + 1 = ((i + 1 : Nat) : Int) by omega]; exact atI_nat (by rw [List.getElem?_map, c4']; rfl)), dI t2, dI t2, da_new hpn, da_new (sG2 _ _ c6'), okD_ints _, okD_ints _, _, rfl, ?_⟩
      rw [eqv_same (okD_ints _)]
      exact iteF ⟨_, rfl, sG.trans sG2⟩
    rintro σ H13 ⟨x7, rfl, s13⟩
    have S13 := S12.trans s13
    have A13 := A12.same s13
    have dh13 := Da.same s13 dh12
    clear A12 dh12 Rr12
    refine ⟨_, rfl, _, rfl, pd, .ref ar, as, ts, run, rfl, A13, Da.same S13 hr0, tlen, fun t ht => (R.ok t ht).2.2, by omega, fun pu H14 s14 npu Ru => ?_⟩
    refine ⟨_, undo ts run, rfl, Ru.da, hU, fun H15 s15 => ⟨txRun (undo ts run), rfl, by omega, fun run' hr' => ?_, fun hn => by rw [r3] at hn; cases hn⟩⟩
    rw [r3] at hr'
    cases hr'
    intro pb H16 s16 npb Rb
    have T16 := s14.trans (s15.trans s16)
    have A16 := A13.same T16
    obtain ⟨bb, hb1, hb2, hb3⟩ := A16.get (i := ts.length - 1) (t := b) (by
      have h := R.last
      rw [List.getLastD_eq_getLast?, List.getLast?_eq_getElem?, List.getElem?_eq_getElem (by omega)] at h
      rw [List.getElem?_eq_getElem (by omega)]
      exact congrArg some h)
    have atl : ∀ {G : Hp}, atI (as.map V.ref) (-1) = some (.ref bb) := fun {_} => at_neg1 (by rw [List.length_map, A16.len, List.getElem?_map, hb1]; rfl)
    refine ⟨_, rfl, _, rfl, pd, _, _, _, rfl, rfl, SqL.of A16.at_, atl (G := H), _, b, rfl, da_new hb3, hNb, fun H17 s17 => ⟨txT b, rfl, by omega, fun ns' hns' => ?_, fun hn => by rw [r4] at hn; cases hn⟩⟩
    rw [r4] at hns'
    cases hns'
    intro pl H18 s18 npl hpl
    have T18 := T16.trans (s17.trans s18)
    have Rb18 := Rb.same (s17.trans s18)
    refine ⟨_, rfl, _, rfl, _, rfl, _, _, _, l, b, undo ts run, rfl, Da.same T18 dh13, da_new hpl, Rb18.da, fun kq hk => strOk_word (hU.2 kq hk).1, ok, bne, by omega, by rw [undo_len]; omega, fun ts' hts' _ pw bs H19 F19 => ?_, fun hn => by rw [R.back] at hn; cases hn⟩
    rw [R.back] at hts'
    cases hts'
    have s19 := F19.same
    have A19 := A16.same (s17.trans (s18.trans s19))
    have dw : Da K H19 (dLI ts.reverse) (.ref pw) := dg_list.mpr ⟨pw, _, rfl, SqL.of F19.at_, refs_da F19.len fun i b t hb ht => (F19.each i b t hb ht).2.2⟩
    refine ⟨_, rfl, _, rfl, _, rfl, pd, _, rfl, rfl, SqL.of A19.at_, fun pv npv => ?_⟩
    have s20 := same_upd (o := .lst (as.map V.ref).reverse) npv
    have drv : Da K (upd H19 pv (.lst (as.map V.ref).reverse)) (dLI ts.reverse) (.ref pv) := by
      refine dg_list.mpr ⟨pv, as.reverse.map V.ref, rfl, SqL.of (by rw [upd_same, List.map_reverse]), ?_⟩
      refine refs_da (by rw [List.length_reverse, List.length_reverse, A19.len]) fun i b t hb ht => ?_
      have hi : i < ts.length := by have := (List.getElem?_eq_some_iff.mp ht).1; rw [List.length_reverse] at this; exact this
      rw [List.getElem?_reverse (by rw [A19.len]; exact hi)] at hb
      rw [List.getElem?_reverse hi] at ht
      rw [A19.len] at hb
      exact s20 _ _ (A19.each _ _ _ hb ht).2
    refine ⟨dLI ts.reverse, dLI ts.reverse, Da.same s20 dw, drv, okD_LI _, okD_LI _, _, rfl, ?_⟩
    rw [eqv_same (okD_LI _)]
    refine iteF ?_
    clear drv dw F19
    have hpl20 := (s19.trans s20) _ _ hpl
    have A20 := A19.same s20
    have S20 := S13.trans (T18.trans (s19.trans s20))
    generalize upd H19 pv _ = H20 at s20 hpl20 A20 S20 ⊢
    refine ⟨_, rfl, _, b, rfl, da_new hpl20, by omega, fun q1 H21 s21 nq1 hq1 => ?_⟩
    have hNr : OkN (b.reverse.map oth) := ⟨by rw [List.length_map, List.length_reverse]; exact hNb.1, fun e he => by
      obtain ⟨e', he', rfl⟩ := List.mem_map.mp he
      have := Tb.ends e' (List.mem_reverse.mp he')
      have o2 : oth e' = e' + 1 - 2 * (e' % 2) := rfl
      rw [o2]
      omega⟩
    have bne2 : b.reverse.map oth ≠ [] := fun e => bne (by simpa using e)
    obtain ⟨r5, l5⟩ := rdT_T hNr bne2
    refine ⟨_, _, rfl, da_new hq1, hNr, fun H22 s22 => ⟨_, rfl, by omega, fun ns' hns' => ?_, fun hn => by rw [r5] at hn; cases hn⟩⟩
    rw [r5] at hns'
    cases hns'
    intro q2 H23 s23 nq2 hq2
    refine ⟨_, _, rfl, da_new hq2, by rw [List.length_map, List.length_reverse]; omega, fun q3 H24 s24 nq3 hq3 => ?_⟩
    rw [round2] at hq3
    have T24 := s21.trans (s22.trans (s23.trans s24))
    have A24 := A20.same T24
    obtain ⟨bb', hb1', _, hb3'⟩ := A24.get (i := ts.length - 1) (t := b) (by
      have h := R.last
      rw [List.getLastD_eq_getLast?, List.getLast?_eq_getElem?, List.getElem?_eq_getElem (by omega)] at h
      rw [List.getElem?_eq_getElem (by omega)]
      exact congrArg some h)
    refine ⟨_, rfl, _, rfl, pd, _, _, _, rfl, rfl, SqL.of A24.at_, at_neg1 (by rw [List.length_map, A24.len, List.getElem?_map, hb1']; rfl), dI b, dI b, da_new hq3, da_new hb3', okD_ints _, okD_ints _, ?_⟩
    rw [eqv_same (okD_ints _)]
    exact k _ (S20.trans T24)
end
end K75
set_option Elab.async false
set_option linter.all false
set_option maxRecDepth 100000
set_option maxHeartbeats 4000000
namespace K75
open PySem L2 TL PyProof.Rows
theorem ks_of_das {K : PySem.W.Frag} {H : Hp} : ∀ {run : List (Str × Int)} {vs : List V}, Das K H (run.map dM) vs → Dgs NoL (SqT K H) (run.map dM) vs
  | [], vs, h => h
  | k :: r, vs, h => by
    obtain ⟨v, us, rfl, h1, h2⟩ := dgs_cons.mp h
    obtain ⟨a, rfl, ha⟩ := da_M h1
    exact dgs_cons.mpr ⟨_, _, rfl, dg_tuple.mpr ⟨a, _, rfl, ha, Dgs.two (dg_str.mpr rfl) (dg_int.mpr rfl)⟩, ks_of_das h2⟩
/-- a line, a train and a run of it, kept together -/
structure TupOk (K : PySem.W.Frag) (H : Hp) (t ad : Addr) (l : Ln) (ns : List Int) (run : List (Str × Int)) (b : List Int) : Prop where
  ex : ∃ a bb u q us vs, H ad = some (.tup [.ref a, .ref u, .ref q]) ∧ H a = some (.tup [.int l.1, .ref bb]) ∧ bb ≠ t ∧ H bb = some (.lst us) ∧ Ps K H l.2 us ∧ u ≠ t ∧ H u = some (.lst (ns.map V.int)) ∧ q ≠ t ∧ H q = some (.lst vs) ∧ Dgs NoL (SqT K H) (run.map dM) vs
  line : isLine l
  few : l.2.length ≤ 30
  tr : TrOk l ns
  ne : ns ≠ []
  nl : ns.length ≤ 30
  rl : run.length ≤ 60
  st : Steps l ns run b
theorem TupOk.same {K : PySem.W.Frag} {H H' : Hp} {t ad : Addr} {l : Ln} {ns : List Int} {run : List (Str × Int)} {b : List Int} (h : TupOk K H t ad l ns run b) (s : Same H H') : TupOk K H' t ad l ns run b := by
  obtain ⟨a, bb, u, q, us, vs, h1, h2, h3, h4, h5, h6, h7, h8, h9, h10⟩ := h.ex
  exact ⟨⟨a, bb, u, q, us, vs, s _ _ h1, s _ _ h2, h3, s _ _ h4, h5.same s, h6, s _ _ h7, h8, s _ _ h9, Dgs.mono (fun _ _ h => h) (fun _ _ h => same_tseq s h) h10⟩, h.line, h.few, h.tr, h.ne, h.nl, h.rl, h.st⟩
theorem TupOk.upd {K : PySem.W.Frag} {H : Hp} {t ad : Addr} {l : Ln} {ns : List Int} {run : List (Str × Int)} {b : List Int} {zs ws : List V} (h : TupOk K H t ad l ns run b) (ht : H t = some (.lst zs)) : TupOk K (L2.upd H t (.lst ws)) t ad l ns run b := by
  obtain ⟨a, bb, u, q, us, vs, h1, h2, h3, h4, h5, h6, h7, h8, h9, h10⟩ := h.ex
  have n1 : ad ≠ t := fun e => by rw [e, ht] at h1; cases h1
  have n2 : a ≠ t := fun e => by rw [e, ht] at h2; cases h2
  exact ⟨⟨a, bb, u, q, us, vs, by rw [upd_ne n1]; exact h1, by rw [upd_ne n2]; exact h2, h3, by rw [upd_ne h3]; exact h4, h5.updt ht, h6, by rw [upd_ne h6]; exact h7, h8, by rw [upd_ne h8]; exact h9, Dgs.mono (fun _ _ h => h) (fun _ _ h => sqt_upd ht h) h10⟩, h.line, h.few, h.tr, h.ne, h.nl, h.rl, h.st⟩
def sp_law (K : PySem.W.Frag) : Sp := fun vs H Q _ => ∃ (a : Addr) (ns : List Int), vs = [.ref a] ∧ SqL K H a (ns.map V.int) ∧ ∀ H', Q (.bl true) H'
abbrev s_law : Stmt := top 54
theorem sc_law : FnScope ["_law_script", "_law_some", "_law_start", "_law_line_here", "_law_train_here", "_law_run_here"] ["_law_script"] (defScope s_law) := ⟨rfl, rfl, rfl, by decide +kernel, rfl, by decide +kernel, by decide +kernel⟩

section
variable {P : Program} {w : World} {K : PySem.W.Frag} {mg : Str → Option Value} {base : Heap} {f : Addr} {fd : FuncData}
theorem ok_law {f1 f2 f3 f4 f5 f6 : Addr} {fd1 fd2 fd3 fd4 fd5 fd6 : FuncData} (F : Fn K mg "law" s_law ["_law_script"] f fd) (B : Bm mg)
    (F_law_line : Fn K mg "_law_line" s_law_line ["_law_script", "_law_start", "_law_most", "_law_upto"] f1 fd1) (G_law_line : FnOk P w K mg base CX0 2 f1 fd1 ["_law_script", "_law_start", "_law_most", "_law_upto"] (sp_line K))
    (F_law_cell_at : Fn K mg "_law_cell_at" s_law_cell_at ["_law_script", "_law_k"] f2 fd2) (F_law_mix : Fn K mg "_law_mix" s_law_mix ["_law_cell", "_law_k"] f3 fd3)
    (F_law_train : Fn K mg "_law_train" s_law_train ["_law_line_here", "_law_number", "_law_most"] f4 fd4) (G_law_train : FnOk P w K mg base CX0 2 f4 fd4 ["_law_line_here", "_law_number", "_law_most"] (sp_train K))
    (F_law_run : Fn K mg "_law_run" s_law_run ["_law_line_here", "_law_train_here", "_law_number", "_law_most"] f5 fd5) (G_law_run : FnOk P w K mg base CX0 3 f5 fd5 ["_law_line_here", "_law_train_here", "_law_number", "_law_most"] (sp_run K))
    (F_law_good : Fn K mg "_law_good" s_law_good ["_law_line_here", "_law_train_here", "_law_run_here"] f6 fd6) (G_law_good : FnOk P w K mg base CX0 6 f6 fd6 ["_law_line_here", "_law_train_here", "_law_run_here"] (sp_good K)) : FnOk P w K mg base CX0 7 f fd ["_law_script"] (sp_law K) := by
  have G_law_mix : FnOk P w K mg base CX0 1 f3 fd3 ["_law_cell", "_law_k"] sp_mix := ok_law_mix F_law_mix B.toBl
  have G_law_cell_at : FnOk P w K mg base CX0 1 f2 fd2 ["_law_script", "_law_k"] (sp_cell K) := ok_law_cell_at F_law_cell_at B.toBl
  refine F.F.ok sc_law (fun vs H Q E h => ?_) (fun cdv A outer s H vs Q E hr h => ?_)
  · obtain ⟨a, ns, rfl, _⟩ := h; rfl
  · obtain ⟨a, ns, rfl, hS, k⟩ := h
    refine ⟨_, (pss_cons (ps_set (i := 1) sc_law.nd rfl (Or.inl rfl) (pe_lst pa_nil))
 (pss_cons (ps_for PassesOwn.never rfl (pi_list (pe_lst (pa_cons pe_int (pa_cons pe_int pa_nil)))) (pg_name (i := 2) sc_law.nd rfl (Or.inl rfl))
  (pss_cons (ps_set (i := 3) sc_law.nd rfl (Or.inl rfl) (pe_call G_law_line (hr.mono (by decide)) rfl F_law_line.m F_law_line.F.kp F_law_line.b .nil pass0 (pa_cons (pv 0) (pa_cons (pv 2) (pa_cons pe_int (pa_cons pe_int pa_nil))))))
 (pss_cons (ps_set (i := 4) sc_law.nd rfl (Or.inl rfl) (pe_call G_law_train (hr.mono (by decide)) rfl F_law_train.m F_law_train.F.kp F_law_train.b .nil pass0 (pa_cons (pv 3) (pa_cons (pe_call G_law_mix (hr.mono (by decide)) rfl F_law_mix.m F_law_mix.F.kp F_law_mix.b .nil pass0 (pa_cons (pe_call G_law_cell_at (hr.mono (by decide)) rfl F_law_cell_at.m F_law_cell_at.F.kp F_law_cell_at.b .nil pass0 (pa_cons (pv 0) (pa_cons (pe_op op_add (pv 2) pe_int) pa_nil))) (pa_cons pe_int pa_nil))) (pa_cons pe_int pa_nil)))))
 (pss_one (ps_expr (pe_bm PySem.F.plainAttrs_list PySem.F.slot_list_append PySem.F.type_list_append mt_append (pv 1) (pa_cons (pe_tup (pa_cons (pv 3) (pa_cons (pv 4) (pa_cons (pe_call G_law_run (hr.mono (by decide)) rfl F_law_run.m F_law_run.F.kp F_law_run.b .nil pass0 (pa_cons (pv 3) (pa_cons (pv 4) (pa_cons (pe_call G_law_mix (hr.mono (by decide)) rfl F_law_mix.m F_law_mix.F.kp F_law_mix.b .nil pass0 (pa_cons (pe_call G_law_cell_at (hr.mono (by decide)) rfl F_law_cell_at.m F_law_cell_at.F.kp F_law_cell_at.b .nil pass0 (pa_cons (pv 0) (pa_cons (pe_op op_add (pv 2) pe_int) pa_nil))) (pa_cons pe_int pa_nil))) (pa_cons pe_int pa_nil))))) pa_nil)))) pa_nil)))))))
 (pss_cons (ps_for PassesOwn.never rfl (pi_list (pe_lst (pa_cons (pe_ix ix_list (pv 1) pe_int (fun _ _ => rfl)) (pa_cons (pe_ix ix_list (pv 1) pe_int (fun _ _ => rfl)) (pa_cons (pe_ix ix_list (pv 1) pe_int (fun _ _ => rfl)) pa_nil))))) (pg_tup (n := 3) rfl (pgs_cons (pg_name (i := 3) sc_law.nd rfl (Or.inl rfl)) (pgs_cons (pg_name (i := 4) sc_law.nd rfl (Or.inl rfl)) (pgs_cons (pg_name (i := 5) sc_law.nd rfl (Or.inl rfl)) pgs_nil))))
  (pss_one (ps_if (pt_not (pt_val (pe_call G_law_good (hr.mono (by decide)) rfl F_law_good.m F_law_good.F.kp F_law_good.b .nil pass0 (pa_cons (pv 3) (pa_cons (pv 4) (pa_cons (pv 5) pa_nil))))))
  (pss_one (ps_ret pe_bl)) pss_nil)))
 (pss_one (ps_ret pe_bl))))), ?_⟩
    refine ⟨Nat.zero_le _, fun t nt => ?_⟩
    have s1 := same_upd (o := .lst []) nt
    have ht := upd_same (H := H) (a := t) (o := .lst [])
    generalize upd H t _ = H1 at s1 ht ⊢
    refine ⟨by show 2 ≤ sizeLine; decide, fun q0 nq0 => ?_⟩
    have s2 := same_upd (o := .lst [.int 0, .int 20]) nq0
    have hq0 := upd_same (H := H1) (a := q0) (o := .lst [.int 0, .int 20])
    have ht2 := s2 _ _ ht
    generalize upd H1 q0 _ = H2 at s2 hq0 ht2 ⊢
    have ntq : q0 ≠ t := fun e => by rw [e, ht2] at hq0; cases hq0
    refine ⟨q0, rfl, ⟨_, SqL.of hq0⟩, for_list (K := K) (a := q0) (xs := [.int 0, .int 20]) (fun i σ H3 => ∃ (as : List Addr) (x2 x3 x4 : Option V), σ = [some (.ref a), some (.ref t), x2, x3, x4, none] ∧ Same H H3 ∧ H3 q0 = some (.lst [.int 0, .int 20]) ∧ H3 t = some (.lst (as.map V.ref)) ∧ as.length = i ∧ ∀ ad ∈ as, ∃ l ns run b, TupOk K H3 t ad l ns run b)
      ⟨[], none, none, none, rfl, s1.trans s2, hq0, ht2, rfl, fun ad h => nomatch h⟩ (fun i σ H3 _ ⟨_, _, _, _, _, _, h, _⟩ => SqL.of h) ?_ ?_⟩
    · rintro i y σ H3 hi ⟨as, x2, x3, x4, rfl, S3, hq3, ht3, al, A3⟩
      have hi2 : i < 2 := (List.getElem?_eq_some_iff.mp hi).1
      obtain ⟨n, rfl, n0, n1⟩ : ∃ n : Int, y = .int n ∧ 0 ≤ n ∧ n ≤ 20 := by
        have hm := List.mem_of_getElem? hi
        simp only [List.mem_cons, List.not_mem_nil, or_false] at hm
        rcases hm with rfl | rfl
        · exact ⟨0, rfl, by decide, by decide⟩
        · exact ⟨20, rfl, by decide, by decide⟩
      refine ⟨_, rfl, _, rfl, a, ns, n, 14, 24, rfl, S3.seq hS, n0, by decide, by decide, by decide, by decide, fun p tt us l H4 s4 np ntt hp htt D L lm lu => ?_⟩
      have ok : LineOk l := L.lineOk (by omega)
      have hnp := L.ne
      have dl4 : Da K H4 (dL l) (.ref p) := da_mkline hp (D.da htt)
      refine ⟨_, rfl, _, rfl, _, rfl, _, _, rfl, rfl, a, ns, _, rfl, (S3.trans s4).seq hS, by show (0 : Int) ≤ n + 5; omega, fun c5 => ⟨c5, 0, rfl, by decide, by decide, fun n2 n20 _ => ?_⟩⟩
      refine ⟨_, l, n2, 6, rfl, dl4, ok, hnp, n20, by decide, by decide, fun pt tns H5 s5 npt hpt hne tl T => ?_⟩
      have S5 := S3.trans (s4.trans s5)
      refine ⟨_, rfl, .inl ⟨rfl, _, SqL.of ((s4.trans s5) _ _ ht3)⟩, _, rfl, _, rfl, _, rfl, _, rfl, _, rfl, _, rfl, _, _, rfl, rfl, a, ns, _, rfl, S5.seq hS, by show (0 : Int) ≤ n + 6; omega, fun c6 => ⟨c6, 0, rfl, by decide, by decide, fun n3 n30 _ => ?_⟩⟩
      refine ⟨_, _, l, tns, n3, 40, rfl, Da.same s5 dl4, da_new hpt, ok, hnp, hne, by omega, n30, by decide, by decide, fun q run b H6 s6 nq R rl ST => ?_⟩
      refine ⟨by show 3 ≤ sizeLine; decide, fun ad nad => ?_⟩
      have s7 := same_upd (o := .tup [.ref p, .ref pt, .ref q]) nad
      have had := upd_same (H := H6) (a := ad) (o := .tup [.ref p, .ref pt, .ref q])
      generalize upd H6 ad _ = H7 at s7 had ⊢
      have T7 := s4.trans (s5.trans (s6.trans s7))
      have ht7 := T7 _ _ ht3
      refine ⟨t, _, _, rfl, rfl, ht7, small_l (by rw [List.length_map]; omega), ?_⟩
      obtain ⟨⟨vq, hq, dq⟩, _⟩ := R
      have hT : TupOk K H7 t ad l tns run b := by
        refine ⟨⟨p, tt, pt, q, us, vq, had, (s5.trans (s6.trans s7)) _ _ hp, (ne_of_none ht3 ntt).symm, (s5.trans (s6.trans s7)) _ _ htt, D.same (s5.trans (s6.trans s7)), (ne_of_none (s4 _ _ ht3) npt).symm, (s6.trans s7) _ _ hpt, (ne_of_none ((s4.trans s5) _ _ ht3) nq).symm, s7 _ _ hq, ?_⟩, L, by omega, T, hne, by omega, by omega, ST⟩
        exact ks_of_das (Das.same (hid_same.trans s7) dq)
      refine ⟨as ++ [ad], _, _, _, rfl, Same.upd (S3.trans T7) nt, by rw [upd_ne ntq]; exact T7 _ _ hq3, by rw [upd_same, List.map_append]; rfl, by rw [List.length_append, al]; rfl, fun x hx => ?_⟩
      rcases List.mem_append.mp hx with z | z
      · obtain ⟨l', ns', run', b', h'⟩ := A3 x z
        exact ⟨l', ns', run', b', (h'.same T7).upd ht7⟩
      · rw [List.mem_singleton.mp z]
        exact ⟨l, tns, run, b, hT.upd ht7⟩
    rintro σ H3 ⟨as, x2, x3, x4, rfl, S3, hq3, ht3, al, A3⟩
    have al : as.length = 2 := al
    obtain ⟨a0, a1, rfl⟩ : ∃ a0 a1, as = [a0, a1] := by
      match as, al with
      | [a0, a1], _ => exact ⟨a0, a1, rfl⟩
    refine ⟨_, rfl, t, _, _, _, rfl, rfl, SqL.of ht3, atI_nat (j := 0) rfl, _, rfl, t, _, _, _, rfl, rfl, SqL.of ht3, atI_nat (j := 1) rfl, _, rfl, t, _, _, _, rfl, rfl, SqL.of ht3, atI_nat (j := 0) rfl, by show 3 ≤ sizeLine; decide, fun g ng => ?_⟩
    have s4 := same_upd (o := .lst [.ref a0, .ref a1, .ref a0]) ng
    have hg := upd_same (H := H3) (a := g) (o := .lst [.ref a0, .ref a1, .ref a0])
    generalize upd H3 g _ = H4 at s4 hg ⊢
    refine ⟨g, rfl, ⟨_, SqL.of hg⟩, for_list (K := K) (a := g) (xs := [.ref a0, .ref a1, .ref a0]) (fun i σ H5 => ∃ (x3 x4 x5 : Option V), σ = [some (.ref a), some (.ref t), x2, x3, x4, x5] ∧ Same H4 H5)
      ⟨_, _, _, rfl, Same.refl _⟩ (fun i σ H5 _ ⟨_, _, _, _, S⟩ => SqL.of (S _ _ hg)) ?_ ?_⟩
    · rintro i y σ H5 hi ⟨x3, x4, x5, rfl, S5⟩
      obtain ⟨ad, rfl, l, tns, run, b, hT⟩ : ∃ ad, y = .ref ad ∧ ∃ l ns run b, TupOk K H3 t ad l ns run b := by
        have hm := List.mem_of_getElem? hi
        simp only [List.mem_cons, List.not_mem_nil, or_false] at hm
        rcases hm with rfl | rfl | rfl
        · exact ⟨a0, rfl, A3 a0 (by simp)⟩
        · exact ⟨a1, rfl, A3 a1 (by simp)⟩
        · exact ⟨a0, rfl, A3 a0 (by simp)⟩
      have hT5 := hT.same (s4.trans S5)
      obtain ⟨p, bb, u, q, us, vs, h1, h2, h3, h4, h5, h6, h7, h8, h9, h10⟩ := hT5.ex
      refine ⟨ad, _, rfl, SqT.of h1, rfl, _, _, rfl, _, _, rfl, _, _, rfl, rfl, ?_⟩
      refine ⟨_, rfl, _, rfl, _, rfl, _, _, u, l, tns, run, b, rfl, da_mkline h2 (h5.da h4), h7, dg_list.mpr ⟨q, vs, rfl, SqL.of h9, Dgs.mono (fun _ _ h => h.elim) (fun _ _ h => h) h10⟩, hT.line, hT.few, hT.tr, hT.ne, hT.nl, hT.rl, hT.st, fun H6 s6 => ⟨_, rfl, iteF ?_⟩⟩
      exact ⟨_, _, _, rfl, S5.trans s6⟩
    · rintro σ H5 ⟨x3, x4, x5, rfl, S5⟩
      exact k _
end
end K75
set_option Elab.async false
set_option linter.all false
set_option maxRecDepth 100000
set_option maxHeartbeats 4000000
namespace K75
open PySem L2 TL PyProof.Rows
theorem fn_mk {K : PySem.W.Frag} {h : Heap} {mg : Str → Option Value} {x : Str} {st : Stmt} {ps : List Str} {f : Addr} {oc : Value} {od an : Option Addr} {osl : Array (Option Value)} {kV doc pm cdv ct : Value} (X : K.In h) (G : h.Ns mainGlobals mg) (a : PySem.W.nsIn K mainGlobals x = some (some (.ref f)))
    (l : K.lookup f = some ⟨oc, od, .func (PySem.W.fnOf x x (defArgs st) (defBody st) (defScope st) .none kV doc pm an cdv ct), osl⟩) (c : PySem.W.codeIn K cdv x = true) (k : PySem.W.keepIn K (.ref f) = true)
    (hb : ∀ (kV doc pm : Value) (an : Option Addr) (cdv ct : Value) (us : List Value), us.length = ps.length → bindArgs (PySem.W.fnOf x x (defArgs st) (defBody st) (defScope st) .none kV doc pm an cdv ct) ⟨us, []⟩ = pure (ps.zip us)) :
    Fn K mg x st ps f (PySem.W.fnOf x x (defArgs st) (defBody st) (defScope st) .none kV doc pm an cdv ct) := ⟨fun_mk (st := st) l c k, PySem.W.mg_of X G a, (fun_mk (st := st) l c k).binds (ps := ps) hb⟩
theorem all_mk {l : PySem.W.OpenLaw} {w : World} {K : PySem.W.Frag} {h : Heap} {mg : Str → Option Value} {fa f1 f2 f3 f4 f5 f6 f7 f8 f9 f10 f11 f12 f13 f14 f15 f16 f17 f18 f19 f20 f21 f22 f23 f24 f25 f26 f27 f28 f29 f30 f31 f32 f33 f34 f35 f36 f37 f38 f39 f40 : Addr} (X : K.In h) (G : h.Ns mainGlobals mg) (hfa : mg "law" = some (.ref fa))
    {od1 an1 od2 an2 od3 an3 od4 an4 od5 an5 od6 an6 od7 an7 od8 an8 od9 an9 od10 an10 od11 an11 od12 an12 od13 an13 od14 an14 od15 an15 od16 an16 od17 an17 od18 an18 od19 an19 od20 an20 od21 an21 od22 an22 od23 an23 od24 an24 od25 an25 od26 an26 od27 an27 od28 an28 od29 an29 od30 an30 od31 an31 od32 an32 od33 an33 od34 an34 od35 an35 od36 an36 od37 an37 od38 an38 od39 an39 od40 an40 : Option Addr} {sl1 sl2 sl3 sl4 sl5 sl6 sl7 sl8 sl9 sl10 sl11 sl12 sl13 sl14 sl15 sl16 sl17 sl18 sl19 sl20 sl21 sl22 sl23 sl24 sl25 sl26 sl27 sl28 sl29 sl30 sl31 sl32 sl33 sl34 sl35 sl36 sl37 sl38 sl39 sl40 : Array (Option Value)} {oc1 kV1 dc1 pm1 cd1 ct1 oc2 kV2 dc2 pm2 cd2 ct2 oc3 kV3 dc3 pm3 cd3 ct3 oc4 kV4 dc4 pm4 cd4 ct4 oc5 kV5 dc5 pm5 cd5 ct5 oc6 kV6 dc6 pm6 cd6 ct6 oc7 kV7 dc7 pm7 cd7 ct7 oc8 kV8 dc8 pm8 cd8 ct8 oc9 kV9 dc9 pm9 cd9 ct9 oc10 kV10 dc10 pm10 cd10 ct10 oc11 kV11 dc11 pm11 cd11 ct11 oc12 kV12 dc12 pm12 cd12 ct12 oc13 kV13 dc13 pm13 cd13 ct13 oc14 kV14 dc14 pm14 cd14 ct14 oc15 kV15 dc15 pm15 cd15 ct15 oc16 kV16 dc16 pm16 cd16 ct16 oc17 kV17 dc17 pm17 cd17 ct17 oc18 kV18 dc18 pm18 cd18 ct18 oc19 kV19 dc19 pm19 cd19 ct19 oc20 kV20 dc20 pm20 cd20 ct20 oc21 kV21 dc21 pm21 cd21 ct21 oc22 kV22 dc22 pm22 cd22 ct22 oc23 kV23 dc23 pm23 cd23 ct23 oc24 kV24 dc24 pm24 cd24 ct24 oc25 kV25 dc25 pm25 cd25 ct25 oc26 kV26 dc26 pm26 cd26 ct26 oc27 kV27 dc27 pm27 cd27 ct27 oc28 kV28 dc28 pm28 cd28 ct28 oc29 kV29 dc29 pm29 cd29 ct29 oc30 kV30 dc30 pm30 cd30 ct30 oc31 kV31 dc31 pm31 cd31 ct31 oc32 kV32 dc32 pm32 cd32 ct32 oc33 kV33 dc33 pm33 cd33 ct33 oc34 kV34 dc34 pm34 cd34 ct34 oc35 kV35 dc35 pm35 cd35 ct35 oc36 kV36 dc36 pm36 cd36 ct36 oc37 kV37 dc37 pm37 cd37 ct37 oc38 kV38 dc38 pm38 cd38 ct38 oc39 kV39 dc39 pm39 cd39 ct39 oc40 kV40 dc40 pm40 cd40 ct40 : Value}
    (a1 : PySem.W.nsIn K mainGlobals "other_end" = some (some (.ref f1))) (l1 : K.lookup f1 = some ⟨oc1, od1, .func (PySem.W.fnOf "other_end" "other_end" (defArgs s_other_end) (defBody s_other_end) (defScope s_other_end) .none kV1 dc1 pm1 an1 cd1 ct1), sl1⟩) (c1 : PySem.W.codeIn K cd1 "other_end" = true) (k1 : PySem.W.keepIn K (.ref f1) = true)
    (a2 : PySem.W.nsIn K mainGlobals "piece_of" = some (some (.ref f2))) (l2 : K.lookup f2 = some ⟨oc2, od2, .func (PySem.W.fnOf "piece_of" "piece_of" (defArgs s_piece_of) (defBody s_piece_of) (defScope s_piece_of) .none kV2 dc2 pm2 an2 cd2 ct2), sl2⟩) (c2 : PySem.W.codeIn K cd2 "piece_of" = true) (k2 : PySem.W.keepIn K (.ref f2) = true)
    (a3 : PySem.W.nsIn K mainGlobals "is_end" = some (some (.ref f3))) (l3 : K.lookup f3 = some ⟨oc3, od3, .func (PySem.W.fnOf "is_end" "is_end" (defArgs s_is_end) (defBody s_is_end) (defScope s_is_end) .none kV3 dc3 pm3 an3 cd3 ct3), sl3⟩) (c3 : PySem.W.codeIn K cd3 "is_end" = true) (k3 : PySem.W.keepIn K (.ref f3) = true)
    (a4 : PySem.W.nsIn K mainGlobals "check_line" = some (some (.ref f4))) (l4 : K.lookup f4 = some ⟨oc4, od4, .func (PySem.W.fnOf "check_line" "check_line" (defArgs s_check_line) (defBody s_check_line) (defScope s_check_line) .none kV4 dc4 pm4 an4 cd4 ct4), sl4⟩) (c4 : PySem.W.codeIn K cd4 "check_line" = true) (k4 : PySem.W.keepIn K (.ref f4) = true)
    (a5 : PySem.W.nsIn K mainGlobals "check_joint" = some (some (.ref f5))) (l5 : K.lookup f5 = some ⟨oc5, od5, .func (PySem.W.fnOf "check_joint" "check_joint" (defArgs s_check_joint) (defBody s_check_joint) (defScope s_check_joint) .none kV5 dc5 pm5 an5 cd5 ct5), sl5⟩) (c5 : PySem.W.codeIn K cd5 "check_joint" = true) (k5 : PySem.W.keepIn K (.ref f5) = true)
    (a6 : PySem.W.nsIn K mainGlobals "joined" = some (some (.ref f6))) (l6 : K.lookup f6 = some ⟨oc6, od6, .func (PySem.W.fnOf "joined" "joined" (defArgs s_joined) (defBody s_joined) (defScope s_joined) .none kV6 dc6 pm6 an6 cd6 ct6), sl6⟩) (c6 : PySem.W.codeIn K cd6 "joined" = true) (k6 : PySem.W.keepIn K (.ref f6) = true)
    (a7 : PySem.W.nsIn K mainGlobals "show_end" = some (some (.ref f7))) (l7 : K.lookup f7 = some ⟨oc7, od7, .func (PySem.W.fnOf "show_end" "show_end" (defArgs s_show_end) (defBody s_show_end) (defScope s_show_end) .none kV7 dc7 pm7 an7 cd7 ct7), sl7⟩) (c7 : PySem.W.codeIn K cd7 "show_end" = true) (k7 : PySem.W.keepIn K (.ref f7) = true)
    (a8 : PySem.W.nsIn K mainGlobals "show_train" = some (some (.ref f8))) (l8 : K.lookup f8 = some ⟨oc8, od8, .func (PySem.W.fnOf "show_train" "show_train" (defArgs s_show_train) (defBody s_show_train) (defScope s_show_train) .none kV8 dc8 pm8 an8 cd8 ct8), sl8⟩) (c8 : PySem.W.codeIn K cd8 "show_train" = true) (k8 : PySem.W.keepIn K (.ref f8) = true)
    (a9 : PySem.W.nsIn K mainGlobals "show_run" = some (some (.ref f9))) (l9 : K.lookup f9 = some ⟨oc9, od9, .func (PySem.W.fnOf "show_run" "show_run" (defArgs s_show_run) (defBody s_show_run) (defScope s_show_run) .none kV9 dc9 pm9 an9 cd9 ct9), sl9⟩) (c9 : PySem.W.codeIn K cd9 "show_run" = true) (k9 : PySem.W.keepIn K (.ref f9) = true)
    (a10 : PySem.W.nsIn K mainGlobals "read_number" = some (some (.ref f10))) (l10 : K.lookup f10 = some ⟨oc10, od10, .func (PySem.W.fnOf "read_number" "read_number" (defArgs s_read_number) (defBody s_read_number) (defScope s_read_number) .none kV10 dc10 pm10 an10 cd10 ct10), sl10⟩) (c10 : PySem.W.codeIn K cd10 "read_number" = true) (k10 : PySem.W.keepIn K (.ref f10) = true)
    (a11 : PySem.W.nsIn K mainGlobals "read_end" = some (some (.ref f11))) (l11 : K.lookup f11 = some ⟨oc11, od11, .func (PySem.W.fnOf "read_end" "read_end" (defArgs s_read_end) (defBody s_read_end) (defScope s_read_end) .none kV11 dc11 pm11 an11 cd11 ct11), sl11⟩) (c11 : PySem.W.codeIn K cd11 "read_end" = true) (k11 : PySem.W.keepIn K (.ref f11) = true)
    (a12 : PySem.W.nsIn K mainGlobals "words_behind" = some (some (.ref f12))) (l12 : K.lookup f12 = some ⟨oc12, od12, .func (PySem.W.fnOf "words_behind" "words_behind" (defArgs s_words_behind) (defBody s_words_behind) (defScope s_words_behind) .none kV12 dc12 pm12 an12 cd12 ct12), sl12⟩) (c12 : PySem.W.codeIn K cd12 "words_behind" = true) (k12 : PySem.W.keepIn K (.ref f12) = true)
    (a13 : PySem.W.nsIn K mainGlobals "read_joint" = some (some (.ref f13))) (l13 : K.lookup f13 = some ⟨oc13, od13, .func (PySem.W.fnOf "read_joint" "read_joint" (defArgs s_read_joint) (defBody s_read_joint) (defScope s_read_joint) .none kV13 dc13 pm13 an13 cd13 ct13), sl13⟩) (c13 : PySem.W.codeIn K cd13 "read_joint" = true) (k13 : PySem.W.keepIn K (.ref f13) = true)
    (a14 : PySem.W.nsIn K mainGlobals "read_line" = some (some (.ref f14))) (l14 : K.lookup f14 = some ⟨oc14, od14, .func (PySem.W.fnOf "read_line" "read_line" (defArgs s_read_line) (defBody s_read_line) (defScope s_read_line) .none kV14 dc14 pm14 an14 cd14 ct14), sl14⟩) (c14 : PySem.W.codeIn K cd14 "read_line" = true) (k14 : PySem.W.keepIn K (.ref f14) = true)
    (a15 : PySem.W.nsIn K mainGlobals "read_train" = some (some (.ref f15))) (l15 : K.lookup f15 = some ⟨oc15, od15, .func (PySem.W.fnOf "read_train" "read_train" (defArgs s_read_train) (defBody s_read_train) (defScope s_read_train) .none kV15 dc15 pm15 an15 cd15 ct15), sl15⟩) (c15 : PySem.W.codeIn K cd15 "read_train" = true) (k15 : PySem.W.keepIn K (.ref f15) = true)
    (a16 : PySem.W.nsIn K mainGlobals "read_move" = some (some (.ref f16))) (l16 : K.lookup f16 = some ⟨oc16, od16, .func (PySem.W.fnOf "read_move" "read_move" (defArgs s_read_move) (defBody s_read_move) (defScope s_read_move) .none kV16 dc16 pm16 an16 cd16 ct16), sl16⟩) (c16 : PySem.W.codeIn K cd16 "read_move" = true) (k16 : PySem.W.keepIn K (.ref f16) = true)
    (a17 : PySem.W.nsIn K mainGlobals "read_run" = some (some (.ref f17))) (l17 : K.lookup f17 = some ⟨oc17, od17, .func (PySem.W.fnOf "read_run" "read_run" (defArgs s_read_run) (defBody s_read_run) (defScope s_read_run) .none kV17 dc17 pm17 an17 cd17 ct17), sl17⟩) (c17 : PySem.W.codeIn K cd17 "read_run" = true) (k17 : PySem.W.keepIn K (.ref f17) = true)
    (a18 : PySem.W.nsIn K mainGlobals "check_train" = some (some (.ref f18))) (l18 : K.lookup f18 = some ⟨oc18, od18, .func (PySem.W.fnOf "check_train" "check_train" (defArgs s_check_train) (defBody s_check_train) (defScope s_check_train) .none kV18 dc18 pm18 an18 cd18 ct18), sl18⟩) (c18 : PySem.W.codeIn K cd18 "check_train" = true) (k18 : PySem.W.keepIn K (.ref f18) = true)
    (a19 : PySem.W.nsIn K mainGlobals "turned" = some (some (.ref f19))) (l19 : K.lookup f19 = some ⟨oc19, od19, .func (PySem.W.fnOf "turned" "turned" (defArgs s_turned) (defBody s_turned) (defScope s_turned) .none kV19 dc19 pm19 an19 cd19 ct19), sl19⟩) (c19 : PySem.W.codeIn K cd19 "turned" = true) (k19 : PySem.W.keepIn K (.ref f19) = true)
    (a20 : PySem.W.nsIn K mainGlobals "free_ends" = some (some (.ref f20))) (l20 : K.lookup f20 = some ⟨oc20, od20, .func (PySem.W.fnOf "free_ends" "free_ends" (defArgs s_free_ends) (defBody s_free_ends) (defScope s_free_ends) .none kV20 dc20 pm20 an20 cd20 ct20), sl20⟩) (c20 : PySem.W.codeIn K cd20 "free_ends" = true) (k20 : PySem.W.keepIn K (.ref f20) = true)
    (a21 : PySem.W.nsIn K mainGlobals "moves_of" = some (some (.ref f21))) (l21 : K.lookup f21 = some ⟨oc21, od21, .func (PySem.W.fnOf "moves_of" "moves_of" (defArgs s_moves_of) (defBody s_moves_of) (defScope s_moves_of) .none kV21 dc21 pm21 an21 cd21 ct21), sl21⟩) (c21 : PySem.W.codeIn K cd21 "moves_of" = true) (k21 : PySem.W.keepIn K (.ref f21) = true)
    (a22 : PySem.W.nsIn K mainGlobals "done" = some (some (.ref f22))) (l22 : K.lookup f22 = some ⟨oc22, od22, .func (PySem.W.fnOf "done" "done" (defArgs s_done) (defBody s_done) (defScope s_done) .none kV22 dc22 pm22 an22 cd22 ct22), sl22⟩) (c22 : PySem.W.codeIn K cd22 "done" = true) (k22 : PySem.W.keepIn K (.ref f22) = true)
    (a23 : PySem.W.nsIn K mainGlobals "walked" = some (some (.ref f23))) (l23 : K.lookup f23 = some ⟨oc23, od23, .func (PySem.W.fnOf "walked" "walked" (defArgs s_walked) (defBody s_walked) (defScope s_walked) .none kV23 dc23 pm23 an23 cd23 ct23), sl23⟩) (c23 : PySem.W.codeIn K cd23 "walked" = true) (k23 : PySem.W.keepIn K (.ref f23) = true)
    (a24 : PySem.W.nsIn K mainGlobals "changes" = some (some (.ref f24))) (l24 : K.lookup f24 = some ⟨oc24, od24, .func (PySem.W.fnOf "changes" "changes" (defArgs s_changes) (defBody s_changes) (defScope s_changes) .none kV24 dc24 pm24 an24 cd24 ct24), sl24⟩) (c24 : PySem.W.codeIn K cd24 "changes" = true) (k24 : PySem.W.keepIn K (.ref f24) = true)
    (a25 : PySem.W.nsIn K mainGlobals "_law_cell_at" = some (some (.ref f25))) (l25 : K.lookup f25 = some ⟨oc25, od25, .func (PySem.W.fnOf "_law_cell_at" "_law_cell_at" (defArgs s_law_cell_at) (defBody s_law_cell_at) (defScope s_law_cell_at) .none kV25 dc25 pm25 an25 cd25 ct25), sl25⟩) (c25 : PySem.W.codeIn K cd25 "_law_cell_at" = true) (k25 : PySem.W.keepIn K (.ref f25) = true)
    (a26 : PySem.W.nsIn K mainGlobals "_law_mix" = some (some (.ref f26))) (l26 : K.lookup f26 = some ⟨oc26, od26, .func (PySem.W.fnOf "_law_mix" "_law_mix" (defArgs s_law_mix) (defBody s_law_mix) (defScope s_law_mix) .none kV26 dc26 pm26 an26 cd26 ct26), sl26⟩) (c26 : PySem.W.codeIn K cd26 "_law_mix" = true) (k26 : PySem.W.keepIn K (.ref f26) = true)
    (a27 : PySem.W.nsIn K mainGlobals "_law_other" = some (some (.ref f27))) (l27 : K.lookup f27 = some ⟨oc27, od27, .func (PySem.W.fnOf "_law_other" "_law_other" (defArgs s_law_other) (defBody s_law_other) (defScope s_law_other) .none kV27 dc27 pm27 an27 cd27 ct27), sl27⟩) (c27 : PySem.W.codeIn K cd27 "_law_other" = true) (k27 : PySem.W.keepIn K (.ref f27) = true)
    (a28 : PySem.W.nsIn K mainGlobals "_law_line" = some (some (.ref f28))) (l28 : K.lookup f28 = some ⟨oc28, od28, .func (PySem.W.fnOf "_law_line" "_law_line" (defArgs s_law_line) (defBody s_law_line) (defScope s_law_line) .none kV28 dc28 pm28 an28 cd28 ct28), sl28⟩) (c28 : PySem.W.codeIn K cd28 "_law_line" = true) (k28 : PySem.W.keepIn K (.ref f28) = true)
    (a29 : PySem.W.nsIn K mainGlobals "_law_joined" = some (some (.ref f29))) (l29 : K.lookup f29 = some ⟨oc29, od29, .func (PySem.W.fnOf "_law_joined" "_law_joined" (defArgs s_law_joined) (defBody s_law_joined) (defScope s_law_joined) .none kV29 dc29 pm29 an29 cd29 ct29), sl29⟩) (c29 : PySem.W.codeIn K cd29 "_law_joined" = true) (k29 : PySem.W.keepIn K (.ref f29) = true)
    (a30 : PySem.W.nsIn K mainGlobals "_law_train" = some (some (.ref f30))) (l30 : K.lookup f30 = some ⟨oc30, od30, .func (PySem.W.fnOf "_law_train" "_law_train" (defArgs s_law_train) (defBody s_law_train) (defScope s_law_train) .none kV30 dc30 pm30 an30 cd30 ct30), sl30⟩) (c30 : PySem.W.codeIn K cd30 "_law_train" = true) (k30 : PySem.W.keepIn K (.ref f30) = true)
    (a31 : PySem.W.nsIn K mainGlobals "_law_moves" = some (some (.ref f31))) (l31 : K.lookup f31 = some ⟨oc31, od31, .func (PySem.W.fnOf "_law_moves" "_law_moves" (defArgs s_law_moves) (defBody s_law_moves) (defScope s_law_moves) .none kV31 dc31 pm31 an31 cd31 ct31), sl31⟩) (c31 : PySem.W.codeIn K cd31 "_law_moves" = true) (k31 : PySem.W.keepIn K (.ref f31) = true)
    (a32 : PySem.W.nsIn K mainGlobals "_law_run" = some (some (.ref f32))) (l32 : K.lookup f32 = some ⟨oc32, od32, .func (PySem.W.fnOf "_law_run" "_law_run" (defArgs s_law_run) (defBody s_law_run) (defScope s_law_run) .none kV32 dc32 pm32 an32 cd32 ct32), sl32⟩) (c32 : PySem.W.codeIn K cd32 "_law_run" = true) (k32 : PySem.W.keepIn K (.ref f32) = true)
    (a33 : PySem.W.nsIn K mainGlobals "_law_end_text" = some (some (.ref f33))) (l33 : K.lookup f33 = some ⟨oc33, od33, .func (PySem.W.fnOf "_law_end_text" "_law_end_text" (defArgs s_law_end_text) (defBody s_law_end_text) (defScope s_law_end_text) .none kV33 dc33 pm33 an33 cd33 ct33), sl33⟩) (c33 : PySem.W.codeIn K cd33 "_law_end_text" = true) (k33 : PySem.W.keepIn K (.ref f33) = true)
    (a34 : PySem.W.nsIn K mainGlobals "_law_train_text" = some (some (.ref f34))) (l34 : K.lookup f34 = some ⟨oc34, od34, .func (PySem.W.fnOf "_law_train_text" "_law_train_text" (defArgs s_law_train_text) (defBody s_law_train_text) (defScope s_law_train_text) .none kV34 dc34 pm34 an34 cd34 ct34), sl34⟩) (c34 : PySem.W.codeIn K cd34 "_law_train_text" = true) (k34 : PySem.W.keepIn K (.ref f34) = true)
    (a35 : PySem.W.nsIn K mainGlobals "_law_run_text" = some (some (.ref f35))) (l35 : K.lookup f35 = some ⟨oc35, od35, .func (PySem.W.fnOf "_law_run_text" "_law_run_text" (defArgs s_law_run_text) (defBody s_law_run_text) (defScope s_law_run_text) .none kV35 dc35 pm35 an35 cd35 ct35), sl35⟩) (c35 : PySem.W.codeIn K cd35 "_law_run_text" = true) (k35 : PySem.W.keepIn K (.ref f35) = true)
    (a36 : PySem.W.nsIn K mainGlobals "_law_line_text" = some (some (.ref f36))) (l36 : K.lookup f36 = some ⟨oc36, od36, .func (PySem.W.fnOf "_law_line_text" "_law_line_text" (defArgs s_law_line_text) (defBody s_law_line_text) (defScope s_law_line_text) .none kV36 dc36 pm36 an36 cd36 ct36), sl36⟩) (c36 : PySem.W.codeIn K cd36 "_law_line_text" = true) (k36 : PySem.W.keepIn K (.ref f36) = true)
    (a37 : PySem.W.nsIn K mainGlobals "_law_gone" = some (some (.ref f37))) (l37 : K.lookup f37 = some ⟨oc37, od37, .func (PySem.W.fnOf "_law_gone" "_law_gone" (defArgs s_law_gone) (defBody s_law_gone) (defScope s_law_gone) .none kV37 dc37 pm37 an37 cd37 ct37), sl37⟩) (c37 : PySem.W.codeIn K cd37 "_law_gone" = true) (k37 : PySem.W.keepIn K (.ref f37) = true)
    (a38 : PySem.W.nsIn K mainGlobals "_law_undone" = some (some (.ref f38))) (l38 : K.lookup f38 = some ⟨oc38, od38, .func (PySem.W.fnOf "_law_undone" "_law_undone" (defArgs s_law_undone) (defBody s_law_undone) (defScope s_law_undone) .none kV38 dc38 pm38 an38 cd38 ct38), sl38⟩) (c38 : PySem.W.codeIn K cd38 "_law_undone" = true) (k38 : PySem.W.keepIn K (.ref f38) = true)
    (a39 : PySem.W.nsIn K mainGlobals "_law_good" = some (some (.ref f39))) (l39 : K.lookup f39 = some ⟨oc39, od39, .func (PySem.W.fnOf "_law_good" "_law_good" (defArgs s_law_good) (defBody s_law_good) (defScope s_law_good) .none kV39 dc39 pm39 an39 cd39 ct39), sl39⟩) (c39 : PySem.W.codeIn K cd39 "_law_good" = true) (k39 : PySem.W.keepIn K (.ref f39) = true)
    (a40 : PySem.W.nsIn K mainGlobals "law" = some (some (.ref f40))) (l40 : K.lookup f40 = some ⟨oc40, od40, .func (PySem.W.fnOf "law" "law" (defArgs s_law) (defBody s_law) (defScope s_law) .none kV40 dc40 pm40 an40 cd40 ct40), sl40⟩) (c40 : PySem.W.codeIn K cd40 "law" = true) (k40 : PySem.W.keepIn K (.ref f40) = true)
    (z1 : PySem.W.nsIn K mainGlobals "len" = some none) (z2 : PySem.W.nsIn K mainGlobals "range" = some none) (z3 : PySem.W.nsIn K mainGlobals "sorted" = some none) (z4 : PySem.W.nsIn K mainGlobals "enumerate" = some none) (z5 : PySem.W.nsIn K mainGlobals "reversed" = some none) (z6 : PySem.W.nsIn K mainGlobals "min" = some none) (z7 : PySem.W.nsIn K mainGlobals "max" = some none) (z8 : PySem.W.nsIn K mainGlobals "list" = some none) (z9 : PySem.W.nsIn K mainGlobals "int" = some none) (z10 : PySem.W.nsIn K mainGlobals "isinstance" = some none) (z11 : PySem.W.nsIn K mainGlobals "zip" = some none) (z12 : PySem.W.nsIn K mainGlobals "sum" = some none) (z13 : PySem.W.nsIn K mainGlobals "all" = some none) (z14 : PySem.W.nsIn K mainGlobals "set" = some none) (z15 : PySem.W.nsIn K mainGlobals "tuple" = some none) (z16 : PySem.W.nsIn K mainGlobals "abs" = some none) (z17 : PySem.W.nsIn K mainGlobals "bool" = some none) (z18 : PySem.W.nsIn K mainGlobals "dict" = some none) (z19 : PySem.W.nsIn K mainGlobals "str" = some none)
    {E0 : Addr} (xo0 : XcIn K "NoLine" E0)
    {E1 : Addr} (xo1 : XcIn K "NoText" E1)
    {E2 : Addr} (xo2 : XcIn K "NoTrain" E2)
    {E3 : Addr} (xo3 : XcIn K "NoMove" E3)
    {tk0 : Tok} (ck0 : PySem.W.nsIn K mainGlobals "MOST_PIECES" = some (some (.int 40 tk0)))
    {tk1 : Tok} (ck1 : PySem.W.nsIn K mainGlobals "MOST_JOINTS" = some (some (.int 80 tk1)))
    {tk2 : Tok} (ck2 : PySem.W.nsIn K mainGlobals "FIGURES" = some (some (.str "0123456789" tk2)))
    {tk3 : Tok} (ck3 : PySem.W.nsIn K mainGlobals "MOST_FIGURES" = some (some (.int 40 tk3))) :
    ∃ fd : FuncData, (∀ (s : Shared) (v : Value), BindsTo s fd ⟨[v], []⟩ [("_law_script", v)]) ∧ ∀ base : Heap, K.In base → base.Ns mainGlobals mg → FnOk l.prog w K mg base CX0 7 fa fd ["_law_script"] (sp_law K) := by
  have e := hfa.symm.trans (PySem.W.mg_of X G a40)
  cases e
  have B : Bm mg := ⟨⟨PySem.W.mg_none_of X G z1, PySem.W.mg_none_of X G z2, PySem.W.mg_none_of X G z3, PySem.W.mg_none_of X G z4, PySem.W.mg_none_of X G z5, PySem.W.mg_none_of X G z6, PySem.W.mg_none_of X G z7, PySem.W.mg_none_of X G z8, PySem.W.mg_none_of X G z9, PySem.W.mg_none_of X G z10⟩, PySem.W.mg_none_of X G z11, PySem.W.mg_none_of X G z12, PySem.W.mg_none_of X G z13, PySem.W.mg_none_of X G z14, PySem.W.mg_none_of X G z15, PySem.W.mg_none_of X G z16, PySem.W.mg_none_of X G z17, PySem.W.mg_none_of X G z18, PySem.W.mg_none_of X G z19⟩
  have X0 := xo0.xc X G
  have X1 := xo1.xc X G
  have X2 := xo2.xc X G
  have X3 := xo3.xc X G
  have C : Cl mg tk0 tk1 := ⟨PySem.W.mg_of X G ck0, PySem.W.mg_of X G ck1⟩
  have C2 : Ct mg tk2 tk3 := ⟨PySem.W.mg_of X G ck2, PySem.W.mg_of X G ck3⟩
  have F_other_end := fn_mk (st := s_other_end) (ps := ["end"]) X G a1 l1 c1 k1 fun _ _ _ _ _ _ us hl => match us, hl with | [_], _ => rfl
  have F_piece_of := fn_mk (st := s_piece_of) (ps := ["end"]) X G a2 l2 c2 k2 fun _ _ _ _ _ _ us hl => match us, hl with | [_], _ => rfl
  have F_is_end := fn_mk (st := s_is_end) (ps := ["line", "end"]) X G a3 l3 c3 k3 fun _ _ _ _ _ _ us hl => match us, hl with | [_, _], _ => rfl
  have F_check_line := fn_mk (st := s_check_line) (ps := ["line"]) X G a4 l4 c4 k4 fun _ _ _ _ _ _ us hl => match us, hl with | [_], _ => rfl
  have F_check_joint := fn_mk (st := s_check_joint) (ps := ["line", "joint"]) X G a5 l5 c5 k5 fun _ _ _ _ _ _ us hl => match us, hl with | [_, _], _ => rfl
  have F_joined := fn_mk (st := s_joined) (ps := ["line", "end"]) X G a6 l6 c6 k6 fun _ _ _ _ _ _ us hl => match us, hl with | [_, _], _ => rfl
  have F_show_end := fn_mk (st := s_show_end) (ps := ["end"]) X G a7 l7 c7 k7 fun _ _ _ _ _ _ us hl => match us, hl with | [_], _ => rfl
  have F_show_train := fn_mk (st := s_show_train) (ps := ["train"]) X G a8 l8 c8 k8 fun _ _ _ _ _ _ us hl => match us, hl with | [_], _ => rfl
  have F_show_run := fn_mk (st := s_show_run) (ps := ["run"]) X G a9 l9 c9 k9 fun _ _ _ _ _ _ us hl => match us, hl with | [_], _ => rfl
  have F_read_number := fn_mk (st := s_read_number) (ps := ["text"]) X G a10 l10 c10 k10 fun _ _ _ _ _ _ us hl => match us, hl with | [_], _ => rfl
  have F_read_end := fn_mk (st := s_read_end) (ps := ["text"]) X G a11 l11 c11 k11 fun _ _ _ _ _ _ us hl => match us, hl with | [_], _ => rfl
  have F_words_behind := fn_mk (st := s_words_behind) (ps := ["row", "word", "many"]) X G a12 l12 c12 k12 fun _ _ _ _ _ _ us hl => match us, hl with | [_, _, _], _ => rfl
  have F_read_joint := fn_mk (st := s_read_joint) (ps := ["row"]) X G a13 l13 c13 k13 fun _ _ _ _ _ _ us hl => match us, hl with | [_], _ => rfl
  have F_read_line := fn_mk (st := s_read_line) (ps := ["text"]) X G a14 l14 c14 k14 fun _ _ _ _ _ _ us hl => match us, hl with | [_], _ => rfl
  have F_read_train := fn_mk (st := s_read_train) (ps := ["text"]) X G a15 l15 c15 k15 fun _ _ _ _ _ _ us hl => match us, hl with | [_], _ => rfl
  have F_read_move := fn_mk (st := s_read_move) (ps := ["word", "end"]) X G a16 l16 c16 k16 fun _ _ _ _ _ _ us hl => match us, hl with | [_, _], _ => rfl
  have F_read_run := fn_mk (st := s_read_run) (ps := ["text"]) X G a17 l17 c17 k17 fun _ _ _ _ _ _ us hl => match us, hl with | [_], _ => rfl
  have F_check_train := fn_mk (st := s_check_train) (ps := ["line", "train"]) X G a18 l18 c18 k18 fun _ _ _ _ _ _ us hl => match us, hl with | [_, _], _ => rfl
  have F_turned := fn_mk (st := s_turned) (ps := ["train"]) X G a19 l19 c19 k19 fun _ _ _ _ _ _ us hl => match us, hl with | [_], _ => rfl
  have F_free_ends := fn_mk (st := s_free_ends) (ps := ["line", "train", "end"]) X G a20 l20 c20 k20 fun _ _ _ _ _ _ us hl => match us, hl with | [_, _, _], _ => rfl
  have F_moves_of := fn_mk (st := s_moves_of) (ps := ["line", "train"]) X G a21 l21 c21 k21 fun _ _ _ _ _ _ us hl => match us, hl with | [_, _], _ => rfl
  have F_done := fn_mk (st := s_done) (ps := ["line", "train", "move"]) X G a22 l22 c22 k22 fun _ _ _ _ _ _ us hl => match us, hl with | [_, _, _], _ => rfl
  have F_walked := fn_mk (st := s_walked) (ps := ["line", "train", "run"]) X G a23 l23 c23 k23 fun _ _ _ _ _ _ us hl => match us, hl with | [_, _, _], _ => rfl
  have F_changes := fn_mk (st := s_changes) (ps := ["run"]) X G a24 l24 c24 k24 fun _ _ _ _ _ _ us hl => match us, hl with | [_], _ => rfl
  have F_law_cell_at := fn_mk (st := s_law_cell_at) (ps := ["_law_script", "_law_k"]) X G a25 l25 c25 k25 fun _ _ _ _ _ _ us hl => match us, hl with | [_, _], _ => rfl
  have F_law_mix := fn_mk (st := s_law_mix) (ps := ["_law_cell", "_law_k"]) X G a26 l26 c26 k26 fun _ _ _ _ _ _ us hl => match us, hl with | [_, _], _ => rfl
  have F_law_other := fn_mk (st := s_law_other) (ps := ["_law_end"]) X G a27 l27 c27 k27 fun _ _ _ _ _ _ us hl => match us, hl with | [_], _ => rfl
  have F_law_line := fn_mk (st := s_law_line) (ps := ["_law_script", "_law_start", "_law_most", "_law_upto"]) X G a28 l28 c28 k28 fun _ _ _ _ _ _ us hl => match us, hl with | [_, _, _, _], _ => rfl
  have F_law_joined := fn_mk (st := s_law_joined) (ps := ["_law_line_here", "_law_end"]) X G a29 l29 c29 k29 fun _ _ _ _ _ _ us hl => match us, hl with | [_, _], _ => rfl
  have F_law_train := fn_mk (st := s_law_train) (ps := ["_law_line_here", "_law_number", "_law_most"]) X G a30 l30 c30 k30 fun _ _ _ _ _ _ us hl => match us, hl with | [_, _, _], _ => rfl
  have F_law_moves := fn_mk (st := s_law_moves) (ps := ["_law_line_here", "_law_train_here"]) X G a31 l31 c31 k31 fun _ _ _ _ _ _ us hl => match us, hl with | [_, _], _ => rfl
  have F_law_run := fn_mk (st := s_law_run) (ps := ["_law_line_here", "_law_train_here", "_law_number", "_law_most"]) X G a32 l32 c32 k32 fun _ _ _ _ _ _ us hl => match us, hl with | [_, _, _, _], _ => rfl
  have F_law_end_text := fn_mk (st := s_law_end_text) (ps := ["_law_end"]) X G a33 l33 c33 k33 fun _ _ _ _ _ _ us hl => match us, hl with | [_], _ => rfl
  have F_law_train_text := fn_mk (st := s_law_train_text) (ps := ["_law_train_here"]) X G a34 l34 c34 k34 fun _ _ _ _ _ _ us hl => match us, hl with | [_], _ => rfl
  have F_law_run_text := fn_mk (st := s_law_run_text) (ps := ["_law_run_here"]) X G a35 l35 c35 k35 fun _ _ _ _ _ _ us hl => match us, hl with | [_], _ => rfl
  have F_law_line_text := fn_mk (st := s_law_line_text) (ps := ["_law_line_here"]) X G a36 l36 c36 k36 fun _ _ _ _ _ _ us hl => match us, hl with | [_], _ => rfl
  have F_law_gone := fn_mk (st := s_law_gone) (ps := ["_law_line_here", "_law_train_here", "_law_run_here"]) X G a37 l37 c37 k37 fun _ _ _ _ _ _ us hl => match us, hl with | [_, _, _], _ => rfl
  have F_law_undone := fn_mk (st := s_law_undone) (ps := ["_law_trains", "_law_run_here"]) X G a38 l38 c38 k38 fun _ _ _ _ _ _ us hl => match us, hl with | [_, _], _ => rfl
  have F_law_good := fn_mk (st := s_law_good) (ps := ["_law_line_here", "_law_train_here", "_law_run_here"]) X G a39 l39 c39 k39 fun _ _ _ _ _ _ us hl => match us, hl with | [_, _, _], _ => rfl
  have F_law := fn_mk (st := s_law) (ps := ["_law_script"]) X G a40 l40 c40 k40 fun _ _ _ _ _ _ us hl => match us, hl with | [_], _ => rfl
  refine ⟨PySem.W.fnOf "law" "law" (defArgs s_law) (defBody s_law) (defScope s_law) .none kV40 dc40 pm40 an40 cd40 ct40, fun s v => .of_eq rfl, fun base _ _ => ?_⟩
  have G_law_line : FnOk l.prog w K mg base CX0 2 _ _ _ _ := ok_law_line F_law_line F_law_mix F_law_cell_at B.toBl
  have G_check_joint : FnOk l.prog w K mg base (CXr l.prog w base) 2 _ _ _ _ := ok_check_joint F_check_joint ⟨X0⟩ F_is_end F_piece_of
  have G_check_line : FnOk l.prog w K mg base (CXr l.prog w base) 3 _ _ _ _ := ok_check_line F_check_line ⟨X0⟩ B C F_check_joint G_check_joint
  have G_read_number : FnOk l.prog w K mg base (CXr l.prog w base) 1 _ _ _ _ := ok_read_number F_read_number B C2 ⟨X1⟩
  have G_read_end : FnOk l.prog w K mg base (CXr l.prog w base) 2 _ _ _ _ := ok_read_end F_read_end ⟨X1⟩ F_read_number G_read_number
  have G_words_behind : FnOk l.prog w K mg base (CXr l.prog w base) 1 _ _ _ _ := ok_words_behind F_words_behind B ⟨X1⟩
  have G_read_joint : FnOk l.prog w K mg base (CXr l.prog w base) 3 _ _ _ _ := ok_read_joint F_read_joint F_read_end F_words_behind G_read_end G_words_behind
  have G_read_line : FnOk l.prog w K mg base (CXr l.prog w base) 4 _ _ _ _ := ok_read_line F_read_line F_read_number F_words_behind F_read_joint F_check_line G_read_number G_words_behind G_read_joint G_check_line
  have G_read_train : FnOk l.prog w K mg base (CXr l.prog w base) 3 _ _ _ _ := ok_read_train F_read_train F_read_end G_read_end
  have G_read_move : FnOk l.prog w K mg base (CXr l.prog w base) 3 _ _ _ _ := ok_read_move F_read_move ⟨X1⟩ F_read_end G_read_end
  have G_read_run : FnOk l.prog w K mg base (CXr l.prog w base) 4 _ _ _ _ := ok_read_run F_read_run B ⟨X1⟩ F_read_move G_read_move
  have G_show_end : FnOk l.prog w K mg base CX0 2 _ _ _ _ := ok_show_end F_show_end F_piece_of
  have G_show_train : FnOk l.prog w K mg base CX0 3 _ _ _ _ := ok_show_train F_show_train F_show_end G_show_end
  have G_show_run : FnOk l.prog w K mg base CX0 3 _ _ _ _ := ok_show_run F_show_run F_show_end G_show_end
  have G_turned : FnOk l.prog w K mg base CX0 2 _ _ _ _ := ok_turned F_turned B.toBl F_other_end
  have G_free_ends : FnOk l.prog w K mg base CX0 2 _ _ _ _ := ok_free_ends F_free_ends B.toBl F_piece_of F_joined
  have G_moves_of : FnOk l.prog w K mg base CX0 3 _ _ _ _ := ok_moves_of F_moves_of F_other_end F_free_ends G_free_ends
  have XR : Xr K mg _ _ := ⟨X2, X3⟩
  have G_done : FnOk l.prog w K mg base (CXr l.prog w base) 4 _ _ _ _ := ok_done F_done XR F_moves_of G_moves_of
  have G_check_train : FnOk l.prog w K mg base (CXr l.prog w base) 2 _ _ _ _ := ok_check_train F_check_train XR B F_is_end F_piece_of F_joined F_other_end
  have G_walked : FnOk l.prog w K mg base (CXr l.prog w base) 5 _ _ _ _ := ok_walked F_walked B F_done G_done
  have G_law_train : FnOk l.prog w K mg base CX0 2 _ _ _ _ := ok_law_train F_law_train F_law_mix F_law_other F_law_joined B.toBl
  have G_law_moves : FnOk l.prog w K mg base CX0 2 _ _ _ _ := ok_law_moves F_law_moves F_law_other F_law_joined B.toBl
  have G_law_run : FnOk l.prog w K mg base CX0 3 _ _ _ _ := ok_law_run F_law_run B F_law_mix F_law_moves G_law_moves
  have G_law_gone : FnOk l.prog w K mg base CX0 3 _ _ _ _ := ok_law_gone F_law_gone F_law_moves G_law_moves
  have G_law_undone : FnOk l.prog w K mg base CX0 2 _ _ _ _ := ok_law_undone F_law_undone B F_law_other
  have G_law_line_text : FnOk l.prog w K mg base CX0 2 _ _ _ _ := ok_law_line_text F_law_line_text B F_law_end_text
  have G_law_train_text : FnOk l.prog w K mg base CX0 2 _ _ _ _ := ok_law_train_text F_law_train_text B F_law_end_text
  have G_law_run_text : FnOk l.prog w K mg base CX0 2 _ _ _ _ := ok_law_run_text F_law_run_text B F_law_end_text
  have G_law_good : FnOk l.prog w K mg base CX0 6 _ _ _ _ := ok_law_good F_law_good B F_law_line_text G_law_line_text F_law_train_text G_law_train_text F_law_run_text G_law_run_text F_read_line G_read_line F_read_train G_read_train F_read_run G_read_run F_check_line G_check_line F_check_train G_check_train F_law_gone G_law_gone F_walked G_walked F_changes F_done G_done F_show_run G_show_run F_show_train G_show_train F_law_undone G_law_undone F_turned G_turned
  exact ok_law F_law B F_law_line G_law_line F_law_cell_at F_law_mix F_law_train G_law_train F_law_run G_law_run F_law_good G_law_good
theorem walk {l : PySem.W.OpenLaw} {q : Program} {loose : List Str} {XP : (Str → Option Value) → Heap → Prop} {YP : World → Heap → Prop} {d : DefRec} {K : Params → PySem.W.Frag} (hn : l.most = some 63) (hdf : d.params.defaults = [])
    (hY : ∀ (w : World) (h : Heap), YP w h → (K w.params).In h)
    (F : ∀ (w : World) (mg : Str → Option Value) (fa : Addr) (h : Heap), (K w.params).In h → h.Ns mainGlobals mg → mg d.name = some (.ref fa) →
      ∃ fd : FuncData, (∀ (s : Shared) (u : Value), BindsTo s fd ⟨[u], []⟩ [("_law_script", u)]) ∧ ∀ base : Heap, (K w.params).In base → base.Ns mainGlobals mg → FnOk l.prog w (K w.params) mg base CX0 7 fa fd ["_law_script"] (sp_law (K w.params))) :
    PySem.W.WalkO q loose XP YP l.row.toRowW d [] (fun f vs => PySem.call f vs) :=
  L2.walk_of (n := 63) (k := 7) (x := "_law_script") (CX := fun _ => CX0) (sp := fun w => sp_law (K w.params)) hn (by decide) hdf ⟨rfl, by decide, by decide⟩ hY F (fun _ _ a ns hl _ hS => ⟨a, ns, rfl, hS, fun _ => rfl⟩) fun _ _ _ _ _ z => z
end K75
theorem PySem.W.Fast.tw10006575826218469841 : True := trivial
theorem PySem.W.Fast.tw1002540252839993198 : True := trivial
theorem PySem.W.Fast.tw1002910221634393648 : True := trivial
theorem PySem.W.Fast.tw10059722725042069603 : True := trivial
theorem PySem.W.Fast.tw10088640859792482818 : True := trivial
theorem PySem.W.Fast.tw10107355669770871264 : True := trivial
theorem PySem.W.Fast.tw10129028632301509680 : True := trivial
theorem PySem.W.Fast.tw10174748954807487548 : True := trivial
theorem PySem.W.Fast.tw10272692931998880789 : True := trivial
theorem PySem.W.Fast.tw10324036286803826550 : True := trivial
theorem PySem.W.Fast.tw10324973494226773825 : True := trivial
theorem PySem.W.Fast.tw10491900378070200918 : True := trivial
theorem PySem.W.Fast.tw1056851650984212271 : True := trivial
theorem PySem.W.Fast.tw10681591227115231536 : True := trivial
theorem PySem.W.Fast.tw10895683254398828113 : True := trivial
theorem PySem.W.Fast.tw10954707871492104535 : True := trivial
theorem PySem.W.Fast.tw11004027873253610134 : True := trivial
theorem PySem.W.Fast.tw11166289998025618048 : True := trivial
theorem PySem.W.Fast.tw11226430449192753859 : True := trivial
theorem PySem.W.Fast.tw11233704771303542109 : True := trivial
theorem PySem.W.Fast.tw11250370349225201793 : True := trivial
theorem PySem.W.Fast.tw11251571496004262098 : True := trivial
theorem PySem.W.Fast.tw11318961531737828663 : True := trivial
theorem PySem.W.Fast.tw11489069277950918202 : True := trivial
theorem PySem.W.Fast.tw11503821008310563781 : True := trivial
theorem PySem.W.Fast.tw11508633024125336294 : True := trivial
theorem PySem.W.Fast.tw11547599554896325167 : True := trivial
theorem PySem.W.Fast.tw11557064770482440732 : True := trivial
theorem PySem.W.Fast.tw11581387227171052384 : True := trivial
theorem PySem.W.Fast.tw11597110323849376463 : True := trivial
theorem PySem.W.Fast.tw11623902968870458595 : True := trivial
theorem PySem.W.Fast.tw11675833249367493533 : True := trivial
theorem PySem.W.Fast.tw11677735485359378448 : True := trivial
theorem PySem.W.Fast.tw11680221254518871979 : True := trivial
theorem PySem.W.Fast.tw11683065908471702244 : True := trivial
theorem PySem.W.Fast.tw11706446605919843891 : True := trivial
theorem PySem.W.Fast.tw11834682477023204657 : True := trivial
theorem PySem.W.Fast.tw11851764174883597057 : True := trivial
theorem PySem.W.Fast.tw11891171700347334229 : True := trivial
theorem PySem.W.Fast.tw11908610512668202782 : True := trivial
theorem PySem.W.Fast.tw1199309328019986667 : True := trivial
theorem PySem.W.Fast.tw12108420725508031568 : True := trivial
theorem PySem.W.Fast.tw1215098490127477379 : True := trivial
theorem PySem.W.Fast.tw12161137925074641577 : True := trivial
theorem PySem.W.Fast.tw12574287443059819713 : True := trivial
theorem PySem.W.Fast.tw12587092951612514087 : True := trivial
theorem PySem.W.Fast.tw1258874586632813826 : True := trivial
theorem PySem.W.Fast.tw12606812077070316667 : True := trivial
theorem PySem.W.Fast.tw1269076438007215370 : True := trivial
theorem PySem.W.Fast.tw12754592741031090344 : True := trivial
theorem PySem.W.Fast.tw12754776749341949074 : True := trivial
theorem PySem.W.Fast.tw12772822035801277615 : True := trivial
theorem PySem.W.Fast.tw12906341273119981093 : True := trivial
theorem PySem.W.Fast.tw12933557765453361071 : True := trivial
theorem PySem.W.Fast.tw12943648025769647537 : True := trivial
theorem PySem.W.Fast.tw1297250319333222928 : True := trivial
theorem PySem.W.Fast.tw12989012725648752223 : True := trivial
theorem PySem.W.Fast.tw13084418708390527491 : True := trivial
theorem PySem.W.Fast.tw13086352165587147648 : True := trivial
theorem PySem.W.Fast.tw1312986125000297648 : True := trivial
theorem PySem.W.Fast.tw13138774989756017578 : True := trivial
theorem PySem.W.Fast.tw13152679117807392515 : True := trivial
theorem PySem.W.Fast.tw13194551608385737850 : True := trivial
theorem PySem.W.Fast.tw13298897997194011932 : True := trivial
theorem PySem.W.Fast.tw1333638232273445011 : True := trivial
theorem PySem.W.Fast.tw13427255876788848196 : True := trivial
theorem PySem.W.Fast.tw13433891308877308507 : True := trivial
theorem PySem.W.Fast.tw1351844959349424617 : True := trivial
theorem PySem.W.Fast.tw13753323286096903256 : True := trivial
theorem PySem.W.Fast.tw13849298208211606937 : True := trivial
theorem PySem.W.Fast.tw13910809070537771738 : True := trivial
theorem PySem.W.Fast.tw14072555327499770450 : True := trivial
theorem PySem.W.Fast.tw14125604543605213133 : True := trivial
theorem PySem.W.Fast.tw14132920920930926069 : True := trivial
theorem PySem.W.Fast.tw14161026785318079697 : True := trivial
theorem PySem.W.Fast.tw14161221124770495172 : True := trivial
theorem PySem.W.Fast.tw14212972147672805838 : True := trivial
theorem PySem.W.Fast.tw14255161053435783765 : True := trivial
theorem PySem.W.Fast.tw14256464136987824673 : True := trivial
theorem PySem.W.Fast.tw14271235552678101035 : True := trivial
theorem PySem.W.Fast.tw14409936763505508396 : True := trivial
theorem PySem.W.Fast.tw14465340814186901938 : True := trivial
theorem PySem.W.Fast.tw14514011643287950701 : True := trivial
theorem PySem.W.Fast.tw14527277587997883090 : True := trivial
theorem PySem.W.Fast.tw1456408389799164157 : True := trivial
theorem PySem.W.Fast.tw14581425366883139637 : True := trivial
theorem PySem.W.Fast.tw14614430287646895107 : True := trivial
theorem PySem.W.Fast.tw14776253186461463957 : True := trivial
theorem PySem.W.Fast.tw14779480837561675622 : True := trivial
theorem PySem.W.Fast.tw14787233290176013641 : True := trivial
theorem PySem.W.Fast.tw14806375201431478360 : True := trivial
theorem PySem.W.Fast.tw14877362215269469881 : True := trivial
theorem PySem.W.Fast.tw14897574983246132798 : True := trivial
theorem PySem.W.Fast.tw14924249815351429936 : True := trivial
theorem PySem.W.Fast.tw14975666746251077014 : True := trivial
theorem PySem.W.Fast.tw15116846582563028009 : True := trivial
theorem PySem.W.Fast.tw15144816636250490495 : True := trivial
theorem PySem.W.Fast.tw15200199737386633990 : True := trivial
theorem PySem.W.Fast.tw15233988028351973473 : True := trivial
theorem PySem.W.Fast.tw1523916315661923187 : True := trivial
theorem PySem.W.Fast.tw15274348292461940968 : True := trivial
theorem PySem.W.Fast.tw15314681917156764595 : True := trivial
theorem PySem.W.Fast.tw15352549293034357136 : True := trivial
theorem PySem.W.Fast.tw15391860152424632418 : True := trivial
theorem PySem.W.Fast.tw15408997580692948956 : True := trivial
theorem PySem.W.Fast.tw15416340286531794890 : True := trivial
theorem PySem.W.Fast.tw15417122988696606745 : True := trivial
theorem PySem.W.Fast.tw15524065253528849438 : True := trivial
theorem PySem.W.Fast.tw15590773631937610388 : True := trivial
theorem PySem.W.Fast.tw15614744593547305002 : True := trivial
theorem PySem.W.Fast.tw15860780568014122321 : True := trivial
theorem PySem.W.Fast.tw15902127045797461890 : True := trivial
theorem PySem.W.Fast.tw15961890446421094977 : True := trivial
theorem PySem.W.Fast.tw15962485027620888184 : True := trivial
theorem PySem.W.Fast.tw15991678857754474303 : True := trivial
theorem PySem.W.Fast.tw16037859047868154008 : True := trivial
theorem PySem.W.Fast.tw16039762194188795869 : True := trivial
theorem PySem.W.Fast.tw16061904911153487650 : True := trivial
theorem PySem.W.Fast.tw16244735004213094122 : True := trivial
theorem PySem.W.Fast.tw16269243366747218198 : True := trivial
theorem PySem.W.Fast.tw16283773345083210827 : True := trivial
theorem PySem.W.Fast.tw16302211349885061227 : True := trivial
theorem PySem.W.Fast.tw16340263292329376684 : True := trivial
theorem PySem.W.Fast.tw16446516615633872197 : True := trivial
theorem PySem.W.Fast.tw16480699249693090350 : True := trivial
theorem PySem.W.Fast.tw16489101704043010117 : True := trivial
theorem PySem.W.Fast.tw16517896407991923145 : True := trivial
theorem PySem.W.Fast.tw1655591606475185678 : True := trivial
theorem PySem.W.Fast.tw16726177859367668787 : True := trivial
theorem PySem.W.Fast.tw16766758990930025842 : True := trivial
theorem PySem.W.Fast.tw16897060395271405451 : True := trivial
theorem PySem.W.Fast.tw16955148502041248157 : True := trivial
theorem PySem.W.Fast.tw17061100821837326832 : True := trivial
theorem PySem.W.Fast.tw17064482693083916434 : True := trivial
theorem PySem.W.Fast.tw17078865876122907319 : True := trivial
theorem PySem.W.Fast.tw17366317922595267003 : True := trivial
theorem PySem.W.Fast.tw17393913814284836583 : True := trivial
theorem PySem.W.Fast.tw17394439764645431121 : True := trivial
theorem PySem.W.Fast.tw17464331331353567150 : True := trivial
theorem PySem.W.Fast.tw1750596060393432862 : True := trivial
theorem PySem.W.Fast.tw17587868426495011630 : True := trivial
theorem PySem.W.Fast.tw17621145318895651074 : True := trivial
theorem PySem.W.Fast.tw17640535799701276975 : True := trivial
theorem PySem.W.Fast.tw17681114149047429172 : True := trivial
theorem PySem.W.Fast.tw17849886526355116853 : True := trivial
theorem PySem.W.Fast.tw18083716279956904897 : True := trivial
theorem PySem.W.Fast.tw18121657138504052944 : True := trivial
theorem PySem.W.Fast.tw1822622440187632629 : True := trivial
theorem PySem.W.Fast.tw18241879183042313369 : True := trivial
theorem PySem.W.Fast.tw18248784591415377553 : True := trivial
theorem PySem.W.Fast.tw18249256704169622398 : True := trivial
theorem PySem.W.Fast.tw18282614248348206605 : True := trivial
theorem PySem.W.Fast.tw18341002328761913797 : True := trivial
theorem PySem.W.Fast.tw18341043045213603047 : True := trivial
theorem PySem.W.Fast.tw18347970439259690043 : True := trivial
theorem PySem.W.Fast.tw1877030669401142809 : True := trivial
theorem PySem.W.Fast.tw1932434364082229406 : True := trivial
theorem PySem.W.Fast.tw1941955177559420061 : True := trivial
theorem PySem.W.Fast.tw1946356127407669320 : True := trivial
theorem PySem.W.Fast.tw2021449935373783967 : True := trivial
theorem PySem.W.Fast.tw208006135242231930 : True := trivial
theorem PySem.W.Fast.tw2134193036719972160 : True := trivial
theorem PySem.W.Fast.tw2224672222350261845 : True := trivial
theorem PySem.W.Fast.tw2264265040095067809 : True := trivial
theorem PySem.W.Fast.tw2264420424041273201 : True := trivial
theorem PySem.W.Fast.tw2284267719334773128 : True := trivial
theorem PySem.W.Fast.tw2322114584355298597 : True := trivial
theorem PySem.W.Fast.tw2403097613781756944 : True := trivial
theorem PySem.W.Fast.tw2416324786004988996 : True := trivial
theorem PySem.W.Fast.tw2430019048035112961 : True := trivial
theorem PySem.W.Fast.tw2456587590632807143 : True := trivial
theorem PySem.W.Fast.tw2513464811741239370 : True := trivial
theorem PySem.W.Fast.tw2735256869785992926 : True := trivial
theorem PySem.W.Fast.tw27369066243904158 : True := trivial
theorem PySem.W.Fast.tw2865033328510669022 : True := trivial
theorem PySem.W.Fast.tw2949594089698530213 : True := trivial
theorem PySem.W.Fast.tw2958186922937091620 : True := trivial
theorem PySem.W.Fast.tw3027522195390257375 : True := trivial
theorem PySem.W.Fast.tw319298338055729232 : True := trivial
theorem PySem.W.Fast.tw3322569832313225261 : True := trivial
theorem PySem.W.Fast.tw3336831248290536 : True := trivial
theorem PySem.W.Fast.tw3465505742583938903 : True := trivial
theorem PySem.W.Fast.tw3498652477721646137 : True := trivial
theorem PySem.W.Fast.tw352140499499505288 : True := trivial
theorem PySem.W.Fast.tw3525273463982909730 : True := trivial
theorem PySem.W.Fast.tw3596032671933630393 : True := trivial
theorem PySem.W.Fast.tw3596674698130637909 : True := trivial
theorem PySem.W.Fast.tw365632578990815556 : True := trivial
theorem PySem.W.Fast.tw3776091851830427473 : True := trivial
theorem PySem.W.Fast.tw3801098162840576725 : True := trivial
theorem PySem.W.Fast.tw3812222253257098676 : True := trivial
theorem PySem.W.Fast.tw3885824556211239422 : True := trivial
theorem PySem.W.Fast.tw3902360202276351102 : True := trivial
theorem PySem.W.Fast.tw3922660170714799952 : True := trivial
theorem PySem.W.Fast.tw4014053530008924776 : True := trivial
theorem PySem.W.Fast.tw403276281209746831 : True := trivial
theorem PySem.W.Fast.tw4046417885341597827 : True := trivial
theorem PySem.W.Fast.tw4073747016611042448 : True := trivial
theorem PySem.W.Fast.tw4089674705962803743 : True := trivial
theorem PySem.W.Fast.tw4111273908974450946 : True := trivial
theorem PySem.W.Fast.tw4144644831201614712 : True := trivial
theorem PySem.W.Fast.tw4250699927251288730 : True := trivial
theorem PySem.W.Fast.tw4274153148878521550 : True := trivial
theorem PySem.W.Fast.tw4292240465639635075 : True := trivial
theorem PySem.W.Fast.tw4388348764555734246 : True := trivial
theorem PySem.W.Fast.tw4485725131433388998 : True := trivial
theorem PySem.W.Fast.tw4512254489040115702 : True := trivial
theorem PySem.W.Fast.tw4643137238565456344 : True := trivial
theorem PySem.W.Fast.tw4693606831737146023 : True := trivial
theorem PySem.W.Fast.tw4776050842438179793 : True := trivial
theorem PySem.W.Fast.tw4864837121587857700 : True := trivial
theorem PySem.W.Fast.tw4933348124947846180 : True := trivial
theorem PySem.W.Fast.tw4942734118111543900 : True := trivial
theorem PySem.W.Fast.tw4949649656205719905 : True := trivial
theorem PySem.W.Fast.tw4965777935459027845 : True := trivial
theorem PySem.W.Fast.tw5061621830551036155 : True := trivial
theorem PySem.W.Fast.tw5155044557350102955 : True := trivial
theorem PySem.W.Fast.tw5161682828331074360 : True := trivial
theorem PySem.W.Fast.tw5183769737852756721 : True := trivial
theorem PySem.W.Fast.tw5194199900090287563 : True := trivial
theorem PySem.W.Fast.tw5247489868700561805 : True := trivial
theorem PySem.W.Fast.tw526705493297692152 : True := trivial
theorem PySem.W.Fast.tw5338342432872660650 : True := trivial
theorem PySem.W.Fast.tw5350466789957803521 : True := trivial
theorem PySem.W.Fast.tw5414309342567524400 : True := trivial
theorem PySem.W.Fast.tw5441048026973101891 : True := trivial
theorem PySem.W.Fast.tw5455569797668712324 : True := trivial
theorem PySem.W.Fast.tw5469446180282896116 : True := trivial
theorem PySem.W.Fast.tw5471387668537534243 : True := trivial
theorem PySem.W.Fast.tw5496689251863081289 : True := trivial
theorem PySem.W.Fast.tw5605291047940741275 : True := trivial
theorem PySem.W.Fast.tw5952598672408758726 : True := trivial
theorem PySem.W.Fast.tw6195756876991311602 : True := trivial
theorem PySem.W.Fast.tw6290547316219422119 : True := trivial
theorem PySem.W.Fast.tw6410312731316194745 : True := trivial
theorem PySem.W.Fast.tw6444260971987896616 : True := trivial
theorem PySem.W.Fast.tw650659811280414889 : True := trivial
theorem PySem.W.Fast.tw6553402112231450211 : True := trivial
theorem PySem.W.Fast.tw6624325247350979766 : True := trivial
theorem PySem.W.Fast.tw6728682897058185000 : True := trivial
theorem PySem.W.Fast.tw6788154480649099437 : True := trivial
theorem PySem.W.Fast.tw6800079432195441944 : True := trivial
theorem PySem.W.Fast.tw6822824982958980023 : True := trivial
theorem PySem.W.Fast.tw6831827481132026505 : True := trivial
theorem PySem.W.Fast.tw6835324656715785024 : True := trivial
theorem PySem.W.Fast.tw6860066587802476041 : True := trivial
theorem PySem.W.Fast.tw6877777446330754909 : True := trivial
theorem PySem.W.Fast.tw6999858730994799339 : True := trivial
theorem PySem.W.Fast.tw7039300026247041948 : True := trivial
theorem PySem.W.Fast.tw7047368105220947012 : True := trivial
theorem PySem.W.Fast.tw7055609125056833412 : True := trivial
theorem PySem.W.Fast.tw7093260459305968618 : True := trivial
theorem PySem.W.Fast.tw7125429020845117321 : True := trivial
theorem PySem.W.Fast.tw7178831754184738983 : True := trivial
theorem PySem.W.Fast.tw7193639398426357795 : True := trivial
theorem PySem.W.Fast.tw7201572498712977315 : True := trivial
theorem PySem.W.Fast.tw7242176713640951899 : True := trivial
theorem PySem.W.Fast.tw7284784880291043408 : True := trivial
theorem PySem.W.Fast.tw7398885853691134060 : True := trivial
theorem PySem.W.Fast.tw7526783432021972314 : True := trivial
theorem PySem.W.Fast.tw7742552269707272197 : True := trivial
theorem PySem.W.Fast.tw7777175211096232242 : True := trivial
theorem PySem.W.Fast.tw7850404507187629918 : True := trivial
theorem PySem.W.Fast.tw7901855425705585685 : True := trivial
theorem PySem.W.Fast.tw8081419410799536340 : True := trivial
theorem PySem.W.Fast.tw8203589384259150048 : True := trivial
theorem PySem.W.Fast.tw8229043784136616273 : True := trivial
theorem PySem.W.Fast.tw8232312175676477938 : True := trivial
theorem PySem.W.Fast.tw8253978571045532883 : True := trivial
theorem PySem.W.Fast.tw8268529486150514864 : True := trivial
theorem PySem.W.Fast.tw8297436276261671538 : True := trivial
theorem PySem.W.Fast.tw8348869927298349768 : True := trivial
theorem PySem.W.Fast.tw8382608269036788682 : True := trivial
theorem PySem.W.Fast.tw8421430583372894793 : True := trivial
theorem PySem.W.Fast.tw8432839334675225350 : True := trivial
theorem PySem.W.Fast.tw8439668010395584580 : True := trivial
theorem PySem.W.Fast.tw8508141052947580129 : True := trivial
theorem PySem.W.Fast.tw8630229056362779014 : True := trivial
theorem PySem.W.Fast.tw8750126349711086900 : True := trivial
theorem PySem.W.Fast.tw8938612287601469695 : True := trivial
theorem PySem.W.Fast.tw8966895420610380235 : True := trivial
theorem PySem.W.Fast.tw9042201069459714873 : True := trivial
theorem PySem.W.Fast.tw9064669926447301282 : True := trivial
theorem PySem.W.Fast.tw915124187094897224 : True := trivial
theorem PySem.W.Fast.tw9170719430452400390 : True := trivial
theorem PySem.W.Fast.tw9216434120530558760 : True := trivial
theorem PySem.W.Fast.tw9219119675507585056 : True := trivial
theorem PySem.W.Fast.tw9341798362788531473 : True := trivial
theorem PySem.W.Fast.tw9344123672337623815 : True := trivial
theorem PySem.W.Fast.tw9379853147051986398 : True := trivial
theorem PySem.W.Fast.tw9434397489401873163 : True := trivial
theorem PySem.W.Fast.tw9507068141295612149 : True := trivial
theorem PySem.W.Fast.tw9602155388127209421 : True := trivial
theorem PySem.W.Fast.tw9688934095397915539 : True := trivial
theorem PySem.W.Fast.tw9742399677660881296 : True := trivial
theorem PySem.W.Fast.tw9774078381055499803 : True := trivial
theorem PySem.W.Fast.tw9816224345066850590 : True := trivial
theorem PySem.W.Fast.tw9983673624241363205 : True := trivial
theorem PySem.W.Fast.tw9989643148041764514 : True := trivial
open PySem PySem.W PyProof.Rows
set_option maxRecDepth 100000 in
set_option maxHeartbeats 0 in
theorem PySem.Challenge.cw_turnline_k75_whole_runs_by_texts_holds : PySem.Challenge.rw_turnline_k75_whole_runs_by_texts.Holds := by
  w_on; o_law; k_head; (case hw => w_witness2)
  k_fill
  refine K75.walk (l := PySem.Challenge.rw_turnline_k75_whole_runs_by_texts) rfl rfl (fun w h Y => PySem.W.kIn_of Y) ?F
  case F =>
    intro w mg fa h KX G hmg
    refine' K75.all_mk KX G hmg ?a1 ?l1 ?c1 ?k1 ?a2 ?l2 ?c2 ?k2 ?a3 ?l3 ?c3 ?k3 ?a4 ?l4 ?c4 ?k4 ?a5 ?l5 ?c5 ?k5 ?a6 ?l6 ?c6 ?k6 ?a7 ?l7 ?c7 ?k7 ?a8 ?l8 ?c8 ?k8 ?a9 ?l9 ?c9 ?k9 ?a10 ?l10 ?c10 ?k10 ?a11 ?l11 ?c11 ?k11 ?a12 ?l12 ?c12 ?k12 ?a13 ?l13 ?c13 ?k13 ?a14 ?l14 ?c14 ?k14 ?a15 ?l15 ?c15 ?k15 ?a16 ?l16 ?c16 ?k16 ?a17 ?l17 ?c17 ?k17 ?a18 ?l18 ?c18 ?k18 ?a19 ?l19 ?c19 ?k19 ?a20 ?l20 ?c20 ?k20 ?a21 ?l21 ?c21 ?k21 ?a22 ?l22 ?c22 ?k22 ?a23 ?l23 ?c23 ?k23 ?a24 ?l24 ?c24 ?k24 ?a25 ?l25 ?c25 ?k25 ?a26 ?l26 ?c26 ?k26 ?a27 ?l27 ?c27 ?k27 ?a28 ?l28 ?c28 ?k28 ?a29 ?l29 ?c29 ?k29 ?a30 ?l30 ?c30 ?k30 ?a31 ?l31 ?c31 ?k31 ?a32 ?l32 ?c32 ?k32 ?a33 ?l33 ?c33 ?k33 ?a34 ?l34 ?c34 ?k34 ?a35 ?l35 ?c35 ?k35 ?a36 ?l36 ?c36 ?k36 ?a37 ?l37 ?c37 ?k37 ?a38 ?l38 ?c38 ?k38 ?a39 ?l39 ?c39 ?k39 ?a40 ?l40 ?c40 ?k40 ?z1 ?z2 ?z3 ?z4 ?z5 ?z6 ?z7 ?z8 ?z9 ?z10 ?z11 ?z12 ?z13 ?z14 ?z15 ?z16 ?z17 ?z18 ?z19 ?xo0 ?xo1 ?xo2 ?xo3 ?ck0 ?ck1 ?ck2 ?ck3
    (case a1 => k_is); (case l1 => k_is); (case c1 => k_is); (case k1 => k_is)
    (case a2 => k_is); (case l2 => k_is); (case c2 => k_is); (case k2 => k_is)
    (case a3 => k_is); (case l3 => k_is); (case c3 => k_is); (case k3 => k_is)
    (case a4 => k_is); (case l4 => k_is); (case c4 => k_is); (case k4 => k_is)
    (case a5 => k_is); (case l5 => k_is); (case c5 => k_is); (case k5 => k_is)
    (case a6 => k_is); (case l6 => k_is); (case c6 => k_is); (case k6 => k_is)
    (case a7 => k_is); (case l7 => k_is); (case c7 => k_is); (case k7 => k_is)
    (case a8 => k_is); (case l8 => k_is); (case c8 => k_is); (case k8 => k_is)
    (case a9 => k_is); (case l9 => k_is); (case c9 => k_is); (case k9 => k_is)
    (case a10 => k_is); (case l10 => k_is); (case c10 => k_is); (case k10 => k_is)
    (case a11 => k_is); (case l11 => k_is); (case c11 => k_is); (case k11 => k_is)
    (case a12 => k_is); (case l12 => k_is); (case c12 => k_is); (case k12 => k_is)
    (case a13 => k_is); (case l13 => k_is); (case c13 => k_is); (case k13 => k_is)
    (case a14 => k_is); (case l14 => k_is); (case c14 => k_is); (case k14 => k_is)
    (case a15 => k_is); (case l15 => k_is); (case c15 => k_is); (case k15 => k_is)
    (case a16 => k_is); (case l16 => k_is); (case c16 => k_is); (case k16 => k_is)
    (case a17 => k_is); (case l17 => k_is); (case c17 => k_is); (case k17 => k_is)
    (case a18 => k_is); (case l18 => k_is); (case c18 => k_is); (case k18 => k_is)
    (case a19 => k_is); (case l19 => k_is); (case c19 => k_is); (case k19 => k_is)
    (case a20 => k_is); (case l20 => k_is); (case c20 => k_is); (case k20 => k_is)
    (case a21 => k_is); (case l21 => k_is); (case c21 => k_is); (case k21 => k_is)
    (case a22 => k_is); (case l22 => k_is); (case c22 => k_is); (case k22 => k_is)
    (case a23 => k_is); (case l23 => k_is); (case c23 => k_is); (case k23 => k_is)
    (case a24 => k_is); (case l24 => k_is); (case c24 => k_is); (case k24 => k_is)
    (case a25 => k_is); (case l25 => k_is); (case c25 => k_is); (case k25 => k_is)
    (case a26 => k_is); (case l26 => k_is); (case c26 => k_is); (case k26 => k_is)
    (case a27 => k_is); (case l27 => k_is); (case c27 => k_is); (case k27 => k_is)
    (case a28 => k_is); (case l28 => k_is); (case c28 => k_is); (case k28 => k_is)
    (case a29 => k_is); (case l29 => k_is); (case c29 => k_is); (case k29 => k_is)
    (case a30 => k_is); (case l30 => k_is); (case c30 => k_is); (case k30 => k_is)
    (case a31 => k_is); (case l31 => k_is); (case c31 => k_is); (case k31 => k_is)
    (case a32 => k_is); (case l32 => k_is); (case c32 => k_is); (case k32 => k_is)
    (case a33 => k_is); (case l33 => k_is); (case c33 => k_is); (case k33 => k_is)
    (case a34 => k_is); (case l34 => k_is); (case c34 => k_is); (case k34 => k_is)
    (case a35 => k_is); (case l35 => k_is); (case c35 => k_is); (case k35 => k_is)
    (case a36 => k_is); (case l36 => k_is); (case c36 => k_is); (case k36 => k_is)
    (case a37 => k_is); (case l37 => k_is); (case c37 => k_is); (case k37 => k_is)
    (case a38 => k_is); (case l38 => k_is); (case c38 => k_is); (case k38 => k_is)
    (case a39 => k_is); (case l39 => k_is); (case c39 => k_is); (case k39 => k_is)
    (case a40 => k_is); (case l40 => k_is); (case c40 => k_is); (case k40 => k_is)
    (case z1 => k_is)
    (case z2 => k_is)
    (case z3 => k_is)
    (case z4 => k_is)
    (case z5 => k_is)
    (case z6 => k_is)
    (case z7 => k_is)
    (case z8 => k_is)
    (case z9 => k_is)
    (case z10 => k_is)
    (case z11 => k_is)
    (case z12 => k_is)
    (case z13 => k_is)
    (case z14 => k_is)
    (case z15 => k_is)
    (case z16 => k_is)
    (case z17 => k_is)
    (case z18 => k_is)
    (case z19 => k_is)
    (case xo0 => refine' ⟨?u1, ?u2, ?u3, ?u4, ?u5, ?u6, ?u7, ?u8, ?u9⟩; (case u1 => k_is); (case u2 => k_exc); (case u3 => k_is); (case u4 => k_is); (case u5 => k_is); (case u6 => k_is); (case u7 => k_is); (case u8 => k_is); (case u9 => k_is))
    (case xo1 => refine' ⟨?u1, ?u2, ?u3, ?u4, ?u5, ?u6, ?u7, ?u8, ?u9⟩; (case u1 => k_is); (case u2 => k_exc); (case u3 => k_is); (case u4 => k_is); (case u5 => k_is); (case u6 => k_is); (case u7 => k_is); (case u8 => k_is); (case u9 => k_is))
    (case xo2 => refine' ⟨?u1, ?u2, ?u3, ?u4, ?u5, ?u6, ?u7, ?u8, ?u9⟩; (case u1 => k_is); (case u2 => k_exc); (case u3 => k_is); (case u4 => k_is); (case u5 => k_is); (case u6 => k_is); (case u7 => k_is); (case u8 => k_is); (case u9 => k_is))
    (case xo3 => refine' ⟨?u1, ?u2, ?u3, ?u4, ?u5, ?u6, ?u7, ?u8, ?u9⟩; (case u1 => k_is); (case u2 => k_exc); (case u3 => k_is); (case u4 => k_is); (case u5 => k_is); (case u6 => k_is); (case u7 => k_is); (case u8 => k_is); (case u9 => k_is))
    (case ck0 => k_is)
    (case ck1 => k_is)
    (case ck2 => k_is)
    (case ck3 => k_is)
